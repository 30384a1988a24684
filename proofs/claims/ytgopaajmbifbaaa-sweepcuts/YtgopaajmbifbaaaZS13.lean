import Derived.Test.YtgopaajmbifbaaaZS11
namespace Go.Proofs.Ytgopaajmbifbaaa
open Go.RowKit
set_option linter.unusedVariables false
set_option linter.unusedSimpArgs false
set_option maxRecDepth 100000
theorem sg2_run (ax ay bx by1 l r ax' ay' bx' by1' l' r' : Int) (w : World) : (Instr.buildSlice 22 2 [(0, .agg #[.int .i64 ax, .int .i64 ay, .int .i64 bx, .int .i64 by1, .int .i64 l, .int .i64 r]), (1, .agg #[.int .i64 ax', .int .i64 ay', .int .i64 bx', .int .i64 by1', .int .i64 l', .int .i64 r'])].toArray).run Try.prog w = .ok (.slice (some ⟨w.heap.size, 0, none⟩) 2 2) (w.alloc (.cells #[.int .i64 ax, .int .i64 ay, .int .i64 bx, .int .i64 by1, .int .i64 l, .int .i64 r, .int .i64 ax', .int .i64 ay', .int .i64 bx', .int .i64 by1', .int .i64 l', .int .i64 r'] 27)) := by
  obtain ⟨ie, h1, h2⟩ := Option.map_eq_some_iff.1 sg_info
  have hz := congrArg (·.1) h2
  have hs : ie.size = 6 := congrArg (·.2.1) h2
  refine run_buildSlice w 22 27 2 _ _ ie _ Try.underlying22 h1 hz (by rw [hs]; decide) (by rw [hs]; decide) ?_
  rw [hs]; kernel_rfl
theorem wnd1_up (ax ay bx by1 l r st x y : Int) (hr : rgtS ⟨ax, ay, bx, by1, l, r⟩ = true) (h : ay ≤ by1) :
    wnd1 ⟨ax, ay, bx, by1, l, r⟩ st x y = if ay < y ∧ y < by1 ∧ (y - ay) * (bx - ax) ≤ (x - ax) * (by1 - ay) then (if l = st then 1 else 0) + (if r = st then -1 else 0) else 0 := by
  have hd : dnS ⟨ax, ay, bx, by1, l, r⟩ = ⟨ax, ay, bx, by1, l, r⟩ := by unfold dnS; rw [if_neg (by simp only; omega)]
  have hcl : (crsS ⟨ax, ay, bx, by1, l, r⟩ y && lftS ⟨ax, ay, bx, by1, l, r⟩ x y) = decide (ay < y ∧ y < by1 ∧ (y - ay) * (bx - ax) ≤ (x - ax) * (by1 - ay)) := by
    rw [Bool.eq_iff_iff]
    simp only [crsS, lftS, Bool.and_eq_true, decide_eq_true_eq]
    constructor
    · intro ⟨⟨h1, h2⟩, h3⟩; exact ⟨h1, h2, h3⟩
    · intro ⟨h1, h2, h3⟩; exact ⟨⟨h1, h2⟩, h3⟩
  rw [wnd1, if_pos hr, hd, wndS, hcl]
  by_cases hc : ay < y ∧ y < by1 ∧ (y - ay) * (bx - ax) ≤ (x - ax) * (by1 - ay)
  · rw [decide_eq_true hc, if_pos rfl, if_pos hc]
    rfl
  · rw [decide_eq_false hc, if_neg (show ¬ (false = true) by decide), if_neg hc]
theorem rgt_cut {ax ay bx by1 mx my l r : Int} (hr : rgtS ⟨ax, ay, bx, by1, l, r⟩ = true) (hx : 2 * mx = ax + bx) (hy : 2 * my = ay + by1) (ex : mx % 2 = 0) (ey : my % 2 = 0) :
    rgtS ⟨ax, ay, mx, my, l, r⟩ = true ∧ rgtS ⟨mx, my, bx, by1, l, r⟩ = true := by
  have hb := rgtS_bd hr
  simp only at hb
  have e1 := evP_of (evB_of (x := mx) (by omega) (by omega) ex) (evB_of (x := my) (by omega) (by omega) ey)
  have e2 := evP_of (evB_of (x := ax) (by omega) (by omega) (by omega)) (evB_of (x := ay) (by omega) (by omega) (by omega))
  have e3 := evP_of (evB_of (x := bx) (by omega) (by omega) (by omega)) (evB_of (x := by1) (by omega) (by omega) (by omega))
  have e4 : styB l = true := by simp [styB]; omega
  have e5 : styB r = true := by simp [styB]; omega
  simp only [rgtS, e1, e2, e3, e4, e5]
  exact ⟨rfl, rfl⟩
theorem cut_up (ax ay bx by1 mx my l r st x y : Int) (hr : rgtS ⟨ax, ay, bx, by1, l, r⟩ = true) (h : ay < by1) (hx : 2 * mx = ax + bx) (hy : 2 * my = ay + by1) (ex : mx % 2 = 0) (ey : my % 2 = 0) (oy : y % 2 ≠ 0) :
    wnd1 ⟨ax, ay, bx, by1, l, r⟩ st x y = wnd1 ⟨ax, ay, mx, my, l, r⟩ st x y + wnd1 ⟨mx, my, bx, by1, l, r⟩ st x y := by
  obtain ⟨r1, r2⟩ := rgt_cut hr hx hy ex ey
  rw [wnd1_up _ _ _ _ _ _ _ _ _ hr (by omega), wnd1_up _ _ _ _ _ _ _ _ _ r1 (by omega), wnd1_up _ _ _ _ _ _ _ _ _ r2 (by omega)]
  generalize (if l = st then (1 : Int) else 0) + (if r = st then (-1 : Int) else 0) = V
  obtain ⟨D, hD⟩ : ∃ D, D = mx - ax := ⟨_, rfl⟩
  obtain ⟨E, hE⟩ : ∃ E, E = my - ay := ⟨_, rfl⟩
  have e1 : (y - ay) * (bx - ax) = 2 * ((y - ay) * D) := by
    rw [show bx - ax = 2 * D by omega, Int.mul_left_comm]
  have e2 : (x - ax) * (by1 - ay) = 2 * ((x - ax) * E) := by
    rw [show by1 - ay = 2 * E by omega, Int.mul_left_comm]
  have e3 : (y - my) * (bx - mx) = (y - ay) * D - E * D := by
    rw [show bx - mx = D by omega, show y - my = (y - ay) - E by omega, Int.sub_mul]
  have e4 : (x - mx) * (by1 - my) = (x - ax) * E - E * D := by
    rw [show by1 - my = E by omega, show x - mx = (x - ax) - D by omega, Int.sub_mul, Int.mul_comm D E]
  rw [e1, e2, e3, e4, ← hD, ← hE]
  generalize (y - ay) * D = A
  generalize (x - ax) * E = B
  generalize E * D = C
  have hne : y ≠ my := fun e => by omega
  repeat' split
  all_goals omega
theorem cut_wnd (ax ay bx by1 mx my l r st x y : Int) (hr : rgtS ⟨ax, ay, bx, by1, l, r⟩ = true) (hx : 2 * mx = ax + bx) (hy : 2 * my = ay + by1) (ex : mx % 2 = 0) (ey : my % 2 = 0) :
    wv [⟨ax, ay, bx, by1, l, r⟩] x y st = wv [⟨ax, ay, mx, my, l, r⟩, ⟨mx, my, bx, by1, l, r⟩] x y st := by
  unfold wv
  by_cases hq : (smpB x && smpB y) = true
  · rw [if_pos hq, if_pos hq]
    have oy := (smpB_bd (by simp only [Bool.and_eq_true] at hq; exact hq.2 : smpB y = true)).2.2
    simp only [wnd]
    rcases (show ay < by1 ∨ by1 < ay ∨ by1 = ay by omega) with h | h | h
    · rw [cut_up ax ay bx by1 mx my l r st x y hr h hx hy ex ey oy]
      omega
    · have t0 := wnd1_trn ⟨ax, ay, bx, by1, l, r⟩ st x y
      have t1 := wnd1_trn ⟨ax, ay, mx, my, l, r⟩ st x y
      have t2 := wnd1_trn ⟨mx, my, bx, by1, l, r⟩ st x y
      have hr2 := rgtS_trn ⟨ax, ay, bx, by1, l, r⟩
      simp only [trnS] at t0 t1 t2 hr2
      rw [hr] at hr2
      have g := cut_up bx by1 ax ay mx my r l st x y hr2 h (by omega) (by omega) ex ey oy
      omega
    · have hm : my = ay := by omega
      subst h
      subst hm
      have f : ∀ x0 x1 : Int, wnd1 ⟨x0, my, x1, my, l, r⟩ st x y = 0 := fun x0 x1 => by
        have hd : dnS ⟨x0, my, x1, my, l, r⟩ = ⟨x0, my, x1, my, l, r⟩ := by unfold dnS; rw [if_neg (by simp only; omega)]
        rw [wnd1, hd, wndS, crs_flat (by simp only; omega)]
        simp
      rw [f, f, f]
      rfl
  · rw [if_neg hq, if_neg hq]
theorem tdiv2_bd (x : Int) (h : -9223372036854775808 ≤ x ∧ x ≤ 9223372036854775807) : -9223372036854775808 ≤ x.tdiv 2 ∧ x.tdiv 2 ≤ 9223372036854775807 := by
  rcases (show 0 ≤ x ∨ x < 0 by omega) with h1 | h1
  · rw [Int.tdiv_eq_ediv_of_nonneg h1]; omega
  · have h2 := Int.neg_tdiv (-x) 2
    rw [Int.neg_neg, Int.tdiv_eq_ediv_of_nonneg (show 0 ≤ -x by omega)] at h2
    omega
set_option maxHeartbeats 4000000 in
theorem cuts17_A (ax ay bx by1 l r st x y sx sy mx my rx ry : Int) (w : World) (hx : wrap64 (ax + bx) = sx) (hy : wrap64 (ay + by1) = sy) (dx : sx.tdiv 2 = mx) (dy : sy.tdiv 2 = my) (tx : mx.tmod 2 = rx) (ty : my.tmod 2 = ry) (hmx : (-9223372036854775808 ≤ mx ∧ mx ≤ 9223372036854775807)) (hmy : (-9223372036854775808 ≤ my ∧ my ≤ 9223372036854775807)) (HR : Hid (∀ (b : Nat) (W : World), Blk W b #[.int .i64 ax, .int .i64 ay, .int .i64 bx, .int .i64 by1, .int .i64 l, .int .i64 r] 27 → Calls Try.prog 19 #[.slice (some ⟨b, 0, none⟩) 1 1] W fun e w' => e = .returned (.bool false) ∧ Below W.heap.size W w')) :
    Calls Try.prog 8 #[.agg #[.int .i64 ax, .int .i64 ay, .int .i64 bx, .int .i64 by1, .int .i64 l, .int .i64 r], .int .i64 st, .int .i64 x, .int .i64 y] w fun e w' => e = .returned (.bool true) ∧ Below w.heap.size w w' := by
  obtain ⟨hmx0, hmx1⟩ := hmx
  obtain ⟨hmy0, hmy1⟩ := hmy
  go_enter Try.func8, Try.ntmps8
  go_wp2_with (first
    | (refine wl_box 27 _ _ rfl rfl (show _ = Value.agg #[.int .i64 ax, .int .i64 ay, .int .i64 bx, .int .i64 by1, .int .i64 l, .int .i64 r] from rfl) ?_; intro W1 bs Bs_1 l1 k1; have gs : w.heap.size ≤ bs := l1; have Hw1 := k1; clear l1 k1; have cs_0_1 : W1.cell? ⟨bs, 0, none⟩ = some (.int .i64 ax) := Bs_1.cell 0; have cs_1_1 : W1.cell? ⟨bs, 1, none⟩ = some (.int .i64 ay) := Bs_1.cell 1; have cs_2_1 : W1.cell? ⟨bs, 2, none⟩ = some (.int .i64 bx) := Bs_1.cell 2; have cs_3_1 : W1.cell? ⟨bs, 3, none⟩ = some (.int .i64 by1) := Bs_1.cell 3; have cs_4_1 : W1.cell? ⟨bs, 4, none⟩ = some (.int .i64 l) := Bs_1.cell 4; have cs_5_1 : W1.cell? ⟨bs, 5, none⟩ = some (.int .i64 r) := Bs_1.cell 5)
    | (refine wl_alloc 25 _ zePt rfl rfl ?_; intro W2 bm Bm_2 l2 k2; have gm : w.heap.size ≤ bm := Nat.le_trans Hw1.size l2; have nsm : bs ≠ bm := Nat.ne_of_lt (Nat.lt_of_lt_of_le Bs_1.lt l2); have Bs_2 := Bs_1.keep k2; have Hw2 := bq_trans Hw1 k2; clear l2 k2 Bs_1 cs_0_1 cs_1_1 cs_2_1 cs_3_1 cs_4_1 cs_5_1 Hw1)
    | (refine wl_store 25 2 szPt _ _ rfl rfl _ rfl #[.int .i64 mx, .int .i64 my] rfl _ _ Bm_2 rfl rfl (by kernel_rfl) ?_; intro W3 Bm_3 T3; have Bs_3 := T3.blk Bs_2 nsm; have Hw3 := T3.below Hw2 gm; clear T3 Bs_2 Bm_2 Hw2)
    | (refine wl_load 27 6 _ Try.underlying27 rfl szSg _ rfl rfl _ rfl _ _ Bs_3 rfl ?_)
    | (refine wlg_slice 22 27 1 #[.int .i64 ax, .int .i64 ay, .int .i64 bx, .int .i64 by1, .int .i64 l, .int .i64 r] [(0, .agg #[.int .i64 ax, .int .i64 ay, .int .i64 bx, .int .i64 by1, .int .i64 l, .int .i64 r])] (sg1_run ax ay bx by1 l r) _ rfl rfl rfl ?_; intro W4 bn Bn_4 l4 k4; have gn : w.heap.size ≤ bn := Nat.le_trans Hw3.size l4; have nsn : bs ≠ bn := Nat.ne_of_lt (Nat.lt_of_lt_of_le Bs_3.lt l4); have nmn : bm ≠ bn := Nat.ne_of_lt (Nat.lt_of_lt_of_le Bm_3.lt l4); have Bs_4 := Bs_3.keep k4; have Bm_4 := Bm_3.keep k4; have Hw4 := bq_trans Hw3 k4; clear l4 k4 Bs_3 Bm_3 Hw3))
  (go_at_call 19; (with_reducible refine (HR.out bn _ Bn_4).mono ?_); rintro e W5 ⟨rfl, k5⟩; have Bs_5 := Bs_4.keep k5; have Bm_5 := Bm_4.keep k5; have Bn_5 := Bn_4.keep k5; have Hw5 := bq_trans Hw4 k5; clear k5 Bs_4 Bm_4 Bn_4 Hw4; have cs_0_5 : W5.cell? ⟨bs, 0, none⟩ = some (.int .i64 ax) := Bs_5.cell 0; have cs_1_5 : W5.cell? ⟨bs, 1, none⟩ = some (.int .i64 ay) := Bs_5.cell 1; have cs_2_5 : W5.cell? ⟨bs, 2, none⟩ = some (.int .i64 bx) := Bs_5.cell 2; have cs_3_5 : W5.cell? ⟨bs, 3, none⟩ = some (.int .i64 by1) := Bs_5.cell 3; have cs_4_5 : W5.cell? ⟨bs, 4, none⟩ = some (.int .i64 l) := Bs_5.cell 4; have cs_5_5 : W5.cell? ⟨bs, 5, none⟩ = some (.int .i64 r) := Bs_5.cell 5; have cm_0_5 : W5.cell? ⟨bm, 0, none⟩ = some (.int .i64 mx) := Bm_5.cell 0; have cm_1_5 : W5.cell? ⟨bm, 1, none⟩ = some (.int .i64 my) := Bm_5.cell 1)
  go_wp2_with (first
    | (go_at_call 11; (with_reducible refine (awake17_any _).mono ?_); rintro e W6 ⟨rfl, k6⟩; have Bs_6 := Bs_5.keep k6; have Bm_6 := Bm_5.keep k6; have Bn_6 := Bn_5.keep k6; have Hw6 := bq_trans Hw5 k6; clear k6 Bs_5 Bm_5 Bn_5 cs_0_5 cs_1_5 cs_2_5 cs_3_5 cs_4_5 cs_5_5 cm_0_5 cm_1_5 Hw5))
  go_ret
  exact ⟨rfl, Hw6⟩
set_option maxHeartbeats 4000000 in
theorem cuts17_B (ax ay bx by1 l r st x y sx sy mx my rx ry : Int) (w : World) (hx : wrap64 (ax + bx) = sx) (hy : wrap64 (ay + by1) = sy) (dx : sx.tdiv 2 = mx) (dy : sy.tdiv 2 = my) (tx : mx.tmod 2 = rx) (ty : my.tmod 2 = ry) (hmx : (-9223372036854775808 ≤ mx ∧ mx ≤ 9223372036854775807)) (hmy : (-9223372036854775808 ≤ my ∧ my ≤ 9223372036854775807)) (c0 : -33554432 ≤ mx) (c1 : mx ≤ 33554432) (c2 : -33554432 ≤ my) (c3 : my ≤ 33554432) (e0 : (2 * mx != sx) = true) (HR : Hid (∀ (b : Nat) (W : World), Blk W b #[.int .i64 ax, .int .i64 ay, .int .i64 bx, .int .i64 by1, .int .i64 l, .int .i64 r] 27 → Calls Try.prog 19 #[.slice (some ⟨b, 0, none⟩) 1 1] W fun e w' => e = .returned (.bool true) ∧ Below W.heap.size W w')) :
    Calls Try.prog 8 #[.agg #[.int .i64 ax, .int .i64 ay, .int .i64 bx, .int .i64 by1, .int .i64 l, .int .i64 r], .int .i64 st, .int .i64 x, .int .i64 y] w fun e w' => e = .returned (.bool true) ∧ Below w.heap.size w w' := by
  obtain ⟨hmx0, hmx1⟩ := hmx
  obtain ⟨hmy0, hmy1⟩ := hmy
  go_enter Try.func8, Try.ntmps8
  go_wp2_with (first
    | (refine wl_box 27 _ _ rfl rfl (show _ = Value.agg #[.int .i64 ax, .int .i64 ay, .int .i64 bx, .int .i64 by1, .int .i64 l, .int .i64 r] from rfl) ?_; intro W1 bs Bs_1 l1 k1; have gs : w.heap.size ≤ bs := l1; have Hw1 := k1; clear l1 k1; have cs_0_1 : W1.cell? ⟨bs, 0, none⟩ = some (.int .i64 ax) := Bs_1.cell 0; have cs_1_1 : W1.cell? ⟨bs, 1, none⟩ = some (.int .i64 ay) := Bs_1.cell 1; have cs_2_1 : W1.cell? ⟨bs, 2, none⟩ = some (.int .i64 bx) := Bs_1.cell 2; have cs_3_1 : W1.cell? ⟨bs, 3, none⟩ = some (.int .i64 by1) := Bs_1.cell 3; have cs_4_1 : W1.cell? ⟨bs, 4, none⟩ = some (.int .i64 l) := Bs_1.cell 4; have cs_5_1 : W1.cell? ⟨bs, 5, none⟩ = some (.int .i64 r) := Bs_1.cell 5)
    | (refine wl_alloc 25 _ zePt rfl rfl ?_; intro W2 bm Bm_2 l2 k2; have gm : w.heap.size ≤ bm := Nat.le_trans Hw1.size l2; have nsm : bs ≠ bm := Nat.ne_of_lt (Nat.lt_of_lt_of_le Bs_1.lt l2); have Bs_2 := Bs_1.keep k2; have Hw2 := bq_trans Hw1 k2; clear l2 k2 Bs_1 cs_0_1 cs_1_1 cs_2_1 cs_3_1 cs_4_1 cs_5_1 Hw1)
    | (refine wl_store 25 2 szPt _ _ rfl rfl _ rfl #[.int .i64 mx, .int .i64 my] rfl _ _ Bm_2 rfl rfl (by kernel_rfl) ?_; intro W3 Bm_3 T3; have Bs_3 := T3.blk Bs_2 nsm; have Hw3 := T3.below Hw2 gm; clear T3 Bs_2 Bm_2 Hw2)
    | (refine wl_load 27 6 _ Try.underlying27 rfl szSg _ rfl rfl _ rfl _ _ Bs_3 rfl ?_)
    | (refine wlg_slice 22 27 1 #[.int .i64 ax, .int .i64 ay, .int .i64 bx, .int .i64 by1, .int .i64 l, .int .i64 r] [(0, .agg #[.int .i64 ax, .int .i64 ay, .int .i64 bx, .int .i64 by1, .int .i64 l, .int .i64 r])] (sg1_run ax ay bx by1 l r) _ rfl rfl rfl ?_; intro W4 bn Bn_4 l4 k4; have gn : w.heap.size ≤ bn := Nat.le_trans Hw3.size l4; have nsn : bs ≠ bn := Nat.ne_of_lt (Nat.lt_of_lt_of_le Bs_3.lt l4); have nmn : bm ≠ bn := Nat.ne_of_lt (Nat.lt_of_lt_of_le Bm_3.lt l4); have Bs_4 := Bs_3.keep k4; have Bm_4 := Bm_3.keep k4; have Hw4 := bq_trans Hw3 k4; clear l4 k4 Bs_3 Bm_3 Hw3))
  (go_at_call 19; (with_reducible refine (HR.out bn _ Bn_4).mono ?_); rintro e W5 ⟨rfl, k5⟩; have Bs_5 := Bs_4.keep k5; have Bm_5 := Bm_4.keep k5; have Bn_5 := Bn_4.keep k5; have Hw5 := bq_trans Hw4 k5; clear k5 Bs_4 Bm_4 Bn_4 Hw4; have cs_0_5 : W5.cell? ⟨bs, 0, none⟩ = some (.int .i64 ax) := Bs_5.cell 0; have cs_1_5 : W5.cell? ⟨bs, 1, none⟩ = some (.int .i64 ay) := Bs_5.cell 1; have cs_2_5 : W5.cell? ⟨bs, 2, none⟩ = some (.int .i64 bx) := Bs_5.cell 2; have cs_3_5 : W5.cell? ⟨bs, 3, none⟩ = some (.int .i64 by1) := Bs_5.cell 3; have cs_4_5 : W5.cell? ⟨bs, 4, none⟩ = some (.int .i64 l) := Bs_5.cell 4; have cs_5_5 : W5.cell? ⟨bs, 5, none⟩ = some (.int .i64 r) := Bs_5.cell 5; have cm_0_5 : W5.cell? ⟨bm, 0, none⟩ = some (.int .i64 mx) := Bm_5.cell 0; have cm_1_5 : W5.cell? ⟨bm, 1, none⟩ = some (.int .i64 my) := Bm_5.cell 1)
  go_wp2_with (first
    | (go_at_call 11; (with_reducible refine (awake17_any _).mono ?_); rintro e W6 ⟨rfl, k6⟩; have Bs_6 := Bs_5.keep k6; have Bm_6 := Bm_5.keep k6; have Bn_6 := Bn_5.keep k6; have Hw6 := bq_trans Hw5 k6; clear k6 Bs_5 Bm_5 Bn_5 cs_0_5 cs_1_5 cs_2_5 cs_3_5 cs_4_5 cs_5_5 cm_0_5 cm_1_5 Hw5))
  go_ret
  exact ⟨rfl, Hw6⟩
set_option maxHeartbeats 4000000 in
theorem cuts17_C (ax ay bx by1 l r st x y sx sy mx my rx ry : Int) (w : World) (hx : wrap64 (ax + bx) = sx) (hy : wrap64 (ay + by1) = sy) (dx : sx.tdiv 2 = mx) (dy : sy.tdiv 2 = my) (tx : mx.tmod 2 = rx) (ty : my.tmod 2 = ry) (hmx : (-9223372036854775808 ≤ mx ∧ mx ≤ 9223372036854775807)) (hmy : (-9223372036854775808 ≤ my ∧ my ≤ 9223372036854775807)) (c0 : -33554432 ≤ mx) (c1 : mx ≤ 33554432) (c2 : -33554432 ≤ my) (c3 : my ≤ 33554432) (e0 : (2 * mx != sx) = false) (e1 : (2 * my != sy) = true) (HR : Hid (∀ (b : Nat) (W : World), Blk W b #[.int .i64 ax, .int .i64 ay, .int .i64 bx, .int .i64 by1, .int .i64 l, .int .i64 r] 27 → Calls Try.prog 19 #[.slice (some ⟨b, 0, none⟩) 1 1] W fun e w' => e = .returned (.bool true) ∧ Below W.heap.size W w')) :
    Calls Try.prog 8 #[.agg #[.int .i64 ax, .int .i64 ay, .int .i64 bx, .int .i64 by1, .int .i64 l, .int .i64 r], .int .i64 st, .int .i64 x, .int .i64 y] w fun e w' => e = .returned (.bool true) ∧ Below w.heap.size w w' := by
  obtain ⟨hmx0, hmx1⟩ := hmx
  obtain ⟨hmy0, hmy1⟩ := hmy
  go_enter Try.func8, Try.ntmps8
  go_wp2_with (first
    | (refine wl_box 27 _ _ rfl rfl (show _ = Value.agg #[.int .i64 ax, .int .i64 ay, .int .i64 bx, .int .i64 by1, .int .i64 l, .int .i64 r] from rfl) ?_; intro W1 bs Bs_1 l1 k1; have gs : w.heap.size ≤ bs := l1; have Hw1 := k1; clear l1 k1; have cs_0_1 : W1.cell? ⟨bs, 0, none⟩ = some (.int .i64 ax) := Bs_1.cell 0; have cs_1_1 : W1.cell? ⟨bs, 1, none⟩ = some (.int .i64 ay) := Bs_1.cell 1; have cs_2_1 : W1.cell? ⟨bs, 2, none⟩ = some (.int .i64 bx) := Bs_1.cell 2; have cs_3_1 : W1.cell? ⟨bs, 3, none⟩ = some (.int .i64 by1) := Bs_1.cell 3; have cs_4_1 : W1.cell? ⟨bs, 4, none⟩ = some (.int .i64 l) := Bs_1.cell 4; have cs_5_1 : W1.cell? ⟨bs, 5, none⟩ = some (.int .i64 r) := Bs_1.cell 5)
    | (refine wl_alloc 25 _ zePt rfl rfl ?_; intro W2 bm Bm_2 l2 k2; have gm : w.heap.size ≤ bm := Nat.le_trans Hw1.size l2; have nsm : bs ≠ bm := Nat.ne_of_lt (Nat.lt_of_lt_of_le Bs_1.lt l2); have Bs_2 := Bs_1.keep k2; have Hw2 := bq_trans Hw1 k2; clear l2 k2 Bs_1 cs_0_1 cs_1_1 cs_2_1 cs_3_1 cs_4_1 cs_5_1 Hw1)
    | (refine wl_store 25 2 szPt _ _ rfl rfl _ rfl #[.int .i64 mx, .int .i64 my] rfl _ _ Bm_2 rfl rfl (by kernel_rfl) ?_; intro W3 Bm_3 T3; have Bs_3 := T3.blk Bs_2 nsm; have Hw3 := T3.below Hw2 gm; clear T3 Bs_2 Bm_2 Hw2)
    | (refine wl_load 27 6 _ Try.underlying27 rfl szSg _ rfl rfl _ rfl _ _ Bs_3 rfl ?_)
    | (refine wlg_slice 22 27 1 #[.int .i64 ax, .int .i64 ay, .int .i64 bx, .int .i64 by1, .int .i64 l, .int .i64 r] [(0, .agg #[.int .i64 ax, .int .i64 ay, .int .i64 bx, .int .i64 by1, .int .i64 l, .int .i64 r])] (sg1_run ax ay bx by1 l r) _ rfl rfl rfl ?_; intro W4 bn Bn_4 l4 k4; have gn : w.heap.size ≤ bn := Nat.le_trans Hw3.size l4; have nsn : bs ≠ bn := Nat.ne_of_lt (Nat.lt_of_lt_of_le Bs_3.lt l4); have nmn : bm ≠ bn := Nat.ne_of_lt (Nat.lt_of_lt_of_le Bm_3.lt l4); have Bs_4 := Bs_3.keep k4; have Bm_4 := Bm_3.keep k4; have Hw4 := bq_trans Hw3 k4; clear l4 k4 Bs_3 Bm_3 Hw3))
  (go_at_call 19; (with_reducible refine (HR.out bn _ Bn_4).mono ?_); rintro e W5 ⟨rfl, k5⟩; have Bs_5 := Bs_4.keep k5; have Bm_5 := Bm_4.keep k5; have Bn_5 := Bn_4.keep k5; have Hw5 := bq_trans Hw4 k5; clear k5 Bs_4 Bm_4 Bn_4 Hw4; have cs_0_5 : W5.cell? ⟨bs, 0, none⟩ = some (.int .i64 ax) := Bs_5.cell 0; have cs_1_5 : W5.cell? ⟨bs, 1, none⟩ = some (.int .i64 ay) := Bs_5.cell 1; have cs_2_5 : W5.cell? ⟨bs, 2, none⟩ = some (.int .i64 bx) := Bs_5.cell 2; have cs_3_5 : W5.cell? ⟨bs, 3, none⟩ = some (.int .i64 by1) := Bs_5.cell 3; have cs_4_5 : W5.cell? ⟨bs, 4, none⟩ = some (.int .i64 l) := Bs_5.cell 4; have cs_5_5 : W5.cell? ⟨bs, 5, none⟩ = some (.int .i64 r) := Bs_5.cell 5; have cm_0_5 : W5.cell? ⟨bm, 0, none⟩ = some (.int .i64 mx) := Bm_5.cell 0; have cm_1_5 : W5.cell? ⟨bm, 1, none⟩ = some (.int .i64 my) := Bm_5.cell 1)
  go_wp2_with (first
    | (go_at_call 11; (with_reducible refine (awake17_any _).mono ?_); rintro e W6 ⟨rfl, k6⟩; have Bs_6 := Bs_5.keep k6; have Bm_6 := Bm_5.keep k6; have Bn_6 := Bn_5.keep k6; have Hw6 := bq_trans Hw5 k6; clear k6 Bs_5 Bm_5 Bn_5 cs_0_5 cs_1_5 cs_2_5 cs_3_5 cs_4_5 cs_5_5 cm_0_5 cm_1_5 Hw5))
  go_ret
  exact ⟨rfl, Hw6⟩
set_option maxHeartbeats 4000000 in
theorem cuts17_D (ax ay bx by1 l r st x y sx sy mx my rx ry : Int) (w : World) (hx : wrap64 (ax + bx) = sx) (hy : wrap64 (ay + by1) = sy) (dx : sx.tdiv 2 = mx) (dy : sy.tdiv 2 = my) (tx : mx.tmod 2 = rx) (ty : my.tmod 2 = ry) (hmx : (-9223372036854775808 ≤ mx ∧ mx ≤ 9223372036854775807)) (hmy : (-9223372036854775808 ≤ my ∧ my ≤ 9223372036854775807)) (c0 : -33554432 ≤ mx) (c1 : mx ≤ 33554432) (c2 : -33554432 ≤ my) (c3 : my ≤ 33554432) (e0 : (2 * mx != sx) = false) (e1 : (2 * my != sy) = false) (e2 : (rx != 0) = true) (HR : Hid (∀ (b : Nat) (W : World), Blk W b #[.int .i64 ax, .int .i64 ay, .int .i64 bx, .int .i64 by1, .int .i64 l, .int .i64 r] 27 → Calls Try.prog 19 #[.slice (some ⟨b, 0, none⟩) 1 1] W fun e w' => e = .returned (.bool true) ∧ Below W.heap.size W w')) :
    Calls Try.prog 8 #[.agg #[.int .i64 ax, .int .i64 ay, .int .i64 bx, .int .i64 by1, .int .i64 l, .int .i64 r], .int .i64 st, .int .i64 x, .int .i64 y] w fun e w' => e = .returned (.bool true) ∧ Below w.heap.size w w' := by
  obtain ⟨hmx0, hmx1⟩ := hmx
  obtain ⟨hmy0, hmy1⟩ := hmy
  go_enter Try.func8, Try.ntmps8
  go_wp2_with (first
    | (refine wl_box 27 _ _ rfl rfl (show _ = Value.agg #[.int .i64 ax, .int .i64 ay, .int .i64 bx, .int .i64 by1, .int .i64 l, .int .i64 r] from rfl) ?_; intro W1 bs Bs_1 l1 k1; have gs : w.heap.size ≤ bs := l1; have Hw1 := k1; clear l1 k1; have cs_0_1 : W1.cell? ⟨bs, 0, none⟩ = some (.int .i64 ax) := Bs_1.cell 0; have cs_1_1 : W1.cell? ⟨bs, 1, none⟩ = some (.int .i64 ay) := Bs_1.cell 1; have cs_2_1 : W1.cell? ⟨bs, 2, none⟩ = some (.int .i64 bx) := Bs_1.cell 2; have cs_3_1 : W1.cell? ⟨bs, 3, none⟩ = some (.int .i64 by1) := Bs_1.cell 3; have cs_4_1 : W1.cell? ⟨bs, 4, none⟩ = some (.int .i64 l) := Bs_1.cell 4; have cs_5_1 : W1.cell? ⟨bs, 5, none⟩ = some (.int .i64 r) := Bs_1.cell 5)
    | (refine wl_alloc 25 _ zePt rfl rfl ?_; intro W2 bm Bm_2 l2 k2; have gm : w.heap.size ≤ bm := Nat.le_trans Hw1.size l2; have nsm : bs ≠ bm := Nat.ne_of_lt (Nat.lt_of_lt_of_le Bs_1.lt l2); have Bs_2 := Bs_1.keep k2; have Hw2 := bq_trans Hw1 k2; clear l2 k2 Bs_1 cs_0_1 cs_1_1 cs_2_1 cs_3_1 cs_4_1 cs_5_1 Hw1)
    | (refine wl_store 25 2 szPt _ _ rfl rfl _ rfl #[.int .i64 mx, .int .i64 my] rfl _ _ Bm_2 rfl rfl (by kernel_rfl) ?_; intro W3 Bm_3 T3; have Bs_3 := T3.blk Bs_2 nsm; have Hw3 := T3.below Hw2 gm; clear T3 Bs_2 Bm_2 Hw2)
    | (refine wl_load 27 6 _ Try.underlying27 rfl szSg _ rfl rfl _ rfl _ _ Bs_3 rfl ?_)
    | (refine wlg_slice 22 27 1 #[.int .i64 ax, .int .i64 ay, .int .i64 bx, .int .i64 by1, .int .i64 l, .int .i64 r] [(0, .agg #[.int .i64 ax, .int .i64 ay, .int .i64 bx, .int .i64 by1, .int .i64 l, .int .i64 r])] (sg1_run ax ay bx by1 l r) _ rfl rfl rfl ?_; intro W4 bn Bn_4 l4 k4; have gn : w.heap.size ≤ bn := Nat.le_trans Hw3.size l4; have nsn : bs ≠ bn := Nat.ne_of_lt (Nat.lt_of_lt_of_le Bs_3.lt l4); have nmn : bm ≠ bn := Nat.ne_of_lt (Nat.lt_of_lt_of_le Bm_3.lt l4); have Bs_4 := Bs_3.keep k4; have Bm_4 := Bm_3.keep k4; have Hw4 := bq_trans Hw3 k4; clear l4 k4 Bs_3 Bm_3 Hw3))
  (go_at_call 19; (with_reducible refine (HR.out bn _ Bn_4).mono ?_); rintro e W5 ⟨rfl, k5⟩; have Bs_5 := Bs_4.keep k5; have Bm_5 := Bm_4.keep k5; have Bn_5 := Bn_4.keep k5; have Hw5 := bq_trans Hw4 k5; clear k5 Bs_4 Bm_4 Bn_4 Hw4; have cs_0_5 : W5.cell? ⟨bs, 0, none⟩ = some (.int .i64 ax) := Bs_5.cell 0; have cs_1_5 : W5.cell? ⟨bs, 1, none⟩ = some (.int .i64 ay) := Bs_5.cell 1; have cs_2_5 : W5.cell? ⟨bs, 2, none⟩ = some (.int .i64 bx) := Bs_5.cell 2; have cs_3_5 : W5.cell? ⟨bs, 3, none⟩ = some (.int .i64 by1) := Bs_5.cell 3; have cs_4_5 : W5.cell? ⟨bs, 4, none⟩ = some (.int .i64 l) := Bs_5.cell 4; have cs_5_5 : W5.cell? ⟨bs, 5, none⟩ = some (.int .i64 r) := Bs_5.cell 5; have cm_0_5 : W5.cell? ⟨bm, 0, none⟩ = some (.int .i64 mx) := Bm_5.cell 0; have cm_1_5 : W5.cell? ⟨bm, 1, none⟩ = some (.int .i64 my) := Bm_5.cell 1)
  go_wp2_with (first
    | (go_at_call 11; (with_reducible refine (awake17_any _).mono ?_); rintro e W6 ⟨rfl, k6⟩; have Bs_6 := Bs_5.keep k6; have Bm_6 := Bm_5.keep k6; have Bn_6 := Bn_5.keep k6; have Hw6 := bq_trans Hw5 k6; clear k6 Bs_5 Bm_5 Bn_5 cs_0_5 cs_1_5 cs_2_5 cs_3_5 cs_4_5 cs_5_5 cm_0_5 cm_1_5 Hw5))
  go_ret
  exact ⟨rfl, Hw6⟩
set_option maxHeartbeats 4000000 in
theorem cuts17_E (ax ay bx by1 l r st x y sx sy mx my rx ry : Int) (w : World) (hx : wrap64 (ax + bx) = sx) (hy : wrap64 (ay + by1) = sy) (dx : sx.tdiv 2 = mx) (dy : sy.tdiv 2 = my) (tx : mx.tmod 2 = rx) (ty : my.tmod 2 = ry) (hmx : (-9223372036854775808 ≤ mx ∧ mx ≤ 9223372036854775807)) (hmy : (-9223372036854775808 ≤ my ∧ my ≤ 9223372036854775807)) (c0 : -33554432 ≤ mx) (c1 : mx ≤ 33554432) (c2 : -33554432 ≤ my) (c3 : my ≤ 33554432) (e0 : (2 * mx != sx) = false) (e1 : (2 * my != sy) = false) (e2 : (rx != 0) = false) (e3 : (ry != 0) = true) (HR : Hid (∀ (b : Nat) (W : World), Blk W b #[.int .i64 ax, .int .i64 ay, .int .i64 bx, .int .i64 by1, .int .i64 l, .int .i64 r] 27 → Calls Try.prog 19 #[.slice (some ⟨b, 0, none⟩) 1 1] W fun e w' => e = .returned (.bool true) ∧ Below W.heap.size W w')) :
    Calls Try.prog 8 #[.agg #[.int .i64 ax, .int .i64 ay, .int .i64 bx, .int .i64 by1, .int .i64 l, .int .i64 r], .int .i64 st, .int .i64 x, .int .i64 y] w fun e w' => e = .returned (.bool true) ∧ Below w.heap.size w w' := by
  obtain ⟨hmx0, hmx1⟩ := hmx
  obtain ⟨hmy0, hmy1⟩ := hmy
  go_enter Try.func8, Try.ntmps8
  go_wp2_with (first
    | (refine wl_box 27 _ _ rfl rfl (show _ = Value.agg #[.int .i64 ax, .int .i64 ay, .int .i64 bx, .int .i64 by1, .int .i64 l, .int .i64 r] from rfl) ?_; intro W1 bs Bs_1 l1 k1; have gs : w.heap.size ≤ bs := l1; have Hw1 := k1; clear l1 k1; have cs_0_1 : W1.cell? ⟨bs, 0, none⟩ = some (.int .i64 ax) := Bs_1.cell 0; have cs_1_1 : W1.cell? ⟨bs, 1, none⟩ = some (.int .i64 ay) := Bs_1.cell 1; have cs_2_1 : W1.cell? ⟨bs, 2, none⟩ = some (.int .i64 bx) := Bs_1.cell 2; have cs_3_1 : W1.cell? ⟨bs, 3, none⟩ = some (.int .i64 by1) := Bs_1.cell 3; have cs_4_1 : W1.cell? ⟨bs, 4, none⟩ = some (.int .i64 l) := Bs_1.cell 4; have cs_5_1 : W1.cell? ⟨bs, 5, none⟩ = some (.int .i64 r) := Bs_1.cell 5)
    | (refine wl_alloc 25 _ zePt rfl rfl ?_; intro W2 bm Bm_2 l2 k2; have gm : w.heap.size ≤ bm := Nat.le_trans Hw1.size l2; have nsm : bs ≠ bm := Nat.ne_of_lt (Nat.lt_of_lt_of_le Bs_1.lt l2); have Bs_2 := Bs_1.keep k2; have Hw2 := bq_trans Hw1 k2; clear l2 k2 Bs_1 cs_0_1 cs_1_1 cs_2_1 cs_3_1 cs_4_1 cs_5_1 Hw1)
    | (refine wl_store 25 2 szPt _ _ rfl rfl _ rfl #[.int .i64 mx, .int .i64 my] rfl _ _ Bm_2 rfl rfl (by kernel_rfl) ?_; intro W3 Bm_3 T3; have Bs_3 := T3.blk Bs_2 nsm; have Hw3 := T3.below Hw2 gm; clear T3 Bs_2 Bm_2 Hw2)
    | (refine wl_load 27 6 _ Try.underlying27 rfl szSg _ rfl rfl _ rfl _ _ Bs_3 rfl ?_)
    | (refine wlg_slice 22 27 1 #[.int .i64 ax, .int .i64 ay, .int .i64 bx, .int .i64 by1, .int .i64 l, .int .i64 r] [(0, .agg #[.int .i64 ax, .int .i64 ay, .int .i64 bx, .int .i64 by1, .int .i64 l, .int .i64 r])] (sg1_run ax ay bx by1 l r) _ rfl rfl rfl ?_; intro W4 bn Bn_4 l4 k4; have gn : w.heap.size ≤ bn := Nat.le_trans Hw3.size l4; have nsn : bs ≠ bn := Nat.ne_of_lt (Nat.lt_of_lt_of_le Bs_3.lt l4); have nmn : bm ≠ bn := Nat.ne_of_lt (Nat.lt_of_lt_of_le Bm_3.lt l4); have Bs_4 := Bs_3.keep k4; have Bm_4 := Bm_3.keep k4; have Hw4 := bq_trans Hw3 k4; clear l4 k4 Bs_3 Bm_3 Hw3))
  (go_at_call 19; (with_reducible refine (HR.out bn _ Bn_4).mono ?_); rintro e W5 ⟨rfl, k5⟩; have Bs_5 := Bs_4.keep k5; have Bm_5 := Bm_4.keep k5; have Bn_5 := Bn_4.keep k5; have Hw5 := bq_trans Hw4 k5; clear k5 Bs_4 Bm_4 Bn_4 Hw4; have cs_0_5 : W5.cell? ⟨bs, 0, none⟩ = some (.int .i64 ax) := Bs_5.cell 0; have cs_1_5 : W5.cell? ⟨bs, 1, none⟩ = some (.int .i64 ay) := Bs_5.cell 1; have cs_2_5 : W5.cell? ⟨bs, 2, none⟩ = some (.int .i64 bx) := Bs_5.cell 2; have cs_3_5 : W5.cell? ⟨bs, 3, none⟩ = some (.int .i64 by1) := Bs_5.cell 3; have cs_4_5 : W5.cell? ⟨bs, 4, none⟩ = some (.int .i64 l) := Bs_5.cell 4; have cs_5_5 : W5.cell? ⟨bs, 5, none⟩ = some (.int .i64 r) := Bs_5.cell 5; have cm_0_5 : W5.cell? ⟨bm, 0, none⟩ = some (.int .i64 mx) := Bm_5.cell 0; have cm_1_5 : W5.cell? ⟨bm, 1, none⟩ = some (.int .i64 my) := Bm_5.cell 1)
  go_wp2_with (first
    | (go_at_call 11; (with_reducible refine (awake17_any _).mono ?_); rintro e W6 ⟨rfl, k6⟩; have Bs_6 := Bs_5.keep k6; have Bm_6 := Bm_5.keep k6; have Bn_6 := Bn_5.keep k6; have Hw6 := bq_trans Hw5 k6; clear k6 Bs_5 Bm_5 Bn_5 cs_0_5 cs_1_5 cs_2_5 cs_3_5 cs_4_5 cs_5_5 cm_0_5 cm_1_5 Hw5))
  go_ret
  exact ⟨rfl, Hw6⟩
set_option maxHeartbeats 4000000 in
theorem cuts17_F (ax ay bx by1 l r st x y sx sy mx my rx ry : Int) (V : Int) (w : World) (hx : wrap64 (ax + bx) = sx) (hy : wrap64 (ay + by1) = sy) (dx : sx.tdiv 2 = mx) (dy : sy.tdiv 2 = my) (tx : mx.tmod 2 = rx) (ty : my.tmod 2 = ry) (hmx : (-9223372036854775808 ≤ mx ∧ mx ≤ 9223372036854775807)) (hmy : (-9223372036854775808 ≤ my ∧ my ≤ 9223372036854775807)) (c0 : -33554432 ≤ mx) (c1 : mx ≤ 33554432) (c2 : -33554432 ≤ my) (c3 : my ≤ 33554432) (ev : (V == V) = true) (e0 : (2 * mx != sx) = false) (e1 : (2 * my != sy) = false) (e2 : (rx != 0) = false) (e3 : (ry != 0) = false) (HR : Hid (∀ (b : Nat) (W : World), Blk W b #[.int .i64 ax, .int .i64 ay, .int .i64 bx, .int .i64 by1, .int .i64 l, .int .i64 r] 27 → Calls Try.prog 19 #[.slice (some ⟨b, 0, none⟩) 1 1] W fun e w' => e = .returned (.bool true) ∧ Below W.heap.size W w')) (HW1 : Hid (∀ (b : Nat) (W : World), Blk W b #[.int .i64 ax, .int .i64 ay, .int .i64 bx, .int .i64 by1, .int .i64 l, .int .i64 r] 27 → Calls Try.prog 17 #[.slice (some ⟨b, 0, none⟩) 1 1, .int .i64 st, .int .i64 x, .int .i64 y] W fun e w' => e = .returned (.int .i64 V) ∧ Below W.heap.size W w')) (HW2 : Hid (∀ (b : Nat) (W : World), Blk W b #[.int .i64 ax, .int .i64 ay, .int .i64 mx, .int .i64 my, .int .i64 l, .int .i64 r, .int .i64 mx, .int .i64 my, .int .i64 bx, .int .i64 by1, .int .i64 l, .int .i64 r] 27 → Calls Try.prog 17 #[.slice (some ⟨b, 0, none⟩) 2 2, .int .i64 st, .int .i64 x, .int .i64 y] W fun e w' => e = .returned (.int .i64 V) ∧ Below W.heap.size W w')) :
    Calls Try.prog 8 #[.agg #[.int .i64 ax, .int .i64 ay, .int .i64 bx, .int .i64 by1, .int .i64 l, .int .i64 r], .int .i64 st, .int .i64 x, .int .i64 y] w fun e w' => e = .returned (.bool true) ∧ Below w.heap.size w w' := by
  obtain ⟨hmx0, hmx1⟩ := hmx
  obtain ⟨hmy0, hmy1⟩ := hmy
  go_enter Try.func8, Try.ntmps8
  go_wp2_with (first
    | (refine wl_box 27 _ _ rfl rfl (show _ = Value.agg #[.int .i64 ax, .int .i64 ay, .int .i64 bx, .int .i64 by1, .int .i64 l, .int .i64 r] from rfl) ?_; intro W1 bs Bs_1 l1 k1; have gs : w.heap.size ≤ bs := l1; have Hw1 := k1; clear l1 k1; have cs_0_1 : W1.cell? ⟨bs, 0, none⟩ = some (.int .i64 ax) := Bs_1.cell 0; have cs_1_1 : W1.cell? ⟨bs, 1, none⟩ = some (.int .i64 ay) := Bs_1.cell 1; have cs_2_1 : W1.cell? ⟨bs, 2, none⟩ = some (.int .i64 bx) := Bs_1.cell 2; have cs_3_1 : W1.cell? ⟨bs, 3, none⟩ = some (.int .i64 by1) := Bs_1.cell 3; have cs_4_1 : W1.cell? ⟨bs, 4, none⟩ = some (.int .i64 l) := Bs_1.cell 4; have cs_5_1 : W1.cell? ⟨bs, 5, none⟩ = some (.int .i64 r) := Bs_1.cell 5)
    | (refine wl_alloc 25 _ zePt rfl rfl ?_; intro W2 bm Bm_2 l2 k2; have gm : w.heap.size ≤ bm := Nat.le_trans Hw1.size l2; have nsm : bs ≠ bm := Nat.ne_of_lt (Nat.lt_of_lt_of_le Bs_1.lt l2); have Bs_2 := Bs_1.keep k2; have Hw2 := bq_trans Hw1 k2; clear l2 k2 Bs_1 cs_0_1 cs_1_1 cs_2_1 cs_3_1 cs_4_1 cs_5_1 Hw1)
    | (refine wl_store 25 2 szPt _ _ rfl rfl _ rfl #[.int .i64 mx, .int .i64 my] rfl _ _ Bm_2 rfl rfl (by kernel_rfl) ?_; intro W3 Bm_3 T3; have Bs_3 := T3.blk Bs_2 nsm; have Hw3 := T3.below Hw2 gm; clear T3 Bs_2 Bm_2 Hw2)
    | (refine wl_load 27 6 _ Try.underlying27 rfl szSg _ rfl rfl _ rfl _ _ Bs_3 rfl ?_)
    | (refine wlg_slice 22 27 1 #[.int .i64 ax, .int .i64 ay, .int .i64 bx, .int .i64 by1, .int .i64 l, .int .i64 r] [(0, .agg #[.int .i64 ax, .int .i64 ay, .int .i64 bx, .int .i64 by1, .int .i64 l, .int .i64 r])] (sg1_run ax ay bx by1 l r) _ rfl rfl rfl ?_; intro W4 bn Bn_4 l4 k4; have gn : w.heap.size ≤ bn := Nat.le_trans Hw3.size l4; have nsn : bs ≠ bn := Nat.ne_of_lt (Nat.lt_of_lt_of_le Bs_3.lt l4); have nmn : bm ≠ bn := Nat.ne_of_lt (Nat.lt_of_lt_of_le Bm_3.lt l4); have Bs_4 := Bs_3.keep k4; have Bm_4 := Bm_3.keep k4; have Hw4 := bq_trans Hw3 k4; clear l4 k4 Bs_3 Bm_3 Hw3))
  (go_at_call 19; (with_reducible refine (HR.out bn _ Bn_4).mono ?_); rintro e W5 ⟨rfl, k5⟩; have Bs_5 := Bs_4.keep k5; have Bm_5 := Bm_4.keep k5; have Bn_5 := Bn_4.keep k5; have Hw5 := bq_trans Hw4 k5; clear k5 Bs_4 Bm_4 Bn_4 Hw4; have cs_0_5 : W5.cell? ⟨bs, 0, none⟩ = some (.int .i64 ax) := Bs_5.cell 0; have cs_1_5 : W5.cell? ⟨bs, 1, none⟩ = some (.int .i64 ay) := Bs_5.cell 1; have cs_2_5 : W5.cell? ⟨bs, 2, none⟩ = some (.int .i64 bx) := Bs_5.cell 2; have cs_3_5 : W5.cell? ⟨bs, 3, none⟩ = some (.int .i64 by1) := Bs_5.cell 3; have cs_4_5 : W5.cell? ⟨bs, 4, none⟩ = some (.int .i64 l) := Bs_5.cell 4; have cs_5_5 : W5.cell? ⟨bs, 5, none⟩ = some (.int .i64 r) := Bs_5.cell 5; have cm_0_5 : W5.cell? ⟨bm, 0, none⟩ = some (.int .i64 mx) := Bm_5.cell 0; have cm_1_5 : W5.cell? ⟨bm, 1, none⟩ = some (.int .i64 my) := Bm_5.cell 1)
  go_wp2_with (first
    | (refine wlg_mid17 25 _ Try.underlying25 rfl _ rfl (by rfl) bs 0 rfl (.int .i64 ax) (.int .i64 ay) szPt _ _ Bs_5 rfl rfl ?_)
    | (refine wl_load 25 2 _ Try.underlying25 rfl szPt _ rfl rfl _ rfl _ _ Bm_5 rfl ?_)
    | (refine wlg_build 27 [(0, .agg #[.int .i64 ax, .int .i64 ay]), (1, .agg #[.int .i64 mx, .int .i64 my]), (2, .int .i64 l), (3, .int .i64 r)] #[.int .i64 ax, .int .i64 ay, .int .i64 mx, .int .i64 my, .int .i64 l, .int .i64 r] (by kernel_rfl) _ rfl rfl rfl ?_)
    | (refine wl_load 25 2 _ Try.underlying25 rfl szPt _ rfl rfl _ rfl _ _ Bm_5 rfl ?_)
    | (refine wlg_mid17 25 _ Try.underlying25 rfl _ rfl (by rfl) bs 2 rfl (.int .i64 bx) (.int .i64 by1) szPt _ _ Bs_5 rfl rfl ?_)
    | (refine wlg_build 27 [(0, .agg #[.int .i64 mx, .int .i64 my]), (1, .agg #[.int .i64 bx, .int .i64 by1]), (2, .int .i64 l), (3, .int .i64 r)] #[.int .i64 mx, .int .i64 my, .int .i64 bx, .int .i64 by1, .int .i64 l, .int .i64 r] (by kernel_rfl) _ rfl rfl rfl ?_)
    | (refine wlg_slice 22 27 2 #[.int .i64 ax, .int .i64 ay, .int .i64 mx, .int .i64 my, .int .i64 l, .int .i64 r, .int .i64 mx, .int .i64 my, .int .i64 bx, .int .i64 by1, .int .i64 l, .int .i64 r] [(0, .agg #[.int .i64 ax, .int .i64 ay, .int .i64 mx, .int .i64 my, .int .i64 l, .int .i64 r]), (1, .agg #[.int .i64 mx, .int .i64 my, .int .i64 bx, .int .i64 by1, .int .i64 l, .int .i64 r])] (sg2_run ax ay mx my l r mx my bx by1 l r) _ rfl rfl rfl ?_; intro W6 bt Bt_6 l6 k6; have gt : w.heap.size ≤ bt := Nat.le_trans Hw5.size l6; have nst : bs ≠ bt := Nat.ne_of_lt (Nat.lt_of_lt_of_le Bs_5.lt l6); have nmt : bm ≠ bt := Nat.ne_of_lt (Nat.lt_of_lt_of_le Bm_5.lt l6); have nnt : bn ≠ bt := Nat.ne_of_lt (Nat.lt_of_lt_of_le Bn_5.lt l6); have Bs_6 := Bs_5.keep k6; have Bm_6 := Bm_5.keep k6; have Bn_6 := Bn_5.keep k6; have Hw6 := bq_trans Hw5 k6; clear l6 k6 Bs_5 Bm_5 Bn_5 cs_0_5 cs_1_5 cs_2_5 cs_3_5 cs_4_5 cs_5_5 cm_0_5 cm_1_5 Hw5)
    | (refine wl_load 27 6 _ Try.underlying27 rfl szSg _ rfl rfl _ rfl _ _ Bs_6 rfl ?_)
    | (refine wlg_slice 22 27 1 #[.int .i64 ax, .int .i64 ay, .int .i64 bx, .int .i64 by1, .int .i64 l, .int .i64 r] [(0, .agg #[.int .i64 ax, .int .i64 ay, .int .i64 bx, .int .i64 by1, .int .i64 l, .int .i64 r])] (sg1_run ax ay bx by1 l r) _ rfl rfl rfl ?_; intro W7 bu Bu_7 l7 k7; have gu : w.heap.size ≤ bu := Nat.le_trans Hw6.size l7; have nsu : bs ≠ bu := Nat.ne_of_lt (Nat.lt_of_lt_of_le Bs_6.lt l7); have nmu : bm ≠ bu := Nat.ne_of_lt (Nat.lt_of_lt_of_le Bm_6.lt l7); have nnu : bn ≠ bu := Nat.ne_of_lt (Nat.lt_of_lt_of_le Bn_6.lt l7); have ntu : bt ≠ bu := Nat.ne_of_lt (Nat.lt_of_lt_of_le Bt_6.lt l7); have Bs_7 := Bs_6.keep k7; have Bm_7 := Bm_6.keep k7; have Bn_7 := Bn_6.keep k7; have Bt_7 := Bt_6.keep k7; have Hw7 := bq_trans Hw6 k7; clear l7 k7 Bs_6 Bm_6 Bn_6 Bt_6 Hw6)
    | (go_at_call 17; (with_reducible refine (HW1.out bu _ Bu_7).mono ?_); rintro e W8 ⟨rfl, k8⟩; have Bs_8 := Bs_7.keep k8; have Bm_8 := Bm_7.keep k8; have Bn_8 := Bn_7.keep k8; have Bt_8 := Bt_7.keep k8; have Bu_8 := Bu_7.keep k8; have Hw8 := bq_trans Hw7 k8; clear k8 Bs_7 Bm_7 Bn_7 Bt_7 Bu_7 Hw7)
    | (go_at_call 17; (with_reducible refine (HW2.out bt _ Bt_8).mono ?_); rintro e W9 ⟨rfl, k9⟩; have Bs_9 := Bs_8.keep k9; have Bm_9 := Bm_8.keep k9; have Bn_9 := Bn_8.keep k9; have Bt_9 := Bt_8.keep k9; have Bu_9 := Bu_8.keep k9; have Hw9 := bq_trans Hw8 k9; clear k9 Bs_8 Bm_8 Bn_8 Bt_8 Bu_8 Hw8)
    | (go_at_call 11; (with_reducible refine (awake17_any _).mono ?_); rintro e W10 ⟨rfl, k10⟩; have Bs_10 := Bs_9.keep k10; have Bm_10 := Bm_9.keep k10; have Bn_10 := Bn_9.keep k10; have Bt_10 := Bt_9.keep k10; have Bu_10 := Bu_9.keep k10; have Hw10 := bq_trans Hw9 k10; clear k10 Bs_9 Bm_9 Bn_9 Bt_9 Bu_9 Hw9))
  go_ret
  exact ⟨rfl, Hw10⟩
theorem cuts17_walk (ax ay bx by1 l r st x y : Int) (w : World) :
    Calls Try.prog 8 #[.agg #[.int .i64 ax, .int .i64 ay, .int .i64 bx, .int .i64 by1, .int .i64 l, .int .i64 r], .int .i64 st, .int .i64 x, .int .i64 y] w fun e w' => e = .returned (.bool true) ∧ Below w.heap.size w w' := by
  have HR : Hid (∀ (b : Nat) (W : World), Blk W b #[.int .i64 ax, .int .i64 ay, .int .i64 bx, .int .i64 by1, .int .i64 l, .int .i64 r] 27 → Calls Try.prog 19 #[.slice (some ⟨b, 0, none⟩) 1 1] W fun e w' => e = .returned (.bool (allR [⟨ax, ay, bx, by1, l, r⟩])) ∧ Below W.heap.size W w') := Lib.hid fun b W hB => lawright17_any [⟨ax, ay, bx, by1, l, r⟩] _ W (Blk.sgs (L := [⟨ax, ay, bx, by1, l, r⟩]) hB (by simp) 1)
  have he : allR [⟨ax, ay, bx, by1, l, r⟩] = rgtS ⟨ax, ay, bx, by1, l, r⟩ := by simp [allR]
  rw [he] at HR
  have b1 : -9223372036854775808 ≤ wrap64 (ax + bx) ∧ wrap64 (ax + bx) ≤ 9223372036854775807 := by unfold wrap64; omega
  have b2 : -9223372036854775808 ≤ wrap64 (ay + by1) ∧ wrap64 (ay + by1) ≤ 9223372036854775807 := by unfold wrap64; omega
  cases q : rgtS ⟨ax, ay, bx, by1, l, r⟩ with
  | false =>
    rw [q] at HR
    exact cuts17_A ax ay bx by1 l r st x y _ _ _ _ _ _ w rfl rfl rfl rfl rfl rfl (tdiv2_bd _ b1) (tdiv2_bd _ b2) HR
  | true =>
    rw [q] at HR
    have hb := rgtS_bd q
    simp only at hb
    have w1 : wrap64 (ax + bx) = ax + bx := w64 _ (by omega)
    have w2 : wrap64 (ay + by1) = ay + by1 := w64 _ (by omega)
    have d : ∀ z : Int, -33554432 ≤ z ∧ z ≤ 33554432 → -33554432 ≤ z.tdiv 2 ∧ z.tdiv 2 ≤ 33554432 := fun z hz => by
      rcases (show 0 ≤ z ∨ z < 0 by omega) with h1 | h1
      · rw [Int.tdiv_eq_ediv_of_nonneg h1]; omega
      · have h2 := Int.neg_tdiv (-z) 2
        rw [Int.neg_neg, Int.tdiv_eq_ediv_of_nonneg (show 0 ≤ -z by omega)] at h2
        omega
    have d1 := d (ax + bx) (by omega)
    have d2 := d (ay + by1) (by omega)
    obtain ⟨mx, hmx⟩ : ∃ mx, (ax + bx).tdiv 2 = mx := ⟨_, rfl⟩
    obtain ⟨my, hmy⟩ : ∃ my, (ay + by1).tdiv 2 = my := ⟨_, rfl⟩
    rw [hmx] at d1
    rw [hmy] at d2
    have m1 : (-9223372036854775808 ≤ mx ∧ mx ≤ 9223372036854775807) := by omega
    have m2 : (-9223372036854775808 ≤ my ∧ my ≤ 9223372036854775807) := by omega
    by_cases g0 : 2 * mx = ax + bx
    · by_cases g1 : 2 * my = ay + by1
      · by_cases g2 : mx.tmod 2 = 0
        · by_cases g3 : my.tmod 2 = 0
          · have hcut := cut_wnd ax ay bx by1 mx my l r st x y q g0 g1 ((tmod2 mx).1 g2) ((tmod2 my).1 g3)
            exact cuts17_F ax ay bx by1 l r st x y (ax + bx) (ay + by1) mx my 0 0 (wv [⟨ax, ay, bx, by1, l, r⟩] x y st) w w1 w2 hmx hmy g2 g3 m1 m2 d1.1 d1.2 d2.1 d2.2 (by simp) (by simp [g0]) (by simp [g1]) rfl rfl HR
              (Lib.hid fun b W hB => wound_any [⟨ax, ay, bx, by1, l, r⟩] _ st x y W (Blk.sgs (L := [⟨ax, ay, bx, by1, l, r⟩]) hB (by simp) 1))
              (Lib.hid fun b W hB => by
                rw [hcut]
                exact wound_any [⟨ax, ay, mx, my, l, r⟩, ⟨mx, my, bx, by1, l, r⟩] _ st x y W (Blk.sgs (L := [⟨ax, ay, mx, my, l, r⟩, ⟨mx, my, bx, by1, l, r⟩]) hB (by simp) 2))
          · exact cuts17_E ax ay bx by1 l r st x y (ax + bx) (ay + by1) mx my 0 _ w w1 w2 hmx hmy g2 rfl m1 m2 d1.1 d1.2 d2.1 d2.2 (by simp [g0]) (by simp [g1]) rfl (by simp [g3]) HR
        · exact cuts17_D ax ay bx by1 l r st x y (ax + bx) (ay + by1) mx my _ _ w w1 w2 hmx hmy rfl rfl m1 m2 d1.1 d1.2 d2.1 d2.2 (by simp [g0]) (by simp [g1]) (by simp [g2]) HR
      · exact cuts17_C ax ay bx by1 l r st x y (ax + bx) (ay + by1) mx my _ _ w w1 w2 hmx hmy rfl rfl m1 m2 d1.1 d1.2 d2.1 d2.2 (by simp [g0]) (by simp [g1]) HR
    · exact cuts17_B ax ay bx by1 l r st x y (ax + bx) (ay + by1) mx my _ _ w w1 w2 hmx hmy rfl rfl m1 m2 d1.1 d1.2 d2.1 d2.2 (by simp [g0]) HR
end Go.Proofs.Ytgopaajmbifbaaa
