import Derived.Test.YtpeknlablcgchaaO1
/- Layer 16: the document's small functions; right, way, beside. -/
namespace Go.Proofs.Ytpeknlablcgchaa
open Go.RowKit
set_option linter.unusedVariables false
set_option linter.unusedSimpArgs false
set_option maxRecDepth 100000

theorem ints5_run (x y z u v : Int) (w : World) : (Instr.buildSlice 35 5 [(0, .int .i64 x), (1, .int .i64 y), (2, .int .i64 z), (3, .int .i64 u), (4, .int .i64 v)].toArray).run Try.prog w = .ok (.slice (some ⟨w.heap.size, 0, none⟩) 5 5) (w.alloc (.cells (iA [x, y, z, u, v]) 3)) := by
  obtain ⟨ie, h1, h2⟩ := Option.map_eq_some_iff.1 int_info
  have hz : ie.zero = some (.int .i64 0) := congrArg (·.1) h2
  have hs : ie.size = 1 := congrArg (·.2.1) h2
  refine run_buildSlice w 35 3 5 _ _ ie (.int .i64 0) Try.underlying35 h1 hz (by rw [hs]; decide) (by rw [hs]; decide) ?_
  rw [hs]; kernel_rfl
theorem ev_ways (x : Int) : Hid (x.tmod 2 ≠ 0 ∧ evB x = false ∨ x.tmod 2 = 0 ∧ 16777216 < x ∧ evB x = false ∨ x.tmod 2 = 0 ∧ x ≤ 16777216 ∧ x < -16777216 ∧ evB x = false ∨ x.tmod 2 = 0 ∧ x ≤ 16777216 ∧ -16777216 ≤ x ∧ evB x = true) := Lib.hid (by
  have e : (x.tmod 2 = 0) ↔ x % 2 = 0 := by
    rcases (show 0 ≤ x ∨ x < 0 by omega) with h | h
    · rw [Int.tmod_eq_emod_of_nonneg h]
    · have h2 := Int.neg_tmod (-x) 2
      rw [Int.neg_neg, Int.tmod_eq_emod_of_nonneg (show 0 ≤ -x by omega)] at h2
      omega
  by_cases h0 : x.tmod 2 = 0
  · by_cases h1 : 16777216 < x
    · exact Or.inr (Or.inl ⟨h0, h1, by simp [evB]; omega⟩)
    · by_cases h2 : x < -16777216
      · exact Or.inr (Or.inr (Or.inl ⟨h0, by omega, h2, by simp [evB]; omega⟩))
      · exact Or.inr (Or.inr (Or.inr ⟨h0, by omega, by omega, by simp [evB]; omega⟩))
  · exact Or.inl ⟨h0, by simp [evB]; omega⟩)
set_option maxHeartbeats 2000000 in
theorem reven16_core (x y : Int) (w : World) (HX : Hid (x.tmod 2 ≠ 0 ∧ evB x = false ∨ x.tmod 2 = 0 ∧ 16777216 < x ∧ evB x = false ∨ x.tmod 2 = 0 ∧ x ≤ 16777216 ∧ x < -16777216 ∧ evB x = false ∨ x.tmod 2 = 0 ∧ x ≤ 16777216 ∧ -16777216 ≤ x ∧ evB x = true)) (HY : Hid (y.tmod 2 ≠ 0 ∧ evB y = false ∨ y.tmod 2 = 0 ∧ 16777216 < y ∧ evB y = false ∨ y.tmod 2 = 0 ∧ y ≤ 16777216 ∧ y < -16777216 ∧ evB y = false ∨ y.tmod 2 = 0 ∧ y ≤ 16777216 ∧ -16777216 ≤ y ∧ evB y = true)) :
    Calls Try.prog 10 #[.agg #[.int .i64 x, .int .i64 y]] w fun e w' => e = .returned (.bool (evP x y)) ∧ Below w.heap.size w w' := by
  go_enter Try.func10, Try.ntmps10
  go_upto_region 1 with (go_big_may; first
    | (refine wl_box 23 _ _ rfl rfl (show _ = Value.agg #[.int .i64 x, .int .i64 y] from rfl) ?_; intro W1 bp Bp_1 l1 k1; have gp : w.heap.size ≤ bp := l1; have Hw1 := k1; clear l1 k1; have cp_0_1 : W1.cell? ⟨bp, 0, none⟩ = some (.int .i64 x) := Bp_1.cell 0; have cp_1_1 : W1.cell? ⟨bp, 1, none⟩ = some (.int .i64 y) := Bp_1.cell 1))
  go_wp2_with (first
    | (refine wlg_slice 35 3 2 _ _ (ints2_run x y) _ rfl rfl rfl ?_; intro W2 bs Bs_2 l2 k2; have gs : w.heap.size ≤ bs := Nat.le_trans Hw1.size l2; have nps : bp ≠ bs := Nat.ne_of_lt (Nat.lt_of_lt_of_le Bp_1.lt l2); have Bp_2 := Bp_1.keep k2; have Hw2 := bq_trans Hw1 k2; clear l2 k2 Bp_1 cp_0_1 cp_1_1 Hw1))
  go_loopw [11] (fun i wr => (i = .int .i64 0 ∨ i = .int .i64 1 ∧ evB x = true ∨ i = .int .i64 2 ∧ evB x = true ∧ evB y = true) ∧ Blk wr bs (iA [x, y]) 3 ∧ Below w.heap.size w wr) (fun i _ => 2 - (intOf i).toNat)
  case atStart => exact ⟨Or.inl rfl, Bs_2, Hw2⟩
  case round =>
    obtain ⟨hd, Bs, HwR⟩ := hrel
    clear Bp_2 Bs_2 Hw2
    rcases hd with rfl | ⟨rfl, hx⟩ | ⟨rfl, hx, hy⟩
    · have cu : wr.cell? ⟨bs, 0, none⟩ = some (.int .i64 x) := Bs.cell 0
      rcases HX.out with ⟨h0, h9⟩ | ⟨h0, h1, h9⟩ | ⟨h0, h1, h2, h9⟩ | ⟨h0, h1, h2, h9⟩
      · have h0 : (x.tmod 2 == 0) = false := beq_eq_false_iff_ne.2 h0
        have HR : Hid (evP x y = false) := Lib.hid (by unfold evP; rw [h9]; rfl)
        clear h9
        go_wp2_with fail
        go_ret
        exact ⟨ret_bool HR.out.symm, HwR⟩
      · skip
        have HR : Hid (evP x y = false) := Lib.hid (by unfold evP; rw [h9]; rfl)
        clear h9
        go_wp2_with fail
        go_ret
        exact ⟨ret_bool HR.out.symm, HwR⟩
      · skip
        have HR : Hid (evP x y = false) := Lib.hid (by unfold evP; rw [h9]; rfl)
        clear h9
        go_wp2_with fail
        go_ret
        exact ⟨ret_bool HR.out.symm, HwR⟩
      · skip
        have H9 := Lib.hid h9
        clear h9
        go_wp2_with fail
        go_roundw
        case rel => exact ⟨Or.inr (Or.inl ⟨rfl, H9.out⟩), Bs, HwR⟩
        case measure => simp [intOf]
    · have cu : wr.cell? ⟨bs, 1, none⟩ = some (.int .i64 y) := Bs.cell 1
      rcases HY.out with ⟨h0, h9⟩ | ⟨h0, h1, h9⟩ | ⟨h0, h1, h2, h9⟩ | ⟨h0, h1, h2, h9⟩
      · have h0 : (y.tmod 2 == 0) = false := beq_eq_false_iff_ne.2 h0
        have HR : Hid (evP x y = false) := Lib.hid (by unfold evP; rw [h9]; rw [hx]; rfl)
        clear h9 hx
        go_wp2_with fail
        go_ret
        exact ⟨ret_bool HR.out.symm, HwR⟩
      · skip
        have HR : Hid (evP x y = false) := Lib.hid (by unfold evP; rw [h9]; rw [hx]; rfl)
        clear h9 hx
        go_wp2_with fail
        go_ret
        exact ⟨ret_bool HR.out.symm, HwR⟩
      · skip
        have HR : Hid (evP x y = false) := Lib.hid (by unfold evP; rw [h9]; rw [hx]; rfl)
        clear h9 hx
        go_wp2_with fail
        go_ret
        exact ⟨ret_bool HR.out.symm, HwR⟩
      · have HXX := Lib.hid hx
        have H9 := Lib.hid h9
        clear h9 hx
        go_wp2_with fail
        go_roundw
        case rel => exact ⟨Or.inr (Or.inr ⟨rfl, HXX.out, H9.out⟩), Bs, HwR⟩
        case measure => simp [intOf]
    · have HR : Hid (evP x y = true) := Lib.hid (evP_of hx hy)
      clear hx hy
      go_wp2_with fail
      go_ret
      exact ⟨ret_bool HR.out.symm, HwR⟩
theorem reven16_any (x y : Int) (w : World) : Calls Try.prog 10 #[.agg #[.int .i64 x, .int .i64 y]] w fun e w' => e = .returned (.bool (evP x y)) ∧ Below w.heap.size w w' := reven16_core x y w (ev_ways x) (ev_ways y)
set_option maxHeartbeats 1000000 in
theorem right16_core (ax ay bx by1 cx cy : Int) (q1 q2 q3 : Bool) (w : World) (H1 : Hid (∀ W, Calls Try.prog 10 #[.agg #[.int .i64 ax, .int .i64 ay]] W fun e w' => e = .returned (.bool q1) ∧ Below W.heap.size W w')) (H2 : Hid (∀ W, Calls Try.prog 10 #[.agg #[.int .i64 bx, .int .i64 by1]] W fun e w' => e = .returned (.bool q2) ∧ Below W.heap.size W w')) (H3 : Hid (∀ W, Calls Try.prog 10 #[.agg #[.int .i64 cx, .int .i64 cy]] W fun e w' => e = .returned (.bool q3) ∧ Below W.heap.size W w')) :
    Calls Try.prog 11 #[.agg #[.int .i64 ax, .int .i64 ay], .agg #[.int .i64 bx, .int .i64 by1], .agg #[.int .i64 cx, .int .i64 cy]] w fun e w' => e = .returned (.bool (q1 && q2 && q3)) ∧ Below w.heap.size w w' := by
  cases q1
  · skip
    go_enter Try.func11, Try.ntmps11
    go_upto_region 1 with (go_big_may; first
      | (refine wl_box 23 _ _ rfl rfl (show _ = Value.agg #[.int .i64 ax, .int .i64 ay] from rfl) ?_; intro W1 ba Ba_1 l1 k1; have ga : w.heap.size ≤ ba := l1; have Hw1 := k1; clear l1 k1)
      | (refine wl_box 23 _ _ rfl rfl (show _ = Value.agg #[.int .i64 bx, .int .i64 by1] from rfl) ?_; intro W2 bb Bb_2 l2 k2; have gb : w.heap.size ≤ bb := Nat.le_trans Hw1.size l2; have nab : ba ≠ bb := Nat.ne_of_lt (Nat.lt_of_lt_of_le Ba_1.lt l2); have Ba_2 := Ba_1.keep k2; have Hw2 := bq_trans Hw1 k2; clear l2 k2 Ba_1 Hw1)
      | (refine wl_box 23 _ _ rfl rfl (show _ = Value.agg #[.int .i64 cx, .int .i64 cy] from rfl) ?_; intro W3 bc Bc_3 l3 k3; have gc : w.heap.size ≤ bc := Nat.le_trans Hw2.size l3; have nac : ba ≠ bc := Nat.ne_of_lt (Nat.lt_of_lt_of_le Ba_2.lt l3); have nbc : bb ≠ bc := Nat.ne_of_lt (Nat.lt_of_lt_of_le Bb_2.lt l3); have Ba_3 := Ba_2.keep k3; have Bb_3 := Bb_2.keep k3; have Hw3 := bq_trans Hw2 k3; clear l3 k3 Ba_2 Bb_2 Hw2))
    go_wp2_with (first
      | (refine wl_load 23 2 _ Try.underlying23 rfl szPt _ rfl rfl _ rfl _ _ Ba_3 rfl ?_)
      | (go_at_call 10; (with_reducible refine (H1.out _).mono ?_); rintro e W4 ⟨rfl, k4⟩; have Ba_4 := Ba_3.keep k4; have Bb_4 := Bb_3.keep k4; have Bc_4 := Bc_3.keep k4; have Hw4 := bq_trans Hw3 k4; clear k4 Ba_3 Bb_3 Bc_3 Hw3))
    go_ret
    exact ⟨rfl, Hw4⟩
  cases q2
  · skip
    go_enter Try.func11, Try.ntmps11
    go_upto_region 1 with (go_big_may; first
      | (refine wl_box 23 _ _ rfl rfl (show _ = Value.agg #[.int .i64 ax, .int .i64 ay] from rfl) ?_; intro W1 ba Ba_1 l1 k1; have ga : w.heap.size ≤ ba := l1; have Hw1 := k1; clear l1 k1)
      | (refine wl_box 23 _ _ rfl rfl (show _ = Value.agg #[.int .i64 bx, .int .i64 by1] from rfl) ?_; intro W2 bb Bb_2 l2 k2; have gb : w.heap.size ≤ bb := Nat.le_trans Hw1.size l2; have nab : ba ≠ bb := Nat.ne_of_lt (Nat.lt_of_lt_of_le Ba_1.lt l2); have Ba_2 := Ba_1.keep k2; have Hw2 := bq_trans Hw1 k2; clear l2 k2 Ba_1 Hw1)
      | (refine wl_box 23 _ _ rfl rfl (show _ = Value.agg #[.int .i64 cx, .int .i64 cy] from rfl) ?_; intro W3 bc Bc_3 l3 k3; have gc : w.heap.size ≤ bc := Nat.le_trans Hw2.size l3; have nac : ba ≠ bc := Nat.ne_of_lt (Nat.lt_of_lt_of_le Ba_2.lt l3); have nbc : bb ≠ bc := Nat.ne_of_lt (Nat.lt_of_lt_of_le Bb_2.lt l3); have Ba_3 := Ba_2.keep k3; have Bb_3 := Bb_2.keep k3; have Hw3 := bq_trans Hw2 k3; clear l3 k3 Ba_2 Bb_2 Hw2))
    go_wp2_with (first
      | (refine wl_load 23 2 _ Try.underlying23 rfl szPt _ rfl rfl _ rfl _ _ Ba_3 rfl ?_)
      | (go_at_call 10; (with_reducible refine (H1.out _).mono ?_); rintro e W4 ⟨rfl, k4⟩; have Ba_4 := Ba_3.keep k4; have Bb_4 := Bb_3.keep k4; have Bc_4 := Bc_3.keep k4; have Hw4 := bq_trans Hw3 k4; clear k4 Ba_3 Bb_3 Bc_3 Hw3)
      | (refine wlg_load 23 2 _ Try.underlying23 rfl szPt _ rfl rfl _ rfl _ _ Bb_4 rfl ?_)
      | (go_at_call 10; (with_reducible refine (H2.out _).mono ?_); rintro e W5 ⟨rfl, k5⟩; have Ba_5 := Ba_4.keep k5; have Bb_5 := Bb_4.keep k5; have Bc_5 := Bc_4.keep k5; have Hw5 := bq_trans Hw4 k5; clear k5 Ba_4 Bb_4 Bc_4 Hw4))
    go_ret
    exact ⟨rfl, Hw5⟩
  · skip
    go_enter Try.func11, Try.ntmps11
    go_upto_region 1 with (go_big_may; first
      | (refine wl_box 23 _ _ rfl rfl (show _ = Value.agg #[.int .i64 ax, .int .i64 ay] from rfl) ?_; intro W1 ba Ba_1 l1 k1; have ga : w.heap.size ≤ ba := l1; have Hw1 := k1; clear l1 k1)
      | (refine wl_box 23 _ _ rfl rfl (show _ = Value.agg #[.int .i64 bx, .int .i64 by1] from rfl) ?_; intro W2 bb Bb_2 l2 k2; have gb : w.heap.size ≤ bb := Nat.le_trans Hw1.size l2; have nab : ba ≠ bb := Nat.ne_of_lt (Nat.lt_of_lt_of_le Ba_1.lt l2); have Ba_2 := Ba_1.keep k2; have Hw2 := bq_trans Hw1 k2; clear l2 k2 Ba_1 Hw1)
      | (refine wl_box 23 _ _ rfl rfl (show _ = Value.agg #[.int .i64 cx, .int .i64 cy] from rfl) ?_; intro W3 bc Bc_3 l3 k3; have gc : w.heap.size ≤ bc := Nat.le_trans Hw2.size l3; have nac : ba ≠ bc := Nat.ne_of_lt (Nat.lt_of_lt_of_le Ba_2.lt l3); have nbc : bb ≠ bc := Nat.ne_of_lt (Nat.lt_of_lt_of_le Bb_2.lt l3); have Ba_3 := Ba_2.keep k3; have Bb_3 := Bb_2.keep k3; have Hw3 := bq_trans Hw2 k3; clear l3 k3 Ba_2 Bb_2 Hw2))
    go_wp2_with (first
      | (refine wl_load 23 2 _ Try.underlying23 rfl szPt _ rfl rfl _ rfl _ _ Ba_3 rfl ?_)
      | (go_at_call 10; (with_reducible refine (H1.out _).mono ?_); rintro e W4 ⟨rfl, k4⟩; have Ba_4 := Ba_3.keep k4; have Bb_4 := Bb_3.keep k4; have Bc_4 := Bc_3.keep k4; have Hw4 := bq_trans Hw3 k4; clear k4 Ba_3 Bb_3 Bc_3 Hw3)
      | (refine wlg_load 23 2 _ Try.underlying23 rfl szPt _ rfl rfl _ rfl _ _ Bb_4 rfl ?_)
      | (go_at_call 10; (with_reducible refine (H2.out _).mono ?_); rintro e W5 ⟨rfl, k5⟩; have Ba_5 := Ba_4.keep k5; have Bb_5 := Bb_4.keep k5; have Bc_5 := Bc_4.keep k5; have Hw5 := bq_trans Hw4 k5; clear k5 Ba_4 Bb_4 Bc_4 Hw4)
      | (refine wlg_load 23 2 _ Try.underlying23 rfl szPt _ rfl rfl _ rfl _ _ Bc_5 rfl ?_)
      | (go_at_call 10; (with_reducible refine (H3.out _).mono ?_); rintro e W6 ⟨rfl, k6⟩; have Ba_6 := Ba_5.keep k6; have Bb_6 := Bb_5.keep k6; have Bc_6 := Bc_5.keep k6; have Hw6 := bq_trans Hw5 k6; clear k6 Ba_5 Bb_5 Bc_5 Hw5))
    go_ret
    exact ⟨by cases q3 <;> rfl, Hw6⟩
theorem right16_any (ax ay bx by1 cx cy : Int) (w : World) : Calls Try.prog 11 #[.agg #[.int .i64 ax, .int .i64 ay], .agg #[.int .i64 bx, .int .i64 by1], .agg #[.int .i64 cx, .int .i64 cy]] w fun e w' => e = .returned (.bool (allE ax ay bx by1 cx cy)) ∧ Below w.heap.size w w' :=
  right16_core ax ay bx by1 cx cy _ _ _ w (Lib.hid (reven16_any ax ay)) (Lib.hid (reven16_any bx by1)) (Lib.hid (reven16_any cx cy))
set_option maxHeartbeats 2000000 in
theorem rbend16_core (ax ay bx by1 cx cy : Int) (w : World) (hax0 : -16777216 ≤ ax) (hax1 : ax ≤ 16777216) (hay0 : -16777216 ≤ ay) (hay1 : ay ≤ 16777216) (hbx0 : -16777216 ≤ bx) (hbx1 : bx ≤ 16777216) (hby10 : -16777216 ≤ by1) (hby11 : by1 ≤ 16777216) (hcx0 : -16777216 ≤ cx) (hcx1 : cx ≤ 16777216) (hcy0 : -16777216 ≤ cy) (hcy1 : cy ≤ 16777216) (HV : ∀ v0 v1 v2 v3 : Int, v0 = ax + cx - 2 * bx → v1 = ay + cy - 2 * by1 → v2 = 2 * bx - ax - cx → v3 = 2 * by1 - ay - cy → bendV ax ay bx by1 cx cy = (max (max (max (max 0 v0) v1) v2) v3)) :
    Calls Try.prog 16 #[.agg #[.int .i64 ax, .int .i64 ay], .agg #[.int .i64 bx, .int .i64 by1], .agg #[.int .i64 cx, .int .i64 cy]] w fun e w' => e = .returned (.int .i64 (bendV ax ay bx by1 cx cy)) ∧ Below w.heap.size w w' := by
  have HV2 := Lib.hid (HV _ _ _ _ rfl rfl rfl rfl)
  clear HV
  generalize bendV ax ay bx by1 cx cy = res at *
  go_enter Try.func16, Try.ntmps16
  go_upto_region 2 with (go_big_may; first
    | (refine wl_box 23 _ _ rfl rfl (show _ = Value.agg #[.int .i64 ax, .int .i64 ay] from rfl) ?_; intro W1 ba Ba_1 l1 k1; have ga : w.heap.size ≤ ba := l1; have Hw1 := k1; clear l1 k1)
    | (refine wl_box 23 _ _ rfl rfl (show _ = Value.agg #[.int .i64 bx, .int .i64 by1] from rfl) ?_; intro W2 bb Bb_2 l2 k2; have gb : w.heap.size ≤ bb := Nat.le_trans Hw1.size l2; have nab : ba ≠ bb := Nat.ne_of_lt (Nat.lt_of_lt_of_le Ba_1.lt l2); have Ba_2 := Ba_1.keep k2; have Hw2 := bq_trans Hw1 k2; clear l2 k2 Ba_1 Hw1)
    | (refine wl_box 23 _ _ rfl rfl (show _ = Value.agg #[.int .i64 cx, .int .i64 cy] from rfl) ?_; intro W3 bc Bc_3 l3 k3; have gc : w.heap.size ≤ bc := Nat.le_trans Hw2.size l3; have nac : ba ≠ bc := Nat.ne_of_lt (Nat.lt_of_lt_of_le Ba_2.lt l3); have nbc : bb ≠ bc := Nat.ne_of_lt (Nat.lt_of_lt_of_le Bb_2.lt l3); have Ba_3 := Ba_2.keep k3; have Bb_3 := Bb_2.keep k3; have Hw3 := bq_trans Hw2 k3; clear l3 k3 Ba_2 Bb_2 Hw2))
  have ca0 : W3.cell? ⟨ba, 0, none⟩ = some (.int .i64 ax) := Ba_3.cell 0
  have ca1 : W3.cell? ⟨ba, 1, none⟩ = some (.int .i64 ay) := Ba_3.cell 1
  have cb0 : W3.cell? ⟨bb, 0, none⟩ = some (.int .i64 bx) := Bb_3.cell 0
  have cb1 : W3.cell? ⟨bb, 1, none⟩ = some (.int .i64 by1) := Bb_3.cell 1
  have cc0 : W3.cell? ⟨bc, 0, none⟩ = some (.int .i64 cx) := Bc_3.cell 0
  have cc1 : W3.cell? ⟨bc, 1, none⟩ = some (.int .i64 cy) := Bc_3.cell 1
  go_wp2_with (first
    | (refine wlg_slice 35 3 4 _ _ (ints4_run (ax + cx - 2 * bx) (ay + cy - 2 * by1) (2 * bx - ax - cx) (2 * by1 - ay - cy)) _ rfl rfl rfl ?_; intro W4 bs Bs_4 l4 k4; have gs : w.heap.size ≤ bs := Nat.le_trans Hw3.size l4; have nas : ba ≠ bs := Nat.ne_of_lt (Nat.lt_of_lt_of_le Ba_3.lt l4); have nbs : bb ≠ bs := Nat.ne_of_lt (Nat.lt_of_lt_of_le Bb_3.lt l4); have ncs : bc ≠ bs := Nat.ne_of_lt (Nat.lt_of_lt_of_le Bc_3.lt l4); have Ba_4 := Ba_3.keep k4; have Bb_4 := Bb_3.keep k4; have Bc_4 := Bc_3.keep k4; have Hw4 := bq_trans Hw3 k4; clear l4 k4 Ba_3 Bb_3 Bc_3 Hw3))
  clear hax0 hax1 hay0 hay1 hbx0 hbx1 hby10 hby11 hcx0 hcx1 hcy0 hcy1 Ba_4 Bb_4 Bc_4
  have B9 : Blk W4 bs (iA [(ax + cx - 2 * bx), (ay + cy - 2 * by1), (2 * bx - ax - cx), (2 * by1 - ay - cy)]) 3 := Bs_4
  clear Bs_4
  generalize ax + cx - 2 * bx = v0 at *
  generalize ay + cy - 2 * by1 = v1 at *
  generalize 2 * bx - ax - cx = v2 at *
  generalize 2 * by1 - ay - cy = v3 at *
  go_loopw [7, 48] (fun t i wr => (∃ m : Int, t = .int .i64 m ∧ ((i = .int .i64 0 ∧ m = 0) ∨ (i = .int .i64 1 ∧ m = (max 0 v0)) ∨ (i = .int .i64 2 ∧ m = (max (max 0 v0) v1)) ∨ (i = .int .i64 3 ∧ m = (max (max (max 0 v0) v1) v2)) ∨ (i = .int .i64 4 ∧ m = (max (max (max (max 0 v0) v1) v2) v3)))) ∧ Blk wr bs (iA [v0, v1, v2, v3]) 3 ∧ Below w.heap.size w wr) (fun _ i _ => 4 - (intOf i).toNat)
  case atStart => exact ⟨⟨0, rfl, Or.inl ⟨rfl, rfl⟩⟩, B9, Hw4⟩
  case round =>
    obtain ⟨⟨m, rfl, hd⟩, Bs, HwR⟩ := hrel
    clear B9 Hw4
    rcases hd with ⟨rfl, hm⟩ | ⟨rfl, hm⟩ | ⟨rfl, hm⟩ | ⟨rfl, hm⟩ | ⟨rfl, hm⟩
    · have cu : wr.cell? ⟨bs, 0, none⟩ = some (.int .i64 v0) := Bs.cell 0
      have HM := Lib.hid hm
      clear hm
      by_cases hc : m < v0
      · go_wp2_with fail
        go_roundw
        case rel => exact ⟨⟨v0, rfl, Or.inr (Or.inl ⟨rfl, by have h9 := HM.out; omega⟩)⟩, Bs, HwR⟩
        case measure => simp [intOf]
      · go_wp2_with fail
        go_roundw
        case rel => exact ⟨⟨m, rfl, Or.inr (Or.inl ⟨rfl, by have h9 := HM.out; omega⟩)⟩, Bs, HwR⟩
        case measure => simp [intOf]
    · have cu : wr.cell? ⟨bs, 1, none⟩ = some (.int .i64 v1) := Bs.cell 1
      have HM := Lib.hid hm
      clear hm
      by_cases hc : m < v1
      · go_wp2_with fail
        go_roundw
        case rel => exact ⟨⟨v1, rfl, Or.inr (Or.inr (Or.inl ⟨rfl, by have h9 := HM.out; omega⟩))⟩, Bs, HwR⟩
        case measure => simp [intOf]
      · go_wp2_with fail
        go_roundw
        case rel => exact ⟨⟨m, rfl, Or.inr (Or.inr (Or.inl ⟨rfl, by have h9 := HM.out; omega⟩))⟩, Bs, HwR⟩
        case measure => simp [intOf]
    · have cu : wr.cell? ⟨bs, 2, none⟩ = some (.int .i64 v2) := Bs.cell 2
      have HM := Lib.hid hm
      clear hm
      by_cases hc : m < v2
      · go_wp2_with fail
        go_roundw
        case rel => exact ⟨⟨v2, rfl, Or.inr (Or.inr (Or.inr (Or.inl ⟨rfl, by have h9 := HM.out; omega⟩)))⟩, Bs, HwR⟩
        case measure => simp [intOf]
      · go_wp2_with fail
        go_roundw
        case rel => exact ⟨⟨m, rfl, Or.inr (Or.inr (Or.inr (Or.inl ⟨rfl, by have h9 := HM.out; omega⟩)))⟩, Bs, HwR⟩
        case measure => simp [intOf]
    · have cu : wr.cell? ⟨bs, 3, none⟩ = some (.int .i64 v3) := Bs.cell 3
      have HM := Lib.hid hm
      clear hm
      by_cases hc : m < v3
      · go_wp2_with fail
        go_roundw
        case rel => exact ⟨⟨v3, rfl, Or.inr (Or.inr (Or.inr (Or.inr (⟨rfl, by have h9 := HM.out; omega⟩))))⟩, Bs, HwR⟩
        case measure => simp [intOf]
      · go_wp2_with fail
        go_roundw
        case rel => exact ⟨⟨m, rfl, Or.inr (Or.inr (Or.inr (Or.inr (⟨rfl, by have h9 := HM.out; omega⟩))))⟩, Bs, HwR⟩
        case measure => simp [intOf]
    · have HM := Lib.hid hm
      clear hm
      go_wp2_with fail
      go_ret
      exact ⟨ret_int (HM.out.trans HV2.out.symm), HwR⟩
theorem rbend16_any (ax ay bx by1 cx cy : Int) (w : World) (q : allE ax ay bx by1 cx cy = true) : Calls Try.prog 16 #[.agg #[.int .i64 ax, .int .i64 ay], .agg #[.int .i64 bx, .int .i64 by1], .agg #[.int .i64 cx, .int .i64 cy]] w fun e w' => e = .returned (.int .i64 (bendV ax ay bx by1 cx cy)) ∧ Below w.heap.size w w' := by
  obtain ⟨a1, a2, b1, b2, c1, c2⟩ := allE_bd q
  exact rbend16_core ax ay bx by1 cx cy w a1.1.1 a1.1.2 a2.1.1 a2.1.2 b1.1.1 b1.1.2 b2.1.1 b2.1.2 c1.1.1 c1.1.2 c2.1.1 c2.1.2 (fun v0 v1 v2 v3 e0 e1 e2 e3 => by unfold bendV bnd; omega)
set_option maxHeartbeats 2000000 in
theorem rpieces16_core (ax ay bx by1 cx cy d : Int) (w : World) (H1 : Hid (∀ W, Calls Try.prog 16 #[.agg #[.int .i64 ax, .int .i64 ay], .agg #[.int .i64 bx, .int .i64 by1], .agg #[.int .i64 cx, .int .i64 cy]] W fun e w' => e = .returned (.int .i64 d) ∧ Below W.heap.size W w')) :
    Calls Try.prog 17 #[.agg #[.int .i64 ax, .int .i64 ay], .agg #[.int .i64 bx, .int .i64 by1], .agg #[.int .i64 cx, .int .i64 cy]] w fun e w' => e = .returned (.int .i64 (pie d : Int)) ∧ Below w.heap.size w w' := by
  have HP := Lib.hid (pie_is d)
  go_enter Try.func17, Try.ntmps17
  go_upto_region 1 with (go_big_may; first
    | (refine wl_box 23 _ _ rfl rfl (show _ = Value.agg #[.int .i64 ax, .int .i64 ay] from rfl) ?_; intro W1 ba Ba_1 l1 k1; have ga : w.heap.size ≤ ba := l1; have Hw1 := k1; clear l1 k1)
    | (refine wl_box 23 _ _ rfl rfl (show _ = Value.agg #[.int .i64 bx, .int .i64 by1] from rfl) ?_; intro W2 bb Bb_2 l2 k2; have gb : w.heap.size ≤ bb := Nat.le_trans Hw1.size l2; have nab : ba ≠ bb := Nat.ne_of_lt (Nat.lt_of_lt_of_le Ba_1.lt l2); have Ba_2 := Ba_1.keep k2; have Hw2 := bq_trans Hw1 k2; clear l2 k2 Ba_1 Hw1)
    | (refine wl_box 23 _ _ rfl rfl (show _ = Value.agg #[.int .i64 cx, .int .i64 cy] from rfl) ?_; intro W3 bc Bc_3 l3 k3; have gc : w.heap.size ≤ bc := Nat.le_trans Hw2.size l3; have nac : ba ≠ bc := Nat.ne_of_lt (Nat.lt_of_lt_of_le Ba_2.lt l3); have nbc : bb ≠ bc := Nat.ne_of_lt (Nat.lt_of_lt_of_le Bb_2.lt l3); have Ba_3 := Ba_2.keep k3; have Bb_3 := Bb_2.keep k3; have Hw3 := bq_trans Hw2 k3; clear l3 k3 Ba_2 Bb_2 Hw2))
  go_wp2_with (first
    | (refine wlg_slice 35 3 5 _ _ (ints5_run 1 2 4 8 16) _ rfl rfl rfl ?_; intro W4 bs Bs_4 l4 k4; have gs : w.heap.size ≤ bs := Nat.le_trans Hw3.size l4; have nas : ba ≠ bs := Nat.ne_of_lt (Nat.lt_of_lt_of_le Ba_3.lt l4); have nbs : bb ≠ bs := Nat.ne_of_lt (Nat.lt_of_lt_of_le Bb_3.lt l4); have ncs : bc ≠ bs := Nat.ne_of_lt (Nat.lt_of_lt_of_le Bc_3.lt l4); have Ba_4 := Ba_3.keep k4; have Bb_4 := Bb_3.keep k4; have Bc_4 := Bc_3.keep k4; have Hw4 := bq_trans Hw3 k4; clear l4 k4 Ba_3 Bb_3 Bc_3 Hw3))
  go_loopw [11] (fun i wr => ((i = .int .i64 0) ∨ (i = .int .i64 1 ∧ 8 < d) ∨ (i = .int .i64 2 ∧ 32 < d) ∨ (i = .int .i64 3 ∧ 128 < d) ∨ (i = .int .i64 4 ∧ 512 < d) ∨ (i = .int .i64 5 ∧ 2048 < d)) ∧ Blk wr ba #[.int .i64 ax, .int .i64 ay] 23 ∧ Blk wr bb #[.int .i64 bx, .int .i64 by1] 23 ∧ Blk wr bc #[.int .i64 cx, .int .i64 cy] 23 ∧ Blk wr bs (iA [1, 2, 4, 8, 16]) 3 ∧ Below w.heap.size w wr) (fun i _ => 5 - (intOf i).toNat)
  case atStart => exact ⟨Or.inl rfl, Ba_4, Bb_4, Bc_4, Bs_4, Hw4⟩
  case round =>
    obtain ⟨hd, Ba, Bb, Bc, Bs, HwR⟩ := hrel
    clear Ba_4 Bb_4 Bc_4 Bs_4 Hw4
    rcases hd with rfl | ⟨rfl, hd⟩ | ⟨rfl, hd⟩ | ⟨rfl, hd⟩ | ⟨rfl, hd⟩ | ⟨rfl, hd⟩
    · have cu : wr.cell? ⟨bs, 0, none⟩ = some (.int .i64 1) := Bs.cell 0
      by_cases hc : 8 < d
      · skip
        go_wp2_with (first
          | (refine wl_load 23 2 _ Try.underlying23 rfl szPt _ rfl rfl _ rfl _ _ Ba rfl ?_)
          | (refine wl_load 23 2 _ Try.underlying23 rfl szPt _ rfl rfl _ rfl _ _ Bb rfl ?_)
          | (refine wl_load 23 2 _ Try.underlying23 rfl szPt _ rfl rfl _ rfl _ _ Bc rfl ?_)
          | (go_at_call 16; (with_reducible refine (H1.out _).mono ?_); rintro e W21 ⟨rfl, k21⟩; have Ba_21 := Ba.keep k21; have Bb_21 := Bb.keep k21; have Bc_21 := Bc.keep k21; have Bs_21 := Bs.keep k21; have Hw21 := k21; clear k21 Ba Bb Bc Bs))
        go_roundw
        case rel => exact ⟨Or.inr (Or.inl ⟨rfl, hc⟩), Ba_21, Bb_21, Bc_21, Bs_21, bq_trans HwR Hw21⟩
        case measure => simp [intOf]
      · have HR : Hid (pie d = 1) := Lib.hid (by have h := HP.out; omega)
        go_wp2_with (first
          | (refine wl_load 23 2 _ Try.underlying23 rfl szPt _ rfl rfl _ rfl _ _ Ba rfl ?_)
          | (refine wl_load 23 2 _ Try.underlying23 rfl szPt _ rfl rfl _ rfl _ _ Bb rfl ?_)
          | (refine wl_load 23 2 _ Try.underlying23 rfl szPt _ rfl rfl _ rfl _ _ Bc rfl ?_)
          | (go_at_call 16; (with_reducible refine (H1.out _).mono ?_); rintro e W21 ⟨rfl, k21⟩; have Ba_21 := Ba.keep k21; have Bb_21 := Bb.keep k21; have Bc_21 := Bc.keep k21; have Bs_21 := Bs.keep k21; have Hw21 := k21; clear k21 Ba Bb Bc Bs))
        go_ret
        exact ⟨ret_int (by rw [HR.out]; rfl), bq_trans HwR Hw21⟩
    · have cu : wr.cell? ⟨bs, 1, none⟩ = some (.int .i64 2) := Bs.cell 1
      by_cases hc : 32 < d
      · skip
        go_wp2_with (first
          | (refine wl_load 23 2 _ Try.underlying23 rfl szPt _ rfl rfl _ rfl _ _ Ba rfl ?_)
          | (refine wl_load 23 2 _ Try.underlying23 rfl szPt _ rfl rfl _ rfl _ _ Bb rfl ?_)
          | (refine wl_load 23 2 _ Try.underlying23 rfl szPt _ rfl rfl _ rfl _ _ Bc rfl ?_)
          | (go_at_call 16; (with_reducible refine (H1.out _).mono ?_); rintro e W21 ⟨rfl, k21⟩; have Ba_21 := Ba.keep k21; have Bb_21 := Bb.keep k21; have Bc_21 := Bc.keep k21; have Bs_21 := Bs.keep k21; have Hw21 := k21; clear k21 Ba Bb Bc Bs))
        go_roundw
        case rel => exact ⟨Or.inr (Or.inr (Or.inl ⟨rfl, hc⟩)), Ba_21, Bb_21, Bc_21, Bs_21, bq_trans HwR Hw21⟩
        case measure => simp [intOf]
      · have HR : Hid (pie d = 2) := Lib.hid (by have h := HP.out; omega)
        go_wp2_with (first
          | (refine wl_load 23 2 _ Try.underlying23 rfl szPt _ rfl rfl _ rfl _ _ Ba rfl ?_)
          | (refine wl_load 23 2 _ Try.underlying23 rfl szPt _ rfl rfl _ rfl _ _ Bb rfl ?_)
          | (refine wl_load 23 2 _ Try.underlying23 rfl szPt _ rfl rfl _ rfl _ _ Bc rfl ?_)
          | (go_at_call 16; (with_reducible refine (H1.out _).mono ?_); rintro e W21 ⟨rfl, k21⟩; have Ba_21 := Ba.keep k21; have Bb_21 := Bb.keep k21; have Bc_21 := Bc.keep k21; have Bs_21 := Bs.keep k21; have Hw21 := k21; clear k21 Ba Bb Bc Bs))
        go_ret
        exact ⟨ret_int (by rw [HR.out]; rfl), bq_trans HwR Hw21⟩
    · have cu : wr.cell? ⟨bs, 2, none⟩ = some (.int .i64 4) := Bs.cell 2
      by_cases hc : 128 < d
      · skip
        go_wp2_with (first
          | (refine wl_load 23 2 _ Try.underlying23 rfl szPt _ rfl rfl _ rfl _ _ Ba rfl ?_)
          | (refine wl_load 23 2 _ Try.underlying23 rfl szPt _ rfl rfl _ rfl _ _ Bb rfl ?_)
          | (refine wl_load 23 2 _ Try.underlying23 rfl szPt _ rfl rfl _ rfl _ _ Bc rfl ?_)
          | (go_at_call 16; (with_reducible refine (H1.out _).mono ?_); rintro e W21 ⟨rfl, k21⟩; have Ba_21 := Ba.keep k21; have Bb_21 := Bb.keep k21; have Bc_21 := Bc.keep k21; have Bs_21 := Bs.keep k21; have Hw21 := k21; clear k21 Ba Bb Bc Bs))
        go_roundw
        case rel => exact ⟨Or.inr (Or.inr (Or.inr (Or.inl ⟨rfl, hc⟩))), Ba_21, Bb_21, Bc_21, Bs_21, bq_trans HwR Hw21⟩
        case measure => simp [intOf]
      · have HR : Hid (pie d = 4) := Lib.hid (by have h := HP.out; omega)
        go_wp2_with (first
          | (refine wl_load 23 2 _ Try.underlying23 rfl szPt _ rfl rfl _ rfl _ _ Ba rfl ?_)
          | (refine wl_load 23 2 _ Try.underlying23 rfl szPt _ rfl rfl _ rfl _ _ Bb rfl ?_)
          | (refine wl_load 23 2 _ Try.underlying23 rfl szPt _ rfl rfl _ rfl _ _ Bc rfl ?_)
          | (go_at_call 16; (with_reducible refine (H1.out _).mono ?_); rintro e W21 ⟨rfl, k21⟩; have Ba_21 := Ba.keep k21; have Bb_21 := Bb.keep k21; have Bc_21 := Bc.keep k21; have Bs_21 := Bs.keep k21; have Hw21 := k21; clear k21 Ba Bb Bc Bs))
        go_ret
        exact ⟨ret_int (by rw [HR.out]; rfl), bq_trans HwR Hw21⟩
    · have cu : wr.cell? ⟨bs, 3, none⟩ = some (.int .i64 8) := Bs.cell 3
      by_cases hc : 512 < d
      · skip
        go_wp2_with (first
          | (refine wl_load 23 2 _ Try.underlying23 rfl szPt _ rfl rfl _ rfl _ _ Ba rfl ?_)
          | (refine wl_load 23 2 _ Try.underlying23 rfl szPt _ rfl rfl _ rfl _ _ Bb rfl ?_)
          | (refine wl_load 23 2 _ Try.underlying23 rfl szPt _ rfl rfl _ rfl _ _ Bc rfl ?_)
          | (go_at_call 16; (with_reducible refine (H1.out _).mono ?_); rintro e W21 ⟨rfl, k21⟩; have Ba_21 := Ba.keep k21; have Bb_21 := Bb.keep k21; have Bc_21 := Bc.keep k21; have Bs_21 := Bs.keep k21; have Hw21 := k21; clear k21 Ba Bb Bc Bs))
        go_roundw
        case rel => exact ⟨Or.inr (Or.inr (Or.inr (Or.inr (Or.inl ⟨rfl, hc⟩)))), Ba_21, Bb_21, Bc_21, Bs_21, bq_trans HwR Hw21⟩
        case measure => simp [intOf]
      · have HR : Hid (pie d = 8) := Lib.hid (by have h := HP.out; omega)
        go_wp2_with (first
          | (refine wl_load 23 2 _ Try.underlying23 rfl szPt _ rfl rfl _ rfl _ _ Ba rfl ?_)
          | (refine wl_load 23 2 _ Try.underlying23 rfl szPt _ rfl rfl _ rfl _ _ Bb rfl ?_)
          | (refine wl_load 23 2 _ Try.underlying23 rfl szPt _ rfl rfl _ rfl _ _ Bc rfl ?_)
          | (go_at_call 16; (with_reducible refine (H1.out _).mono ?_); rintro e W21 ⟨rfl, k21⟩; have Ba_21 := Ba.keep k21; have Bb_21 := Bb.keep k21; have Bc_21 := Bc.keep k21; have Bs_21 := Bs.keep k21; have Hw21 := k21; clear k21 Ba Bb Bc Bs))
        go_ret
        exact ⟨ret_int (by rw [HR.out]; rfl), bq_trans HwR Hw21⟩
    · have cu : wr.cell? ⟨bs, 4, none⟩ = some (.int .i64 16) := Bs.cell 4
      by_cases hc : 2048 < d
      · skip
        go_wp2_with (first
          | (refine wl_load 23 2 _ Try.underlying23 rfl szPt _ rfl rfl _ rfl _ _ Ba rfl ?_)
          | (refine wl_load 23 2 _ Try.underlying23 rfl szPt _ rfl rfl _ rfl _ _ Bb rfl ?_)
          | (refine wl_load 23 2 _ Try.underlying23 rfl szPt _ rfl rfl _ rfl _ _ Bc rfl ?_)
          | (go_at_call 16; (with_reducible refine (H1.out _).mono ?_); rintro e W21 ⟨rfl, k21⟩; have Ba_21 := Ba.keep k21; have Bb_21 := Bb.keep k21; have Bc_21 := Bc.keep k21; have Bs_21 := Bs.keep k21; have Hw21 := k21; clear k21 Ba Bb Bc Bs))
        go_roundw
        case rel => exact ⟨Or.inr (Or.inr (Or.inr (Or.inr (Or.inr (⟨rfl, hc⟩))))), Ba_21, Bb_21, Bc_21, Bs_21, bq_trans HwR Hw21⟩
        case measure => simp [intOf]
      · have HR : Hid (pie d = 16) := Lib.hid (by have h := HP.out; omega)
        go_wp2_with (first
          | (refine wl_load 23 2 _ Try.underlying23 rfl szPt _ rfl rfl _ rfl _ _ Ba rfl ?_)
          | (refine wl_load 23 2 _ Try.underlying23 rfl szPt _ rfl rfl _ rfl _ _ Bb rfl ?_)
          | (refine wl_load 23 2 _ Try.underlying23 rfl szPt _ rfl rfl _ rfl _ _ Bc rfl ?_)
          | (go_at_call 16; (with_reducible refine (H1.out _).mono ?_); rintro e W21 ⟨rfl, k21⟩; have Ba_21 := Ba.keep k21; have Bb_21 := Bb.keep k21; have Bc_21 := Bc.keep k21; have Bs_21 := Bs.keep k21; have Hw21 := k21; clear k21 Ba Bb Bc Bs))
        go_ret
        exact ⟨ret_int (by rw [HR.out]; rfl), bq_trans HwR Hw21⟩
    · have HR : Hid (pie d = 32) := Lib.hid (by have h := HP.out; omega)
      go_wp2_with fail
      go_ret
      exact ⟨ret_int (by rw [HR.out]; rfl), HwR⟩
theorem rpieces16_any (ax ay bx by1 cx cy : Int) (w : World) (q : allE ax ay bx by1 cx cy = true) : Calls Try.prog 17 #[.agg #[.int .i64 ax, .int .i64 ay], .agg #[.int .i64 bx, .int .i64 by1], .agg #[.int .i64 cx, .int .i64 cy]] w fun e w' => e = .returned (.int .i64 (pie (bendV ax ay bx by1 cx cy) : Int)) ∧ Below w.heap.size w w' :=
  rpieces16_core ax ay bx by1 cx cy _ w (Lib.hid fun W => rbend16_any ax ay bx by1 cx cy W q)
set_option maxHeartbeats 1000000 in
theorem rnear16_core (m d q r x : Int) (w : World) (m0 : -4611686018427387904 ≤ m) (m1 : m ≤ 4611686018427387903) (hd : 0 < d) (hd2 : d ≤ 1048576) (hz : (2 * d == 0) = false) (k1 : (m + d == -9223372036854775808) = false)
    (e1 : (m + d).tdiv (2 * d) = q) (e2 : (m + d).tmod (2 * d) = r) (q0 : -2305843009213693952 ≤ q) (q1 : q ≤ 2305843009213693951) (hx : Hid (r < 0 ∧ x = q - 1 ∨ 0 ≤ r ∧ x = q)) :
    Calls Try.prog 27 #[.int .i64 m, .int .i64 d] w fun e w' => e = .returned (.int .i64 (2 * x)) ∧ w = w' := by
  rcases hx.out with ⟨h1, h2⟩ | ⟨h1, h2⟩
  all_goals
    have H2 := Lib.hid h2
    clear hx h2
    go_enter Try.func27, Try.ntmps27
    go_wp2_with fail
    go_ret
    exact ⟨ret_int (by rw [H2.out]), rfl⟩
theorem rnear16_any (m d : Int) (w : World) (m0 : -4611686018427387904 ≤ m) (m1 : m ≤ 4611686018426338303) (hd : 0 < d) (hd2 : d ≤ 1048576) :
    Calls Try.prog 27 #[.int .i64 m, .int .i64 d] w fun e w' => e = .returned (.int .i64 (2 * ((m + d) / (2 * d)))) ∧ Below w.heap.size w w' := by
  have key : (m + d).tmod (2 * d) < 0 ∧ (m + d) / (2 * d) = (m + d).tdiv (2 * d) - 1 ∨ 0 ≤ (m + d).tmod (2 * d) ∧ (m + d) / (2 * d) = (m + d).tdiv (2 * d) := by
    have h := M1.fdiv_same (m + d) (2 * d) (by omega)
    have h2 := M1.fdiv_less (m + d) (2 * d) (by omega)
    rw [← fdiv_pos _ _ (show 0 < 2 * d by omega)]
    by_cases hr : (m + d).tmod (2 * d) < 0
    · exact Or.inl ⟨hr, (h2 (Or.inl ⟨hr, by omega⟩)).1⟩
    · refine Or.inr ⟨by omega, (h ?_).1⟩
      by_cases hr2 : (m + d).tmod (2 * d) = 0
      · exact Or.inl hr2
      · exact Or.inr (Or.inr ⟨by omega, by omega⟩)
  have bq := fdiv_small (m + d) (2 * d) 4611686018427387904 (by omega) (by omega)
  rw [fdiv_pos _ _ (show 0 < 2 * d by omega)] at bq
  have b2 : -2305843009213693952 ≤ (m + d) / (2 * d) ∧ (m + d) / (2 * d) ≤ 2305843009213693950 := by
    have h1 := Int.ediv_mul_le (m + d) (show 2 * d ≠ 0 by omega)
    have h2 := Int.lt_ediv_add_one_mul_self (m + d) (show 0 < 2 * d by omega)
    generalize (m + d) / (2 * d) = z at *
    constructor
    · apply Decidable.byContradiction
      intro hn
      have h3 : (z + 1) * (2 * d) ≤ -2305843009213693952 * (2 * d) := Int.mul_le_mul_of_nonneg_right (by omega) (by omega)
      omega
    · apply Decidable.byContradiction
      intro hn
      have h3 : 2305843009213693951 * (2 * d) ≤ z * (2 * d) := Int.mul_le_mul_of_nonneg_right (by omega) (by omega)
      omega
  exact (rnear16_core m d _ _ _ w m0 (by omega) hd hd2 (by simp; omega) (by simp; omega) rfl rfl (by omega) (by omega) (Lib.hid key)).mono fun e w' ⟨h1, h2⟩ => ⟨h1, h2 ▸ bq_refl w⟩
set_option maxHeartbeats 1000000 in
theorem rpart16_core (a b c i n l p1 p2 p3 p4 s1 s2 s x : Int) (w : World) (hl : n - i = l) (hn0 : 0 ≤ n) (hn1 : n ≤ 32) (hi0 : 0 ≤ i) (hi1 : i ≤ n)
    (e1 : wrap64 (a * l) = p1) (e2 : wrap64 (b * i) = p2) (e3 : wrap64 (b * l) = p3) (e4 : wrap64 (c * i) = p4) (e5 : wrap64 ((p1 + p2) * l) = s1) (e6 : wrap64 ((p3 + p4) * i) = s2) (e7 : wrap64 (n * n) = s) (h1 : (-9223372036854775808 ≤ p1 + p2 ∧ p1 + p2 ≤ 9223372036854775807)) (h2 : (-9223372036854775808 ≤ p3 + p4 ∧ p3 + p4 ≤ 9223372036854775807)) (h3 : (-9223372036854775808 ≤ s1 + s2 ∧ s1 + s2 ≤ 9223372036854775807))
    (H : Hid (∀ W, Calls Try.prog 27 #[.int .i64 (s1 + s2), .int .i64 s] W fun e w' => e = .returned (.int .i64 x) ∧ Below W.heap.size W w')) :
    Calls Try.prog 25 #[.int .i64 a, .int .i64 b, .int .i64 c, .int .i64 i, .int .i64 n] w fun e w' => e = .returned (.int .i64 x) ∧ Below w.heap.size w w' := by
  obtain ⟨h1, h1b⟩ := h1
  obtain ⟨h2, h2b⟩ := h2
  obtain ⟨h3, h3b⟩ := h3
  go_enter Try.func25, Try.ntmps25
  go_wp2_with (go_at_call 27; (with_reducible refine (H.out _).mono ?_); rintro e w' ⟨rfl, k1⟩)
  go_ret
  exact ⟨rfl, k1⟩
theorem rpart16_any (a b c i n : Int) (w : World) (ha : In24 a) (hb : In24 b) (hc : In24 c) (hi : 0 ≤ i ∧ i ≤ n) (hn : 0 < n ∧ n ≤ 32) :
    Calls Try.prog 25 #[.int .i64 a, .int .i64 b, .int .i64 c, .int .i64 i, .int .i64 n] w fun e w' => e = .returned (.int .i64 (ptV a b c i n)) ∧ Below w.heap.size w w' := by
  have hl2 : -32 ≤ n - i ∧ n - i ≤ 32 := by omega
  have hi2 : -32 ≤ i ∧ i ≤ 32 := by omega
  have m1 := mul_bd 16777216 32 ha hl2
  have m2 := mul_bd 16777216 32 hb hi2
  have m3 := mul_bd 16777216 32 hb hl2
  have m4 := mul_bd 16777216 32 hc hi2
  have m5 := mul_bd 1073741824 32 (a := a * (n - i) + b * i) (by omega) hl2
  have m6 := mul_bd 1073741824 32 (a := b * (n - i) + c * i) (by omega) hi2
  have m7 := mul_bd 32 32 (show -32 ≤ n ∧ n ≤ 32 by omega) (show -32 ≤ n ∧ n ≤ 32 by omega)
  have hs := sq_pos hn.1
  have e : (a * (n - i) + b * i) * (n - i) + (b * (n - i) + c * i) * i = num a b c i n := by unfold num; grind
  refine rpart16_core a b c i n (n - i) _ _ _ _ _ _ _ _ w rfl (by omega) hn.2 hi.1 hi.2 (w64 _ (by omega)) (w64 _ (by omega)) (w64 _ (by omega)) (w64 _ (by omega)) (w64 _ (by omega)) (w64 _ (by omega)) (w64 _ (by omega)) (by omega) (by omega) (by omega) (Lib.hid fun W => ?_)
  have hb2 : -68719476736 ≤ num a b c i n ∧ num a b c i n ≤ 68719476736 := by rw [← e]; omega
  rw [e]
  exact rnear16_any (num a b c i n) (n * n) W (by omega) (by omega) hs (by omega)
set_option maxHeartbeats 1000000 in
theorem way16_core (a b c i n l p1 p2 q1 q2 r1 r2 : Int) (w : World) (hl : n - i = l) (hb0 : -16777216 ≤ b) (hb1 : b ≤ 16777216) (hn0 : 0 ≤ n) (hn1 : n ≤ 64) (hi0 : 0 ≤ i) (hi1 : i ≤ n)
    (e1 : wrap64 (a * l) = p1) (e2 : wrap64 (p1 * l) = p2) (e3 : wrap64 (2 * b * i) = q1) (e4 : wrap64 (q1 * l) = q2) (e5 : wrap64 (c * i) = r1) (e6 : wrap64 (r1 * i) = r2) (h1 : (-9223372036854775808 ≤ p2 + q2 ∧ p2 + q2 ≤ 9223372036854775807)) (h2 : (-9223372036854775808 ≤ p2 + q2 + r2 ∧ p2 + q2 + r2 ≤ 9223372036854775807)) :
    Calls Try.prog 18 #[.int .i64 a, .int .i64 b, .int .i64 c, .int .i64 i, .int .i64 n] w fun e w' => e = .returned (.int .i64 (p2 + q2 + r2)) ∧ w = w' := by
  obtain ⟨h1, h1b⟩ := h1
  obtain ⟨h2, h2b⟩ := h2
  go_enter Try.func18, Try.ntmps18
  go_wp2_with fail
  go_ret
  exact ⟨rfl, rfl⟩
theorem way16_any (a b c i n : Int) (w : World) (ha : In24 a) (hb : In24 b) (hc : In24 c) (hi : 0 ≤ i ∧ i ≤ n) (hn : 0 < n ∧ n ≤ 64) :
    Calls Try.prog 18 #[.int .i64 a, .int .i64 b, .int .i64 c, .int .i64 i, .int .i64 n] w fun e w' => e = .returned (.int .i64 (num a b c i n)) ∧ Below w.heap.size w w' := by
  have hl2 : -64 ≤ n - i ∧ n - i ≤ 64 := by omega
  have hi2 : -64 ≤ i ∧ i ≤ 64 := by omega
  have m1 := mul_bd 16777216 64 ha hl2
  have m2 := mul_bd 1073741824 64 (a := a * (n - i)) (by omega) hl2
  have m3 := mul_bd 33554432 64 (show -33554432 ≤ 2 * b ∧ 2 * b ≤ 33554432 by omega) hi2
  have m4 := mul_bd 2147483648 64 (a := 2 * b * i) (by omega) hl2
  have m5 := mul_bd 16777216 64 hc hi2
  have m6 := mul_bd 1073741824 64 (a := c * i) (by omega) hi2
  exact (way16_core a b c i n (n - i) _ _ _ _ _ _ w rfl hb.1 hb.2 (by omega) hn.2 hi.1 hi.2 (w64 _ (by omega)) (w64 _ (by omega)) (w64 _ (by omega)) (w64 _ (by omega)) (w64 _ (by omega)) (w64 _ (by omega)) (by omega) (by omega)).mono fun e w' ⟨h1, h2⟩ => ⟨h1, h2 ▸ bq_refl w⟩
theorem beside16_no (a b m : Int) (w : World) (a0 : -1000000000000 ≤ a) (a1 : a ≤ 1000000000000) (b0 : -1000000000000 ≤ b) (b1 : b ≤ 1000000000000) (h1 : a - b ≤ m) (h2 : b - a ≤ m) :
    Calls Try.prog 19 #[.int .i64 a, .int .i64 b, .int .i64 m] w fun e w' => e = .returned (.bool false) ∧ Below w.heap.size w w' := by
  go_enter Try.func19, Try.ntmps19
  go_wp2_with fail
  go_ret
  exact ⟨ret_bool (by simp; omega), bq_refl w⟩
end Go.Proofs.Ytpeknlablcgchaa
