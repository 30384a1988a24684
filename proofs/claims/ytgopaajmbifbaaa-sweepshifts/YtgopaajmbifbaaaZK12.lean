import Derived.Test.YtgopaajmbifbaaaZK10
import Derived.Test.YtgopaajmbifbaaaZK11
namespace Go.Proofs.Ytgopaajmbifbaaa
open Go.RowKit
set_option linter.unusedVariables false
set_option linter.unusedSimpArgs false
set_option maxRecDepth 100000
def shS (dx dy : Int) (s : Sg) : Sg := ⟨s.ax + dx, s.ay + dy, s.bx + dx, s.by1 + dy, s.l, s.r⟩
theorem dn_sh (dx dy : Int) (s : Sg) : dnS (shS dx dy s) = shS dx dy (dnS s) := by
  unfold dnS shS
  simp only
  by_cases h : s.by1 < s.ay
  · rw [if_pos (by omega), if_pos h]; rfl
  · rw [if_neg (by omega), if_neg h]
theorem wnd1_sh (dx dy : Int) (s : Sg) (st x y : Int) (h1 : rgtS s = true) (h2 : rgtS (shS dx dy s) = true) : wnd1 (shS dx dy s) st (x + dx) (y + dy) = wnd1 s st x y := by
  rw [wnd1, wnd1, if_pos h1, if_pos h2, dn_sh]
  generalize dnS s = t
  have e1 : crsS (shS dx dy t) (y + dy) = crsS t y := by
    unfold crsS shS
    simp only
    rw [Bool.eq_iff_iff]
    simp only [Bool.and_eq_true, decide_eq_true_eq]
    omega
  have e2 : lftS (shS dx dy t) (x + dx) (y + dy) = lftS t x y := by
    unfold lftS shS
    simp only
    rw [show y + dy - (t.ay + dy) = y - t.ay by omega, show t.bx + dx - (t.ax + dx) = t.bx - t.ax by omega, show x + dx - (t.ax + dx) = x - t.ax by omega, show t.by1 + dy - (t.ay + dy) = t.by1 - t.ay by omega]
  rw [wndS, wndS, e1, e2]
  rfl
theorem wnd_sh (dx dy st x y : Int) : ∀ L : List Sg, allR L = true → allR (L.map (shS dx dy)) = true → wnd (L.map (shS dx dy)) st (x + dx) (y + dy) = wnd L st x y
  | [], _, _ => rfl
  | s :: L, h1, h2 => by
    simp only [allR, List.map_cons, List.all_cons, Bool.and_eq_true] at h1 h2
    rw [List.map_cons, wnd, wnd, wnd1_sh dx dy s st x y h1.1 h2.1, wnd_sh dx dy st x y L h1.2 h2.2]
set_option maxHeartbeats 2000000 in
theorem shifts17_0 (la : Option Addr) (n lc : Nat) (st x y u v : Int) (w : World) (h0 : (300 : Int) < (n : Int)) :
    Calls Try.prog 10 #[.slice la n lc, .int .i64 st, .int .i64 x, .int .i64 y, .int .i16 u, .int .i16 v] w fun e w' => e = .returned (.bool true) ∧ Below w.heap.size w w' := by
  go_enter Try.func10, Try.ntmps10
  go_wp2_with (first
    | (go_at_call 11; (with_reducible refine (awake17_any _).mono ?_); rintro e W1 ⟨rfl, k1⟩; have Hw1 := k1; clear k1))
  go_ret
  exact ⟨rfl, Hw1⟩
set_option maxHeartbeats 2000000 in
theorem shifts17_1 (la : Option Addr) (n lc : Nat) (st x y u v : Int) (w : World) (h0 : (n : Int) ≤ 300) (H1 : Hid (∀ W, Below w.heap.size w W → Calls Try.prog 19 #[.slice la n lc] W fun e w' => e = .returned (.bool false) ∧ Below W.heap.size W w')) :
    Calls Try.prog 10 #[.slice la n lc, .int .i64 st, .int .i64 x, .int .i64 y, .int .i16 u, .int .i16 v] w fun e w' => e = .returned (.bool true) ∧ Below w.heap.size w w' := by
  go_enter Try.func10, Try.ntmps10
  go_wp2_with (first
    | (go_at_call 19; (with_reducible refine (H1.out _ (bq_refl _)).mono ?_); rintro e W1 ⟨rfl, k1⟩; have Hw1 := k1; clear k1)
    | (go_at_call 11; (with_reducible refine (awake17_any _).mono ?_); rintro e W2 ⟨rfl, k2⟩; have Hw2 := bq_trans Hw1 k2; clear k2 Hw1))
  go_ret
  exact ⟨rfl, Hw2⟩
set_option maxHeartbeats 2000000 in
theorem shifts17_2 (la : Option Addr) (n lc : Nat) (st x y u v : Int) (w : World) (h0 : (n : Int) ≤ 300) (H1 : Hid (∀ W, Below w.heap.size w W → Calls Try.prog 19 #[.slice la n lc] W fun e w' => e = .returned (.bool true) ∧ Below W.heap.size W w')) (H2 : Hid (∀ W, Calls Try.prog 14 #[.int .i64 x] W fun e w' => e = .returned (.bool false) ∧ Below W.heap.size W w')) :
    Calls Try.prog 10 #[.slice la n lc, .int .i64 st, .int .i64 x, .int .i64 y, .int .i16 u, .int .i16 v] w fun e w' => e = .returned (.bool true) ∧ Below w.heap.size w w' := by
  go_enter Try.func10, Try.ntmps10
  go_wp2_with (first
    | (go_at_call 19; (with_reducible refine (H1.out _ (bq_refl _)).mono ?_); rintro e W1 ⟨rfl, k1⟩; have Hw1 := k1; clear k1)
    | (go_at_call 14; (with_reducible refine (H2.out _).mono ?_); rintro e W2 ⟨rfl, k2⟩; have Hw2 := bq_trans Hw1 k2; clear k2 Hw1)
    | (go_at_call 11; (with_reducible refine (awake17_any _).mono ?_); rintro e W3 ⟨rfl, k3⟩; have Hw3 := bq_trans Hw2 k3; clear k3 Hw2))
  go_ret
  exact ⟨rfl, Hw3⟩
set_option maxHeartbeats 2000000 in
theorem shifts17_3 (la : Option Addr) (n lc : Nat) (st x y u v : Int) (w : World) (h0 : (n : Int) ≤ 300) (H1 : Hid (∀ W, Below w.heap.size w W → Calls Try.prog 19 #[.slice la n lc] W fun e w' => e = .returned (.bool true) ∧ Below W.heap.size W w')) (H2 : Hid (∀ W, Calls Try.prog 14 #[.int .i64 x] W fun e w' => e = .returned (.bool true) ∧ Below W.heap.size W w')) (H3 : Hid (∀ W, Calls Try.prog 14 #[.int .i64 y] W fun e w' => e = .returned (.bool false) ∧ Below W.heap.size W w')) :
    Calls Try.prog 10 #[.slice la n lc, .int .i64 st, .int .i64 x, .int .i64 y, .int .i16 u, .int .i16 v] w fun e w' => e = .returned (.bool true) ∧ Below w.heap.size w w' := by
  go_enter Try.func10, Try.ntmps10
  go_wp2_with (first
    | (go_at_call 19; (with_reducible refine (H1.out _ (bq_refl _)).mono ?_); rintro e W1 ⟨rfl, k1⟩; have Hw1 := k1; clear k1)
    | (go_at_call 14; (with_reducible refine (H2.out _).mono ?_); rintro e W2 ⟨rfl, k2⟩; have Hw2 := bq_trans Hw1 k2; clear k2 Hw1)
    | (go_at_call 14; (with_reducible refine (H3.out _).mono ?_); rintro e W3 ⟨rfl, k3⟩; have Hw3 := bq_trans Hw2 k3; clear k3 Hw2)
    | (go_at_call 11; (with_reducible refine (awake17_any _).mono ?_); rintro e W4 ⟨rfl, k4⟩; have Hw4 := bq_trans Hw3 k4; clear k4 Hw3))
  go_ret
  exact ⟨rfl, Hw4⟩
set_option maxHeartbeats 8000000 in
theorem shifts17_main (L : List Sg) (sv : Value) (st x y u v : Int) (w : World) (hL : Sgs w sv L) (hl : L.length ≤ 300) (hr : allR L = true) (hx : smpB x = true) (hy : smpB y = true) (u0 : -32768 ≤ u) (u1 : u ≤ 32767) (v0 : -32768 ≤ v) (v1 : v ≤ 32767) :
    Calls Try.prog 10 #[sv, .int .i64 st, .int .i64 x, .int .i64 y, .int .i16 u, .int .i16 v] w fun e w' => e = .returned (.bool true) ∧ Below w.heap.size w w' := by
  have H1 : Hid (∀ W, Below w.heap.size w W → Calls Try.prog 19 #[sv] W fun e w' => e = .returned (.bool true) ∧ Below W.heap.size W w') := Lib.hid fun W hW => by
    have h1 := lawright17_any L sv W (hL.keep hW)
    rw [hr] at h1
    exact h1
  have H2 : Hid (∀ W, Calls Try.prog 14 #[.int .i64 x] W fun e w' => e = .returned (.bool true) ∧ Below W.heap.size W w') := Lib.hid fun W => by
    have h1 := odd_any x W
    rw [hx] at h1
    exact h1
  have H3 : Hid (∀ W, Calls Try.prog 14 #[.int .i64 y] W fun e w' => e = .returned (.bool true) ∧ Below W.heap.size W w') := Lib.hid fun W => by
    have h1 := odd_any y W
    rw [hy] at h1
    exact h1
  have HRB : Hid (∀ s ∈ L, rgtS s = true) := Lib.hid (List.all_eq_true.1 hr)
  have bx := smpB_bd hx
  have by2 := smpB_bd hy
  obtain ⟨x0, x1, _⟩ := bx
  obtain ⟨y0, y1, _⟩ := by2
  have HLS := Lib.hid hL
  obtain ⟨la, lc, lb, lo, rfl, llen, lget⟩ := hL.at
  have HG := Lib.hid lget
  clear hL lget
  obtain ⟨n, hn⟩ : ∃ n, n = L.length := ⟨_, rfl⟩
  rw [← hn] at llen
  rw [← hn]
  have HN := Lib.hid hn
  have hn9 : (n : Int) ≤ 9223372036854775807 := by omega
  rw [← hn] at hl
  rw [← HN.out] at H1 HLS
  have hn3 : (n : Int) ≤ 300 := by omega
  have HL := Lib.hid hl
  clear hn llen hl
  go_enter Try.func10, Try.ntmps10
  go_upto_region 4 with (go_big_may; first
    | (go_at_call 19; (with_reducible refine (H1.out _ (bq_refl _)).mono ?_); rintro e W1 ⟨rfl, k1⟩; have Hw1 := k1; clear k1)
    | (go_at_call 14; (with_reducible refine (H2.out _).mono ?_); rintro e W2 ⟨rfl, k2⟩; have Hw2 := bq_trans Hw1 k2; clear k2 Hw1)
    | (go_at_call 14; (with_reducible refine (H3.out _).mono ?_); rintro e W3 ⟨rfl, k3⟩; have Hw3 := bq_trans Hw2 k3; clear k3 Hw2)
    | (refine wl_alloc 25 _ zePt rfl rfl ?_; intro W4 bd Bd_4 l4 k4; have gd : w.heap.size ≤ bd := Nat.le_trans Hw3.size l4; have Hw4 := bq_trans Hw3 k4; clear l4 k4 Hw3)
    | (refine wl_store 25 2 szPt _ _ rfl rfl _ rfl #[.int .i64 (2 * u), .int .i64 (2 * v)] rfl _ _ Bd_4 rfl rfl (by kernel_rfl) ?_; intro W5 Bd_5 T5; have Hw5 := T5.below Hw4 gd; clear T5 Bd_4 Hw4))
  have HB0 := Lib.hid Hw5
  have HBD := Lib.hid Bd_5
  clear Hw5 Bd_5
  go_wp2_with fail
  go_loopw [14, 45] (fun l i wr => ∃ k : Nat, k ≤ n ∧ i = .int .i64 (k : Int) ∧ OwnC wr W5.heap.size 27 6 l (((L.map (shS (2 * u) (2 * v))).map sgC).take k) ∧ Below W5.heap.size W5 wr) (fun _ i _ => n - (intOf i).toNat)
  case atStart => exact ⟨0, by omega, rfl, ownC_nil _ _ _ _, bq_refl _⟩
  case round =>
    obtain ⟨k, hk, rfl, hown, hbel⟩ := hrel
    by_cases hlt : k < n
    · obtain ⟨rfl, he⟩ := HG.out k (by have := HN.out; omega)
      have RE := he.keep (bq_trans HB0.out hbel)
      have ltL := RE.lt
      have Rd := HBD.out.keep hbel
      have HT : Hid (((L.map (shS (2 * u) (2 * v))).map sgC).take (k + 1) = ((L.map (shS (2 * u) (2 * v))).map sgC).take k ++ [sgC (shS (2 * u) (2 * v) (L[k]'(by have := HN.out; omega)))]) := Lib.hid (by
        rw [List.take_succ_eq_append_getElem (by simp; have := HN.out; omega)]
        simp)
      have HLE : Hid ((((L.map (shS (2 * u) (2 * v))).map sgC).take k).length ≤ 1000000) := Lib.hid (by rw [List.length_take]; have := HL.out; omega)
      have hrs := rgtS_bd (HRB.out (L[k]'(by have := HN.out; omega)) (List.getElem_mem _))
      have OM := hown.m
      have SM : SzM wr W5.heap.size wr.heap.size := ⟨Nat.le_refl _⟩
      have hsz : W5.heap.size ≤ wr.heap.size := hbel.size
      clear he HG HRB
      generalize L[k]'(by have := HN.out; omega) = s at *
      generalize ((L.map (shS (2 * u) (2 * v))).map sgC).take k = us at *
      have HB := Lib.hid hbel
      have i1 : (0 : Int) ≤ (k : Int) := by omega
      have i2 : (k : Int) < (n : Int) := by omega
      obtain ⟨⟨⟨s0, s1⟩, _⟩, ⟨⟨s2, s3⟩, _⟩⟩ := hrs.1
      obtain ⟨⟨⟨s4, s5⟩, _⟩, ⟨⟨s6, s7⟩, _⟩⟩ := hrs.2.1
      clear hbel hown hrs
      go_upto_region 8 with (go_big_may; first
        | (refine wpList_load_mid rfl 27 _ rfl lb (lo + k * 6) rfl [.int .i64 s.ax, .int .i64 s.ay, .int .i64 s.bx, .int .i64 s.by1, .int .i64 s.l, .int .i64 s.r] _ RE.rg Try.underlying27 rfl szSg ?_)
        | (refine wl_alloc 27 _ zeSg rfl rfl ?_; intro W21 bs Bs_21 l21 k21; have gs : wr.heap.size ≤ bs := l21; have nds : bd ≠ bs := Nat.ne_of_lt (Nat.lt_of_lt_of_le Rd.lt l21); have los := Nat.le_trans SM.le l21; have Bd_21 := Rd.keep k21; have Oe_21 := RE.keep k21; have Ov_21 := OM.keep k21; have Om_21 := SM.keep k21; have Hw21 := k21; clear l21 k21 Rd RE OM SM)
        | (refine wl_store 27 6 szSg _ _ rfl rfl _ rfl #[.int .i64 s.ax, .int .i64 s.ay, .int .i64 s.bx, .int .i64 s.by1, .int .i64 s.l, .int .i64 s.r] rfl _ _ Bs_21 rfl rfl (by kernel_rfl) ?_; intro W22 Bs_22 T22; have Bd_22 := T22.blk Bd_21 nds; have Oe_22 := Oe_21.turned T22 (Nat.ne_of_lt (Nat.lt_of_lt_of_le ltL gs)); have Ov_22 := Ov_21.turned T22 (Or.inr los); have Om_22 := Om_21.turned T22 (Or.inr los); have Hw22 := T22.below Hw21 gs; clear T22 Bd_21 Oe_21 Ov_21 Om_21 Bs_21 Hw21))
      have HW0 : Hid (IntKind.i64.wrap (s.ax + 2 * u) = s.ax + 2 * u) := Lib.hid (wI _ (by omega))
      have HW1 : Hid (IntKind.i64.wrap (s.ay + 2 * v) = s.ay + 2 * v) := Lib.hid (wI _ (by omega))
      have HW2 : Hid (IntKind.i64.wrap (s.bx + 2 * u) = s.bx + 2 * u) := Lib.hid (wI _ (by omega))
      have HW3 : Hid (IntKind.i64.wrap (s.by1 + 2 * v) = s.by1 + 2 * v) := Lib.hid (wI _ (by omega))
      refine Dsl.wp_region_late 27 28 (Dsl.Late W22 bs (#[.int .i64 (s.ax + 2 * u), .int .i64 (s.ay + 2 * v), .int .i64 s.bx, .int .i64 s.by1, .int .i64 s.l, .int .i64 s.r]) 27) (by kernel_rfl) (by kernel_rfl) (by kernel_rfl) (by decide) (bq_drew (bq_refl _)) ?_
      refine Dsl.ds_both (v := ?_) (by decide) (by rfl) ?_ ?_
      rotate_left
      · (intro b w hSw; go_simp; try with_reducible rfl)
      try simp only [Act.put, List.setIfInBounds_toArray, List.set_cons_zero, List.set_cons_succ]
      refine Dsl.ds_both (v := ?_) (by decide) (by rfl) ?_ ?_
      rotate_left
      · (intro b w hSw; go_simp; try with_reducible rfl)
      try simp only [Act.put, List.setIfInBounds_toArray, List.set_cons_zero, List.set_cons_succ]
      refine Dsl.ds_first (v := ?_) (by decide) (by kernel_rfl) (by rfl) ?_ ?_
      rotate_left
      · (intro w hSw; have cc : w.cell? ⟨bs, 0, none⟩ = some (.int .i64 s.ax) := (Bs_22.keep hSw).cell 0; go_simp; try with_reducible rfl)
      try simp only [Act.put, List.setIfInBounds_toArray, List.set_cons_zero, List.set_cons_succ]
      refine Dsl.ds_both (v := ?_) (by decide) (by rfl) ?_ ?_
      rotate_left
      · (intro b w hSw; go_simp; try with_reducible rfl)
      try simp only [Act.put, List.setIfInBounds_toArray, List.set_cons_zero, List.set_cons_succ]
      refine Dsl.ds_both (v := ?_) (by decide) (by rfl) ?_ ?_
      rotate_left
      · (intro b w hSw; have cc : w.cell? ⟨bd, 0, none⟩ = some (.int .i64 (2 * u)) := (Dsl.late_blk Bd_22 nds _ _ hSw).cell 0; go_simp; try with_reducible rfl)
      try simp only [Act.put, List.setIfInBounds_toArray, List.set_cons_zero, List.set_cons_succ]
      refine Dsl.ds_both (v := ?_) (by decide) (by rfl) ?_ ?_
      rotate_left
      · (intro b w hSw; have ww := HW0.out; go_simp; try with_reducible rfl)
      try simp only [Act.put, List.setIfInBounds_toArray, List.set_cons_zero, List.set_cons_succ]
      refine Dsl.ds_both (v := ?_) (by decide) (by rfl) ?_ ?_
      rotate_left
      · (intro b w hSw; go_simp; try with_reducible rfl)
      try simp only [Act.put, List.setIfInBounds_toArray, List.set_cons_zero, List.set_cons_succ]
      refine Dsl.ds_both (v := ?_) (by decide) (by rfl) ?_ ?_
      rotate_left
      · (intro b w hSw; go_simp; try with_reducible rfl)
      try simp only [Act.put, List.setIfInBounds_toArray, List.set_cons_zero, List.set_cons_succ]
      refine Dsl.ds_first (v := ?_) (by decide) (by kernel_rfl) (by rfl) ?_ ?_
      rotate_left
      · (intro w hSw; have cc : w.cell? ⟨bs, 1, none⟩ = some (.int .i64 s.ay) := (Bs_22.keep hSw).cell 1; go_simp; try with_reducible rfl)
      try simp only [Act.put, List.setIfInBounds_toArray, List.set_cons_zero, List.set_cons_succ]
      refine Dsl.ds_both (v := ?_) (by decide) (by rfl) ?_ ?_
      rotate_left
      · (intro b w hSw; go_simp; try with_reducible rfl)
      try simp only [Act.put, List.setIfInBounds_toArray, List.set_cons_zero, List.set_cons_succ]
      refine Dsl.ds_both (v := ?_) (by decide) (by rfl) ?_ ?_
      rotate_left
      · (intro b w hSw; have cc : w.cell? ⟨bd, 1, none⟩ = some (.int .i64 (2 * v)) := (Dsl.late_blk Bd_22 nds _ _ hSw).cell 1; go_simp; try with_reducible rfl)
      try simp only [Act.put, List.setIfInBounds_toArray, List.set_cons_zero, List.set_cons_succ]
      refine Dsl.ds_both (v := ?_) (by decide) (by rfl) ?_ ?_
      rotate_left
      · (intro b w hSw; have ww := HW1.out; go_simp; try with_reducible rfl)
      try simp only [Act.put, List.setIfInBounds_toArray, List.set_cons_zero, List.set_cons_succ]
      refine Dsl.ds_both (v := ?_) (by decide) (by rfl) ?_ ?_
      rotate_left
      · (intro b w hSw; go_simp; try with_reducible rfl)
      try simp only [Act.put, List.setIfInBounds_toArray, List.set_cons_zero, List.set_cons_succ]
      refine Dsl.ds_both (v := ?_) (by decide) (by rfl) ?_ ?_
      rotate_left
      · (intro b w hSw; go_simp; try with_reducible rfl)
      try simp only [Act.put, List.setIfInBounds_toArray, List.set_cons_zero, List.set_cons_succ]
      refine Dsl.ds_both (v := ?_) (by decide) (by rfl) ?_ ?_
      rotate_left
      · (intro b w hSw; go_simp; try with_reducible rfl)
      try simp only [Act.put, List.setIfInBounds_toArray, List.set_cons_zero, List.set_cons_succ]
      refine Dsl.ds_first (v := ?_) (by decide) (by kernel_rfl) (by rfl) ?_ ?_
      rotate_left
      · (intro w hSw; have cc : w.cell? ⟨bs, 2, none⟩ = some (.int .i64 s.bx) := (Bs_22.keep hSw).cell 2; go_simp; try with_reducible rfl)
      try simp only [Act.put, List.setIfInBounds_toArray, List.set_cons_zero, List.set_cons_succ]
      refine Dsl.ds_both (v := ?_) (by decide) (by rfl) ?_ ?_
      rotate_left
      · (intro b w hSw; go_simp; try with_reducible rfl)
      try simp only [Act.put, List.setIfInBounds_toArray, List.set_cons_zero, List.set_cons_succ]
      refine Dsl.ds_both (v := ?_) (by decide) (by rfl) ?_ ?_
      rotate_left
      · (intro b w hSw; have cc : w.cell? ⟨bd, 0, none⟩ = some (.int .i64 (2 * u)) := (Dsl.late_blk Bd_22 nds _ _ hSw).cell 0; go_simp; try with_reducible rfl)
      try simp only [Act.put, List.setIfInBounds_toArray, List.set_cons_zero, List.set_cons_succ]
      refine Dsl.ds_both (v := ?_) (by decide) (by rfl) ?_ ?_
      rotate_left
      · (intro b w hSw; have ww := HW2.out; go_simp; try with_reducible rfl)
      try simp only [Act.put, List.setIfInBounds_toArray, List.set_cons_zero, List.set_cons_succ]
      refine Dsl.ds_both (v := ?_) (by decide) (by rfl) ?_ ?_
      rotate_left
      · (intro b w hSw; go_simp; try with_reducible rfl)
      try simp only [Act.put, List.setIfInBounds_toArray, List.set_cons_zero, List.set_cons_succ]
      refine Dsl.ds_both (v := ?_) (by decide) (by rfl) ?_ ?_
      rotate_left
      · (intro b w hSw; go_simp; try with_reducible rfl)
      try simp only [Act.put, List.setIfInBounds_toArray, List.set_cons_zero, List.set_cons_succ]
      refine Dsl.ds_first (v := ?_) (by decide) (by kernel_rfl) (by rfl) ?_ ?_
      rotate_left
      · (intro w hSw; have cc : w.cell? ⟨bs, 3, none⟩ = some (.int .i64 s.by1) := (Bs_22.keep hSw).cell 3; go_simp; try with_reducible rfl)
      try simp only [Act.put, List.setIfInBounds_toArray, List.set_cons_zero, List.set_cons_succ]
      refine Dsl.ds_both (v := ?_) (by decide) (by rfl) ?_ ?_
      rotate_left
      · (intro b w hSw; go_simp; try with_reducible rfl)
      try simp only [Act.put, List.setIfInBounds_toArray, List.set_cons_zero, List.set_cons_succ]
      refine Dsl.ds_both (v := ?_) (by decide) (by rfl) ?_ ?_
      rotate_left
      · (intro b w hSw; have cc : w.cell? ⟨bd, 1, none⟩ = some (.int .i64 (2 * v)) := (Dsl.late_blk Bd_22 nds _ _ hSw).cell 1; go_simp; try with_reducible rfl)
      try simp only [Act.put, List.setIfInBounds_toArray, List.set_cons_zero, List.set_cons_succ]
      refine Dsl.ds_both (v := ?_) (by decide) (by rfl) ?_ ?_
      rotate_left
      · (intro b w hSw; have ww := HW3.out; go_simp; try with_reducible rfl)
      try simp only [Act.put, List.setIfInBounds_toArray, List.set_cons_zero, List.set_cons_succ]
      refine Dsl.ds_both (v := ?_) (by decide) (by rfl) ?_ ?_
      rotate_left
      · (intro b w hSw; go_simp; try with_reducible rfl)
      try simp only [Act.put, List.setIfInBounds_toArray, List.set_cons_zero, List.set_cons_succ]
      refine Dsl.ds_both (v := ?_) (by decide) (by rfl) ?_ ?_
      rotate_left
      · (intro b w hSw; go_simp; try with_reducible rfl)
      try simp only [Act.put, List.setIfInBounds_toArray, List.set_cons_zero, List.set_cons_succ]
      refine Dsl.ds_putAt 25 _ _ rfl rfl rfl rfl 0 rfl (#[.int .i64 (s.ax + 2 * u), .int .i64 (s.ay + 2 * v)]) rfl szPt (by kernel_rfl) _ Bs_22 (Nat.le_of_ble_eq_true rfl) (by kernel_rfl) ?_
      try simp only [Act.put, List.setIfInBounds_toArray, List.set_cons_zero, List.set_cons_succ]
      refine Dsl.ds_nil (fun W23 h23 => ?_)
      obtain ⟨Bs_23, w23, k23, T23⟩ := h23
      have Bd_23 := T23.blk (Bd_22.keep k23) nds
      have Oe_23 := (Oe_22.keep k23).turned T23 (Nat.ne_of_lt (Nat.lt_of_lt_of_le ltL gs))
      have Ov_23 := (Ov_22.keep k23).turned T23 (Or.inr los)
      have Om_23 := (Om_22.keep k23).turned T23 (Or.inr los)
      have Hw23 := T23.below (bq_trans Hw22 k23) gs
      clear k23 T23 Bd_22 Oe_22 Ov_22 Om_22 Hw22 Bs_22
      try simp only [Act.put, List.setIfInBounds_toArray, List.set_cons_zero, List.set_cons_succ]
      go_wp2_with (first
        | (refine wl_putAt 25 _ _ rfl rfl bs 2 rfl #[.int .i64 (s.bx + 2 * u), .int .i64 (s.by1 + 2 * v)] rfl szPt (by kernel_rfl) _ _ Bs_23 (by decide : 2 + 2 ≤ 6) #[.int .i64 (s.ax + 2 * u), .int .i64 (s.ay + 2 * v), .int .i64 (s.bx + 2 * u), .int .i64 (s.by1 + 2 * v), .int .i64 s.l, .int .i64 s.r] (by kernel_rfl) ?_; intro W24 Bs_24 T24; have Bd_24 := T24.blk Bd_23 nds; have Oe_24 := Oe_23.turned T24 (Nat.ne_of_lt (Nat.lt_of_lt_of_le ltL gs)); have Ov_24 := Ov_23.turned T24 (Or.inr los); have Om_24 := Om_23.turned T24 (Or.inr los); have Hw24 := T24.below Hw23 gs; clear T24 Bd_23 Oe_23 Ov_23 Om_23 Bs_23 Hw23)
        | (refine wl_load 27 6 _ Try.underlying27 rfl szSg _ rfl rfl _ rfl _ _ Bs_24 rfl ?_)
        | (refine wlg_slice 22 27 1 #[.int .i64 (s.ax + 2 * u), .int .i64 (s.ay + 2 * v), .int .i64 (s.bx + 2 * u), .int .i64 (s.by1 + 2 * v), .int .i64 s.l, .int .i64 s.r] [(0, .agg #[.int .i64 (s.ax + 2 * u), .int .i64 (s.ay + 2 * v), .int .i64 (s.bx + 2 * u), .int .i64 (s.by1 + 2 * v), .int .i64 s.l, .int .i64 s.r])] (sg1_run (s.ax + 2 * u) (s.ay + 2 * v) (s.bx + 2 * u) (s.by1 + 2 * v) (s.l) (s.r)) _ rfl rfl rfl ?_; intro W25 bn Bn_25 l25 k25; have gn : wr.heap.size ≤ bn := Nat.le_trans Hw24.size l25; have ndn : bd ≠ bn := Nat.ne_of_lt (Nat.lt_of_lt_of_le Bd_24.lt l25); have nsn : bs ≠ bn := Nat.ne_of_lt (Nat.lt_of_lt_of_le Bs_24.lt l25); have lon := Nat.le_trans Om_24.le l25; have Bd_25 := Bd_24.keep k25; have Bs_25 := Bs_24.keep k25; have Oe_25 := Oe_24.keep k25; have Ov_25 := Ov_24.keep k25; have Om_25 := Om_24.keep k25; have Hw25 := bq_trans Hw24 k25; clear l25 k25 Bd_24 Bs_24 Oe_24 Ov_24 Om_24 Hw24)
        | (refine wl_appC 22 27 6 _ Try.underlying22 sg_info rfl (by decide) _ _ rfl rfl W5.heap.size _ rfl us Ov_25.1 bn 1 _ _ rfl Bn_25 rfl (by kernel_rfl) HLE.out (Nat.le_trans hsz Om_25.le) ?_; intro vn W26 hO k26 hgr hat; have Hwn := Hw25))
      go_roundw
      case rel => exact ⟨k + 1, by omega, by go_num, by rw [HT.out]; exact hO, (bq_trans HB.out Hwn).trans k26⟩
      case measure => simp [intOf]; omega
    · have hkn : k = n := by omega
      have HB := Lib.hid hbel
      have HS : Hid (Sgs wr u14 (L.map (shS (2 * u) (2 * v)))) := Lib.hid (by
        have h := hown
        rw [hkn, HN.out, List.take_of_length_le (by simp)] at h
        exact h.sgs)
      have Rd := HBD.out.keep hbel
      have HR : Hid (∀ v' W, Sgs W v' (L.map (shS (2 * u) (2 * v))) → Calls Try.prog 19 #[v'] W fun e w' => e = .returned (.bool (allR (L.map (shS (2 * u) (2 * v))))) ∧ Below W.heap.size W w') := Lib.hid fun v' W h => lawright17_any _ v' W h
      have HX : Hid (∀ W, Calls Try.prog 14 #[.int .i64 (x + 2 * u)] W fun e w' => e = .returned (.bool (smpB (x + 2 * u))) ∧ Below W.heap.size W w') := Lib.hid fun W => odd_any _ W
      have HY : Hid (∀ W, Calls Try.prog 14 #[.int .i64 (y + 2 * v)] W fun e w' => e = .returned (.bool (smpB (y + 2 * v))) ∧ Below W.heap.size W w') := Lib.hid fun W => odd_any _ W
      have HZ : Hid (allR (L.map (shS (2 * u) (2 * v))) = true → smpB (x + 2 * u) = true → smpB (y + 2 * v) = true → ∀ v' W, Sgs W v' (L.map (shS (2 * u) (2 * v))) → Calls Try.prog 17 #[v', .int .i64 st, .int .i64 (x + 2 * u), .int .i64 (y + 2 * v)] W fun e w' => e = .returned (.int .i64 (wnd L st x y)) ∧ Below W.heap.size W w') := Lib.hid fun ha hb hc v' W h => by
        have h1 := wound_any _ v' st (x + 2 * u) (y + 2 * v) W h
        rw [hb, hc, wnd_sh _ _ _ _ _ _ hr ha] at h1
        exact h1
      have HZ0 : Hid (∀ W, Sgs W (.slice la n lc) L → Calls Try.prog 17 #[.slice la n lc, .int .i64 st, .int .i64 x, .int .i64 y] W fun e w' => e = .returned (.int .i64 (wnd L st x y)) ∧ Below W.heap.size W w') := Lib.hid fun W h => by
        have h1 := wound_any _ _ st x y W h
        rw [hx, hy] at h1
        exact h1
      clear hown hbel hr hx hy
      generalize wnd L st x y = Z at HZ HZ0
      generalize hq1 : allR (L.map (shS (2 * u) (2 * v))) = q1 at HR HZ
      generalize smpB (x + 2 * u) = q2 at HX HZ
      generalize smpB (y + 2 * v) = q3 at HY HZ
      generalize L.map (shS (2 * u) (2 * v)) = M at HS HR HZ
      clear hq1
      subst hkn
      cases q1 with
      | false =>
        go_wp2_with (first
          | (go_at_call 19; (with_reducible refine (HR.out _ _ HS.out).mono ?_); rintro e W61 ⟨rfl, k61⟩; have Bd_61 := Rd.keep k61; have Hw61 := k61; clear k61 Rd)
          | (go_at_call 11; (with_reducible refine (awake17_any _).mono ?_); rintro e W62 ⟨rfl, k62⟩; have Bd_62 := Bd_61.keep k62; have Hw62 := bq_trans Hw61 k62; clear k62 Bd_61 Hw61))
        go_ret
        exact ⟨rfl, bq_trans (bq_trans HB0.out HB.out) Hw62⟩
      | true =>
        cases q2 with
        | false =>
          go_wp2_with (first
            | (go_at_call 19; (with_reducible refine (HR.out _ _ HS.out).mono ?_); rintro e W61 ⟨rfl, k61⟩; have Bd_61 := Rd.keep k61; have Hw61 := k61; clear k61 Rd; have cd_0_61 : W61.cell? ⟨bd, 0, none⟩ = some (.int .i64 (2 * u)) := Bd_61.cell 0)
            | (go_at_call 14; (with_reducible refine (HX.out _).mono ?_); rintro e W62 ⟨rfl, k62⟩; have Bd_62 := Bd_61.keep k62; have Hw62 := bq_trans Hw61 k62; clear k62 Bd_61 cd_0_61 Hw61)
            | (go_at_call 11; (with_reducible refine (awake17_any _).mono ?_); rintro e W63 ⟨rfl, k63⟩; have Bd_63 := Bd_62.keep k63; have Hw63 := bq_trans Hw62 k63; clear k63 Bd_62 Hw62))
          go_ret
          exact ⟨rfl, bq_trans (bq_trans HB0.out HB.out) Hw63⟩
        | true =>
          cases q3 with
          | false =>
            go_wp2_with (first
              | (go_at_call 19; (with_reducible refine (HR.out _ _ HS.out).mono ?_); rintro e W61 ⟨rfl, k61⟩; have Bd_61 := Rd.keep k61; have Hw61 := k61; clear k61 Rd; have cd_0_61 : W61.cell? ⟨bd, 0, none⟩ = some (.int .i64 (2 * u)) := Bd_61.cell 0)
              | (go_at_call 14; (with_reducible refine (HX.out _).mono ?_); rintro e W62 ⟨rfl, k62⟩; have Bd_62 := Bd_61.keep k62; have Hw62 := bq_trans Hw61 k62; clear k62 Bd_61 cd_0_61 Hw61; have cd_1_62 : W62.cell? ⟨bd, 1, none⟩ = some (.int .i64 (2 * v)) := Bd_62.cell 1)
              | (go_at_call 14; (with_reducible refine (HY.out _).mono ?_); rintro e W63 ⟨rfl, k63⟩; have Bd_63 := Bd_62.keep k63; have Hw63 := bq_trans Hw62 k63; clear k63 Bd_62 cd_1_62 Hw62)
              | (go_at_call 11; (with_reducible refine (awake17_any _).mono ?_); rintro e W64 ⟨rfl, k64⟩; have Bd_64 := Bd_63.keep k64; have Hw64 := bq_trans Hw63 k64; clear k64 Bd_63 Hw63))
            go_ret
            exact ⟨rfl, bq_trans (bq_trans HB0.out HB.out) Hw64⟩
          | true =>
            have HZ1 := Lib.hid (HZ.out rfl rfl rfl)
            clear HZ
            have HWX : Hid (IntKind.i64.wrap (x + 2 * u) = x + 2 * u) := Lib.hid (wI _ (by omega))
            have HWY : Hid (IntKind.i64.wrap (y + 2 * v) = y + 2 * v) := Lib.hid (wI _ (by omega))
            go_upto_region 13 with (go_big_may; first
              | (go_at_call 19; (with_reducible refine (HR.out _ _ HS.out).mono ?_); rintro e W61 ⟨rfl, k61⟩; have Bd_61 := Rd.keep k61; have Hw61 := k61; clear k61 Rd; have cd_0_61 : W61.cell? ⟨bd, 0, none⟩ = some (.int .i64 (2 * u)) := Bd_61.cell 0)
              | (go_at_call 14; (with_reducible refine (HX.out _).mono ?_); rintro e W62 ⟨rfl, k62⟩; have Bd_62 := Bd_61.keep k62; have Hw62 := bq_trans Hw61 k62; clear k62 Bd_61 cd_0_61 Hw61; have cd_1_62 : W62.cell? ⟨bd, 1, none⟩ = some (.int .i64 (2 * v)) := Bd_62.cell 1)
              | (go_at_call 14; (with_reducible refine (HY.out _).mono ?_); rintro e W63 ⟨rfl, k63⟩; have Bd_63 := Bd_62.keep k63; have Hw63 := bq_trans Hw62 k63; clear k63 Bd_62 cd_1_62 Hw62))
            refine Det.wp_region_det (S := fun w' => Below W63.heap.size W63 w') (by kernel_rfl) (by kernel_rfl) (bq_drew (bq_refl _)) ?_
            refine Det.det_take (v := ?_) (by rfl) ?_ ?_
            rotate_left
            · (intro w hSw; go_simp; try with_reducible rfl)
            try simp only [Act.put, List.setIfInBounds_toArray, List.set_cons_zero, List.set_cons_succ]
            refine Det.det_take (v := ?_) (by rfl) ?_ ?_
            rotate_left
            · (intro w hSw; go_simp; try with_reducible rfl)
            try simp only [Act.put, List.setIfInBounds_toArray, List.set_cons_zero, List.set_cons_succ]
            refine Det.det_take (v := ?_) (by rfl) ?_ ?_
            rotate_left
            · (intro w hSw; go_simp; try with_reducible rfl)
            try simp only [Act.put, List.setIfInBounds_toArray, List.set_cons_zero, List.set_cons_succ]
            refine Det.det_take (v := ?_) (by rfl) ?_ ?_
            rotate_left
            · (intro w hSw; go_simp; try with_reducible rfl)
            try simp only [Act.put, List.setIfInBounds_toArray, List.set_cons_zero, List.set_cons_succ]
            refine Det.det_call (f := 17) (args := #[.slice la k lc, .int .i64 st, .int .i64 x, .int .i64 y]) (v := .int .i64 Z) (by rfl) ?_ (fun w hS => (HZ0.out w (HLS.out.keep (bq_trans (bq_trans HB0.out HB.out) (bq_trans Hw63 hS)))).mono fun e w' ⟨h1, h2⟩ => ⟨h1, bq_trans hS h2⟩) ?_
            · (intro w hSw; go_simp)
            try simp only [Act.put, List.setIfInBounds_toArray, List.set_cons_zero, List.set_cons_succ]
            refine Det.det_take (v := ?_) (by rfl) ?_ ?_
            rotate_left
            · (intro w hSw; go_simp; try with_reducible rfl)
            try simp only [Act.put, List.setIfInBounds_toArray, List.set_cons_zero, List.set_cons_succ]
            refine Det.det_take (v := ?_) (by rfl) ?_ ?_
            rotate_left
            · (intro w hSw; go_simp; try with_reducible rfl)
            try simp only [Act.put, List.setIfInBounds_toArray, List.set_cons_zero, List.set_cons_succ]
            refine Det.det_take (v := ?_) (by rfl) ?_ ?_
            rotate_left
            · (intro w hSw; go_simp; try with_reducible rfl)
            try simp only [Act.put, List.setIfInBounds_toArray, List.set_cons_zero, List.set_cons_succ]
            refine Det.det_take (v := ?_) (by rfl) ?_ ?_
            rotate_left
            · (intro w hSw; go_simp; try with_reducible rfl)
            try simp only [Act.put, List.setIfInBounds_toArray, List.set_cons_zero, List.set_cons_succ]
            refine Det.det_take (v := ?_) (by rfl) ?_ ?_
            rotate_left
            · (intro w hSw; have cc : w.cell? ⟨bd, 0, none⟩ = some (.int .i64 (2 * u)) := (Bd_63.keep hSw).cell 0; go_simp; try with_reducible rfl)
            try simp only [Act.put, List.setIfInBounds_toArray, List.set_cons_zero, List.set_cons_succ]
            refine Det.det_take (v := ?_) (by rfl) ?_ ?_
            rotate_left
            · (intro w hSw; have ww := HWX.out; go_simp; try with_reducible rfl)
            try simp only [Act.put, List.setIfInBounds_toArray, List.set_cons_zero, List.set_cons_succ]
            refine Det.det_take (v := ?_) (by rfl) ?_ ?_
            rotate_left
            · (intro w hSw; go_simp; try with_reducible rfl)
            try simp only [Act.put, List.setIfInBounds_toArray, List.set_cons_zero, List.set_cons_succ]
            refine Det.det_take (v := ?_) (by rfl) ?_ ?_
            rotate_left
            · (intro w hSw; go_simp; try with_reducible rfl)
            try simp only [Act.put, List.setIfInBounds_toArray, List.set_cons_zero, List.set_cons_succ]
            refine Det.det_take (v := ?_) (by rfl) ?_ ?_
            rotate_left
            · (intro w hSw; have cc : w.cell? ⟨bd, 1, none⟩ = some (.int .i64 (2 * v)) := (Bd_63.keep hSw).cell 1; go_simp; try with_reducible rfl)
            try simp only [Act.put, List.setIfInBounds_toArray, List.set_cons_zero, List.set_cons_succ]
            refine Det.det_take (v := ?_) (by rfl) ?_ ?_
            rotate_left
            · (intro w hSw; have ww := HWY.out; go_simp; try with_reducible rfl)
            try simp only [Act.put, List.setIfInBounds_toArray, List.set_cons_zero, List.set_cons_succ]
            refine Det.det_call (f := 17) (args := #[u14, .int .i64 st, .int .i64 (x + 2 * u), .int .i64 (y + 2 * v)]) (v := .int .i64 Z) (by rfl) ?_ (fun w hS => (HZ1.out _ w (HS.out.keep (bq_trans Hw63 hS))).mono fun e w' ⟨h1, h2⟩ => ⟨h1, bq_trans hS h2⟩) ?_
            · (intro w hSw; go_simp)
            try simp only [Act.put, List.setIfInBounds_toArray, List.set_cons_zero, List.set_cons_succ]
            refine Det.det_take (v := ?_) (by rfl) ?_ ?_
            rotate_left
            · (intro w hSw; have en : (Z == Z) = true := (by simp); go_simp; try with_reducible rfl)
            try simp only [Act.put, List.setIfInBounds_toArray, List.set_cons_zero, List.set_cons_succ]
            refine Det.det_take (v := ?_) (by rfl) ?_ ?_
            rotate_left
            · (intro w hSw; go_simp; try with_reducible rfl)
            try simp only [Act.put, List.setIfInBounds_toArray, List.set_cons_zero, List.set_cons_succ]
            refine Det.det_call (f := 11) (args := #[]) (v := .bool true) (by rfl) ?_ (fun w hS => (awake17_any w).mono fun e w' ⟨h1, h2⟩ => ⟨h1, bq_trans hS h2⟩) ?_
            · (intro w hSw; go_simp)
            try simp only [Act.put, List.setIfInBounds_toArray, List.set_cons_zero, List.set_cons_succ]
            refine Det.det_take (v := ?_) (by rfl) ?_ ?_
            rotate_left
            · (intro w hSw; go_simp; try with_reducible rfl)
            try simp only [Act.put, List.setIfInBounds_toArray, List.set_cons_zero, List.set_cons_succ]
            refine Det.det_take (v := ?_) (by rfl) ?_ ?_
            rotate_left
            · (intro w hSw; go_simp; try with_reducible rfl)
            try simp only [Act.put, List.setIfInBounds_toArray, List.set_cons_zero, List.set_cons_succ]
            refine Det.det_nil (fun W64 k64 => ?_)
            have Bd_64 := Bd_63.keep k64
            have Hw64 := bq_trans Hw63 k64
            clear k64 Bd_63 Hw63
            go_wp2_with fail
            go_ret
            exact ⟨rfl, bq_trans (bq_trans HB0.out HB.out) Hw64⟩
theorem shifts17_walk (L : List Sg) (sv : Value) (st x y u v : Int) (w : World) (hL : Sgs w sv L) (hu : -32768 ≤ u ∧ u ≤ 32767) (hv : -32768 ≤ v ∧ v ≤ 32767) :
    Calls Try.prog 10 #[sv, .int .i64 st, .int .i64 x, .int .i64 y, .int .i16 u, .int .i16 v] w fun e w' => e = .returned (.bool true) ∧ Below w.heap.size w w' := by
  by_cases hm : L.length ≤ 300
  · cases hq : allR L with
    | false =>
      obtain ⟨la, lc, lb, lo, rfl, llen, lget⟩ := id hL.at
      exact shifts17_1 la L.length lc st x y u v w (by omega) (Lib.hid fun W hW => hq ▸ lawright17_any L _ W (hL.keep hW))
    | true =>
      cases hx : smpB x with
      | false =>
        obtain ⟨la, lc, lb, lo, rfl, llen, lget⟩ := id hL.at
        exact shifts17_2 la L.length lc st x y u v w (by omega) (Lib.hid fun W hW => hq ▸ lawright17_any L _ W (hL.keep hW)) (Lib.hid fun W => hx ▸ odd_any x W)
      | true =>
        cases hy : smpB y with
        | false =>
          obtain ⟨la, lc, lb, lo, rfl, llen, lget⟩ := id hL.at
          exact shifts17_3 la L.length lc st x y u v w (by omega) (Lib.hid fun W hW => hq ▸ lawright17_any L _ W (hL.keep hW)) (Lib.hid fun W => hx ▸ odd_any x W) (Lib.hid fun W => hy ▸ odd_any y W)
        | true => exact shifts17_main L sv st x y u v w hL hm hq hx hy hu.1 hu.2 hv.1 hv.2
  · obtain ⟨la, lc, lb, lo, rfl, llen, lget⟩ := id hL.at
    exact shifts17_0 la L.length lc st x y u v w (by omega)
end Go.Proofs.Ytgopaajmbifbaaa
