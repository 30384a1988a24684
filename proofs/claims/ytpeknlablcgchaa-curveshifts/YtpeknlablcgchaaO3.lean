import Derived.Test.YtpeknlablcgchaaO2
import Derived.Test.YtpeknlablcgchaaTo
import Derived.Test.YtpeknlablcgchaaDp
/- Layer 16: Flat, both sides. -/
namespace Go.Proofs.Ytpeknlablcgchaa
open Go.RowKit
set_option linter.unusedVariables false
set_option linter.unusedSimpArgs false
set_option maxRecDepth 100000

theorem pt_info : (Try.prog.info? 23).map (fun i => (i.zero, i.size, decide (i.bytes ≤ 1000))) = some (some (.agg #[.int .i64 0, .int .i64 0]), 2, true) := by kernel_rfl
theorem pt1_run (x y : Int) (w : World) : (Instr.buildSlice 24 1 [(0, .agg #[.int .i64 x, .int .i64 y])].toArray).run Try.prog w = .ok (.slice (some ⟨w.heap.size, 0, none⟩) 1 1) (w.alloc (.cells #[.int .i64 x, .int .i64 y] 23)) := by
  obtain ⟨ie, h1, h2⟩ := Option.map_eq_some_iff.1 pt_info
  have hz := congrArg (·.1) h2
  have hs : ie.size = 2 := congrArg (·.2.1) h2
  refine run_buildSlice w 24 23 1 _ _ ie _ Try.underlying24 h1 hz (by rw [hs]; decide) (by rw [hs]; decide) ?_
  rw [hs]; kernel_rfl
/-- the points that a loop has made -/
def FRel (w : World) (n : Nat) (L : List (List Value)) (l i : Value) (wr : World) : Prop := ∃ k : Nat, k ≤ n ∧ i = .int .i64 ((k : Int) + 1) ∧ OwnC wr w.heap.size 23 2 l (L.take k) ∧ Below w.heap.size w wr
set_option maxHeartbeats 1000000 in
theorem flat16_no (ax ay bx by1 cx cy : Int) (w : World) (H0 : Hid (∀ W, Calls Try.prog 13 #[.agg #[.int .i64 ax, .int .i64 ay], .agg #[.int .i64 bx, .int .i64 by1], .agg #[.int .i64 cx, .int .i64 cy]] W fun e w' => e = .returned (.int .i64 0) ∧ Below W.heap.size W w')) : Calls Try.prog 8 #[.agg #[.int .i64 ax, .int .i64 ay], .agg #[.int .i64 bx, .int .i64 by1], .agg #[.int .i64 cx, .int .i64 cy]] w fun e w' => (∃ v, e = .returned v ∧ OwnC w' w.heap.size 23 2 v []) ∧ Below w.heap.size w w' := by
  go_enter Try.func8, Try.ntmps8
  go_upto_region 1 with (go_big_may; first
    | (refine wl_box 23 _ _ rfl rfl (show _ = Value.agg #[.int .i64 ax, .int .i64 ay] from rfl) ?_; intro W1 ba Ba_1 l1 k1; have ga : w.heap.size ≤ ba := l1; have Hw1 := k1; clear l1 k1)
    | (refine wl_box 23 _ _ rfl rfl (show _ = Value.agg #[.int .i64 bx, .int .i64 by1] from rfl) ?_; intro W2 bb Bb_2 l2 k2; have gb : w.heap.size ≤ bb := Nat.le_trans Hw1.size l2; have nab : ba ≠ bb := Nat.ne_of_lt (Nat.lt_of_lt_of_le Ba_1.lt l2); have Ba_2 := Ba_1.keep k2; have Hw2 := bq_trans Hw1 k2; clear l2 k2 Ba_1 Hw1)
    | (refine wl_box 23 _ _ rfl rfl (show _ = Value.agg #[.int .i64 cx, .int .i64 cy] from rfl) ?_; intro W3 bc Bc_3 l3 k3; have gc : w.heap.size ≤ bc := Nat.le_trans Hw2.size l3; have nac : ba ≠ bc := Nat.ne_of_lt (Nat.lt_of_lt_of_le Ba_2.lt l3); have nbc : bb ≠ bc := Nat.ne_of_lt (Nat.lt_of_lt_of_le Bb_2.lt l3); have Ba_3 := Ba_2.keep k3; have Bb_3 := Bb_2.keep k3; have Hw3 := bq_trans Hw2 k3; clear l3 k3 Ba_2 Bb_2 Hw2))
  go_wp2_with (first
    | (refine wl_load 23 2 _ Try.underlying23 rfl szPt _ rfl rfl _ rfl _ _ Ba_3 rfl ?_)
    | (refine wl_load 23 2 _ Try.underlying23 rfl szPt _ rfl rfl _ rfl _ _ Bb_3 rfl ?_)
    | (refine wl_load 23 2 _ Try.underlying23 rfl szPt _ rfl rfl _ rfl _ _ Bc_3 rfl ?_)
    | (go_at_call 13; (with_reducible refine (H0.out _).mono ?_); rintro e W4 ⟨rfl, k4⟩; have Ba_4 := Ba_3.keep k4; have Bb_4 := Bb_3.keep k4; have Bc_4 := Bc_3.keep k4; have Hw4 := bq_trans Hw3 k4; clear k4 Ba_3 Bb_3 Bc_3 Hw3))
  go_loopw [8, 9] (fun l i wr => l = .slice none 0 0 ∧ i = .int .i64 1 ∧ Below w.heap.size w wr) (fun _ i _ => 0)
  case atStart => exact ⟨rfl, rfl, Hw4⟩
  case round =>
    obtain ⟨rfl, rfl, hb⟩ := hrel
    go_wp2_with fail
    go_ret
    exact ⟨⟨_, rfl, ownC_nil _ _ _ _⟩, hb⟩
set_option maxHeartbeats 2000000 in
theorem flat16_core (ax ay bx by1 cx cy : Int) (n : Nat) (L : List (List Value)) (X Y : Nat → Int) (w : World) (hn : n ≤ 32) (hL : L.length = n) (H0 : Hid (∀ W, Calls Try.prog 13 #[.agg #[.int .i64 ax, .int .i64 ay], .agg #[.int .i64 bx, .int .i64 by1], .agg #[.int .i64 cx, .int .i64 cy]] W fun e w' => e = .returned (.int .i64 (n : Int)) ∧ Below W.heap.size W w'))
    (HX : Hid (∀ k : Nat, k < n → ∀ W, Calls Try.prog 20 #[.int .i64 ax, .int .i64 bx, .int .i64 cx, .int .i64 ((k : Int) + 1), .int .i64 (n : Int)] W fun e w' => e = .returned (.int .i64 (X k)) ∧ Below W.heap.size W w'))
    (HY : Hid (∀ k : Nat, k < n → ∀ W, Calls Try.prog 20 #[.int .i64 ay, .int .i64 by1, .int .i64 cy, .int .i64 ((k : Int) + 1), .int .i64 (n : Int)] W fun e w' => e = .returned (.int .i64 (Y k)) ∧ Below W.heap.size W w'))
    (HS : Hid (∀ k : Nat, k < n → L.take (k + 1) = L.take k ++ [[.int .i64 (X k), .int .i64 (Y k)]])) :
    Calls Try.prog 8 #[.agg #[.int .i64 ax, .int .i64 ay], .agg #[.int .i64 bx, .int .i64 by1], .agg #[.int .i64 cx, .int .i64 cy]] w fun e w' => (∃ v, e = .returned v ∧ OwnC w' w.heap.size 23 2 v L) ∧ Below w.heap.size w w' := by
  have HLn := Lib.hid hL
  clear hL
  have hn2 : (n : Int) ≤ 32 := by omega
  have HN := Lib.hid hn
  clear hn
  go_enter Try.func8, Try.ntmps8
  go_upto_region 1 with (go_big_may; first
    | (refine wl_box 23 _ _ rfl rfl (show _ = Value.agg #[.int .i64 ax, .int .i64 ay] from rfl) ?_; intro W1 ba Ba_1 l1 k1; have ga : w.heap.size ≤ ba := l1; have Hw1 := k1; clear l1 k1)
    | (refine wl_box 23 _ _ rfl rfl (show _ = Value.agg #[.int .i64 bx, .int .i64 by1] from rfl) ?_; intro W2 bb Bb_2 l2 k2; have gb : w.heap.size ≤ bb := Nat.le_trans Hw1.size l2; have nab : ba ≠ bb := Nat.ne_of_lt (Nat.lt_of_lt_of_le Ba_1.lt l2); have Ba_2 := Ba_1.keep k2; have Hw2 := bq_trans Hw1 k2; clear l2 k2 Ba_1 Hw1)
    | (refine wl_box 23 _ _ rfl rfl (show _ = Value.agg #[.int .i64 cx, .int .i64 cy] from rfl) ?_; intro W3 bc Bc_3 l3 k3; have gc : w.heap.size ≤ bc := Nat.le_trans Hw2.size l3; have nac : ba ≠ bc := Nat.ne_of_lt (Nat.lt_of_lt_of_le Ba_2.lt l3); have nbc : bb ≠ bc := Nat.ne_of_lt (Nat.lt_of_lt_of_le Bb_2.lt l3); have Ba_3 := Ba_2.keep k3; have Bb_3 := Bb_2.keep k3; have Hw3 := bq_trans Hw2 k3; clear l3 k3 Ba_2 Bb_2 Hw2))
  go_wp2_with (first
    | (refine wl_load 23 2 _ Try.underlying23 rfl szPt _ rfl rfl _ rfl _ _ Ba_3 rfl ?_)
    | (refine wl_load 23 2 _ Try.underlying23 rfl szPt _ rfl rfl _ rfl _ _ Bb_3 rfl ?_)
    | (refine wl_load 23 2 _ Try.underlying23 rfl szPt _ rfl rfl _ rfl _ _ Bc_3 rfl ?_)
    | (go_at_call 13; (with_reducible refine (H0.out _).mono ?_); rintro e W4 ⟨rfl, k4⟩; have Ba_4 := Ba_3.keep k4; have Bb_4 := Bb_3.keep k4; have Bc_4 := Bc_3.keep k4; have Hw4 := bq_trans Hw3 k4; clear k4 Ba_3 Bb_3 Bc_3 Hw3))
  have HB0 := Lib.hid Hw4
  clear Hw4
  go_loopw [8, 9] (fun l i wr => FRel W4 n L l i wr) (fun _ i _ => n + 1 - (intOf i).toNat)
  case atStart => exact ⟨0, by omega, rfl, ownC_nil _ _ _ _, bq_refl _⟩
  case round =>
    obtain ⟨k, hk, rfl, hown, hbel⟩ := hrel
    by_cases hlt : k < n
    · have hle : (k : Int) + 1 ≤ (n : Int) := by omega
      have HX1 := Lib.hid (HX.out k hlt)
      have HY1 := Lib.hid (HY.out k hlt)
      have HT := Lib.hid (HS.out k hlt)
      have HX := HX1
      have HY := HY1
      clear HX1 HY1 HS
      generalize X k = x at *
      generalize Y k = y at *
      have Ra := Ba_4.keep hbel
      have Rb := Bb_4.keep hbel
      have Rc := Bc_4.keep hbel
      have OM := hown.m
      have SM : SzM wr W4.heap.size wr.heap.size := ⟨Nat.le_refl _⟩
      have hsz : W4.heap.size ≤ wr.heap.size := hbel.size
      have HB := Lib.hid hbel
      have HLE : Hid ((L.take k).length ≤ 1000000) := Lib.hid (by have := HN.out; have := HLn.out; rw [List.length_take]; omega)
      clear hown hbel Ba_4 Bb_4 Bc_4
      generalize L.take k = us at *
      go_upto_region 6 with (fail)
      refine Dap.wp_region_tail 20 21 39 (Dap.One wr (#[.int .i64 x, .int .i64 y]) 23) (by kernel_rfl) (by kernel_rfl) (by kernel_rfl) (by kernel_rfl) (Dap.one_lasts _ _ _) (of_decide_eq_true rfl) ?_
      refine Dap.dp_take (v := ?_) (by decide) (by rfl) ?_ ?_
      rotate_left
      · (intro w hSw; go_simp; try with_reducible rfl)
      try simp only [Act.put, List.setIfInBounds_toArray, List.set_cons_zero, List.set_cons_succ]
      refine Dap.dp_take (v := ?_) (by decide) (by rfl) ?_ ?_
      rotate_left
      · (intro w hSw; go_simp; try with_reducible rfl)
      try simp only [Act.put, List.setIfInBounds_toArray, List.set_cons_zero, List.set_cons_succ]
      refine Dap.dp_take (v := ?_) (by decide) (by rfl) ?_ ?_
      rotate_left
      · (intro w hSw; have cc : w.cell? ⟨ba, 0, none⟩ = some (.int .i64 ax) := (Ra.keep hSw).cell 0; go_simp; try with_reducible rfl)
      try simp only [Act.put, List.setIfInBounds_toArray, List.set_cons_zero, List.set_cons_succ]
      refine Dap.dp_take (v := ?_) (by decide) (by rfl) ?_ ?_
      rotate_left
      · (intro w hSw; go_simp; try with_reducible rfl)
      try simp only [Act.put, List.setIfInBounds_toArray, List.set_cons_zero, List.set_cons_succ]
      refine Dap.dp_take (v := ?_) (by decide) (by rfl) ?_ ?_
      rotate_left
      · (intro w hSw; have cc : w.cell? ⟨bb, 0, none⟩ = some (.int .i64 bx) := (Rb.keep hSw).cell 0; go_simp; try with_reducible rfl)
      try simp only [Act.put, List.setIfInBounds_toArray, List.set_cons_zero, List.set_cons_succ]
      refine Dap.dp_take (v := ?_) (by decide) (by rfl) ?_ ?_
      rotate_left
      · (intro w hSw; go_simp; try with_reducible rfl)
      try simp only [Act.put, List.setIfInBounds_toArray, List.set_cons_zero, List.set_cons_succ]
      refine Dap.dp_take (v := ?_) (by decide) (by rfl) ?_ ?_
      rotate_left
      · (intro w hSw; have cc : w.cell? ⟨bc, 0, none⟩ = some (.int .i64 cx) := (Rc.keep hSw).cell 0; go_simp; try with_reducible rfl)
      try simp only [Act.put, List.setIfInBounds_toArray, List.set_cons_zero, List.set_cons_succ]
      refine Dap.dp_take (v := ?_) (by decide) (by rfl) ?_ ?_
      rotate_left
      · (intro w hSw; go_simp; try with_reducible rfl)
      try simp only [Act.put, List.setIfInBounds_toArray, List.set_cons_zero, List.set_cons_succ]
      refine Dap.dp_take (v := ?_) (by decide) (by rfl) ?_ ?_
      rotate_left
      · (intro w hSw; go_simp; try with_reducible rfl)
      try simp only [Act.put, List.setIfInBounds_toArray, List.set_cons_zero, List.set_cons_succ]
      refine Dap.dp_call (f := 20) (args := #[.int .i64 ax, .int .i64 bx, .int .i64 cx, .int .i64 ((k : Int) + 1), .int .i64 (n : Int)]) (v := .int .i64 x) (by decide) (by rfl) ?_ (fun w hS => HX.out w) ?_
      · (intro w hSw; go_simp)
      try simp only [Act.put, List.setIfInBounds_toArray, List.set_cons_zero, List.set_cons_succ]
      refine Dap.dp_take (v := ?_) (by decide) (by rfl) ?_ ?_
      rotate_left
      · (intro w hSw; go_simp; try with_reducible rfl)
      try simp only [Act.put, List.setIfInBounds_toArray, List.set_cons_zero, List.set_cons_succ]
      refine Dap.dp_take (v := ?_) (by decide) (by rfl) ?_ ?_
      rotate_left
      · (intro w hSw; have cc : w.cell? ⟨ba, 1, none⟩ = some (.int .i64 ay) := (Ra.keep hSw).cell 1; go_simp; try with_reducible rfl)
      try simp only [Act.put, List.setIfInBounds_toArray, List.set_cons_zero, List.set_cons_succ]
      refine Dap.dp_take (v := ?_) (by decide) (by rfl) ?_ ?_
      rotate_left
      · (intro w hSw; go_simp; try with_reducible rfl)
      try simp only [Act.put, List.setIfInBounds_toArray, List.set_cons_zero, List.set_cons_succ]
      refine Dap.dp_take (v := ?_) (by decide) (by rfl) ?_ ?_
      rotate_left
      · (intro w hSw; have cc : w.cell? ⟨bb, 1, none⟩ = some (.int .i64 by1) := (Rb.keep hSw).cell 1; go_simp; try with_reducible rfl)
      try simp only [Act.put, List.setIfInBounds_toArray, List.set_cons_zero, List.set_cons_succ]
      refine Dap.dp_take (v := ?_) (by decide) (by rfl) ?_ ?_
      rotate_left
      · (intro w hSw; go_simp; try with_reducible rfl)
      try simp only [Act.put, List.setIfInBounds_toArray, List.set_cons_zero, List.set_cons_succ]
      refine Dap.dp_take (v := ?_) (by decide) (by rfl) ?_ ?_
      rotate_left
      · (intro w hSw; have cc : w.cell? ⟨bc, 1, none⟩ = some (.int .i64 cy) := (Rc.keep hSw).cell 1; go_simp; try with_reducible rfl)
      try simp only [Act.put, List.setIfInBounds_toArray, List.set_cons_zero, List.set_cons_succ]
      refine Dap.dp_take (v := ?_) (by decide) (by rfl) ?_ ?_
      rotate_left
      · (intro w hSw; go_simp; try with_reducible rfl)
      try simp only [Act.put, List.setIfInBounds_toArray, List.set_cons_zero, List.set_cons_succ]
      refine Dap.dp_take (v := ?_) (by decide) (by rfl) ?_ ?_
      rotate_left
      · (intro w hSw; go_simp; try with_reducible rfl)
      try simp only [Act.put, List.setIfInBounds_toArray, List.set_cons_zero, List.set_cons_succ]
      refine Dap.dp_call (f := 20) (args := #[.int .i64 ay, .int .i64 by1, .int .i64 cy, .int .i64 ((k : Int) + 1), .int .i64 (n : Int)]) (v := .int .i64 y) (by decide) (by rfl) ?_ (fun w hS => HY.out w) ?_
      · (intro w hSw; go_simp)
      try simp only [Act.put, List.setIfInBounds_toArray, List.set_cons_zero, List.set_cons_succ]
      refine Dap.dp_take (v := ?_) (by decide) (by rfl) ?_ ?_
      rotate_left
      · (intro w hSw; go_simp; try with_reducible rfl)
      try simp only [Act.put, List.setIfInBounds_toArray, List.set_cons_zero, List.set_cons_succ]
      refine Dap.dp_slice 24 23 (#[.int .i64 x, .int .i64 y]) _ (pt1_run x y) rfl rfl _ rfl rfl ?_
      try simp only [Act.put, List.setIfInBounds_toArray, List.set_cons_zero, List.set_cons_succ]
      (refine Dap.dp_one ?_; intro W21 bn Bn_21 l21 k21; have gn : wr.heap.size ≤ bn := l21; have nan : ba ≠ bn := Nat.ne_of_lt (Nat.lt_of_lt_of_le Ra.lt l21); have nbn : bb ≠ bn := Nat.ne_of_lt (Nat.lt_of_lt_of_le Rb.lt l21); have ncn : bc ≠ bn := Nat.ne_of_lt (Nat.lt_of_lt_of_le Rc.lt l21); have lon := Nat.le_trans SM.le l21; have Ba_21 := Ra.keep k21; have Bb_21 := Rb.keep k21; have Bc_21 := Rc.keep k21; have Ov_21 := OM.keep k21; have Om_21 := SM.keep k21; have Hw21 := k21; clear l21 k21 Ra Rb Rc OM SM)
      try simp only [Act.put, List.setIfInBounds_toArray, List.set_cons_zero, List.set_cons_succ]
      refine wl_appC 24 23 2 _ Try.underlying24 pt_info rfl (by decide) _ _ rfl rfl W4.heap.size _ rfl us Ov_21.1 bn 1 _ _ rfl Bn_21 rfl (by kernel_rfl) HLE.out (Nat.le_trans hsz Om_21.le) ?_
      intro vn W22 hO k22 hgr hat
      have Hwn := Hw21
      go_wp2_with fail
      go_roundw
      case rel => exact ⟨k + 1, by omega, by go_num, by rw [HT.out]; exact hO, (bq_trans HB.out Hwn).trans k22⟩
      case measure => simp [intOf]; omega
    · have hkn : k = n := by omega
      have HB := Lib.hid hbel
      have HO : Hid (OwnC wr W4.heap.size 23 2 _ L) := Lib.hid (by have h := hown; rw [hkn, ← HLn.out, List.take_length] at h; exact h)
      have HSZ := Lib.hid HB0.out.size
      clear hown hbel
      subst hkn
      go_wp2_with fail
      go_ret
      exact ⟨⟨_, rfl, HO.out.weaken HSZ.out⟩, bq_trans HB0.out HB.out⟩
set_option maxHeartbeats 2000000 in
theorem rflat16_core (ax ay bx by1 cx cy : Int) (n : Nat) (L : List (List Value)) (X Y : Nat → Int) (w : World) (hn : n ≤ 32) (hL : L.length = n) (H0 : Hid (∀ W, Calls Try.prog 17 #[.agg #[.int .i64 ax, .int .i64 ay], .agg #[.int .i64 bx, .int .i64 by1], .agg #[.int .i64 cx, .int .i64 cy]] W fun e w' => e = .returned (.int .i64 (n : Int)) ∧ Below W.heap.size W w'))
    (HX : Hid (∀ k : Nat, k < n → ∀ W, Calls Try.prog 25 #[.int .i64 ax, .int .i64 bx, .int .i64 cx, .int .i64 ((k : Int) + 1), .int .i64 (n : Int)] W fun e w' => e = .returned (.int .i64 (X k)) ∧ Below W.heap.size W w'))
    (HY : Hid (∀ k : Nat, k < n → ∀ W, Calls Try.prog 25 #[.int .i64 ay, .int .i64 by1, .int .i64 cy, .int .i64 ((k : Int) + 1), .int .i64 (n : Int)] W fun e w' => e = .returned (.int .i64 (Y k)) ∧ Below W.heap.size W w'))
    (HS : Hid (∀ k : Nat, k < n → L.take (k + 1) = L.take k ++ [[.int .i64 (X k), .int .i64 (Y k)]])) :
    Calls Try.prog 15 #[.agg #[.int .i64 ax, .int .i64 ay], .agg #[.int .i64 bx, .int .i64 by1], .agg #[.int .i64 cx, .int .i64 cy]] w fun e w' => (∃ v, e = .returned v ∧ OwnC w' w.heap.size 23 2 v L) ∧ Below w.heap.size w w' := by
  have HLn := Lib.hid hL
  clear hL
  have hn2 : (n : Int) ≤ 32 := by omega
  have HN := Lib.hid hn
  clear hn
  go_enter Try.func15, Try.ntmps15
  go_upto_region 2 with (go_big_may; first
    | (refine wl_box 23 _ _ rfl rfl (show _ = Value.agg #[.int .i64 ax, .int .i64 ay] from rfl) ?_; intro W1 ba Ba_1 l1 k1; have ga : w.heap.size ≤ ba := l1; have Hw1 := k1; clear l1 k1)
    | (refine wl_box 23 _ _ rfl rfl (show _ = Value.agg #[.int .i64 bx, .int .i64 by1] from rfl) ?_; intro W2 bb Bb_2 l2 k2; have gb : w.heap.size ≤ bb := Nat.le_trans Hw1.size l2; have nab : ba ≠ bb := Nat.ne_of_lt (Nat.lt_of_lt_of_le Ba_1.lt l2); have Ba_2 := Ba_1.keep k2; have Hw2 := bq_trans Hw1 k2; clear l2 k2 Ba_1 Hw1)
    | (refine wl_box 23 _ _ rfl rfl (show _ = Value.agg #[.int .i64 cx, .int .i64 cy] from rfl) ?_; intro W3 bc Bc_3 l3 k3; have gc : w.heap.size ≤ bc := Nat.le_trans Hw2.size l3; have nac : ba ≠ bc := Nat.ne_of_lt (Nat.lt_of_lt_of_le Ba_2.lt l3); have nbc : bb ≠ bc := Nat.ne_of_lt (Nat.lt_of_lt_of_le Bb_2.lt l3); have Ba_3 := Ba_2.keep k3; have Bb_3 := Bb_2.keep k3; have Hw3 := bq_trans Hw2 k3; clear l3 k3 Ba_2 Bb_2 Hw2))
  go_wp2_with (first
    | (refine wl_load 23 2 _ Try.underlying23 rfl szPt _ rfl rfl _ rfl _ _ Ba_3 rfl ?_)
    | (refine wl_load 23 2 _ Try.underlying23 rfl szPt _ rfl rfl _ rfl _ _ Bb_3 rfl ?_)
    | (refine wl_load 23 2 _ Try.underlying23 rfl szPt _ rfl rfl _ rfl _ _ Bc_3 rfl ?_)
    | (go_at_call 17; (with_reducible refine (H0.out _).mono ?_); rintro e W4 ⟨rfl, k4⟩; have Ba_4 := Ba_3.keep k4; have Bb_4 := Bb_3.keep k4; have Bc_4 := Bc_3.keep k4; have Hw4 := bq_trans Hw3 k4; clear k4 Ba_3 Bb_3 Bc_3 Hw3))
  have HB0 := Lib.hid Hw4
  clear Hw4
  go_loopw [7, 9] (fun l i wr => FRel W4 n L l i wr) (fun _ i _ => n + 1 - (intOf i).toNat)
  case atStart => exact ⟨0, by omega, rfl, ownC_nil _ _ _ _, bq_refl _⟩
  case round =>
    obtain ⟨k, hk, rfl, hown, hbel⟩ := hrel
    by_cases hlt : k < n
    · have hle : (k : Int) + 1 ≤ (n : Int) := by omega
      have HX1 := Lib.hid (HX.out k hlt)
      have HY1 := Lib.hid (HY.out k hlt)
      have HT := Lib.hid (HS.out k hlt)
      have HX := HX1
      have HY := HY1
      clear HX1 HY1 HS
      generalize X k = x at *
      generalize Y k = y at *
      have Ra := Ba_4.keep hbel
      have Rb := Bb_4.keep hbel
      have Rc := Bc_4.keep hbel
      have OM := hown.m
      have SM : SzM wr W4.heap.size wr.heap.size := ⟨Nat.le_refl _⟩
      have hsz : W4.heap.size ≤ wr.heap.size := hbel.size
      have HB := Lib.hid hbel
      have HLE : Hid ((L.take k).length ≤ 1000000) := Lib.hid (by have := HN.out; have := HLn.out; rw [List.length_take]; omega)
      clear hown hbel Ba_4 Bb_4 Bc_4
      generalize L.take k = us at *
      go_upto_region 6 with (fail)
      refine Dap.wp_region_tail 20 21 39 (Dap.One wr (#[.int .i64 x, .int .i64 y]) 23) (by kernel_rfl) (by kernel_rfl) (by kernel_rfl) (by kernel_rfl) (Dap.one_lasts _ _ _) (of_decide_eq_true rfl) ?_
      refine Dap.dp_take (v := ?_) (by decide) (by rfl) ?_ ?_
      rotate_left
      · (intro w hSw; go_simp; try with_reducible rfl)
      try simp only [Act.put, List.setIfInBounds_toArray, List.set_cons_zero, List.set_cons_succ]
      refine Dap.dp_take (v := ?_) (by decide) (by rfl) ?_ ?_
      rotate_left
      · (intro w hSw; go_simp; try with_reducible rfl)
      try simp only [Act.put, List.setIfInBounds_toArray, List.set_cons_zero, List.set_cons_succ]
      refine Dap.dp_take (v := ?_) (by decide) (by rfl) ?_ ?_
      rotate_left
      · (intro w hSw; have cc : w.cell? ⟨ba, 0, none⟩ = some (.int .i64 ax) := (Ra.keep hSw).cell 0; go_simp; try with_reducible rfl)
      try simp only [Act.put, List.setIfInBounds_toArray, List.set_cons_zero, List.set_cons_succ]
      refine Dap.dp_take (v := ?_) (by decide) (by rfl) ?_ ?_
      rotate_left
      · (intro w hSw; go_simp; try with_reducible rfl)
      try simp only [Act.put, List.setIfInBounds_toArray, List.set_cons_zero, List.set_cons_succ]
      refine Dap.dp_take (v := ?_) (by decide) (by rfl) ?_ ?_
      rotate_left
      · (intro w hSw; have cc : w.cell? ⟨bb, 0, none⟩ = some (.int .i64 bx) := (Rb.keep hSw).cell 0; go_simp; try with_reducible rfl)
      try simp only [Act.put, List.setIfInBounds_toArray, List.set_cons_zero, List.set_cons_succ]
      refine Dap.dp_take (v := ?_) (by decide) (by rfl) ?_ ?_
      rotate_left
      · (intro w hSw; go_simp; try with_reducible rfl)
      try simp only [Act.put, List.setIfInBounds_toArray, List.set_cons_zero, List.set_cons_succ]
      refine Dap.dp_take (v := ?_) (by decide) (by rfl) ?_ ?_
      rotate_left
      · (intro w hSw; have cc : w.cell? ⟨bc, 0, none⟩ = some (.int .i64 cx) := (Rc.keep hSw).cell 0; go_simp; try with_reducible rfl)
      try simp only [Act.put, List.setIfInBounds_toArray, List.set_cons_zero, List.set_cons_succ]
      refine Dap.dp_take (v := ?_) (by decide) (by rfl) ?_ ?_
      rotate_left
      · (intro w hSw; go_simp; try with_reducible rfl)
      try simp only [Act.put, List.setIfInBounds_toArray, List.set_cons_zero, List.set_cons_succ]
      refine Dap.dp_take (v := ?_) (by decide) (by rfl) ?_ ?_
      rotate_left
      · (intro w hSw; go_simp; try with_reducible rfl)
      try simp only [Act.put, List.setIfInBounds_toArray, List.set_cons_zero, List.set_cons_succ]
      refine Dap.dp_call (f := 25) (args := #[.int .i64 ax, .int .i64 bx, .int .i64 cx, .int .i64 ((k : Int) + 1), .int .i64 (n : Int)]) (v := .int .i64 x) (by decide) (by rfl) ?_ (fun w hS => HX.out w) ?_
      · (intro w hSw; go_simp)
      try simp only [Act.put, List.setIfInBounds_toArray, List.set_cons_zero, List.set_cons_succ]
      refine Dap.dp_take (v := ?_) (by decide) (by rfl) ?_ ?_
      rotate_left
      · (intro w hSw; go_simp; try with_reducible rfl)
      try simp only [Act.put, List.setIfInBounds_toArray, List.set_cons_zero, List.set_cons_succ]
      refine Dap.dp_take (v := ?_) (by decide) (by rfl) ?_ ?_
      rotate_left
      · (intro w hSw; have cc : w.cell? ⟨ba, 1, none⟩ = some (.int .i64 ay) := (Ra.keep hSw).cell 1; go_simp; try with_reducible rfl)
      try simp only [Act.put, List.setIfInBounds_toArray, List.set_cons_zero, List.set_cons_succ]
      refine Dap.dp_take (v := ?_) (by decide) (by rfl) ?_ ?_
      rotate_left
      · (intro w hSw; go_simp; try with_reducible rfl)
      try simp only [Act.put, List.setIfInBounds_toArray, List.set_cons_zero, List.set_cons_succ]
      refine Dap.dp_take (v := ?_) (by decide) (by rfl) ?_ ?_
      rotate_left
      · (intro w hSw; have cc : w.cell? ⟨bb, 1, none⟩ = some (.int .i64 by1) := (Rb.keep hSw).cell 1; go_simp; try with_reducible rfl)
      try simp only [Act.put, List.setIfInBounds_toArray, List.set_cons_zero, List.set_cons_succ]
      refine Dap.dp_take (v := ?_) (by decide) (by rfl) ?_ ?_
      rotate_left
      · (intro w hSw; go_simp; try with_reducible rfl)
      try simp only [Act.put, List.setIfInBounds_toArray, List.set_cons_zero, List.set_cons_succ]
      refine Dap.dp_take (v := ?_) (by decide) (by rfl) ?_ ?_
      rotate_left
      · (intro w hSw; have cc : w.cell? ⟨bc, 1, none⟩ = some (.int .i64 cy) := (Rc.keep hSw).cell 1; go_simp; try with_reducible rfl)
      try simp only [Act.put, List.setIfInBounds_toArray, List.set_cons_zero, List.set_cons_succ]
      refine Dap.dp_take (v := ?_) (by decide) (by rfl) ?_ ?_
      rotate_left
      · (intro w hSw; go_simp; try with_reducible rfl)
      try simp only [Act.put, List.setIfInBounds_toArray, List.set_cons_zero, List.set_cons_succ]
      refine Dap.dp_take (v := ?_) (by decide) (by rfl) ?_ ?_
      rotate_left
      · (intro w hSw; go_simp; try with_reducible rfl)
      try simp only [Act.put, List.setIfInBounds_toArray, List.set_cons_zero, List.set_cons_succ]
      refine Dap.dp_call (f := 25) (args := #[.int .i64 ay, .int .i64 by1, .int .i64 cy, .int .i64 ((k : Int) + 1), .int .i64 (n : Int)]) (v := .int .i64 y) (by decide) (by rfl) ?_ (fun w hS => HY.out w) ?_
      · (intro w hSw; go_simp)
      try simp only [Act.put, List.setIfInBounds_toArray, List.set_cons_zero, List.set_cons_succ]
      refine Dap.dp_take (v := ?_) (by decide) (by rfl) ?_ ?_
      rotate_left
      · (intro w hSw; go_simp; try with_reducible rfl)
      try simp only [Act.put, List.setIfInBounds_toArray, List.set_cons_zero, List.set_cons_succ]
      refine Dap.dp_slice 24 23 (#[.int .i64 x, .int .i64 y]) _ (pt1_run x y) rfl rfl _ rfl rfl ?_
      try simp only [Act.put, List.setIfInBounds_toArray, List.set_cons_zero, List.set_cons_succ]
      (refine Dap.dp_one ?_; intro W21 bn Bn_21 l21 k21; have gn : wr.heap.size ≤ bn := l21; have nan : ba ≠ bn := Nat.ne_of_lt (Nat.lt_of_lt_of_le Ra.lt l21); have nbn : bb ≠ bn := Nat.ne_of_lt (Nat.lt_of_lt_of_le Rb.lt l21); have ncn : bc ≠ bn := Nat.ne_of_lt (Nat.lt_of_lt_of_le Rc.lt l21); have lon := Nat.le_trans SM.le l21; have Ba_21 := Ra.keep k21; have Bb_21 := Rb.keep k21; have Bc_21 := Rc.keep k21; have Ov_21 := OM.keep k21; have Om_21 := SM.keep k21; have Hw21 := k21; clear l21 k21 Ra Rb Rc OM SM)
      try simp only [Act.put, List.setIfInBounds_toArray, List.set_cons_zero, List.set_cons_succ]
      refine wl_appC 24 23 2 _ Try.underlying24 pt_info rfl (by decide) _ _ rfl rfl W4.heap.size _ rfl us Ov_21.1 bn 1 _ _ rfl Bn_21 rfl (by kernel_rfl) HLE.out (Nat.le_trans hsz Om_21.le) ?_
      intro vn W22 hO k22 hgr hat
      have Hwn := Hw21
      go_wp2_with fail
      go_roundw
      case rel => exact ⟨k + 1, by omega, by go_num, by rw [HT.out]; exact hO, (bq_trans HB.out Hwn).trans k22⟩
      case measure => simp [intOf]; omega
    · have hkn : k = n := by omega
      have HB := Lib.hid hbel
      have HO : Hid (OwnC wr W4.heap.size 23 2 _ L) := Lib.hid (by have h := hown; rw [hkn, ← HLn.out, List.take_length] at h; exact h)
      have HSZ := Lib.hid HB0.out.size
      clear hown hbel
      subst hkn
      go_wp2_with fail
      go_ret
      exact ⟨⟨_, rfl, HO.out.weaken HSZ.out⟩, bq_trans HB0.out HB.out⟩
/-- what Flat tells -/
def flatP (ax ay bx by1 cx cy : Int) : List (List Value) := if allE ax ay bx by1 cx cy then (flatL ax ay bx by1 cx cy).map ptC else []
theorem flatP_no {ax ay bx by1 cx cy : Int} (h : allE ax ay bx by1 cx cy = false) : flatP ax ay bx by1 cx cy = [] := by unfold flatP; rw [h]; rfl
theorem flatP_yes {ax ay bx by1 cx cy : Int} (h : allE ax ay bx by1 cx cy = true) : flatP ax ay bx by1 cx cy = (flatL ax ay bx by1 cx cy).map ptC := by unfold flatP; rw [h]; rfl
theorem flat_take {ax ay bx by1 cx cy : Int} (k : Nat) (h : k < pie (bendV ax ay bx by1 cx cy)) : ((flatL ax ay bx by1 cx cy).map ptC).take (k + 1) = ((flatL ax ay bx by1 cx cy).map ptC).take k ++ [[.int .i64 (ptV ax bx cx ((k : Int) + 1) (pie (bendV ax ay bx by1 cx cy) : Int)), .int .i64 (ptV ay by1 cy ((k : Int) + 1) (pie (bendV ax ay bx by1 cx cy) : Int))]] := by
  rw [← List.map_take, ← List.map_take, flatL_snoc ax ay bx by1 cx cy k h]
theorem flat16_any (ax ay bx by1 cx cy : Int) (w : World) : Calls Try.prog 8 #[.agg #[.int .i64 ax, .int .i64 ay], .agg #[.int .i64 bx, .int .i64 by1], .agg #[.int .i64 cx, .int .i64 cy]] w fun e w' => (∃ v, e = .returned v ∧ OwnC w' w.heap.size 23 2 v (flatP ax ay bx by1 cx cy)) ∧ Below w.heap.size w w' := by
  have H0 := Lib.hid fun W => pieces16_any ax ay bx by1 cx cy W
  cases q : allE ax ay bx by1 cx cy with
  | false =>
    rw [q] at H0
    rw [flatP_no q]
    exact flat16_no ax ay bx by1 cx cy w H0
  | true =>
    rw [q] at H0
    rw [flatP_yes q]
    obtain ⟨a1, a2, b1, b2, c1, c2⟩ := allE_bd q
    have hp := pie_bd (bendV ax ay bx by1 cx cy)
    exact flat16_core ax ay bx by1 cx cy (pie (bendV ax ay bx by1 cx cy)) _ _ _ w hp.2 (by rw [List.length_map, flatL_len]) H0 (Lib.hid fun k hk W => partAt_any ax bx cx _ _ W a1.1 b1.1 c1.1 (by omega) (by omega)) (Lib.hid fun k hk W => partAt_any ay by1 cy _ _ W a2.1 b2.1 c2.1 (by omega) (by omega)) (Lib.hid fun k hk => flat_take k hk)
theorem rflat16_any (ax ay bx by1 cx cy : Int) (w : World) (q : allE ax ay bx by1 cx cy = true) : Calls Try.prog 15 #[.agg #[.int .i64 ax, .int .i64 ay], .agg #[.int .i64 bx, .int .i64 by1], .agg #[.int .i64 cx, .int .i64 cy]] w fun e w' => (∃ v, e = .returned v ∧ OwnC w' w.heap.size 23 2 v (flatP ax ay bx by1 cx cy)) ∧ Below w.heap.size w w' := by
  rw [flatP_yes q]
  obtain ⟨a1, a2, b1, b2, c1, c2⟩ := allE_bd q
  have hp := pie_bd (bendV ax ay bx by1 cx cy)
  exact rflat16_core ax ay bx by1 cx cy (pie (bendV ax ay bx by1 cx cy)) _ _ _ w hp.2 (by rw [List.length_map, flatL_len]) (Lib.hid fun W => rpieces16_any ax ay bx by1 cx cy W q) (Lib.hid fun k hk W => rpart16_any ax bx cx _ _ W a1.1 b1.1 c1.1 (by omega) (by omega)) (Lib.hid fun k hk W => rpart16_any ay by1 cy _ _ W a2.1 b2.1 c2.1 (by omega) (by omega)) (Lib.hid fun k hk => flat_take k hk)
end Go.Proofs.Ytpeknlablcgchaa
