import Derived.Test.YtpeknlablcgchaaO5
/- Layer 16: the walk of CurveNear. -/
namespace Go.Proofs.Ytpeknlablcgchaa
open Go.RowKit
set_option linter.unusedVariables false
set_option linter.unusedSimpArgs false
set_option maxRecDepth 100000

theorem run_min6 {P : Program} (w : World) (ts : Array TypeId) (t : TypeId) (x y z u v r : Int) : (Builtin.min_ ts t #[.int .i64 x, .int .i64 y, .int .i64 z, .int .i64 u, .int .i64 v, .int .i64 r]).run P w = .ok (.int .i64 (min (min (min (min (min x y) z) u) v) r)) w := by
  have e : ∀ a b : Int, (if b < a then b else a) = min a b := fun a b => by
    rw [Int.min_def]
    split <;> split <;> omega
  simp [Builtin.min_, Builtin.min2, e]
theorem run_max6 {P : Program} (w : World) (ts : Array TypeId) (t : TypeId) (x y z u v r : Int) : (Builtin.max_ ts t #[.int .i64 x, .int .i64 y, .int .i64 z, .int .i64 u, .int .i64 v, .int .i64 r]).run P w = .ok (.int .i64 (max (max (max (max (max x y) z) u) v) r)) w := by
  have e : ∀ a b : Int, (if a < b then b else a) = max a b := fun a b => by
    rw [Int.max_def]
    split <;> split <;> omega
  simp [Builtin.max_, Builtin.max2, e]
set_option maxHeartbeats 2000000 in
theorem near16_0 (ax ay bx by1 cx cy mx mn d : Int) (w : World) (HA : Hid (∀ W, Calls Try.prog 14 #[] W fun e w' => e = .returned (.bool true) ∧ Below W.heap.size W w')) (H1 : Hid (∀ W, Calls Try.prog 11 #[.agg #[.int .i64 ax, .int .i64 ay], .agg #[.int .i64 bx, .int .i64 by1], .agg #[.int .i64 cx, .int .i64 cy]] W fun e w' => e = .returned (.bool false) ∧ Below W.heap.size W w'))     :
    Calls Try.prog 5 #[.agg #[.int .i64 ax, .int .i64 ay], .agg #[.int .i64 bx, .int .i64 by1], .agg #[.int .i64 cx, .int .i64 cy]] w fun e w' => e = .returned (.bool true) ∧ Below w.heap.size w w' := by
  go_enter Try.func5, Try.ntmps5
  go_upto_region 1 with (go_big_may; first
    | (refine wl_box 23 _ _ rfl rfl (show _ = Value.agg #[.int .i64 ax, .int .i64 ay] from rfl) ?_; intro W1 ba Ba_1 l1 k1; have ga : w.heap.size ≤ ba := l1; have Hw1 := k1; clear l1 k1)
    | (refine wl_box 23 _ _ rfl rfl (show _ = Value.agg #[.int .i64 bx, .int .i64 by1] from rfl) ?_; intro W2 bb Bb_2 l2 k2; have gb : w.heap.size ≤ bb := Nat.le_trans Hw1.size l2; have nab : ba ≠ bb := Nat.ne_of_lt (Nat.lt_of_lt_of_le Ba_1.lt l2); have Ba_2 := Ba_1.keep k2; have Hw2 := bq_trans Hw1 k2; clear l2 k2 Ba_1 Hw1)
    | (refine wl_box 23 _ _ rfl rfl (show _ = Value.agg #[.int .i64 cx, .int .i64 cy] from rfl) ?_; intro W3 bc Bc_3 l3 k3; have gc : w.heap.size ≤ bc := Nat.le_trans Hw2.size l3; have nac : ba ≠ bc := Nat.ne_of_lt (Nat.lt_of_lt_of_le Ba_2.lt l3); have nbc : bb ≠ bc := Nat.ne_of_lt (Nat.lt_of_lt_of_le Bb_2.lt l3); have Ba_3 := Ba_2.keep k3; have Bb_3 := Bb_2.keep k3; have Hw3 := bq_trans Hw2 k3; clear l3 k3 Ba_2 Bb_2 Hw2))
  refine Det.wp_region_text (S := fun w' => Below W3.heap.size W3 w') (bq_refl _) ?_
  refine Det.det_load 23 2 _ Try.underlying23 rfl szPt _ rfl (by rfl) _ rfl _ _ (fun w hS => Ba_3.keep hS) rfl ?_
  try simp only [Act.put, List.setIfInBounds_toArray, List.set_cons_zero, List.set_cons_succ]
  refine Det.det_load 23 2 _ Try.underlying23 rfl szPt _ rfl (by rfl) _ rfl _ _ (fun w hS => Bb_3.keep hS) rfl ?_
  try simp only [Act.put, List.setIfInBounds_toArray, List.set_cons_zero, List.set_cons_succ]
  refine Det.det_load 23 2 _ Try.underlying23 rfl szPt _ rfl (by rfl) _ rfl _ _ (fun w hS => Bc_3.keep hS) rfl ?_
  try simp only [Act.put, List.setIfInBounds_toArray, List.set_cons_zero, List.set_cons_succ]
  refine Det.det_call (f := 11) (args := #[.agg #[.int .i64 ax, .int .i64 ay], .agg #[.int .i64 bx, .int .i64 by1], .agg #[.int .i64 cx, .int .i64 cy]]) (v := .bool false) (by rfl) ?_ (fun w hS => (H1.out w).mono fun e w' ⟨h1, h2⟩ => ⟨h1, bq_trans hS h2⟩) ?_
  · (intro w hSw; go_simp)
  try simp only [Act.put, List.setIfInBounds_toArray, List.set_cons_zero, List.set_cons_succ]
  refine Det.det_take (v := ?_) (by rfl) ?_ ?_
  rotate_left
  · (intro w hSw; go_simp; try with_reducible rfl)
  try simp only [Act.put, List.setIfInBounds_toArray, List.set_cons_zero, List.set_cons_succ]
  refine Det.det_take (v := ?_) (by rfl) ?_ ?_
  rotate_left
  · (intro w hSw; go_simp; try with_reducible rfl)
  try simp only [Act.put, List.setIfInBounds_toArray, List.set_cons_zero, List.set_cons_succ]
  refine Det.det_skip (by rfl) ?_
  try simp only [Act.put, List.setIfInBounds_toArray, List.set_cons_zero, List.set_cons_succ]
  refine Det.det_skip (by rfl) ?_
  try simp only [Act.put, List.setIfInBounds_toArray, List.set_cons_zero, List.set_cons_succ]
  refine Det.det_skip (by rfl) ?_
  try simp only [Act.put, List.setIfInBounds_toArray, List.set_cons_zero, List.set_cons_succ]
  refine Det.det_skip (by rfl) ?_
  try simp only [Act.put, List.setIfInBounds_toArray, List.set_cons_zero, List.set_cons_succ]
  refine Det.det_skip (by rfl) ?_
  try simp only [Act.put, List.setIfInBounds_toArray, List.set_cons_zero, List.set_cons_succ]
  refine Det.det_skip (by rfl) ?_
  try simp only [Act.put, List.setIfInBounds_toArray, List.set_cons_zero, List.set_cons_succ]
  refine Det.det_skip (by rfl) ?_
  try simp only [Act.put, List.setIfInBounds_toArray, List.set_cons_zero, List.set_cons_succ]
  refine Det.det_skip (by rfl) ?_
  try simp only [Act.put, List.setIfInBounds_toArray, List.set_cons_zero, List.set_cons_succ]
  refine Det.det_skip (by rfl) ?_
  try simp only [Act.put, List.setIfInBounds_toArray, List.set_cons_zero, List.set_cons_succ]
  refine Det.det_skip (by rfl) ?_
  try simp only [Act.put, List.setIfInBounds_toArray, List.set_cons_zero, List.set_cons_succ]
  refine Det.det_skip (by rfl) ?_
  try simp only [Act.put, List.setIfInBounds_toArray, List.set_cons_zero, List.set_cons_succ]
  refine Det.det_skip (by rfl) ?_
  try simp only [Act.put, List.setIfInBounds_toArray, List.set_cons_zero, List.set_cons_succ]
  refine Det.det_skip (by rfl) ?_
  try simp only [Act.put, List.setIfInBounds_toArray, List.set_cons_zero, List.set_cons_succ]
  refine Det.det_skip (by rfl) ?_
  try simp only [Act.put, List.setIfInBounds_toArray, List.set_cons_zero, List.set_cons_succ]
  refine Det.det_take (v := ?_) (by rfl) ?_ ?_
  rotate_left
  · (intro w hSw; go_simp; try with_reducible rfl)
  try simp only [Act.put, List.setIfInBounds_toArray, List.set_cons_zero, List.set_cons_succ]
  refine Det.det_take (v := ?_) (by rfl) ?_ ?_
  rotate_left
  · (intro w hSw; go_simp; try with_reducible rfl)
  try simp only [Act.put, List.setIfInBounds_toArray, List.set_cons_zero, List.set_cons_succ]
  refine Det.det_skip (by rfl) ?_
  try simp only [Act.put, List.setIfInBounds_toArray, List.set_cons_zero, List.set_cons_succ]
  refine Det.det_skip (by rfl) ?_
  try simp only [Act.put, List.setIfInBounds_toArray, List.set_cons_zero, List.set_cons_succ]
  refine Det.det_skip (by rfl) ?_
  try simp only [Act.put, List.setIfInBounds_toArray, List.set_cons_zero, List.set_cons_succ]
  refine Det.det_skip (by rfl) ?_
  try simp only [Act.put, List.setIfInBounds_toArray, List.set_cons_zero, List.set_cons_succ]
  refine Det.det_skip (by rfl) ?_
  try simp only [Act.put, List.setIfInBounds_toArray, List.set_cons_zero, List.set_cons_succ]
  refine Det.det_skip (by rfl) ?_
  try simp only [Act.put, List.setIfInBounds_toArray, List.set_cons_zero, List.set_cons_succ]
  refine Det.det_skip (by rfl) ?_
  try simp only [Act.put, List.setIfInBounds_toArray, List.set_cons_zero, List.set_cons_succ]
  refine Det.det_skip (by rfl) ?_
  try simp only [Act.put, List.setIfInBounds_toArray, List.set_cons_zero, List.set_cons_succ]
  refine Det.det_skip (by rfl) ?_
  try simp only [Act.put, List.setIfInBounds_toArray, List.set_cons_zero, List.set_cons_succ]
  refine Det.det_skip (by rfl) ?_
  try simp only [Act.put, List.setIfInBounds_toArray, List.set_cons_zero, List.set_cons_succ]
  refine Det.det_skip (by rfl) ?_
  try simp only [Act.put, List.setIfInBounds_toArray, List.set_cons_zero, List.set_cons_succ]
  refine Det.det_skip (by rfl) ?_
  try simp only [Act.put, List.setIfInBounds_toArray, List.set_cons_zero, List.set_cons_succ]
  refine Det.det_skip (by rfl) ?_
  try simp only [Act.put, List.setIfInBounds_toArray, List.set_cons_zero, List.set_cons_succ]
  refine Det.det_skip (by rfl) ?_
  try simp only [Act.put, List.setIfInBounds_toArray, List.set_cons_zero, List.set_cons_succ]
  refine Det.det_take (v := ?_) (by rfl) ?_ ?_
  rotate_left
  · (intro w hSw; go_simp; try with_reducible rfl)
  try simp only [Act.put, List.setIfInBounds_toArray, List.set_cons_zero, List.set_cons_succ]
  refine Det.det_take (v := ?_) (by rfl) ?_ ?_
  rotate_left
  · (intro w hSw; go_simp; try with_reducible rfl)
  try simp only [Act.put, List.setIfInBounds_toArray, List.set_cons_zero, List.set_cons_succ]
  refine Det.det_skip (by rfl) ?_
  try simp only [Act.put, List.setIfInBounds_toArray, List.set_cons_zero, List.set_cons_succ]
  refine Det.det_skip (by rfl) ?_
  try simp only [Act.put, List.setIfInBounds_toArray, List.set_cons_zero, List.set_cons_succ]
  refine Det.det_skip (by rfl) ?_
  try simp only [Act.put, List.setIfInBounds_toArray, List.set_cons_zero, List.set_cons_succ]
  refine Det.det_skip (by rfl) ?_
  try simp only [Act.put, List.setIfInBounds_toArray, List.set_cons_zero, List.set_cons_succ]
  refine Det.det_skip (by rfl) ?_
  try simp only [Act.put, List.setIfInBounds_toArray, List.set_cons_zero, List.set_cons_succ]
  refine Det.det_take (v := ?_) (by rfl) ?_ ?_
  rotate_left
  · (intro w hSw; go_simp; try with_reducible rfl)
  try simp only [Act.put, List.setIfInBounds_toArray, List.set_cons_zero, List.set_cons_succ]
  refine Det.det_nil (fun W4 k4 => ?_)
  have Ba_4 := Ba_3.keep k4
  have Bb_4 := Bb_3.keep k4
  have Bc_4 := Bc_3.keep k4
  have Hw4 := bq_trans Hw3 k4
  clear k4 Ba_3 Bb_3 Bc_3 Hw3
  go_wp2_with (first
    | (go_at_call 14; (with_reducible refine (HA.out _).mono ?_); rintro e W5 ⟨rfl, k5⟩; have Ba_5 := Ba_4.keep k5; have Bb_5 := Bb_4.keep k5; have Bc_5 := Bc_4.keep k5; have Hw5 := bq_trans Hw4 k5; clear k5 Ba_4 Bb_4 Bc_4 Hw4))
  go_ret
  exact ⟨rfl, Hw5⟩
set_option maxHeartbeats 2000000 in
theorem near16_1 (ax ay bx by1 cx cy mx mn d : Int) (w : World) (HA : Hid (∀ W, Calls Try.prog 14 #[] W fun e w' => e = .returned (.bool true) ∧ Below W.heap.size W w')) (H1 : Hid (∀ W, Calls Try.prog 11 #[.agg #[.int .i64 ax, .int .i64 ay], .agg #[.int .i64 bx, .int .i64 by1], .agg #[.int .i64 cx, .int .i64 cy]] W fun e w' => e = .returned (.bool true) ∧ Below W.heap.size W w')) (m1 : ∀ (w : World) (ts : Array TypeId) (t : TypeId), (Builtin.max_ ts t #[.int .i64 ax, .int .i64 bx, .int .i64 cx, .int .i64 ay, .int .i64 by1, .int .i64 cy]).run Try.prog w = .ok (.int .i64 mx) w)   (h1 : 1048576 < mx) :
    Calls Try.prog 5 #[.agg #[.int .i64 ax, .int .i64 ay], .agg #[.int .i64 bx, .int .i64 by1], .agg #[.int .i64 cx, .int .i64 cy]] w fun e w' => e = .returned (.bool true) ∧ Below w.heap.size w w' := by
  go_enter Try.func5, Try.ntmps5
  go_upto_region 1 with (go_big_may; first
    | (refine wl_box 23 _ _ rfl rfl (show _ = Value.agg #[.int .i64 ax, .int .i64 ay] from rfl) ?_; intro W1 ba Ba_1 l1 k1; have ga : w.heap.size ≤ ba := l1; have Hw1 := k1; clear l1 k1)
    | (refine wl_box 23 _ _ rfl rfl (show _ = Value.agg #[.int .i64 bx, .int .i64 by1] from rfl) ?_; intro W2 bb Bb_2 l2 k2; have gb : w.heap.size ≤ bb := Nat.le_trans Hw1.size l2; have nab : ba ≠ bb := Nat.ne_of_lt (Nat.lt_of_lt_of_le Ba_1.lt l2); have Ba_2 := Ba_1.keep k2; have Hw2 := bq_trans Hw1 k2; clear l2 k2 Ba_1 Hw1)
    | (refine wl_box 23 _ _ rfl rfl (show _ = Value.agg #[.int .i64 cx, .int .i64 cy] from rfl) ?_; intro W3 bc Bc_3 l3 k3; have gc : w.heap.size ≤ bc := Nat.le_trans Hw2.size l3; have nac : ba ≠ bc := Nat.ne_of_lt (Nat.lt_of_lt_of_le Ba_2.lt l3); have nbc : bb ≠ bc := Nat.ne_of_lt (Nat.lt_of_lt_of_le Bb_2.lt l3); have Ba_3 := Ba_2.keep k3; have Bb_3 := Bb_2.keep k3; have Hw3 := bq_trans Hw2 k3; clear l3 k3 Ba_2 Bb_2 Hw2))
  refine Det.wp_region_text (S := fun w' => Below W3.heap.size W3 w') (bq_refl _) ?_
  refine Det.det_load 23 2 _ Try.underlying23 rfl szPt _ rfl (by rfl) _ rfl _ _ (fun w hS => Ba_3.keep hS) rfl ?_
  try simp only [Act.put, List.setIfInBounds_toArray, List.set_cons_zero, List.set_cons_succ]
  refine Det.det_load 23 2 _ Try.underlying23 rfl szPt _ rfl (by rfl) _ rfl _ _ (fun w hS => Bb_3.keep hS) rfl ?_
  try simp only [Act.put, List.setIfInBounds_toArray, List.set_cons_zero, List.set_cons_succ]
  refine Det.det_load 23 2 _ Try.underlying23 rfl szPt _ rfl (by rfl) _ rfl _ _ (fun w hS => Bc_3.keep hS) rfl ?_
  try simp only [Act.put, List.setIfInBounds_toArray, List.set_cons_zero, List.set_cons_succ]
  refine Det.det_call (f := 11) (args := #[.agg #[.int .i64 ax, .int .i64 ay], .agg #[.int .i64 bx, .int .i64 by1], .agg #[.int .i64 cx, .int .i64 cy]]) (v := .bool true) (by rfl) ?_ (fun w hS => (H1.out w).mono fun e w' ⟨h1, h2⟩ => ⟨h1, bq_trans hS h2⟩) ?_
  · (intro w hSw; go_simp)
  try simp only [Act.put, List.setIfInBounds_toArray, List.set_cons_zero, List.set_cons_succ]
  refine Det.det_take (v := ?_) (by rfl) ?_ ?_
  rotate_left
  · (intro w hSw; go_simp; try with_reducible rfl)
  try simp only [Act.put, List.setIfInBounds_toArray, List.set_cons_zero, List.set_cons_succ]
  refine Det.det_take (v := ?_) (by rfl) ?_ ?_
  rotate_left
  · (intro w hSw; go_simp; try with_reducible rfl)
  try simp only [Act.put, List.setIfInBounds_toArray, List.set_cons_zero, List.set_cons_succ]
  refine Det.det_take (v := ?_) (by rfl) ?_ ?_
  rotate_left
  · (intro w hSw; go_simp; try with_reducible rfl)
  try simp only [Act.put, List.setIfInBounds_toArray, List.set_cons_zero, List.set_cons_succ]
  refine Det.det_take (v := ?_) (by rfl) ?_ ?_
  rotate_left
  · (intro w hSw; have cc : w.cell? ⟨ba, 0, none⟩ = some (.int .i64 ax) := (Ba_3.keep hSw).cell 0; go_simp; try with_reducible rfl)
  try simp only [Act.put, List.setIfInBounds_toArray, List.set_cons_zero, List.set_cons_succ]
  refine Det.det_take (v := ?_) (by rfl) ?_ ?_
  rotate_left
  · (intro w hSw; go_simp; try with_reducible rfl)
  try simp only [Act.put, List.setIfInBounds_toArray, List.set_cons_zero, List.set_cons_succ]
  refine Det.det_take (v := ?_) (by rfl) ?_ ?_
  rotate_left
  · (intro w hSw; have cc : w.cell? ⟨bb, 0, none⟩ = some (.int .i64 bx) := (Bb_3.keep hSw).cell 0; go_simp; try with_reducible rfl)
  try simp only [Act.put, List.setIfInBounds_toArray, List.set_cons_zero, List.set_cons_succ]
  refine Det.det_take (v := ?_) (by rfl) ?_ ?_
  rotate_left
  · (intro w hSw; go_simp; try with_reducible rfl)
  try simp only [Act.put, List.setIfInBounds_toArray, List.set_cons_zero, List.set_cons_succ]
  refine Det.det_take (v := ?_) (by rfl) ?_ ?_
  rotate_left
  · (intro w hSw; have cc : w.cell? ⟨bc, 0, none⟩ = some (.int .i64 cx) := (Bc_3.keep hSw).cell 0; go_simp; try with_reducible rfl)
  try simp only [Act.put, List.setIfInBounds_toArray, List.set_cons_zero, List.set_cons_succ]
  refine Det.det_take (v := ?_) (by rfl) ?_ ?_
  rotate_left
  · (intro w hSw; go_simp; try with_reducible rfl)
  try simp only [Act.put, List.setIfInBounds_toArray, List.set_cons_zero, List.set_cons_succ]
  refine Det.det_take (v := ?_) (by rfl) ?_ ?_
  rotate_left
  · (intro w hSw; have cc : w.cell? ⟨ba, 1, none⟩ = some (.int .i64 ay) := (Ba_3.keep hSw).cell 1; go_simp; try with_reducible rfl)
  try simp only [Act.put, List.setIfInBounds_toArray, List.set_cons_zero, List.set_cons_succ]
  refine Det.det_take (v := ?_) (by rfl) ?_ ?_
  rotate_left
  · (intro w hSw; go_simp; try with_reducible rfl)
  try simp only [Act.put, List.setIfInBounds_toArray, List.set_cons_zero, List.set_cons_succ]
  refine Det.det_take (v := ?_) (by rfl) ?_ ?_
  rotate_left
  · (intro w hSw; have cc : w.cell? ⟨bb, 1, none⟩ = some (.int .i64 by1) := (Bb_3.keep hSw).cell 1; go_simp; try with_reducible rfl)
  try simp only [Act.put, List.setIfInBounds_toArray, List.set_cons_zero, List.set_cons_succ]
  refine Det.det_take (v := ?_) (by rfl) ?_ ?_
  rotate_left
  · (intro w hSw; go_simp; try with_reducible rfl)
  try simp only [Act.put, List.setIfInBounds_toArray, List.set_cons_zero, List.set_cons_succ]
  refine Det.det_take (v := ?_) (by rfl) ?_ ?_
  rotate_left
  · (intro w hSw; have cc : w.cell? ⟨bc, 1, none⟩ = some (.int .i64 cy) := (Bc_3.keep hSw).cell 1; go_simp; try with_reducible rfl)
  try simp only [Act.put, List.setIfInBounds_toArray, List.set_cons_zero, List.set_cons_succ]
  refine Det.det_take (v := ?_) (by rfl) ?_ ?_
  rotate_left
  · (intro w hSw; go_simp; try with_reducible rfl)
  try simp only [Act.put, List.setIfInBounds_toArray, List.set_cons_zero, List.set_cons_succ]
  refine Det.det_take (v := ?_) (by rfl) ?_ ?_
  rotate_left
  · (intro w hSw; have eb : decide (1048576 < mx) = true := (by simp; omega); go_simp; try with_reducible rfl)
  try simp only [Act.put, List.setIfInBounds_toArray, List.set_cons_zero, List.set_cons_succ]
  refine Det.det_take (v := ?_) (by rfl) ?_ ?_
  rotate_left
  · (intro w hSw; go_simp; try with_reducible rfl)
  try simp only [Act.put, List.setIfInBounds_toArray, List.set_cons_zero, List.set_cons_succ]
  refine Det.det_take (v := ?_) (by rfl) ?_ ?_
  rotate_left
  · (intro w hSw; go_simp; try with_reducible rfl)
  try simp only [Act.put, List.setIfInBounds_toArray, List.set_cons_zero, List.set_cons_succ]
  refine Det.det_skip (by rfl) ?_
  try simp only [Act.put, List.setIfInBounds_toArray, List.set_cons_zero, List.set_cons_succ]
  refine Det.det_skip (by rfl) ?_
  try simp only [Act.put, List.setIfInBounds_toArray, List.set_cons_zero, List.set_cons_succ]
  refine Det.det_skip (by rfl) ?_
  try simp only [Act.put, List.setIfInBounds_toArray, List.set_cons_zero, List.set_cons_succ]
  refine Det.det_skip (by rfl) ?_
  try simp only [Act.put, List.setIfInBounds_toArray, List.set_cons_zero, List.set_cons_succ]
  refine Det.det_skip (by rfl) ?_
  try simp only [Act.put, List.setIfInBounds_toArray, List.set_cons_zero, List.set_cons_succ]
  refine Det.det_skip (by rfl) ?_
  try simp only [Act.put, List.setIfInBounds_toArray, List.set_cons_zero, List.set_cons_succ]
  refine Det.det_skip (by rfl) ?_
  try simp only [Act.put, List.setIfInBounds_toArray, List.set_cons_zero, List.set_cons_succ]
  refine Det.det_skip (by rfl) ?_
  try simp only [Act.put, List.setIfInBounds_toArray, List.set_cons_zero, List.set_cons_succ]
  refine Det.det_skip (by rfl) ?_
  try simp only [Act.put, List.setIfInBounds_toArray, List.set_cons_zero, List.set_cons_succ]
  refine Det.det_skip (by rfl) ?_
  try simp only [Act.put, List.setIfInBounds_toArray, List.set_cons_zero, List.set_cons_succ]
  refine Det.det_skip (by rfl) ?_
  try simp only [Act.put, List.setIfInBounds_toArray, List.set_cons_zero, List.set_cons_succ]
  refine Det.det_skip (by rfl) ?_
  try simp only [Act.put, List.setIfInBounds_toArray, List.set_cons_zero, List.set_cons_succ]
  refine Det.det_skip (by rfl) ?_
  try simp only [Act.put, List.setIfInBounds_toArray, List.set_cons_zero, List.set_cons_succ]
  refine Det.det_skip (by rfl) ?_
  try simp only [Act.put, List.setIfInBounds_toArray, List.set_cons_zero, List.set_cons_succ]
  refine Det.det_take (v := ?_) (by rfl) ?_ ?_
  rotate_left
  · (intro w hSw; go_simp; try with_reducible rfl)
  try simp only [Act.put, List.setIfInBounds_toArray, List.set_cons_zero, List.set_cons_succ]
  refine Det.det_take (v := ?_) (by rfl) ?_ ?_
  rotate_left
  · (intro w hSw; go_simp; try with_reducible rfl)
  try simp only [Act.put, List.setIfInBounds_toArray, List.set_cons_zero, List.set_cons_succ]
  refine Det.det_skip (by rfl) ?_
  try simp only [Act.put, List.setIfInBounds_toArray, List.set_cons_zero, List.set_cons_succ]
  refine Det.det_skip (by rfl) ?_
  try simp only [Act.put, List.setIfInBounds_toArray, List.set_cons_zero, List.set_cons_succ]
  refine Det.det_skip (by rfl) ?_
  try simp only [Act.put, List.setIfInBounds_toArray, List.set_cons_zero, List.set_cons_succ]
  refine Det.det_skip (by rfl) ?_
  try simp only [Act.put, List.setIfInBounds_toArray, List.set_cons_zero, List.set_cons_succ]
  refine Det.det_skip (by rfl) ?_
  try simp only [Act.put, List.setIfInBounds_toArray, List.set_cons_zero, List.set_cons_succ]
  refine Det.det_take (v := ?_) (by rfl) ?_ ?_
  rotate_left
  · (intro w hSw; go_simp; try with_reducible rfl)
  try simp only [Act.put, List.setIfInBounds_toArray, List.set_cons_zero, List.set_cons_succ]
  refine Det.det_nil (fun W4 k4 => ?_)
  have Ba_4 := Ba_3.keep k4
  have Bb_4 := Bb_3.keep k4
  have Bc_4 := Bc_3.keep k4
  have Hw4 := bq_trans Hw3 k4
  clear k4 Ba_3 Bb_3 Bc_3 Hw3
  go_wp2_with (first
    | (go_at_call 14; (with_reducible refine (HA.out _).mono ?_); rintro e W5 ⟨rfl, k5⟩; have Ba_5 := Ba_4.keep k5; have Bb_5 := Bb_4.keep k5; have Bc_5 := Bc_4.keep k5; have Hw5 := bq_trans Hw4 k5; clear k5 Ba_4 Bb_4 Bc_4 Hw4))
  go_ret
  exact ⟨rfl, Hw5⟩
set_option maxHeartbeats 2000000 in
theorem near16_2 (ax ay bx by1 cx cy mx mn d : Int) (w : World) (HA : Hid (∀ W, Calls Try.prog 14 #[] W fun e w' => e = .returned (.bool true) ∧ Below W.heap.size W w')) (H1 : Hid (∀ W, Calls Try.prog 11 #[.agg #[.int .i64 ax, .int .i64 ay], .agg #[.int .i64 bx, .int .i64 by1], .agg #[.int .i64 cx, .int .i64 cy]] W fun e w' => e = .returned (.bool true) ∧ Below W.heap.size W w')) (m1 : ∀ (w : World) (ts : Array TypeId) (t : TypeId), (Builtin.max_ ts t #[.int .i64 ax, .int .i64 bx, .int .i64 cx, .int .i64 ay, .int .i64 by1, .int .i64 cy]).run Try.prog w = .ok (.int .i64 mx) w) (m2 : ∀ (w : World) (ts : Array TypeId) (t : TypeId), (Builtin.min_ ts t #[.int .i64 ax, .int .i64 bx, .int .i64 cx, .int .i64 ay, .int .i64 by1, .int .i64 cy]).run Try.prog w = .ok (.int .i64 mn) w)  (h1 : mx ≤ 1048576) (h2 : mn < -1048576) :
    Calls Try.prog 5 #[.agg #[.int .i64 ax, .int .i64 ay], .agg #[.int .i64 bx, .int .i64 by1], .agg #[.int .i64 cx, .int .i64 cy]] w fun e w' => e = .returned (.bool true) ∧ Below w.heap.size w w' := by
  go_enter Try.func5, Try.ntmps5
  go_upto_region 1 with (go_big_may; first
    | (refine wl_box 23 _ _ rfl rfl (show _ = Value.agg #[.int .i64 ax, .int .i64 ay] from rfl) ?_; intro W1 ba Ba_1 l1 k1; have ga : w.heap.size ≤ ba := l1; have Hw1 := k1; clear l1 k1)
    | (refine wl_box 23 _ _ rfl rfl (show _ = Value.agg #[.int .i64 bx, .int .i64 by1] from rfl) ?_; intro W2 bb Bb_2 l2 k2; have gb : w.heap.size ≤ bb := Nat.le_trans Hw1.size l2; have nab : ba ≠ bb := Nat.ne_of_lt (Nat.lt_of_lt_of_le Ba_1.lt l2); have Ba_2 := Ba_1.keep k2; have Hw2 := bq_trans Hw1 k2; clear l2 k2 Ba_1 Hw1)
    | (refine wl_box 23 _ _ rfl rfl (show _ = Value.agg #[.int .i64 cx, .int .i64 cy] from rfl) ?_; intro W3 bc Bc_3 l3 k3; have gc : w.heap.size ≤ bc := Nat.le_trans Hw2.size l3; have nac : ba ≠ bc := Nat.ne_of_lt (Nat.lt_of_lt_of_le Ba_2.lt l3); have nbc : bb ≠ bc := Nat.ne_of_lt (Nat.lt_of_lt_of_le Bb_2.lt l3); have Ba_3 := Ba_2.keep k3; have Bb_3 := Bb_2.keep k3; have Hw3 := bq_trans Hw2 k3; clear l3 k3 Ba_2 Bb_2 Hw2))
  refine Det.wp_region_text (S := fun w' => Below W3.heap.size W3 w') (bq_refl _) ?_
  refine Det.det_load 23 2 _ Try.underlying23 rfl szPt _ rfl (by rfl) _ rfl _ _ (fun w hS => Ba_3.keep hS) rfl ?_
  try simp only [Act.put, List.setIfInBounds_toArray, List.set_cons_zero, List.set_cons_succ]
  refine Det.det_load 23 2 _ Try.underlying23 rfl szPt _ rfl (by rfl) _ rfl _ _ (fun w hS => Bb_3.keep hS) rfl ?_
  try simp only [Act.put, List.setIfInBounds_toArray, List.set_cons_zero, List.set_cons_succ]
  refine Det.det_load 23 2 _ Try.underlying23 rfl szPt _ rfl (by rfl) _ rfl _ _ (fun w hS => Bc_3.keep hS) rfl ?_
  try simp only [Act.put, List.setIfInBounds_toArray, List.set_cons_zero, List.set_cons_succ]
  refine Det.det_call (f := 11) (args := #[.agg #[.int .i64 ax, .int .i64 ay], .agg #[.int .i64 bx, .int .i64 by1], .agg #[.int .i64 cx, .int .i64 cy]]) (v := .bool true) (by rfl) ?_ (fun w hS => (H1.out w).mono fun e w' ⟨h1, h2⟩ => ⟨h1, bq_trans hS h2⟩) ?_
  · (intro w hSw; go_simp)
  try simp only [Act.put, List.setIfInBounds_toArray, List.set_cons_zero, List.set_cons_succ]
  refine Det.det_take (v := ?_) (by rfl) ?_ ?_
  rotate_left
  · (intro w hSw; go_simp; try with_reducible rfl)
  try simp only [Act.put, List.setIfInBounds_toArray, List.set_cons_zero, List.set_cons_succ]
  refine Det.det_take (v := ?_) (by rfl) ?_ ?_
  rotate_left
  · (intro w hSw; go_simp; try with_reducible rfl)
  try simp only [Act.put, List.setIfInBounds_toArray, List.set_cons_zero, List.set_cons_succ]
  refine Det.det_take (v := ?_) (by rfl) ?_ ?_
  rotate_left
  · (intro w hSw; go_simp; try with_reducible rfl)
  try simp only [Act.put, List.setIfInBounds_toArray, List.set_cons_zero, List.set_cons_succ]
  refine Det.det_take (v := ?_) (by rfl) ?_ ?_
  rotate_left
  · (intro w hSw; have cc : w.cell? ⟨ba, 0, none⟩ = some (.int .i64 ax) := (Ba_3.keep hSw).cell 0; go_simp; try with_reducible rfl)
  try simp only [Act.put, List.setIfInBounds_toArray, List.set_cons_zero, List.set_cons_succ]
  refine Det.det_take (v := ?_) (by rfl) ?_ ?_
  rotate_left
  · (intro w hSw; go_simp; try with_reducible rfl)
  try simp only [Act.put, List.setIfInBounds_toArray, List.set_cons_zero, List.set_cons_succ]
  refine Det.det_take (v := ?_) (by rfl) ?_ ?_
  rotate_left
  · (intro w hSw; have cc : w.cell? ⟨bb, 0, none⟩ = some (.int .i64 bx) := (Bb_3.keep hSw).cell 0; go_simp; try with_reducible rfl)
  try simp only [Act.put, List.setIfInBounds_toArray, List.set_cons_zero, List.set_cons_succ]
  refine Det.det_take (v := ?_) (by rfl) ?_ ?_
  rotate_left
  · (intro w hSw; go_simp; try with_reducible rfl)
  try simp only [Act.put, List.setIfInBounds_toArray, List.set_cons_zero, List.set_cons_succ]
  refine Det.det_take (v := ?_) (by rfl) ?_ ?_
  rotate_left
  · (intro w hSw; have cc : w.cell? ⟨bc, 0, none⟩ = some (.int .i64 cx) := (Bc_3.keep hSw).cell 0; go_simp; try with_reducible rfl)
  try simp only [Act.put, List.setIfInBounds_toArray, List.set_cons_zero, List.set_cons_succ]
  refine Det.det_take (v := ?_) (by rfl) ?_ ?_
  rotate_left
  · (intro w hSw; go_simp; try with_reducible rfl)
  try simp only [Act.put, List.setIfInBounds_toArray, List.set_cons_zero, List.set_cons_succ]
  refine Det.det_take (v := ?_) (by rfl) ?_ ?_
  rotate_left
  · (intro w hSw; have cc : w.cell? ⟨ba, 1, none⟩ = some (.int .i64 ay) := (Ba_3.keep hSw).cell 1; go_simp; try with_reducible rfl)
  try simp only [Act.put, List.setIfInBounds_toArray, List.set_cons_zero, List.set_cons_succ]
  refine Det.det_take (v := ?_) (by rfl) ?_ ?_
  rotate_left
  · (intro w hSw; go_simp; try with_reducible rfl)
  try simp only [Act.put, List.setIfInBounds_toArray, List.set_cons_zero, List.set_cons_succ]
  refine Det.det_take (v := ?_) (by rfl) ?_ ?_
  rotate_left
  · (intro w hSw; have cc : w.cell? ⟨bb, 1, none⟩ = some (.int .i64 by1) := (Bb_3.keep hSw).cell 1; go_simp; try with_reducible rfl)
  try simp only [Act.put, List.setIfInBounds_toArray, List.set_cons_zero, List.set_cons_succ]
  refine Det.det_take (v := ?_) (by rfl) ?_ ?_
  rotate_left
  · (intro w hSw; go_simp; try with_reducible rfl)
  try simp only [Act.put, List.setIfInBounds_toArray, List.set_cons_zero, List.set_cons_succ]
  refine Det.det_take (v := ?_) (by rfl) ?_ ?_
  rotate_left
  · (intro w hSw; have cc : w.cell? ⟨bc, 1, none⟩ = some (.int .i64 cy) := (Bc_3.keep hSw).cell 1; go_simp; try with_reducible rfl)
  try simp only [Act.put, List.setIfInBounds_toArray, List.set_cons_zero, List.set_cons_succ]
  refine Det.det_take (v := ?_) (by rfl) ?_ ?_
  rotate_left
  · (intro w hSw; go_simp; try with_reducible rfl)
  try simp only [Act.put, List.setIfInBounds_toArray, List.set_cons_zero, List.set_cons_succ]
  refine Det.det_take (v := ?_) (by rfl) ?_ ?_
  rotate_left
  · (intro w hSw; have eb : decide (1048576 < mx) = false := (by simp; omega); go_simp; try with_reducible rfl)
  try simp only [Act.put, List.setIfInBounds_toArray, List.set_cons_zero, List.set_cons_succ]
  refine Det.det_take (v := ?_) (by rfl) ?_ ?_
  rotate_left
  · (intro w hSw; go_simp; try with_reducible rfl)
  try simp only [Act.put, List.setIfInBounds_toArray, List.set_cons_zero, List.set_cons_succ]
  refine Det.det_take (v := ?_) (by rfl) ?_ ?_
  rotate_left
  · (intro w hSw; go_simp; try with_reducible rfl)
  try simp only [Act.put, List.setIfInBounds_toArray, List.set_cons_zero, List.set_cons_succ]
  refine Det.det_take (v := ?_) (by rfl) ?_ ?_
  rotate_left
  · (intro w hSw; go_simp; try with_reducible rfl)
  try simp only [Act.put, List.setIfInBounds_toArray, List.set_cons_zero, List.set_cons_succ]
  refine Det.det_take (v := ?_) (by rfl) ?_ ?_
  rotate_left
  · (intro w hSw; have cc : w.cell? ⟨ba, 0, none⟩ = some (.int .i64 ax) := (Ba_3.keep hSw).cell 0; go_simp; try with_reducible rfl)
  try simp only [Act.put, List.setIfInBounds_toArray, List.set_cons_zero, List.set_cons_succ]
  refine Det.det_take (v := ?_) (by rfl) ?_ ?_
  rotate_left
  · (intro w hSw; go_simp; try with_reducible rfl)
  try simp only [Act.put, List.setIfInBounds_toArray, List.set_cons_zero, List.set_cons_succ]
  refine Det.det_take (v := ?_) (by rfl) ?_ ?_
  rotate_left
  · (intro w hSw; have cc : w.cell? ⟨bb, 0, none⟩ = some (.int .i64 bx) := (Bb_3.keep hSw).cell 0; go_simp; try with_reducible rfl)
  try simp only [Act.put, List.setIfInBounds_toArray, List.set_cons_zero, List.set_cons_succ]
  refine Det.det_take (v := ?_) (by rfl) ?_ ?_
  rotate_left
  · (intro w hSw; go_simp; try with_reducible rfl)
  try simp only [Act.put, List.setIfInBounds_toArray, List.set_cons_zero, List.set_cons_succ]
  refine Det.det_take (v := ?_) (by rfl) ?_ ?_
  rotate_left
  · (intro w hSw; have cc : w.cell? ⟨bc, 0, none⟩ = some (.int .i64 cx) := (Bc_3.keep hSw).cell 0; go_simp; try with_reducible rfl)
  try simp only [Act.put, List.setIfInBounds_toArray, List.set_cons_zero, List.set_cons_succ]
  refine Det.det_take (v := ?_) (by rfl) ?_ ?_
  rotate_left
  · (intro w hSw; go_simp; try with_reducible rfl)
  try simp only [Act.put, List.setIfInBounds_toArray, List.set_cons_zero, List.set_cons_succ]
  refine Det.det_take (v := ?_) (by rfl) ?_ ?_
  rotate_left
  · (intro w hSw; have cc : w.cell? ⟨ba, 1, none⟩ = some (.int .i64 ay) := (Ba_3.keep hSw).cell 1; go_simp; try with_reducible rfl)
  try simp only [Act.put, List.setIfInBounds_toArray, List.set_cons_zero, List.set_cons_succ]
  refine Det.det_take (v := ?_) (by rfl) ?_ ?_
  rotate_left
  · (intro w hSw; go_simp; try with_reducible rfl)
  try simp only [Act.put, List.setIfInBounds_toArray, List.set_cons_zero, List.set_cons_succ]
  refine Det.det_take (v := ?_) (by rfl) ?_ ?_
  rotate_left
  · (intro w hSw; have cc : w.cell? ⟨bb, 1, none⟩ = some (.int .i64 by1) := (Bb_3.keep hSw).cell 1; go_simp; try with_reducible rfl)
  try simp only [Act.put, List.setIfInBounds_toArray, List.set_cons_zero, List.set_cons_succ]
  refine Det.det_take (v := ?_) (by rfl) ?_ ?_
  rotate_left
  · (intro w hSw; go_simp; try with_reducible rfl)
  try simp only [Act.put, List.setIfInBounds_toArray, List.set_cons_zero, List.set_cons_succ]
  refine Det.det_take (v := ?_) (by rfl) ?_ ?_
  rotate_left
  · (intro w hSw; have cc : w.cell? ⟨bc, 1, none⟩ = some (.int .i64 cy) := (Bc_3.keep hSw).cell 1; go_simp; try with_reducible rfl)
  try simp only [Act.put, List.setIfInBounds_toArray, List.set_cons_zero, List.set_cons_succ]
  refine Det.det_take (v := ?_) (by rfl) ?_ ?_
  rotate_left
  · (intro w hSw; go_simp; try with_reducible rfl)
  try simp only [Act.put, List.setIfInBounds_toArray, List.set_cons_zero, List.set_cons_succ]
  refine Det.det_take (v := ?_) (by rfl) ?_ ?_
  rotate_left
  · (intro w hSw; have eb : decide (mn < -1048576) = true := (by simp; omega); go_simp; try with_reducible rfl)
  try simp only [Act.put, List.setIfInBounds_toArray, List.set_cons_zero, List.set_cons_succ]
  refine Det.det_take (v := ?_) (by rfl) ?_ ?_
  rotate_left
  · (intro w hSw; go_simp; try with_reducible rfl)
  try simp only [Act.put, List.setIfInBounds_toArray, List.set_cons_zero, List.set_cons_succ]
  refine Det.det_take (v := ?_) (by rfl) ?_ ?_
  rotate_left
  · (intro w hSw; go_simp; try with_reducible rfl)
  try simp only [Act.put, List.setIfInBounds_toArray, List.set_cons_zero, List.set_cons_succ]
  refine Det.det_skip (by rfl) ?_
  try simp only [Act.put, List.setIfInBounds_toArray, List.set_cons_zero, List.set_cons_succ]
  refine Det.det_skip (by rfl) ?_
  try simp only [Act.put, List.setIfInBounds_toArray, List.set_cons_zero, List.set_cons_succ]
  refine Det.det_skip (by rfl) ?_
  try simp only [Act.put, List.setIfInBounds_toArray, List.set_cons_zero, List.set_cons_succ]
  refine Det.det_skip (by rfl) ?_
  try simp only [Act.put, List.setIfInBounds_toArray, List.set_cons_zero, List.set_cons_succ]
  refine Det.det_skip (by rfl) ?_
  try simp only [Act.put, List.setIfInBounds_toArray, List.set_cons_zero, List.set_cons_succ]
  refine Det.det_take (v := ?_) (by rfl) ?_ ?_
  rotate_left
  · (intro w hSw; go_simp; try with_reducible rfl)
  try simp only [Act.put, List.setIfInBounds_toArray, List.set_cons_zero, List.set_cons_succ]
  refine Det.det_nil (fun W4 k4 => ?_)
  have Ba_4 := Ba_3.keep k4
  have Bb_4 := Bb_3.keep k4
  have Bc_4 := Bc_3.keep k4
  have Hw4 := bq_trans Hw3 k4
  clear k4 Ba_3 Bb_3 Bc_3 Hw3
  go_wp2_with (first
    | (go_at_call 14; (with_reducible refine (HA.out _).mono ?_); rintro e W5 ⟨rfl, k5⟩; have Ba_5 := Ba_4.keep k5; have Bb_5 := Bb_4.keep k5; have Bc_5 := Bc_4.keep k5; have Hw5 := bq_trans Hw4 k5; clear k5 Ba_4 Bb_4 Bc_4 Hw4))
  go_ret
  exact ⟨rfl, Hw5⟩
set_option maxHeartbeats 2000000 in
theorem near16_3 (ax ay bx by1 cx cy mx mn d : Int) (w : World) (HA : Hid (∀ W, Calls Try.prog 14 #[] W fun e w' => e = .returned (.bool true) ∧ Below W.heap.size W w')) (H1 : Hid (∀ W, Calls Try.prog 11 #[.agg #[.int .i64 ax, .int .i64 ay], .agg #[.int .i64 bx, .int .i64 by1], .agg #[.int .i64 cx, .int .i64 cy]] W fun e w' => e = .returned (.bool true) ∧ Below W.heap.size W w')) (m1 : ∀ (w : World) (ts : Array TypeId) (t : TypeId), (Builtin.max_ ts t #[.int .i64 ax, .int .i64 bx, .int .i64 cx, .int .i64 ay, .int .i64 by1, .int .i64 cy]).run Try.prog w = .ok (.int .i64 mx) w) (m2 : ∀ (w : World) (ts : Array TypeId) (t : TypeId), (Builtin.min_ ts t #[.int .i64 ax, .int .i64 bx, .int .i64 cx, .int .i64 ay, .int .i64 by1, .int .i64 cy]).run Try.prog w = .ok (.int .i64 mn) w) (H2 : Hid (∀ W, Calls Try.prog 12 #[.agg #[.int .i64 ax, .int .i64 ay], .agg #[.int .i64 bx, .int .i64 by1], .agg #[.int .i64 cx, .int .i64 cy]] W fun e w' => e = .returned (.int .i64 d) ∧ Below W.heap.size W w')) (h1 : mx ≤ 1048576) (h2 : -1048576 ≤ mn) (h3 : 8192 < d) :
    Calls Try.prog 5 #[.agg #[.int .i64 ax, .int .i64 ay], .agg #[.int .i64 bx, .int .i64 by1], .agg #[.int .i64 cx, .int .i64 cy]] w fun e w' => e = .returned (.bool true) ∧ Below w.heap.size w w' := by
  go_enter Try.func5, Try.ntmps5
  go_upto_region 1 with (go_big_may; first
    | (refine wl_box 23 _ _ rfl rfl (show _ = Value.agg #[.int .i64 ax, .int .i64 ay] from rfl) ?_; intro W1 ba Ba_1 l1 k1; have ga : w.heap.size ≤ ba := l1; have Hw1 := k1; clear l1 k1)
    | (refine wl_box 23 _ _ rfl rfl (show _ = Value.agg #[.int .i64 bx, .int .i64 by1] from rfl) ?_; intro W2 bb Bb_2 l2 k2; have gb : w.heap.size ≤ bb := Nat.le_trans Hw1.size l2; have nab : ba ≠ bb := Nat.ne_of_lt (Nat.lt_of_lt_of_le Ba_1.lt l2); have Ba_2 := Ba_1.keep k2; have Hw2 := bq_trans Hw1 k2; clear l2 k2 Ba_1 Hw1)
    | (refine wl_box 23 _ _ rfl rfl (show _ = Value.agg #[.int .i64 cx, .int .i64 cy] from rfl) ?_; intro W3 bc Bc_3 l3 k3; have gc : w.heap.size ≤ bc := Nat.le_trans Hw2.size l3; have nac : ba ≠ bc := Nat.ne_of_lt (Nat.lt_of_lt_of_le Ba_2.lt l3); have nbc : bb ≠ bc := Nat.ne_of_lt (Nat.lt_of_lt_of_le Bb_2.lt l3); have Ba_3 := Ba_2.keep k3; have Bb_3 := Bb_2.keep k3; have Hw3 := bq_trans Hw2 k3; clear l3 k3 Ba_2 Bb_2 Hw2))
  refine Det.wp_region_text (S := fun w' => Below W3.heap.size W3 w') (bq_refl _) ?_
  refine Det.det_load 23 2 _ Try.underlying23 rfl szPt _ rfl (by rfl) _ rfl _ _ (fun w hS => Ba_3.keep hS) rfl ?_
  try simp only [Act.put, List.setIfInBounds_toArray, List.set_cons_zero, List.set_cons_succ]
  refine Det.det_load 23 2 _ Try.underlying23 rfl szPt _ rfl (by rfl) _ rfl _ _ (fun w hS => Bb_3.keep hS) rfl ?_
  try simp only [Act.put, List.setIfInBounds_toArray, List.set_cons_zero, List.set_cons_succ]
  refine Det.det_load 23 2 _ Try.underlying23 rfl szPt _ rfl (by rfl) _ rfl _ _ (fun w hS => Bc_3.keep hS) rfl ?_
  try simp only [Act.put, List.setIfInBounds_toArray, List.set_cons_zero, List.set_cons_succ]
  refine Det.det_call (f := 11) (args := #[.agg #[.int .i64 ax, .int .i64 ay], .agg #[.int .i64 bx, .int .i64 by1], .agg #[.int .i64 cx, .int .i64 cy]]) (v := .bool true) (by rfl) ?_ (fun w hS => (H1.out w).mono fun e w' ⟨h1, h2⟩ => ⟨h1, bq_trans hS h2⟩) ?_
  · (intro w hSw; go_simp)
  try simp only [Act.put, List.setIfInBounds_toArray, List.set_cons_zero, List.set_cons_succ]
  refine Det.det_take (v := ?_) (by rfl) ?_ ?_
  rotate_left
  · (intro w hSw; go_simp; try with_reducible rfl)
  try simp only [Act.put, List.setIfInBounds_toArray, List.set_cons_zero, List.set_cons_succ]
  refine Det.det_take (v := ?_) (by rfl) ?_ ?_
  rotate_left
  · (intro w hSw; go_simp; try with_reducible rfl)
  try simp only [Act.put, List.setIfInBounds_toArray, List.set_cons_zero, List.set_cons_succ]
  refine Det.det_take (v := ?_) (by rfl) ?_ ?_
  rotate_left
  · (intro w hSw; go_simp; try with_reducible rfl)
  try simp only [Act.put, List.setIfInBounds_toArray, List.set_cons_zero, List.set_cons_succ]
  refine Det.det_take (v := ?_) (by rfl) ?_ ?_
  rotate_left
  · (intro w hSw; have cc : w.cell? ⟨ba, 0, none⟩ = some (.int .i64 ax) := (Ba_3.keep hSw).cell 0; go_simp; try with_reducible rfl)
  try simp only [Act.put, List.setIfInBounds_toArray, List.set_cons_zero, List.set_cons_succ]
  refine Det.det_take (v := ?_) (by rfl) ?_ ?_
  rotate_left
  · (intro w hSw; go_simp; try with_reducible rfl)
  try simp only [Act.put, List.setIfInBounds_toArray, List.set_cons_zero, List.set_cons_succ]
  refine Det.det_take (v := ?_) (by rfl) ?_ ?_
  rotate_left
  · (intro w hSw; have cc : w.cell? ⟨bb, 0, none⟩ = some (.int .i64 bx) := (Bb_3.keep hSw).cell 0; go_simp; try with_reducible rfl)
  try simp only [Act.put, List.setIfInBounds_toArray, List.set_cons_zero, List.set_cons_succ]
  refine Det.det_take (v := ?_) (by rfl) ?_ ?_
  rotate_left
  · (intro w hSw; go_simp; try with_reducible rfl)
  try simp only [Act.put, List.setIfInBounds_toArray, List.set_cons_zero, List.set_cons_succ]
  refine Det.det_take (v := ?_) (by rfl) ?_ ?_
  rotate_left
  · (intro w hSw; have cc : w.cell? ⟨bc, 0, none⟩ = some (.int .i64 cx) := (Bc_3.keep hSw).cell 0; go_simp; try with_reducible rfl)
  try simp only [Act.put, List.setIfInBounds_toArray, List.set_cons_zero, List.set_cons_succ]
  refine Det.det_take (v := ?_) (by rfl) ?_ ?_
  rotate_left
  · (intro w hSw; go_simp; try with_reducible rfl)
  try simp only [Act.put, List.setIfInBounds_toArray, List.set_cons_zero, List.set_cons_succ]
  refine Det.det_take (v := ?_) (by rfl) ?_ ?_
  rotate_left
  · (intro w hSw; have cc : w.cell? ⟨ba, 1, none⟩ = some (.int .i64 ay) := (Ba_3.keep hSw).cell 1; go_simp; try with_reducible rfl)
  try simp only [Act.put, List.setIfInBounds_toArray, List.set_cons_zero, List.set_cons_succ]
  refine Det.det_take (v := ?_) (by rfl) ?_ ?_
  rotate_left
  · (intro w hSw; go_simp; try with_reducible rfl)
  try simp only [Act.put, List.setIfInBounds_toArray, List.set_cons_zero, List.set_cons_succ]
  refine Det.det_take (v := ?_) (by rfl) ?_ ?_
  rotate_left
  · (intro w hSw; have cc : w.cell? ⟨bb, 1, none⟩ = some (.int .i64 by1) := (Bb_3.keep hSw).cell 1; go_simp; try with_reducible rfl)
  try simp only [Act.put, List.setIfInBounds_toArray, List.set_cons_zero, List.set_cons_succ]
  refine Det.det_take (v := ?_) (by rfl) ?_ ?_
  rotate_left
  · (intro w hSw; go_simp; try with_reducible rfl)
  try simp only [Act.put, List.setIfInBounds_toArray, List.set_cons_zero, List.set_cons_succ]
  refine Det.det_take (v := ?_) (by rfl) ?_ ?_
  rotate_left
  · (intro w hSw; have cc : w.cell? ⟨bc, 1, none⟩ = some (.int .i64 cy) := (Bc_3.keep hSw).cell 1; go_simp; try with_reducible rfl)
  try simp only [Act.put, List.setIfInBounds_toArray, List.set_cons_zero, List.set_cons_succ]
  refine Det.det_take (v := ?_) (by rfl) ?_ ?_
  rotate_left
  · (intro w hSw; go_simp; try with_reducible rfl)
  try simp only [Act.put, List.setIfInBounds_toArray, List.set_cons_zero, List.set_cons_succ]
  refine Det.det_take (v := ?_) (by rfl) ?_ ?_
  rotate_left
  · (intro w hSw; have eb : decide (1048576 < mx) = false := (by simp; omega); go_simp; try with_reducible rfl)
  try simp only [Act.put, List.setIfInBounds_toArray, List.set_cons_zero, List.set_cons_succ]
  refine Det.det_take (v := ?_) (by rfl) ?_ ?_
  rotate_left
  · (intro w hSw; go_simp; try with_reducible rfl)
  try simp only [Act.put, List.setIfInBounds_toArray, List.set_cons_zero, List.set_cons_succ]
  refine Det.det_take (v := ?_) (by rfl) ?_ ?_
  rotate_left
  · (intro w hSw; go_simp; try with_reducible rfl)
  try simp only [Act.put, List.setIfInBounds_toArray, List.set_cons_zero, List.set_cons_succ]
  refine Det.det_take (v := ?_) (by rfl) ?_ ?_
  rotate_left
  · (intro w hSw; go_simp; try with_reducible rfl)
  try simp only [Act.put, List.setIfInBounds_toArray, List.set_cons_zero, List.set_cons_succ]
  refine Det.det_take (v := ?_) (by rfl) ?_ ?_
  rotate_left
  · (intro w hSw; have cc : w.cell? ⟨ba, 0, none⟩ = some (.int .i64 ax) := (Ba_3.keep hSw).cell 0; go_simp; try with_reducible rfl)
  try simp only [Act.put, List.setIfInBounds_toArray, List.set_cons_zero, List.set_cons_succ]
  refine Det.det_take (v := ?_) (by rfl) ?_ ?_
  rotate_left
  · (intro w hSw; go_simp; try with_reducible rfl)
  try simp only [Act.put, List.setIfInBounds_toArray, List.set_cons_zero, List.set_cons_succ]
  refine Det.det_take (v := ?_) (by rfl) ?_ ?_
  rotate_left
  · (intro w hSw; have cc : w.cell? ⟨bb, 0, none⟩ = some (.int .i64 bx) := (Bb_3.keep hSw).cell 0; go_simp; try with_reducible rfl)
  try simp only [Act.put, List.setIfInBounds_toArray, List.set_cons_zero, List.set_cons_succ]
  refine Det.det_take (v := ?_) (by rfl) ?_ ?_
  rotate_left
  · (intro w hSw; go_simp; try with_reducible rfl)
  try simp only [Act.put, List.setIfInBounds_toArray, List.set_cons_zero, List.set_cons_succ]
  refine Det.det_take (v := ?_) (by rfl) ?_ ?_
  rotate_left
  · (intro w hSw; have cc : w.cell? ⟨bc, 0, none⟩ = some (.int .i64 cx) := (Bc_3.keep hSw).cell 0; go_simp; try with_reducible rfl)
  try simp only [Act.put, List.setIfInBounds_toArray, List.set_cons_zero, List.set_cons_succ]
  refine Det.det_take (v := ?_) (by rfl) ?_ ?_
  rotate_left
  · (intro w hSw; go_simp; try with_reducible rfl)
  try simp only [Act.put, List.setIfInBounds_toArray, List.set_cons_zero, List.set_cons_succ]
  refine Det.det_take (v := ?_) (by rfl) ?_ ?_
  rotate_left
  · (intro w hSw; have cc : w.cell? ⟨ba, 1, none⟩ = some (.int .i64 ay) := (Ba_3.keep hSw).cell 1; go_simp; try with_reducible rfl)
  try simp only [Act.put, List.setIfInBounds_toArray, List.set_cons_zero, List.set_cons_succ]
  refine Det.det_take (v := ?_) (by rfl) ?_ ?_
  rotate_left
  · (intro w hSw; go_simp; try with_reducible rfl)
  try simp only [Act.put, List.setIfInBounds_toArray, List.set_cons_zero, List.set_cons_succ]
  refine Det.det_take (v := ?_) (by rfl) ?_ ?_
  rotate_left
  · (intro w hSw; have cc : w.cell? ⟨bb, 1, none⟩ = some (.int .i64 by1) := (Bb_3.keep hSw).cell 1; go_simp; try with_reducible rfl)
  try simp only [Act.put, List.setIfInBounds_toArray, List.set_cons_zero, List.set_cons_succ]
  refine Det.det_take (v := ?_) (by rfl) ?_ ?_
  rotate_left
  · (intro w hSw; go_simp; try with_reducible rfl)
  try simp only [Act.put, List.setIfInBounds_toArray, List.set_cons_zero, List.set_cons_succ]
  refine Det.det_take (v := ?_) (by rfl) ?_ ?_
  rotate_left
  · (intro w hSw; have cc : w.cell? ⟨bc, 1, none⟩ = some (.int .i64 cy) := (Bc_3.keep hSw).cell 1; go_simp; try with_reducible rfl)
  try simp only [Act.put, List.setIfInBounds_toArray, List.set_cons_zero, List.set_cons_succ]
  refine Det.det_take (v := ?_) (by rfl) ?_ ?_
  rotate_left
  · (intro w hSw; go_simp; try with_reducible rfl)
  try simp only [Act.put, List.setIfInBounds_toArray, List.set_cons_zero, List.set_cons_succ]
  refine Det.det_take (v := ?_) (by rfl) ?_ ?_
  rotate_left
  · (intro w hSw; have eb : decide (mn < -1048576) = false := (by simp; omega); go_simp; try with_reducible rfl)
  try simp only [Act.put, List.setIfInBounds_toArray, List.set_cons_zero, List.set_cons_succ]
  refine Det.det_take (v := ?_) (by rfl) ?_ ?_
  rotate_left
  · (intro w hSw; go_simp; try with_reducible rfl)
  try simp only [Act.put, List.setIfInBounds_toArray, List.set_cons_zero, List.set_cons_succ]
  refine Det.det_take (v := ?_) (by rfl) ?_ ?_
  rotate_left
  · (intro w hSw; go_simp; try with_reducible rfl)
  try simp only [Act.put, List.setIfInBounds_toArray, List.set_cons_zero, List.set_cons_succ]
  refine Det.det_load 23 2 _ Try.underlying23 rfl szPt _ rfl (by rfl) _ rfl _ _ (fun w hS => Ba_3.keep hS) rfl ?_
  try simp only [Act.put, List.setIfInBounds_toArray, List.set_cons_zero, List.set_cons_succ]
  refine Det.det_load 23 2 _ Try.underlying23 rfl szPt _ rfl (by rfl) _ rfl _ _ (fun w hS => Bb_3.keep hS) rfl ?_
  try simp only [Act.put, List.setIfInBounds_toArray, List.set_cons_zero, List.set_cons_succ]
  refine Det.det_load 23 2 _ Try.underlying23 rfl szPt _ rfl (by rfl) _ rfl _ _ (fun w hS => Bc_3.keep hS) rfl ?_
  try simp only [Act.put, List.setIfInBounds_toArray, List.set_cons_zero, List.set_cons_succ]
  refine Det.det_call (f := 12) (args := #[.agg #[.int .i64 ax, .int .i64 ay], .agg #[.int .i64 bx, .int .i64 by1], .agg #[.int .i64 cx, .int .i64 cy]]) (v := .int .i64 d) (by rfl) ?_ (fun w hS => (H2.out w).mono fun e w' ⟨h1, h2⟩ => ⟨h1, bq_trans hS h2⟩) ?_
  · (intro w hSw; go_simp)
  try simp only [Act.put, List.setIfInBounds_toArray, List.set_cons_zero, List.set_cons_succ]
  refine Det.det_take (v := ?_) (by rfl) ?_ ?_
  rotate_left
  · (intro w hSw; have eb : decide (8192 < d) = true := (by simp; omega); go_simp; try with_reducible rfl)
  try simp only [Act.put, List.setIfInBounds_toArray, List.set_cons_zero, List.set_cons_succ]
  refine Det.det_take (v := ?_) (by rfl) ?_ ?_
  rotate_left
  · (intro w hSw; go_simp; try with_reducible rfl)
  try simp only [Act.put, List.setIfInBounds_toArray, List.set_cons_zero, List.set_cons_succ]
  refine Det.det_nil (fun W4 k4 => ?_)
  have Ba_4 := Ba_3.keep k4
  have Bb_4 := Bb_3.keep k4
  have Bc_4 := Bc_3.keep k4
  have Hw4 := bq_trans Hw3 k4
  clear k4 Ba_3 Bb_3 Bc_3 Hw3
  go_wp2_with (first
    | (go_at_call 14; (with_reducible refine (HA.out _).mono ?_); rintro e W5 ⟨rfl, k5⟩; have Ba_5 := Ba_4.keep k5; have Bb_5 := Bb_4.keep k5; have Bc_5 := Bc_4.keep k5; have Hw5 := bq_trans Hw4 k5; clear k5 Ba_4 Bb_4 Bc_4 Hw4))
  go_ret
  exact ⟨rfl, Hw5⟩
def NRel (w : World) (bu n : Nat) (X Y : Nat → Int) (i : Value) (wr : World) : Prop := ∃ k : Nat, k ≤ n ∧ i = .int .i64 (k : Int) ∧ Blk wr bu #[.int .i64 (X k), .int .i64 (Y k)] 23 ∧ Below w.heap.size w wr
set_option maxHeartbeats 8000000 in
theorem near16_4 (ax ay bx by1 cx cy mx mn d s : Int) (n : Nat) (L : List (Int × Int)) (X Y : Nat → Int) (w : World) (hn : n ≤ 32) (hn0 : 1 ≤ n) (hX : X 0 = ax) (hY : Y 0 = ay) (es : wrap64 (4 * (n : Int) * (n : Int)) = s) (HA : Hid (∀ W, Calls Try.prog 14 #[] W fun e w' => e = .returned (.bool true) ∧ Below W.heap.size W w')) (H1 : Hid (∀ W, Calls Try.prog 11 #[.agg #[.int .i64 ax, .int .i64 ay], .agg #[.int .i64 bx, .int .i64 by1], .agg #[.int .i64 cx, .int .i64 cy]] W fun e w' => e = .returned (.bool true) ∧ Below W.heap.size W w')) (m1 : ∀ (w : World) (ts : Array TypeId) (t : TypeId), (Builtin.max_ ts t #[.int .i64 ax, .int .i64 bx, .int .i64 cx, .int .i64 ay, .int .i64 by1, .int .i64 cy]).run Try.prog w = .ok (.int .i64 mx) w) (m2 : ∀ (w : World) (ts : Array TypeId) (t : TypeId), (Builtin.min_ ts t #[.int .i64 ax, .int .i64 bx, .int .i64 cx, .int .i64 ay, .int .i64 by1, .int .i64 cy]).run Try.prog w = .ok (.int .i64 mn) w) (H2 : Hid (∀ W, Calls Try.prog 12 #[.agg #[.int .i64 ax, .int .i64 ay], .agg #[.int .i64 bx, .int .i64 by1], .agg #[.int .i64 cx, .int .i64 cy]] W fun e w' => e = .returned (.int .i64 d) ∧ Below W.heap.size W w'))
    (h1 : mx ≤ 1048576) (h2 : -1048576 ≤ mn) (h3 : d ≤ 8192) (H3 : Hid (∀ W, Calls Try.prog 8 #[.agg #[.int .i64 ax, .int .i64 ay], .agg #[.int .i64 bx, .int .i64 by1], .agg #[.int .i64 cx, .int .i64 cy]] W fun e w' => (∃ b o c, e = .returned (.slice (some ⟨b, o, none⟩) n c) ∧ Pts w' b o (L)) ∧ Below W.heap.size W w'))
    (HK : Hid (∀ k : Nat, k < n → ∃ x y u v X1 Y1 X2 Y2 xs ys us vs uh vh : Int, (L[k]? = some (x, y) ∧ X (k + 1) = x ∧ Y (k + 1) = y ∧ X k = u ∧ Y k = v) ∧ (Hid (∀ W, Calls Try.prog 18 #[.int .i64 ax, .int .i64 bx, .int .i64 cx, .int .i64 (2 * (k : Int) + 2), .int .i64 (2 * (n : Int))] W fun e w' => e = .returned (.int .i64 X1) ∧ Below W.heap.size W w') ∧ Hid (∀ W, Calls Try.prog 18 #[.int .i64 ay, .int .i64 by1, .int .i64 cy, .int .i64 (2 * (k : Int) + 2), .int .i64 (2 * (n : Int))] W fun e w' => e = .returned (.int .i64 Y1) ∧ Below W.heap.size W w') ∧ Hid (∀ W, Calls Try.prog 18 #[.int .i64 ax, .int .i64 bx, .int .i64 cx, .int .i64 (2 * (k : Int) + 1), .int .i64 (2 * (n : Int))] W fun e w' => e = .returned (.int .i64 X2) ∧ Below W.heap.size W w') ∧ Hid (∀ W, Calls Try.prog 18 #[.int .i64 ay, .int .i64 by1, .int .i64 cy, .int .i64 (2 * (k : Int) + 1), .int .i64 (2 * (n : Int))] W fun e w' => e = .returned (.int .i64 Y2) ∧ Below W.heap.size W w')) ∧ Hid (IntKind.i64.wrap (x * s) = xs ∧ IntKind.i64.wrap (y * s) = ys ∧ IntKind.i64.wrap (x + u) = x + u ∧ IntKind.i64.wrap (y + v) = y + v ∧ IntKind.i64.wrap ((x + u) * s) = us ∧ IntKind.i64.wrap ((y + v) * s) = vs ∧ us.tdiv 2 = uh ∧ vs.tdiv 2 = vh ∧ IntKind.i64.wrap (uh) = uh ∧ IntKind.i64.wrap (vh) = vh ∧ IntKind.i64.wrap (3 * s) = 3 * s) ∧ (Hid (∀ W, Calls Try.prog 19 #[.int .i64 xs, .int .i64 X1, .int .i64 s] W fun e w' => e = .returned (.bool false) ∧ Below W.heap.size W w') ∧ Hid (∀ W, Calls Try.prog 19 #[.int .i64 ys, .int .i64 Y1, .int .i64 s] W fun e w' => e = .returned (.bool false) ∧ Below W.heap.size W w') ∧ Hid (∀ W, Calls Try.prog 19 #[.int .i64 uh, .int .i64 X2, .int .i64 (3 * s)] W fun e w' => e = .returned (.bool false) ∧ Below W.heap.size W w') ∧ Hid (∀ W, Calls Try.prog 19 #[.int .i64 vh, .int .i64 Y2, .int .i64 (3 * s)] W fun e w' => e = .returned (.bool false) ∧ Below W.heap.size W w')))) :
    Calls Try.prog 5 #[.agg #[.int .i64 ax, .int .i64 ay], .agg #[.int .i64 bx, .int .i64 by1], .agg #[.int .i64 cx, .int .i64 cy]] w fun e w' => e = .returned (.bool true) ∧ Below w.heap.size w w' := by
  have hn2 : (n : Int) ≤ 32 := by omega
  have hn1 : 1 ≤ (n : Int) := by omega
  clear hn hn0
  go_enter Try.func5, Try.ntmps5
  go_upto_region 1 with (go_big_may; first
    | (refine wl_box 23 _ _ rfl rfl (show _ = Value.agg #[.int .i64 ax, .int .i64 ay] from rfl) ?_; intro W1 ba Ba_1 l1 k1; have ga : w.heap.size ≤ ba := l1; have Hw1 := k1; clear l1 k1)
    | (refine wl_box 23 _ _ rfl rfl (show _ = Value.agg #[.int .i64 bx, .int .i64 by1] from rfl) ?_; intro W2 bb Bb_2 l2 k2; have gb : w.heap.size ≤ bb := Nat.le_trans Hw1.size l2; have nab : ba ≠ bb := Nat.ne_of_lt (Nat.lt_of_lt_of_le Ba_1.lt l2); have Ba_2 := Ba_1.keep k2; have Hw2 := bq_trans Hw1 k2; clear l2 k2 Ba_1 Hw1)
    | (refine wl_box 23 _ _ rfl rfl (show _ = Value.agg #[.int .i64 cx, .int .i64 cy] from rfl) ?_; intro W3 bc Bc_3 l3 k3; have gc : w.heap.size ≤ bc := Nat.le_trans Hw2.size l3; have nac : ba ≠ bc := Nat.ne_of_lt (Nat.lt_of_lt_of_le Ba_2.lt l3); have nbc : bb ≠ bc := Nat.ne_of_lt (Nat.lt_of_lt_of_le Bb_2.lt l3); have Ba_3 := Ba_2.keep k3; have Bb_3 := Bb_2.keep k3; have Hw3 := bq_trans Hw2 k3; clear l3 k3 Ba_2 Bb_2 Hw2))
  refine Det.wp_region_text (S := fun w' => Below W3.heap.size W3 w') (bq_refl _) ?_
  refine Det.det_load 23 2 _ Try.underlying23 rfl szPt _ rfl (by rfl) _ rfl _ _ (fun w hS => Ba_3.keep hS) rfl ?_
  try simp only [Act.put, List.setIfInBounds_toArray, List.set_cons_zero, List.set_cons_succ]
  refine Det.det_load 23 2 _ Try.underlying23 rfl szPt _ rfl (by rfl) _ rfl _ _ (fun w hS => Bb_3.keep hS) rfl ?_
  try simp only [Act.put, List.setIfInBounds_toArray, List.set_cons_zero, List.set_cons_succ]
  refine Det.det_load 23 2 _ Try.underlying23 rfl szPt _ rfl (by rfl) _ rfl _ _ (fun w hS => Bc_3.keep hS) rfl ?_
  try simp only [Act.put, List.setIfInBounds_toArray, List.set_cons_zero, List.set_cons_succ]
  refine Det.det_call (f := 11) (args := #[.agg #[.int .i64 ax, .int .i64 ay], .agg #[.int .i64 bx, .int .i64 by1], .agg #[.int .i64 cx, .int .i64 cy]]) (v := .bool true) (by rfl) ?_ (fun w hS => (H1.out w).mono fun e w' ⟨h1, h2⟩ => ⟨h1, bq_trans hS h2⟩) ?_
  · (intro w hSw; go_simp)
  try simp only [Act.put, List.setIfInBounds_toArray, List.set_cons_zero, List.set_cons_succ]
  refine Det.det_take (v := ?_) (by rfl) ?_ ?_
  rotate_left
  · (intro w hSw; go_simp; try with_reducible rfl)
  try simp only [Act.put, List.setIfInBounds_toArray, List.set_cons_zero, List.set_cons_succ]
  refine Det.det_take (v := ?_) (by rfl) ?_ ?_
  rotate_left
  · (intro w hSw; go_simp; try with_reducible rfl)
  try simp only [Act.put, List.setIfInBounds_toArray, List.set_cons_zero, List.set_cons_succ]
  refine Det.det_take (v := ?_) (by rfl) ?_ ?_
  rotate_left
  · (intro w hSw; go_simp; try with_reducible rfl)
  try simp only [Act.put, List.setIfInBounds_toArray, List.set_cons_zero, List.set_cons_succ]
  refine Det.det_take (v := ?_) (by rfl) ?_ ?_
  rotate_left
  · (intro w hSw; have cc : w.cell? ⟨ba, 0, none⟩ = some (.int .i64 ax) := (Ba_3.keep hSw).cell 0; go_simp; try with_reducible rfl)
  try simp only [Act.put, List.setIfInBounds_toArray, List.set_cons_zero, List.set_cons_succ]
  refine Det.det_take (v := ?_) (by rfl) ?_ ?_
  rotate_left
  · (intro w hSw; go_simp; try with_reducible rfl)
  try simp only [Act.put, List.setIfInBounds_toArray, List.set_cons_zero, List.set_cons_succ]
  refine Det.det_take (v := ?_) (by rfl) ?_ ?_
  rotate_left
  · (intro w hSw; have cc : w.cell? ⟨bb, 0, none⟩ = some (.int .i64 bx) := (Bb_3.keep hSw).cell 0; go_simp; try with_reducible rfl)
  try simp only [Act.put, List.setIfInBounds_toArray, List.set_cons_zero, List.set_cons_succ]
  refine Det.det_take (v := ?_) (by rfl) ?_ ?_
  rotate_left
  · (intro w hSw; go_simp; try with_reducible rfl)
  try simp only [Act.put, List.setIfInBounds_toArray, List.set_cons_zero, List.set_cons_succ]
  refine Det.det_take (v := ?_) (by rfl) ?_ ?_
  rotate_left
  · (intro w hSw; have cc : w.cell? ⟨bc, 0, none⟩ = some (.int .i64 cx) := (Bc_3.keep hSw).cell 0; go_simp; try with_reducible rfl)
  try simp only [Act.put, List.setIfInBounds_toArray, List.set_cons_zero, List.set_cons_succ]
  refine Det.det_take (v := ?_) (by rfl) ?_ ?_
  rotate_left
  · (intro w hSw; go_simp; try with_reducible rfl)
  try simp only [Act.put, List.setIfInBounds_toArray, List.set_cons_zero, List.set_cons_succ]
  refine Det.det_take (v := ?_) (by rfl) ?_ ?_
  rotate_left
  · (intro w hSw; have cc : w.cell? ⟨ba, 1, none⟩ = some (.int .i64 ay) := (Ba_3.keep hSw).cell 1; go_simp; try with_reducible rfl)
  try simp only [Act.put, List.setIfInBounds_toArray, List.set_cons_zero, List.set_cons_succ]
  refine Det.det_take (v := ?_) (by rfl) ?_ ?_
  rotate_left
  · (intro w hSw; go_simp; try with_reducible rfl)
  try simp only [Act.put, List.setIfInBounds_toArray, List.set_cons_zero, List.set_cons_succ]
  refine Det.det_take (v := ?_) (by rfl) ?_ ?_
  rotate_left
  · (intro w hSw; have cc : w.cell? ⟨bb, 1, none⟩ = some (.int .i64 by1) := (Bb_3.keep hSw).cell 1; go_simp; try with_reducible rfl)
  try simp only [Act.put, List.setIfInBounds_toArray, List.set_cons_zero, List.set_cons_succ]
  refine Det.det_take (v := ?_) (by rfl) ?_ ?_
  rotate_left
  · (intro w hSw; go_simp; try with_reducible rfl)
  try simp only [Act.put, List.setIfInBounds_toArray, List.set_cons_zero, List.set_cons_succ]
  refine Det.det_take (v := ?_) (by rfl) ?_ ?_
  rotate_left
  · (intro w hSw; have cc : w.cell? ⟨bc, 1, none⟩ = some (.int .i64 cy) := (Bc_3.keep hSw).cell 1; go_simp; try with_reducible rfl)
  try simp only [Act.put, List.setIfInBounds_toArray, List.set_cons_zero, List.set_cons_succ]
  refine Det.det_take (v := ?_) (by rfl) ?_ ?_
  rotate_left
  · (intro w hSw; go_simp; try with_reducible rfl)
  try simp only [Act.put, List.setIfInBounds_toArray, List.set_cons_zero, List.set_cons_succ]
  refine Det.det_take (v := ?_) (by rfl) ?_ ?_
  rotate_left
  · (intro w hSw; have eb : decide (1048576 < mx) = false := (by simp; omega); go_simp; try with_reducible rfl)
  try simp only [Act.put, List.setIfInBounds_toArray, List.set_cons_zero, List.set_cons_succ]
  refine Det.det_take (v := ?_) (by rfl) ?_ ?_
  rotate_left
  · (intro w hSw; go_simp; try with_reducible rfl)
  try simp only [Act.put, List.setIfInBounds_toArray, List.set_cons_zero, List.set_cons_succ]
  refine Det.det_take (v := ?_) (by rfl) ?_ ?_
  rotate_left
  · (intro w hSw; go_simp; try with_reducible rfl)
  try simp only [Act.put, List.setIfInBounds_toArray, List.set_cons_zero, List.set_cons_succ]
  refine Det.det_take (v := ?_) (by rfl) ?_ ?_
  rotate_left
  · (intro w hSw; go_simp; try with_reducible rfl)
  try simp only [Act.put, List.setIfInBounds_toArray, List.set_cons_zero, List.set_cons_succ]
  refine Det.det_take (v := ?_) (by rfl) ?_ ?_
  rotate_left
  · (intro w hSw; have cc : w.cell? ⟨ba, 0, none⟩ = some (.int .i64 ax) := (Ba_3.keep hSw).cell 0; go_simp; try with_reducible rfl)
  try simp only [Act.put, List.setIfInBounds_toArray, List.set_cons_zero, List.set_cons_succ]
  refine Det.det_take (v := ?_) (by rfl) ?_ ?_
  rotate_left
  · (intro w hSw; go_simp; try with_reducible rfl)
  try simp only [Act.put, List.setIfInBounds_toArray, List.set_cons_zero, List.set_cons_succ]
  refine Det.det_take (v := ?_) (by rfl) ?_ ?_
  rotate_left
  · (intro w hSw; have cc : w.cell? ⟨bb, 0, none⟩ = some (.int .i64 bx) := (Bb_3.keep hSw).cell 0; go_simp; try with_reducible rfl)
  try simp only [Act.put, List.setIfInBounds_toArray, List.set_cons_zero, List.set_cons_succ]
  refine Det.det_take (v := ?_) (by rfl) ?_ ?_
  rotate_left
  · (intro w hSw; go_simp; try with_reducible rfl)
  try simp only [Act.put, List.setIfInBounds_toArray, List.set_cons_zero, List.set_cons_succ]
  refine Det.det_take (v := ?_) (by rfl) ?_ ?_
  rotate_left
  · (intro w hSw; have cc : w.cell? ⟨bc, 0, none⟩ = some (.int .i64 cx) := (Bc_3.keep hSw).cell 0; go_simp; try with_reducible rfl)
  try simp only [Act.put, List.setIfInBounds_toArray, List.set_cons_zero, List.set_cons_succ]
  refine Det.det_take (v := ?_) (by rfl) ?_ ?_
  rotate_left
  · (intro w hSw; go_simp; try with_reducible rfl)
  try simp only [Act.put, List.setIfInBounds_toArray, List.set_cons_zero, List.set_cons_succ]
  refine Det.det_take (v := ?_) (by rfl) ?_ ?_
  rotate_left
  · (intro w hSw; have cc : w.cell? ⟨ba, 1, none⟩ = some (.int .i64 ay) := (Ba_3.keep hSw).cell 1; go_simp; try with_reducible rfl)
  try simp only [Act.put, List.setIfInBounds_toArray, List.set_cons_zero, List.set_cons_succ]
  refine Det.det_take (v := ?_) (by rfl) ?_ ?_
  rotate_left
  · (intro w hSw; go_simp; try with_reducible rfl)
  try simp only [Act.put, List.setIfInBounds_toArray, List.set_cons_zero, List.set_cons_succ]
  refine Det.det_take (v := ?_) (by rfl) ?_ ?_
  rotate_left
  · (intro w hSw; have cc : w.cell? ⟨bb, 1, none⟩ = some (.int .i64 by1) := (Bb_3.keep hSw).cell 1; go_simp; try with_reducible rfl)
  try simp only [Act.put, List.setIfInBounds_toArray, List.set_cons_zero, List.set_cons_succ]
  refine Det.det_take (v := ?_) (by rfl) ?_ ?_
  rotate_left
  · (intro w hSw; go_simp; try with_reducible rfl)
  try simp only [Act.put, List.setIfInBounds_toArray, List.set_cons_zero, List.set_cons_succ]
  refine Det.det_take (v := ?_) (by rfl) ?_ ?_
  rotate_left
  · (intro w hSw; have cc : w.cell? ⟨bc, 1, none⟩ = some (.int .i64 cy) := (Bc_3.keep hSw).cell 1; go_simp; try with_reducible rfl)
  try simp only [Act.put, List.setIfInBounds_toArray, List.set_cons_zero, List.set_cons_succ]
  refine Det.det_take (v := ?_) (by rfl) ?_ ?_
  rotate_left
  · (intro w hSw; go_simp; try with_reducible rfl)
  try simp only [Act.put, List.setIfInBounds_toArray, List.set_cons_zero, List.set_cons_succ]
  refine Det.det_take (v := ?_) (by rfl) ?_ ?_
  rotate_left
  · (intro w hSw; have eb : decide (mn < -1048576) = false := (by simp; omega); go_simp; try with_reducible rfl)
  try simp only [Act.put, List.setIfInBounds_toArray, List.set_cons_zero, List.set_cons_succ]
  refine Det.det_take (v := ?_) (by rfl) ?_ ?_
  rotate_left
  · (intro w hSw; go_simp; try with_reducible rfl)
  try simp only [Act.put, List.setIfInBounds_toArray, List.set_cons_zero, List.set_cons_succ]
  refine Det.det_take (v := ?_) (by rfl) ?_ ?_
  rotate_left
  · (intro w hSw; go_simp; try with_reducible rfl)
  try simp only [Act.put, List.setIfInBounds_toArray, List.set_cons_zero, List.set_cons_succ]
  refine Det.det_load 23 2 _ Try.underlying23 rfl szPt _ rfl (by rfl) _ rfl _ _ (fun w hS => Ba_3.keep hS) rfl ?_
  try simp only [Act.put, List.setIfInBounds_toArray, List.set_cons_zero, List.set_cons_succ]
  refine Det.det_load 23 2 _ Try.underlying23 rfl szPt _ rfl (by rfl) _ rfl _ _ (fun w hS => Bb_3.keep hS) rfl ?_
  try simp only [Act.put, List.setIfInBounds_toArray, List.set_cons_zero, List.set_cons_succ]
  refine Det.det_load 23 2 _ Try.underlying23 rfl szPt _ rfl (by rfl) _ rfl _ _ (fun w hS => Bc_3.keep hS) rfl ?_
  try simp only [Act.put, List.setIfInBounds_toArray, List.set_cons_zero, List.set_cons_succ]
  refine Det.det_call (f := 12) (args := #[.agg #[.int .i64 ax, .int .i64 ay], .agg #[.int .i64 bx, .int .i64 by1], .agg #[.int .i64 cx, .int .i64 cy]]) (v := .int .i64 d) (by rfl) ?_ (fun w hS => (H2.out w).mono fun e w' ⟨h1, h2⟩ => ⟨h1, bq_trans hS h2⟩) ?_
  · (intro w hSw; go_simp)
  try simp only [Act.put, List.setIfInBounds_toArray, List.set_cons_zero, List.set_cons_succ]
  refine Det.det_take (v := ?_) (by rfl) ?_ ?_
  rotate_left
  · (intro w hSw; have eb : decide (8192 < d) = false := (by simp; omega); go_simp; try with_reducible rfl)
  try simp only [Act.put, List.setIfInBounds_toArray, List.set_cons_zero, List.set_cons_succ]
  refine Det.det_take (v := ?_) (by rfl) ?_ ?_
  rotate_left
  · (intro w hSw; go_simp; try with_reducible rfl)
  try simp only [Act.put, List.setIfInBounds_toArray, List.set_cons_zero, List.set_cons_succ]
  refine Det.det_nil (fun W4 k4 => ?_)
  have Ba_4 := Ba_3.keep k4
  have Bb_4 := Bb_3.keep k4
  have Bc_4 := Bc_3.keep k4
  have Hw4 := bq_trans Hw3 k4
  clear k4 Ba_3 Bb_3 Bc_3 Hw3
  clear m1 m2
  go_upto_region 3 with (fail)
  go_upto_region 5 with (go_big_may; first
    | (refine wl_load 23 2 _ Try.underlying23 rfl szPt _ rfl rfl _ rfl _ _ Ba_4 rfl ?_)
    | (refine wl_load 23 2 _ Try.underlying23 rfl szPt _ rfl rfl _ rfl _ _ Bb_4 rfl ?_)
    | (refine wl_load 23 2 _ Try.underlying23 rfl szPt _ rfl rfl _ rfl _ _ Bc_4 rfl ?_)
    | (go_at_call 8; (with_reducible refine (H3.out _).mono ?_); rintro e W5 ⟨⟨lb, lo, lc, rfl, Pl_0⟩, k5⟩; have Ba_5 := Ba_4.keep k5; have Bb_5 := Bb_4.keep k5; have Bc_5 := Bc_4.keep k5; have Hw5 := bq_trans Hw4 k5; clear k5 Ba_4 Bb_4 Bc_4 Hw4))
  have Ka := Ba_5
  have Kb := Bb_5
  have Kc := Bc_5
  have Kl := Pl_0
  have HZ0 := Lib.hid Hw5
  go_wp2_with (first
    | (refine wl_load 23 2 _ Try.underlying23 rfl szPt _ rfl rfl _ rfl _ _ Ba_5 rfl ?_)
    | (refine wl_alloc 23 _ zePt rfl rfl ?_; intro W6 bu Bu_6 l6 k6; have gu : w.heap.size ≤ bu := Nat.le_trans Hw5.size l6; have nau : ba ≠ bu := Nat.ne_of_lt (Nat.lt_of_lt_of_le Ba_5.lt l6); have nbu : bb ≠ bu := Nat.ne_of_lt (Nat.lt_of_lt_of_le Bb_5.lt l6); have ncu : bc ≠ bu := Nat.ne_of_lt (Nat.lt_of_lt_of_le Bc_5.lt l6); have guz : W5.heap.size ≤ bu := Nat.le_trans (bq_refl W5).size l6; have Ba_6 := Ba_5.keep k6; have Bb_6 := Bb_5.keep k6; have Bc_6 := Bc_5.keep k6; have Hw6 := bq_trans Hw5 k6; have Hz6 := bq_trans (bq_refl W5) k6; clear l6 k6 Ba_5 Bb_5 Bc_5 Hw5)
    | (refine wl_store 23 2 szPt _ _ rfl rfl _ rfl #[.int .i64 ax, .int .i64 ay] rfl _ _ Bu_6 rfl rfl (by kernel_rfl) ?_; intro W7 Bu_7 T7; have Ba_7 := T7.blk Ba_6 nau; have Bb_7 := T7.blk Bb_6 nbu; have Bc_7 := T7.blk Bc_6 ncu; have Hw7 := T7.below Hw6 gu; have Hz7 := T7.below Hz6 guz; clear T7 Ba_6 Bb_6 Bc_6 Bu_6 Hw6 Hz6))
  clear H1 H2 H3 h1 h2 h3
  have HZ := Lib.hid Hz7
  clear Hw7 Hz7
  have HXY := Lib.hid (And.intro hX hY)
  have Bu0 := Bu_7
  clear Bu_7 hX hY
  go_loopw [71] (fun i wr => NRel W5 bu n X Y i wr) (fun i _ => n - (intOf i).toNat)
  case atStart => exact ⟨0, by omega, rfl, by rw [HXY.out.1, HXY.out.2]; exact Bu0, HZ.out⟩
  case round =>
    obtain ⟨k, hk, rfl, Bu, hbel⟩ := hrel
    clear Bu0
    by_cases hlt : k < n
    · obtain ⟨x, y, u, v, X1, Y1, X2, Y2, xs, ys, us, vs, uh, vh, ⟨hxy, hx1, hy1, hu, hv⟩, ⟨G1, G2, G3, G4⟩, HU, B1, B2, B3, B4⟩ := HK.out k hlt
      rw [hu, hv] at Bu
      have HX1 := Lib.hid (And.intro hx1 hy1)
      have RL := rangeAt_keep (Kl.get k x y hxy) hbel
      have Ra := Ka.keep hbel
      have Rb := Kb.keep hbel
      have Rc := Kc.keep hbel
      have gu := guz
      have i1 : (0 : Int) ≤ (k : Int) := by omega
      have i2 : (k : Int) < (n : Int) := by omega
      clear hxy hx1 hy1 hu hv HK
      go_upto_region 9 with (go_big_may; first
        | (refine wpList_load_mid rfl 23 _ rfl lb (lo + k * 2) rfl [.int .i64 x, .int .i64 y] _ RL Try.underlying23 rfl szPt ?_)
        | (refine wl_alloc 23 _ zePt rfl rfl ?_; intro W61 bp Bp_61 l61 k61; have gp : W5.heap.size ≤ bp := Nat.le_trans hbel.size l61; have nap : ba ≠ bp := Nat.ne_of_lt (Nat.lt_of_lt_of_le Ra.lt l61); have nbp : bb ≠ bp := Nat.ne_of_lt (Nat.lt_of_lt_of_le Rb.lt l61); have ncp : bc ≠ bp := Nat.ne_of_lt (Nat.lt_of_lt_of_le Rc.lt l61); have nup : bu ≠ bp := Nat.ne_of_lt (Nat.lt_of_lt_of_le Bu.lt l61); have Ba_61 := Ra.keep k61; have Bb_61 := Rb.keep k61; have Bc_61 := Rc.keep k61; have Bu_61 := Bu.keep k61; have Hw61 := bq_trans hbel k61; clear l61 k61 Ra Rb Rc Bu hbel)
        | (refine wl_store 23 2 szPt _ _ rfl rfl _ rfl #[.int .i64 x, .int .i64 y] rfl _ _ Bp_61 rfl rfl (by kernel_rfl) ?_; intro W62 Bp_62 T62; have Ba_62 := T62.blk Ba_61 nap; have Bb_62 := T62.blk Bb_61 nbp; have Bc_62 := T62.blk Bc_61 ncp; have Bu_62 := T62.blk Bu_61 nup; have Hw62 := T62.below Hw61 gp; clear T62 Ba_61 Bb_61 Bc_61 Bu_61 Bp_61 Hw61))
      refine Det.wp_region_det (S := fun w' => Below W62.heap.size W62 w') (by kernel_rfl) (by kernel_rfl) (bq_drew (bq_refl _)) ?_
      refine Det.det_take (v := ?_) (by rfl) ?_ ?_
      rotate_left
      · (intro w hSw; go_simp; try with_reducible rfl)
      try simp only [Act.put, List.setIfInBounds_toArray, List.set_cons_zero, List.set_cons_succ]
      refine Det.det_take (v := ?_) (by rfl) ?_ ?_
      rotate_left
      · (intro w hSw; have cc : w.cell? ⟨ba, 0, none⟩ = some (.int .i64 ax) := (Ba_62.keep hSw).cell 0; go_simp; try with_reducible rfl)
      try simp only [Act.put, List.setIfInBounds_toArray, List.set_cons_zero, List.set_cons_succ]
      refine Det.det_take (v := ?_) (by rfl) ?_ ?_
      rotate_left
      · (intro w hSw; go_simp; try with_reducible rfl)
      try simp only [Act.put, List.setIfInBounds_toArray, List.set_cons_zero, List.set_cons_succ]
      refine Det.det_take (v := ?_) (by rfl) ?_ ?_
      rotate_left
      · (intro w hSw; have cc : w.cell? ⟨bb, 0, none⟩ = some (.int .i64 bx) := (Bb_62.keep hSw).cell 0; go_simp; try with_reducible rfl)
      try simp only [Act.put, List.setIfInBounds_toArray, List.set_cons_zero, List.set_cons_succ]
      refine Det.det_take (v := ?_) (by rfl) ?_ ?_
      rotate_left
      · (intro w hSw; go_simp; try with_reducible rfl)
      try simp only [Act.put, List.setIfInBounds_toArray, List.set_cons_zero, List.set_cons_succ]
      refine Det.det_take (v := ?_) (by rfl) ?_ ?_
      rotate_left
      · (intro w hSw; have cc : w.cell? ⟨bc, 0, none⟩ = some (.int .i64 cx) := (Bc_62.keep hSw).cell 0; go_simp; try with_reducible rfl)
      try simp only [Act.put, List.setIfInBounds_toArray, List.set_cons_zero, List.set_cons_succ]
      refine Det.det_take (v := ?_) (by rfl) ?_ ?_
      rotate_left
      · (intro w hSw; go_simp; try with_reducible rfl)
      try simp only [Act.put, List.setIfInBounds_toArray, List.set_cons_zero, List.set_cons_succ]
      refine Det.det_take (v := ?_) (by rfl) ?_ ?_
      rotate_left
      · (intro w hSw; have ew : IntKind.i64.wrap (2 * (k : Int)) = 2 * (k : Int) := wI _ (by omega); go_simp; try with_reducible rfl)
      try simp only [Act.put, List.setIfInBounds_toArray, List.set_cons_zero, List.set_cons_succ]
      refine Det.det_take (v := ?_) (by rfl) ?_ ?_
      rotate_left
      · (intro w hSw; have ew : IntKind.i64.wrap (2 * (k : Int) + 2) = 2 * (k : Int) + 2 := wI _ (by omega); have ew2 : IntKind.i64.wrap (2 * (k : Int)) = 2 * (k : Int) := wI _ (by omega); go_simp; try with_reducible rfl)
      try simp only [Act.put, List.setIfInBounds_toArray, List.set_cons_zero, List.set_cons_succ]
      refine Det.det_take (v := ?_) (by rfl) ?_ ?_
      rotate_left
      · (intro w hSw; go_simp; try with_reducible rfl)
      try simp only [Act.put, List.setIfInBounds_toArray, List.set_cons_zero, List.set_cons_succ]
      refine Det.det_take (v := ?_) (by rfl) ?_ ?_
      rotate_left
      · (intro w hSw; have ew : IntKind.i64.wrap (2 * (n : Int)) = 2 * (n : Int) := wI _ (by omega); go_simp; try with_reducible rfl)
      try simp only [Act.put, List.setIfInBounds_toArray, List.set_cons_zero, List.set_cons_succ]
      refine Det.det_call (f := 18) (args := #[.int .i64 ax, .int .i64 bx, .int .i64 cx, .int .i64 (2 * (k : Int) + 2), .int .i64 (2 * (n : Int))]) (v := .int .i64 X1) (by rfl) ?_ (fun w hS => (G1.out w).mono fun e w' ⟨h1, h2⟩ => ⟨h1, bq_trans hS h2⟩) ?_
      · (intro w hSw; go_simp)
      try simp only [Act.put, List.setIfInBounds_toArray, List.set_cons_zero, List.set_cons_succ]
      refine Det.det_take (v := ?_) (by rfl) ?_ ?_
      rotate_left
      · (intro w hSw; go_simp; try with_reducible rfl)
      try simp only [Act.put, List.setIfInBounds_toArray, List.set_cons_zero, List.set_cons_succ]
      refine Det.det_take (v := ?_) (by rfl) ?_ ?_
      rotate_left
      · (intro w hSw; have cc : w.cell? ⟨ba, 1, none⟩ = some (.int .i64 ay) := (Ba_62.keep hSw).cell 1; go_simp; try with_reducible rfl)
      try simp only [Act.put, List.setIfInBounds_toArray, List.set_cons_zero, List.set_cons_succ]
      refine Det.det_take (v := ?_) (by rfl) ?_ ?_
      rotate_left
      · (intro w hSw; go_simp; try with_reducible rfl)
      try simp only [Act.put, List.setIfInBounds_toArray, List.set_cons_zero, List.set_cons_succ]
      refine Det.det_take (v := ?_) (by rfl) ?_ ?_
      rotate_left
      · (intro w hSw; have cc : w.cell? ⟨bb, 1, none⟩ = some (.int .i64 by1) := (Bb_62.keep hSw).cell 1; go_simp; try with_reducible rfl)
      try simp only [Act.put, List.setIfInBounds_toArray, List.set_cons_zero, List.set_cons_succ]
      refine Det.det_take (v := ?_) (by rfl) ?_ ?_
      rotate_left
      · (intro w hSw; go_simp; try with_reducible rfl)
      try simp only [Act.put, List.setIfInBounds_toArray, List.set_cons_zero, List.set_cons_succ]
      refine Det.det_take (v := ?_) (by rfl) ?_ ?_
      rotate_left
      · (intro w hSw; have cc : w.cell? ⟨bc, 1, none⟩ = some (.int .i64 cy) := (Bc_62.keep hSw).cell 1; go_simp; try with_reducible rfl)
      try simp only [Act.put, List.setIfInBounds_toArray, List.set_cons_zero, List.set_cons_succ]
      refine Det.det_take (v := ?_) (by rfl) ?_ ?_
      rotate_left
      · (intro w hSw; go_simp; try with_reducible rfl)
      try simp only [Act.put, List.setIfInBounds_toArray, List.set_cons_zero, List.set_cons_succ]
      refine Det.det_take (v := ?_) (by rfl) ?_ ?_
      rotate_left
      · (intro w hSw; have ew : IntKind.i64.wrap (2 * (k : Int)) = 2 * (k : Int) := wI _ (by omega); go_simp; try with_reducible rfl)
      try simp only [Act.put, List.setIfInBounds_toArray, List.set_cons_zero, List.set_cons_succ]
      refine Det.det_take (v := ?_) (by rfl) ?_ ?_
      rotate_left
      · (intro w hSw; have ew : IntKind.i64.wrap (2 * (k : Int) + 2) = 2 * (k : Int) + 2 := wI _ (by omega); have ew2 : IntKind.i64.wrap (2 * (k : Int)) = 2 * (k : Int) := wI _ (by omega); go_simp; try with_reducible rfl)
      try simp only [Act.put, List.setIfInBounds_toArray, List.set_cons_zero, List.set_cons_succ]
      refine Det.det_take (v := ?_) (by rfl) ?_ ?_
      rotate_left
      · (intro w hSw; go_simp; try with_reducible rfl)
      try simp only [Act.put, List.setIfInBounds_toArray, List.set_cons_zero, List.set_cons_succ]
      refine Det.det_take (v := ?_) (by rfl) ?_ ?_
      rotate_left
      · (intro w hSw; have ew : IntKind.i64.wrap (2 * (n : Int)) = 2 * (n : Int) := wI _ (by omega); go_simp; try with_reducible rfl)
      try simp only [Act.put, List.setIfInBounds_toArray, List.set_cons_zero, List.set_cons_succ]
      refine Det.det_call (f := 18) (args := #[.int .i64 ay, .int .i64 by1, .int .i64 cy, .int .i64 (2 * (k : Int) + 2), .int .i64 (2 * (n : Int))]) (v := .int .i64 Y1) (by rfl) ?_ (fun w hS => (G2.out w).mono fun e w' ⟨h1, h2⟩ => ⟨h1, bq_trans hS h2⟩) ?_
      · (intro w hSw; go_simp)
      try simp only [Act.put, List.setIfInBounds_toArray, List.set_cons_zero, List.set_cons_succ]
      refine Det.det_take (v := ?_) (by rfl) ?_ ?_
      rotate_left
      · (intro w hSw; go_simp; try with_reducible rfl)
      try simp only [Act.put, List.setIfInBounds_toArray, List.set_cons_zero, List.set_cons_succ]
      refine Det.det_take (v := ?_) (by rfl) ?_ ?_
      rotate_left
      · (intro w hSw; go_simp; try with_reducible rfl)
      try simp only [Act.put, List.setIfInBounds_toArray, List.set_cons_zero, List.set_cons_succ]
      refine Det.det_nil (fun W63 k63 => ?_)
      have Ba_63 := Ba_62.keep k63
      have Bb_63 := Bb_62.keep k63
      have Bc_63 := Bc_62.keep k63
      have Bu_63 := Bu_62.keep k63
      have Bp_63 := Bp_62.keep k63
      have Hw63 := bq_trans Hw62 k63
      clear k63 Ba_62 Bb_62 Bc_62 Bu_62 Bp_62 Hw62
      go_upto_region 10 with (fail)
      refine Det.wp_region_det (S := fun w' => Below W63.heap.size W63 w') (by kernel_rfl) (by kernel_rfl) (bq_drew (bq_refl _)) ?_
      refine Det.det_take (v := ?_) (by rfl) ?_ ?_
      rotate_left
      · (intro w hSw; go_simp; try with_reducible rfl)
      try simp only [Act.put, List.setIfInBounds_toArray, List.set_cons_zero, List.set_cons_succ]
      refine Det.det_take (v := ?_) (by rfl) ?_ ?_
      rotate_left
      · (intro w hSw; have cc : w.cell? ⟨ba, 0, none⟩ = some (.int .i64 ax) := (Ba_63.keep hSw).cell 0; go_simp; try with_reducible rfl)
      try simp only [Act.put, List.setIfInBounds_toArray, List.set_cons_zero, List.set_cons_succ]
      refine Det.det_take (v := ?_) (by rfl) ?_ ?_
      rotate_left
      · (intro w hSw; go_simp; try with_reducible rfl)
      try simp only [Act.put, List.setIfInBounds_toArray, List.set_cons_zero, List.set_cons_succ]
      refine Det.det_take (v := ?_) (by rfl) ?_ ?_
      rotate_left
      · (intro w hSw; have cc : w.cell? ⟨bb, 0, none⟩ = some (.int .i64 bx) := (Bb_63.keep hSw).cell 0; go_simp; try with_reducible rfl)
      try simp only [Act.put, List.setIfInBounds_toArray, List.set_cons_zero, List.set_cons_succ]
      refine Det.det_take (v := ?_) (by rfl) ?_ ?_
      rotate_left
      · (intro w hSw; go_simp; try with_reducible rfl)
      try simp only [Act.put, List.setIfInBounds_toArray, List.set_cons_zero, List.set_cons_succ]
      refine Det.det_take (v := ?_) (by rfl) ?_ ?_
      rotate_left
      · (intro w hSw; have cc : w.cell? ⟨bc, 0, none⟩ = some (.int .i64 cx) := (Bc_63.keep hSw).cell 0; go_simp; try with_reducible rfl)
      try simp only [Act.put, List.setIfInBounds_toArray, List.set_cons_zero, List.set_cons_succ]
      refine Det.det_take (v := ?_) (by rfl) ?_ ?_
      rotate_left
      · (intro w hSw; go_simp; try with_reducible rfl)
      try simp only [Act.put, List.setIfInBounds_toArray, List.set_cons_zero, List.set_cons_succ]
      refine Det.det_take (v := ?_) (by rfl) ?_ ?_
      rotate_left
      · (intro w hSw; have ew : IntKind.i64.wrap (2 * (k : Int)) = 2 * (k : Int) := wI _ (by omega); go_simp; try with_reducible rfl)
      try simp only [Act.put, List.setIfInBounds_toArray, List.set_cons_zero, List.set_cons_succ]
      refine Det.det_take (v := ?_) (by rfl) ?_ ?_
      rotate_left
      · (intro w hSw; have ew : IntKind.i64.wrap (2 * (k : Int) + 1) = 2 * (k : Int) + 1 := wI _ (by omega); have ew2 : IntKind.i64.wrap (2 * (k : Int)) = 2 * (k : Int) := wI _ (by omega); go_simp; try with_reducible rfl)
      try simp only [Act.put, List.setIfInBounds_toArray, List.set_cons_zero, List.set_cons_succ]
      refine Det.det_take (v := ?_) (by rfl) ?_ ?_
      rotate_left
      · (intro w hSw; go_simp; try with_reducible rfl)
      try simp only [Act.put, List.setIfInBounds_toArray, List.set_cons_zero, List.set_cons_succ]
      refine Det.det_take (v := ?_) (by rfl) ?_ ?_
      rotate_left
      · (intro w hSw; have ew : IntKind.i64.wrap (2 * (n : Int)) = 2 * (n : Int) := wI _ (by omega); go_simp; try with_reducible rfl)
      try simp only [Act.put, List.setIfInBounds_toArray, List.set_cons_zero, List.set_cons_succ]
      refine Det.det_call (f := 18) (args := #[.int .i64 ax, .int .i64 bx, .int .i64 cx, .int .i64 (2 * (k : Int) + 1), .int .i64 (2 * (n : Int))]) (v := .int .i64 X2) (by rfl) ?_ (fun w hS => (G3.out w).mono fun e w' ⟨h1, h2⟩ => ⟨h1, bq_trans hS h2⟩) ?_
      · (intro w hSw; go_simp)
      try simp only [Act.put, List.setIfInBounds_toArray, List.set_cons_zero, List.set_cons_succ]
      refine Det.det_take (v := ?_) (by rfl) ?_ ?_
      rotate_left
      · (intro w hSw; go_simp; try with_reducible rfl)
      try simp only [Act.put, List.setIfInBounds_toArray, List.set_cons_zero, List.set_cons_succ]
      refine Det.det_take (v := ?_) (by rfl) ?_ ?_
      rotate_left
      · (intro w hSw; have cc : w.cell? ⟨ba, 1, none⟩ = some (.int .i64 ay) := (Ba_63.keep hSw).cell 1; go_simp; try with_reducible rfl)
      try simp only [Act.put, List.setIfInBounds_toArray, List.set_cons_zero, List.set_cons_succ]
      refine Det.det_take (v := ?_) (by rfl) ?_ ?_
      rotate_left
      · (intro w hSw; go_simp; try with_reducible rfl)
      try simp only [Act.put, List.setIfInBounds_toArray, List.set_cons_zero, List.set_cons_succ]
      refine Det.det_take (v := ?_) (by rfl) ?_ ?_
      rotate_left
      · (intro w hSw; have cc : w.cell? ⟨bb, 1, none⟩ = some (.int .i64 by1) := (Bb_63.keep hSw).cell 1; go_simp; try with_reducible rfl)
      try simp only [Act.put, List.setIfInBounds_toArray, List.set_cons_zero, List.set_cons_succ]
      refine Det.det_take (v := ?_) (by rfl) ?_ ?_
      rotate_left
      · (intro w hSw; go_simp; try with_reducible rfl)
      try simp only [Act.put, List.setIfInBounds_toArray, List.set_cons_zero, List.set_cons_succ]
      refine Det.det_take (v := ?_) (by rfl) ?_ ?_
      rotate_left
      · (intro w hSw; have cc : w.cell? ⟨bc, 1, none⟩ = some (.int .i64 cy) := (Bc_63.keep hSw).cell 1; go_simp; try with_reducible rfl)
      try simp only [Act.put, List.setIfInBounds_toArray, List.set_cons_zero, List.set_cons_succ]
      refine Det.det_take (v := ?_) (by rfl) ?_ ?_
      rotate_left
      · (intro w hSw; go_simp; try with_reducible rfl)
      try simp only [Act.put, List.setIfInBounds_toArray, List.set_cons_zero, List.set_cons_succ]
      refine Det.det_take (v := ?_) (by rfl) ?_ ?_
      rotate_left
      · (intro w hSw; have ew : IntKind.i64.wrap (2 * (k : Int)) = 2 * (k : Int) := wI _ (by omega); go_simp; try with_reducible rfl)
      try simp only [Act.put, List.setIfInBounds_toArray, List.set_cons_zero, List.set_cons_succ]
      refine Det.det_take (v := ?_) (by rfl) ?_ ?_
      rotate_left
      · (intro w hSw; have ew : IntKind.i64.wrap (2 * (k : Int) + 1) = 2 * (k : Int) + 1 := wI _ (by omega); have ew2 : IntKind.i64.wrap (2 * (k : Int)) = 2 * (k : Int) := wI _ (by omega); go_simp; try with_reducible rfl)
      try simp only [Act.put, List.setIfInBounds_toArray, List.set_cons_zero, List.set_cons_succ]
      refine Det.det_take (v := ?_) (by rfl) ?_ ?_
      rotate_left
      · (intro w hSw; go_simp; try with_reducible rfl)
      try simp only [Act.put, List.setIfInBounds_toArray, List.set_cons_zero, List.set_cons_succ]
      refine Det.det_take (v := ?_) (by rfl) ?_ ?_
      rotate_left
      · (intro w hSw; have ew : IntKind.i64.wrap (2 * (n : Int)) = 2 * (n : Int) := wI _ (by omega); go_simp; try with_reducible rfl)
      try simp only [Act.put, List.setIfInBounds_toArray, List.set_cons_zero, List.set_cons_succ]
      refine Det.det_call (f := 18) (args := #[.int .i64 ay, .int .i64 by1, .int .i64 cy, .int .i64 (2 * (k : Int) + 1), .int .i64 (2 * (n : Int))]) (v := .int .i64 Y2) (by rfl) ?_ (fun w hS => (G4.out w).mono fun e w' ⟨h1, h2⟩ => ⟨h1, bq_trans hS h2⟩) ?_
      · (intro w hSw; go_simp)
      try simp only [Act.put, List.setIfInBounds_toArray, List.set_cons_zero, List.set_cons_succ]
      refine Det.det_take (v := ?_) (by rfl) ?_ ?_
      rotate_left
      · (intro w hSw; go_simp; try with_reducible rfl)
      try simp only [Act.put, List.setIfInBounds_toArray, List.set_cons_zero, List.set_cons_succ]
      refine Det.det_take (v := ?_) (by rfl) ?_ ?_
      rotate_left
      · (intro w hSw; go_simp; try with_reducible rfl)
      try simp only [Act.put, List.setIfInBounds_toArray, List.set_cons_zero, List.set_cons_succ]
      refine Det.det_nil (fun W64 k64 => ?_)
      have Ba_64 := Ba_63.keep k64
      have Bb_64 := Bb_63.keep k64
      have Bc_64 := Bc_63.keep k64
      have Bu_64 := Bu_63.keep k64
      have Bp_64 := Bp_63.keep k64
      have Hw64 := bq_trans Hw63 k64
      clear k64 Ba_63 Bb_63 Bc_63 Bu_63 Bp_63 Hw63
      go_upto_region 12 with (fail)
      refine Det.wp_region_text (S := fun w' => Below W64.heap.size W64 w') (bq_refl _) ?_
      refine Det.det_take (v := ?_) (by rfl) ?_ ?_
      rotate_left
      · (intro w hSw; go_simp; try with_reducible rfl)
      try simp only [Act.put, List.setIfInBounds_toArray, List.set_cons_zero, List.set_cons_succ]
      refine Det.det_take (v := ?_) (by rfl) ?_ ?_
      rotate_left
      · (intro w hSw; have cc : w.cell? ⟨bp, 0, none⟩ = some (.int .i64 x) := (Bp_64.keep hSw).cell 0; go_simp; try with_reducible rfl)
      try simp only [Act.put, List.setIfInBounds_toArray, List.set_cons_zero, List.set_cons_succ]
      refine Det.det_take (v := ?_) (by rfl) ?_ ?_
      rotate_left
      · (intro w hSw; go_simp; try with_reducible rfl)
      try simp only [Act.put, List.setIfInBounds_toArray, List.set_cons_zero, List.set_cons_succ]
      refine Det.det_take (v := ?_) (by rfl) ?_ ?_
      rotate_left
      · (intro w hSw; obtain ⟨e1, e2, e3, e4, e5, e6, e7, e8, e9, e10, e11⟩ := HU.out; go_simp; try with_reducible rfl)
      try simp only [Act.put, List.setIfInBounds_toArray, List.set_cons_zero, List.set_cons_succ]
      refine Det.det_take (v := ?_) (by rfl) ?_ ?_
      rotate_left
      · (intro w hSw; go_simp; try with_reducible rfl)
      try simp only [Act.put, List.setIfInBounds_toArray, List.set_cons_zero, List.set_cons_succ]
      refine Det.det_take (v := ?_) (by rfl) ?_ ?_
      rotate_left
      · (intro w hSw; go_simp; try with_reducible rfl)
      try simp only [Act.put, List.setIfInBounds_toArray, List.set_cons_zero, List.set_cons_succ]
      refine Det.det_call (f := 19) (args := #[.int .i64 xs, .int .i64 X1, .int .i64 s]) (v := .bool false) (by rfl) ?_ (fun w hS => (B1.out w).mono fun e w' ⟨h1, h2⟩ => ⟨h1, bq_trans hS h2⟩) ?_
      · (intro w hSw; go_simp)
      try simp only [Act.put, List.setIfInBounds_toArray, List.set_cons_zero, List.set_cons_succ]
      refine Det.det_take (v := ?_) (by rfl) ?_ ?_
      rotate_left
      · (intro w hSw; go_simp; try with_reducible rfl)
      try simp only [Act.put, List.setIfInBounds_toArray, List.set_cons_zero, List.set_cons_succ]
      refine Det.det_take (v := ?_) (by rfl) ?_ ?_
      rotate_left
      · (intro w hSw; go_simp; try with_reducible rfl)
      try simp only [Act.put, List.setIfInBounds_toArray, List.set_cons_zero, List.set_cons_succ]
      refine Det.det_take (v := ?_) (by rfl) ?_ ?_
      rotate_left
      · (intro w hSw; have cc : w.cell? ⟨bp, 1, none⟩ = some (.int .i64 y) := (Bp_64.keep hSw).cell 1; go_simp; try with_reducible rfl)
      try simp only [Act.put, List.setIfInBounds_toArray, List.set_cons_zero, List.set_cons_succ]
      refine Det.det_take (v := ?_) (by rfl) ?_ ?_
      rotate_left
      · (intro w hSw; go_simp; try with_reducible rfl)
      try simp only [Act.put, List.setIfInBounds_toArray, List.set_cons_zero, List.set_cons_succ]
      refine Det.det_take (v := ?_) (by rfl) ?_ ?_
      rotate_left
      · (intro w hSw; obtain ⟨e1, e2, e3, e4, e5, e6, e7, e8, e9, e10, e11⟩ := HU.out; go_simp; try with_reducible rfl)
      try simp only [Act.put, List.setIfInBounds_toArray, List.set_cons_zero, List.set_cons_succ]
      refine Det.det_take (v := ?_) (by rfl) ?_ ?_
      rotate_left
      · (intro w hSw; go_simp; try with_reducible rfl)
      try simp only [Act.put, List.setIfInBounds_toArray, List.set_cons_zero, List.set_cons_succ]
      refine Det.det_take (v := ?_) (by rfl) ?_ ?_
      rotate_left
      · (intro w hSw; go_simp; try with_reducible rfl)
      try simp only [Act.put, List.setIfInBounds_toArray, List.set_cons_zero, List.set_cons_succ]
      refine Det.det_call (f := 19) (args := #[.int .i64 ys, .int .i64 Y1, .int .i64 s]) (v := .bool false) (by rfl) ?_ (fun w hS => (B2.out w).mono fun e w' ⟨h1, h2⟩ => ⟨h1, bq_trans hS h2⟩) ?_
      · (intro w hSw; go_simp)
      try simp only [Act.put, List.setIfInBounds_toArray, List.set_cons_zero, List.set_cons_succ]
      refine Det.det_take (v := ?_) (by rfl) ?_ ?_
      rotate_left
      · (intro w hSw; go_simp; try with_reducible rfl)
      try simp only [Act.put, List.setIfInBounds_toArray, List.set_cons_zero, List.set_cons_succ]
      refine Det.det_take (v := ?_) (by rfl) ?_ ?_
      rotate_left
      · (intro w hSw; go_simp; try with_reducible rfl)
      try simp only [Act.put, List.setIfInBounds_toArray, List.set_cons_zero, List.set_cons_succ]
      refine Det.det_take (v := ?_) (by rfl) ?_ ?_
      rotate_left
      · (intro w hSw; go_simp; try with_reducible rfl)
      try simp only [Act.put, List.setIfInBounds_toArray, List.set_cons_zero, List.set_cons_succ]
      refine Det.det_take (v := ?_) (by rfl) ?_ ?_
      rotate_left
      · (intro w hSw; have cc : w.cell? ⟨bp, 0, none⟩ = some (.int .i64 x) := (Bp_64.keep hSw).cell 0; go_simp; try with_reducible rfl)
      try simp only [Act.put, List.setIfInBounds_toArray, List.set_cons_zero, List.set_cons_succ]
      refine Det.det_take (v := ?_) (by rfl) ?_ ?_
      rotate_left
      · (intro w hSw; go_simp; try with_reducible rfl)
      try simp only [Act.put, List.setIfInBounds_toArray, List.set_cons_zero, List.set_cons_succ]
      refine Det.det_take (v := ?_) (by rfl) ?_ ?_
      rotate_left
      · (intro w hSw; have cc : w.cell? ⟨bu, 0, none⟩ = some (.int .i64 u) := (Bu_64.keep hSw).cell 0; go_simp; try with_reducible rfl)
      try simp only [Act.put, List.setIfInBounds_toArray, List.set_cons_zero, List.set_cons_succ]
      refine Det.det_take (v := ?_) (by rfl) ?_ ?_
      rotate_left
      · (intro w hSw; obtain ⟨e1, e2, e3, e4, e5, e6, e7, e8, e9, e10, e11⟩ := HU.out; go_simp; try with_reducible rfl)
      try simp only [Act.put, List.setIfInBounds_toArray, List.set_cons_zero, List.set_cons_succ]
      refine Det.det_take (v := ?_) (by rfl) ?_ ?_
      rotate_left
      · (intro w hSw; go_simp; try with_reducible rfl)
      try simp only [Act.put, List.setIfInBounds_toArray, List.set_cons_zero, List.set_cons_succ]
      refine Det.det_take (v := ?_) (by rfl) ?_ ?_
      rotate_left
      · (intro w hSw; obtain ⟨e1, e2, e3, e4, e5, e6, e7, e8, e9, e10, e11⟩ := HU.out; go_simp; try with_reducible rfl)
      try simp only [Act.put, List.setIfInBounds_toArray, List.set_cons_zero, List.set_cons_succ]
      refine Det.det_take (v := ?_) (by rfl) ?_ ?_
      rotate_left
      · (intro w hSw; obtain ⟨e1, e2, e3, e4, e5, e6, e7, e8, e9, e10, e11⟩ := HU.out; go_simp; try with_reducible rfl)
      try simp only [Act.put, List.setIfInBounds_toArray, List.set_cons_zero, List.set_cons_succ]
      refine Det.det_take (v := ?_) (by rfl) ?_ ?_
      rotate_left
      · (intro w hSw; go_simp; try with_reducible rfl)
      try simp only [Act.put, List.setIfInBounds_toArray, List.set_cons_zero, List.set_cons_succ]
      refine Det.det_take (v := ?_) (by rfl) ?_ ?_
      rotate_left
      · (intro w hSw; go_simp; try with_reducible rfl)
      try simp only [Act.put, List.setIfInBounds_toArray, List.set_cons_zero, List.set_cons_succ]
      refine Det.det_take (v := ?_) (by rfl) ?_ ?_
      rotate_left
      · (intro w hSw; obtain ⟨e1, e2, e3, e4, e5, e6, e7, e8, e9, e10, e11⟩ := HU.out; go_simp; try with_reducible rfl)
      try simp only [Act.put, List.setIfInBounds_toArray, List.set_cons_zero, List.set_cons_succ]
      refine Det.det_call (f := 19) (args := #[.int .i64 uh, .int .i64 X2, .int .i64 (3 * s)]) (v := .bool false) (by rfl) ?_ (fun w hS => (B3.out w).mono fun e w' ⟨h1, h2⟩ => ⟨h1, bq_trans hS h2⟩) ?_
      · (intro w hSw; go_simp)
      try simp only [Act.put, List.setIfInBounds_toArray, List.set_cons_zero, List.set_cons_succ]
      refine Det.det_take (v := ?_) (by rfl) ?_ ?_
      rotate_left
      · (intro w hSw; go_simp; try with_reducible rfl)
      try simp only [Act.put, List.setIfInBounds_toArray, List.set_cons_zero, List.set_cons_succ]
      refine Det.det_take (v := ?_) (by rfl) ?_ ?_
      rotate_left
      · (intro w hSw; go_simp; try with_reducible rfl)
      try simp only [Act.put, List.setIfInBounds_toArray, List.set_cons_zero, List.set_cons_succ]
      refine Det.det_take (v := ?_) (by rfl) ?_ ?_
      rotate_left
      · (intro w hSw; go_simp; try with_reducible rfl)
      try simp only [Act.put, List.setIfInBounds_toArray, List.set_cons_zero, List.set_cons_succ]
      refine Det.det_take (v := ?_) (by rfl) ?_ ?_
      rotate_left
      · (intro w hSw; have cc : w.cell? ⟨bp, 1, none⟩ = some (.int .i64 y) := (Bp_64.keep hSw).cell 1; go_simp; try with_reducible rfl)
      try simp only [Act.put, List.setIfInBounds_toArray, List.set_cons_zero, List.set_cons_succ]
      refine Det.det_take (v := ?_) (by rfl) ?_ ?_
      rotate_left
      · (intro w hSw; go_simp; try with_reducible rfl)
      try simp only [Act.put, List.setIfInBounds_toArray, List.set_cons_zero, List.set_cons_succ]
      refine Det.det_take (v := ?_) (by rfl) ?_ ?_
      rotate_left
      · (intro w hSw; have cc : w.cell? ⟨bu, 1, none⟩ = some (.int .i64 v) := (Bu_64.keep hSw).cell 1; go_simp; try with_reducible rfl)
      try simp only [Act.put, List.setIfInBounds_toArray, List.set_cons_zero, List.set_cons_succ]
      refine Det.det_take (v := ?_) (by rfl) ?_ ?_
      rotate_left
      · (intro w hSw; obtain ⟨e1, e2, e3, e4, e5, e6, e7, e8, e9, e10, e11⟩ := HU.out; go_simp; try with_reducible rfl)
      try simp only [Act.put, List.setIfInBounds_toArray, List.set_cons_zero, List.set_cons_succ]
      refine Det.det_take (v := ?_) (by rfl) ?_ ?_
      rotate_left
      · (intro w hSw; go_simp; try with_reducible rfl)
      try simp only [Act.put, List.setIfInBounds_toArray, List.set_cons_zero, List.set_cons_succ]
      refine Det.det_take (v := ?_) (by rfl) ?_ ?_
      rotate_left
      · (intro w hSw; obtain ⟨e1, e2, e3, e4, e5, e6, e7, e8, e9, e10, e11⟩ := HU.out; go_simp; try with_reducible rfl)
      try simp only [Act.put, List.setIfInBounds_toArray, List.set_cons_zero, List.set_cons_succ]
      refine Det.det_take (v := ?_) (by rfl) ?_ ?_
      rotate_left
      · (intro w hSw; obtain ⟨e1, e2, e3, e4, e5, e6, e7, e8, e9, e10, e11⟩ := HU.out; go_simp; try with_reducible rfl)
      try simp only [Act.put, List.setIfInBounds_toArray, List.set_cons_zero, List.set_cons_succ]
      refine Det.det_take (v := ?_) (by rfl) ?_ ?_
      rotate_left
      · (intro w hSw; go_simp; try with_reducible rfl)
      try simp only [Act.put, List.setIfInBounds_toArray, List.set_cons_zero, List.set_cons_succ]
      refine Det.det_take (v := ?_) (by rfl) ?_ ?_
      rotate_left
      · (intro w hSw; go_simp; try with_reducible rfl)
      try simp only [Act.put, List.setIfInBounds_toArray, List.set_cons_zero, List.set_cons_succ]
      refine Det.det_take (v := ?_) (by rfl) ?_ ?_
      rotate_left
      · (intro w hSw; obtain ⟨e1, e2, e3, e4, e5, e6, e7, e8, e9, e10, e11⟩ := HU.out; go_simp; try with_reducible rfl)
      try simp only [Act.put, List.setIfInBounds_toArray, List.set_cons_zero, List.set_cons_succ]
      refine Det.det_call (f := 19) (args := #[.int .i64 vh, .int .i64 Y2, .int .i64 (3 * s)]) (v := .bool false) (by rfl) ?_ (fun w hS => (B4.out w).mono fun e w' ⟨h1, h2⟩ => ⟨h1, bq_trans hS h2⟩) ?_
      · (intro w hSw; go_simp)
      try simp only [Act.put, List.setIfInBounds_toArray, List.set_cons_zero, List.set_cons_succ]
      refine Det.det_take (v := ?_) (by rfl) ?_ ?_
      rotate_left
      · (intro w hSw; go_simp; try with_reducible rfl)
      try simp only [Act.put, List.setIfInBounds_toArray, List.set_cons_zero, List.set_cons_succ]
      refine Det.det_nil (fun W65 k65 => ?_)
      have Ba_65 := Ba_64.keep k65
      have Bb_65 := Bb_64.keep k65
      have Bc_65 := Bc_64.keep k65
      have Bu_65 := Bu_64.keep k65
      have Bp_65 := Bp_64.keep k65
      have Hw65 := bq_trans Hw64 k65
      clear k65 Ba_64 Bb_64 Bc_64 Bu_64 Bp_64 Hw64
      go_wp2_with (first
        | (refine wl_load 23 2 _ Try.underlying23 rfl szPt _ rfl rfl _ rfl _ _ Bp_65 rfl ?_)
        | (refine wl_store 23 2 szPt _ _ rfl rfl _ rfl #[.int .i64 x, .int .i64 y] rfl _ _ Bu_65 rfl rfl (by kernel_rfl) ?_; intro W66 Bu_66 T66; have Ba_66 := T66.blk Ba_65 nau; have Bb_66 := T66.blk Bb_65 nbu; have Bc_66 := T66.blk Bc_65 ncu; have Bp_66 := T66.blk Bp_65 (Ne.symm nup); have Hw66 := T66.below Hw65 gu; clear T66 Ba_65 Bb_65 Bc_65 Bp_65 Bu_65 Hw65))
      go_roundw
      case rel => exact ⟨k + 1, by omega, by go_num, by rw [HX1.out.1, HX1.out.2]; exact Bu_66, Hw66⟩
      case measure => simp [intOf]; omega
    · have hkn : k = n := by omega
      have HB := Lib.hid hbel
      clear hbel
      subst hkn
      go_wp2_with (first
        | (go_at_call 14; (with_reducible refine (HA.out _).mono ?_); rintro e W99 ⟨rfl, k99⟩))
      go_ret
      exact ⟨rfl, bq_trans (bq_trans HZ0.out HB.out) k99⟩
/-- twice a part of the way -/
theorem num_twice (a b c i n : Int) : num a b c (2 * i) (2 * n) = 4 * num a b c i n := by unfold num; grind
/-- the middle of a piece -/
theorem num_mid (a b c i n : Int) : 2 * (num a b c i n + num a b c (i + 1) n) - num a b c (2 * i + 1) (2 * n) = a - 2 * b + c := by unfold num; grind
/-- each point is near, and the middle of each piece -/
theorem near_part {a b c i n d : Int} (hn : 0 < n) (hd : bnd a b c ≤ d) (hd2 : d ≤ 8 * (n * n)) :
    (ptV a b c (i + 1) n * (4 * n * n) - num a b c (2 * i + 2) (2 * n) ≤ 4 * n * n ∧ num a b c (2 * i + 2) (2 * n) - ptV a b c (i + 1) n * (4 * n * n) ≤ 4 * n * n) ∧
    (((ptV a b c (i + 1) n + ptV a b c i n) * (4 * n * n)).tdiv 2 - num a b c (2 * i + 1) (2 * n) ≤ 3 * (4 * n * n) ∧ num a b c (2 * i + 1) (2 * n) - ((ptV a b c (i + 1) n + ptV a b c i n) * (4 * n * n)).tdiv 2 ≤ 3 * (4 * n * n)) := by
  have ⟨p1, p2⟩ := ptV_near a b c (i + 1) n hn
  have ⟨q1, q2⟩ := ptV_near a b c i n hn
  have e1 := num_twice a b c (i + 1) n
  have e2 := num_mid a b c i n
  rw [show 2 * (i + 1) = 2 * i + 2 by omega] at e1
  have e3 : 4 * n * n = 4 * (n * n) := Int.mul_assoc ..
  have e4 : ptV a b c (i + 1) n * (4 * (n * n)) = 4 * (ptV a b c (i + 1) n * (n * n)) := by grind
  have e5 : (ptV a b c (i + 1) n + ptV a b c i n) * (4 * (n * n)) = 2 * (2 * (ptV a b c (i + 1) n * (n * n)) + 2 * (ptV a b c i n * (n * n))) := by grind
  rw [e3, e4, e5, Int.mul_tdiv_cancel_left _ (by decide), e1]
  have hb : -(8 * (n * n)) ≤ a - 2 * b + c ∧ a - 2 * b + c ≤ 8 * (n * n) := by unfold bnd at hd; omega
  generalize ptV a b c (i + 1) n * (n * n) = P at *
  generalize ptV a b c i n * (n * n) = R at *
  generalize num a b c (2 * i + 1) (2 * n) = M at *
  generalize num a b c (i + 1) n = N1 at *
  generalize num a b c i n = N0 at *
  generalize n * n = S at *
  omega
/-- the numbers on the way are small -/
theorem near_bds {a b c i n : Int} (ha : (-1048576 ≤ a ∧ a ≤ 1048576)) (hb : (-1048576 ≤ b ∧ b ≤ 1048576)) (hc : (-1048576 ≤ c ∧ c ≤ 1048576)) (hi : 0 ≤ i ∧ i < n) (hn : n ≤ 32) (ea : a % 2 = 0) (eb : b % 2 = 0) (ec : c % 2 = 0) :
    (-1048576 ≤ ptV a b c (i + 1) n ∧ ptV a b c (i + 1) n ≤ 1048576) ∧ (-1048576 ≤ ptV a b c i n ∧ ptV a b c i n ≤ 1048576) ∧ (-4294967296 ≤ num a b c (2 * i + 2) (2 * n) ∧ num a b c (2 * i + 2) (2 * n) ≤ 4294967296) ∧ (-4294967296 ≤ num a b c (2 * i + 1) (2 * n) ∧ num a b c (2 * i + 1) (2 * n) ≤ 4294967296) ∧ (0 ≤ 4 * n * n ∧ 4 * n * n ≤ 4096) := by
  have s1 : 0 ≤ n * n ∧ n * n ≤ 1024 := ⟨Int.mul_nonneg (by omega) (by omega), (mul_bd 32 32 (a := n) (b := n) (by omega) (by omega)).2⟩
  have e3 : 4 * n * n = 4 * (n * n) := Int.mul_assoc ..
  have e4 : 2 * n * (2 * n) = 4 * (n * n) := by grind
  have k1 := num_bd (M := 1048576) (i := 2 * i + 2) (n := 2 * n) ha hb hc (by omega)
  have k2 := num_bd (M := 1048576) (i := 2 * i + 1) (n := 2 * n) ha hb hc (by omega)
  rw [e4] at k1 k2
  have p1 := ptV_in (lo := -1048576) (hi := 1048576) (i := i + 1) (n := n) ha hb hc (by omega) (by omega) (by decide) (by decide)
  have p2 := ptV_in (lo := -1048576) (hi := 1048576) (i := i) (n := n) ha hb hc (by omega) (by omega) (by decide) (by decide)
  rw [e3]
  generalize n * n = S at *
  omega
theorem ptV_first {a b c n : Int} (hn : 0 < n) (ha : a % 2 = 0) : ptV a b c 0 n = a := by
  have ⟨n1, n2⟩ := ptV_near a b c 0 n hn
  have ev := ptV_even a b c 0 n
  have e : num a b c 0 n = a * (n * n) := by unfold num; grind
  have hs := sq_pos hn
  rw [e] at n1 n2
  generalize ptV a b c 0 n = p at *
  generalize n * n = s at *
  have h1 : (a - 1) * s < p * s := by
    have e : (a - 1) * s = a * s - s := by grind
    omega
  have h2 : p * s < (a + 2) * s := by
    have e : (a + 2) * s = a * s + s + s := by grind
    omega
  have := lt_of_mul hs h1
  have := lt_of_mul hs h2
  omega
theorem in24_of {x : Int} (h : (-1048576 ≤ x ∧ x ≤ 1048576)) : In24 x := ⟨by omega, by omega⟩
set_option maxHeartbeats 2000000 in
theorem curveNear_walk (ax ay bx by1 cx cy : Int) (w : World) : Calls Try.prog 5 #[.agg #[.int .i64 ax, .int .i64 ay], .agg #[.int .i64 bx, .int .i64 by1], .agg #[.int .i64 cx, .int .i64 cy]] w fun e w' => e = .returned (.bool true) ∧ Below w.heap.size w w' := by
  have H1 := Lib.hid fun W => right16_any ax ay bx by1 cx cy W
  have H2 := Lib.hid fun W => bend16_any ax ay bx by1 cx cy W
  cases q : allE ax ay bx by1 cx cy with
  | false =>
    rw [q] at H1
    exact near16_0 ax ay bx by1 cx cy 0 0 0 w (Lib.hid awake16_any) H1
  | true =>
    rw [q] at H1 H2
    have m1 := fun (w : World) ts t => run_max6 (P := Try.prog) w ts t ax bx cx ay by1 cy
    have m2 := fun (w : World) ts t => run_min6 (P := Try.prog) w ts t ax bx cx ay by1 cy
    by_cases h1 : 1048576 < (max (max (max (max (max ax bx) cx) ay) by1) cy)
    · exact near16_1 ax ay bx by1 cx cy _ 0 0 w (Lib.hid awake16_any) H1 m1 h1
    · by_cases h2 : (min (min (min (min (min ax bx) cx) ay) by1) cy) < -1048576
      · exact near16_2 ax ay bx by1 cx cy _ _ 0 w (Lib.hid awake16_any) H1 m1 m2 (by omega) h2
      · by_cases h3 : 8192 < bendV ax ay bx by1 cx cy
        · exact near16_3 ax ay bx by1 cx cy _ _ _ w (Lib.hid awake16_any) H1 m1 m2 H2 (by omega) (by omega) h3
        · obtain ⟨a1, a2, b1, b2, c1, c2⟩ := allE_bd q
          have ma1 : (-1048576 ≤ ax ∧ ax ≤ 1048576) := by omega
          have ma2 : (-1048576 ≤ ay ∧ ay ≤ 1048576) := by omega
          have mb1 : (-1048576 ≤ bx ∧ bx ≤ 1048576) := by omega
          have mb2 : (-1048576 ≤ by1 ∧ by1 ≤ 1048576) := by omega
          have mc1 : (-1048576 ≤ cx ∧ cx ≤ 1048576) := by omega
          have mc2 : (-1048576 ≤ cy ∧ cy ≤ 1048576) := by omega
          have hp := pie_bd (bendV ax ay bx by1 cx cy)
          have hd := pie_enough (bendV ax ay bx by1 cx cy) (by omega)
          have hd1 : bnd ax bx cx ≤ bendV ax ay bx by1 cx cy := by unfold bendV; omega
          have hd2 : bnd ay by1 cy ≤ bendV ax ay bx by1 cx cy := by unfold bendV; omega
          obtain ⟨n, hn⟩ : ∃ n, pie (bendV ax ay bx by1 cx cy) = n := ⟨_, rfl⟩
          rw [hn] at hp hd
          have hs4 := (near_bds (i := 0) (n := (n : Int)) ma1 mb1 mc1 (by omega) (by omega) a1.2 b1.2 c1.2).2.2.2.2
          refine near16_4 ax ay bx by1 cx cy _ _ _ (4 * (n : Int) * (n : Int)) n (flatL ax ay bx by1 cx cy) (fun k => ptV ax bx cx (k : Int) (n : Int)) (fun k => ptV ay by1 cy (k : Int) (n : Int)) w hp.2 hp.1 (ptV_first (by omega) a1.2) (ptV_first (by omega) a2.2) (w64 _ (by omega)) (Lib.hid awake16_any) H1 m1 m2 H2 (by omega) (by omega) (by omega) (Lib.hid fun W => flat16_pts q n hn W) (Lib.hid fun k hk => ?_)
          have ck : ((k + 1 : Nat) : Int) = (k : Int) + 1 := by omega
          have fl := flatL_at ax ay bx by1 cx cy k (by omega)
          rw [hn] at fl
          have bx1 := near_bds (i := (k : Int)) (n := (n : Int)) ma1 mb1 mc1 (by omega) (by omega) a1.2 b1.2 c1.2
          have bx2 := near_bds (i := (k : Int)) (n := (n : Int)) ma2 mb2 mc2 (by omega) (by omega) a2.2 b2.2 c2.2
          have nx := near_part (a := ax) (b := bx) (c := cx) (i := (k : Int)) (n := (n : Int)) (d := bendV ax ay bx by1 cx cy) (by omega) hd1 hd
          have ny := near_part (a := ay) (b := by1) (c := cy) (i := (k : Int)) (n := (n : Int)) (d := bendV ax ay bx by1 cx cy) (by omega) hd2 hd
          have G1 := fun W => way16_any ax bx cx (2 * (k : Int) + 2) (2 * (n : Int)) W (in24_of ma1) (in24_of mb1) (in24_of mc1) (by omega) (by omega)
          have G2 := fun W => way16_any ay by1 cy (2 * (k : Int) + 2) (2 * (n : Int)) W (in24_of ma2) (in24_of mb2) (in24_of mc2) (by omega) (by omega)
          have G3 := fun W => way16_any ax bx cx (2 * (k : Int) + 1) (2 * (n : Int)) W (in24_of ma1) (in24_of mb1) (in24_of mc1) (by omega) (by omega)
          have G4 := fun W => way16_any ay by1 cy (2 * (k : Int) + 1) (2 * (n : Int)) W (in24_of ma2) (in24_of mb2) (in24_of mc2) (by omega) (by omega)
          refine ⟨(ptV ax bx cx ((k : Int) + 1) (n : Int)), (ptV ay by1 cy ((k : Int) + 1) (n : Int)), (ptV ax bx cx (k : Int) (n : Int)), (ptV ay by1 cy (k : Int) (n : Int)), (num ax bx cx (2 * (k : Int) + 2) (2 * (n : Int))), (num ay by1 cy (2 * (k : Int) + 2) (2 * (n : Int))), (num ax bx cx (2 * (k : Int) + 1) (2 * (n : Int))), (num ay by1 cy (2 * (k : Int) + 1) (2 * (n : Int))), ((ptV ax bx cx ((k : Int) + 1) (n : Int)) * (4 * (n : Int) * (n : Int))), ((ptV ay by1 cy ((k : Int) + 1) (n : Int)) * (4 * (n : Int) * (n : Int))), (((ptV ax bx cx ((k : Int) + 1) (n : Int)) + (ptV ax bx cx (k : Int) (n : Int))) * (4 * (n : Int) * (n : Int))), (((ptV ay by1 cy ((k : Int) + 1) (n : Int)) + (ptV ay by1 cy (k : Int) (n : Int))) * (4 * (n : Int) * (n : Int))), ((((ptV ax bx cx ((k : Int) + 1) (n : Int)) + (ptV ax bx cx (k : Int) (n : Int))) * (4 * (n : Int) * (n : Int))).tdiv 2), ((((ptV ay by1 cy ((k : Int) + 1) (n : Int)) + (ptV ay by1 cy (k : Int) (n : Int))) * (4 * (n : Int) * (n : Int))).tdiv 2), ⟨fl, by rw [ck], by rw [ck], rfl, rfl⟩, ⟨Lib.hid G1, Lib.hid G2, Lib.hid G3, Lib.hid G4⟩, ?_⟩
          clear G1 G2 G3 G4 fl
          generalize ptV ax bx cx ((k : Int) + 1) (n : Int) = x at *
          generalize ptV ay by1 cy ((k : Int) + 1) (n : Int) = y at *
          generalize ptV ax bx cx (k : Int) (n : Int) = u at *
          generalize ptV ay by1 cy (k : Int) (n : Int) = v at *
          generalize num ax bx cx (2 * (k : Int) + 2) (2 * (n : Int)) = X1 at *
          generalize num ay by1 cy (2 * (k : Int) + 2) (2 * (n : Int)) = Y1 at *
          generalize num ax bx cx (2 * (k : Int) + 1) (2 * (n : Int)) = X2 at *
          generalize num ay by1 cy (2 * (k : Int) + 1) (2 * (n : Int)) = Y2 at *
          generalize 4 * (n : Int) * (n : Int) = s at *
          have u1 := mul_bd 1048576 4096 (a := x) (b := s) (by omega) (by omega)
          have u2 := mul_bd 1048576 4096 (a := y) (b := s) (by omega) (by omega)
          have u3 := mul_bd 2097152 4096 (a := x + u) (b := s) (by omega) (by omega)
          have u4 := mul_bd 2097152 4096 (a := y + v) (b := s) (by omega) (by omega)
          have t3 : -8589934592 ≤ ((x + u) * s).tdiv 2 ∧ ((x + u) * s).tdiv 2 ≤ 8589934592 := by omega
          have t4 : -8589934592 ≤ ((y + v) * s).tdiv 2 ∧ ((y + v) * s).tdiv 2 ≤ 8589934592 := by omega
          exact ⟨Lib.hid ⟨wI _ (by omega), wI _ (by omega), wI _ (by omega), wI _ (by omega), wI _ (by omega), wI _ (by omega), rfl, rfl, wI _ (by omega), wI _ (by omega), wI _ (by omega)⟩,
            Lib.hid fun W => beside16_no _ _ _ W (by omega) (by omega) (by omega) (by omega) nx.1.1 nx.1.2, Lib.hid fun W => beside16_no _ _ _ W (by omega) (by omega) (by omega) (by omega) ny.1.1 ny.1.2, Lib.hid fun W => beside16_no _ _ _ W (by omega) (by omega) (by omega) (by omega) nx.2.1 nx.2.2, Lib.hid fun W => beside16_no _ _ _ W (by omega) (by omega) (by omega) (by omega) ny.2.1 ny.2.2⟩
end Go.Proofs.Ytpeknlablcgchaa
