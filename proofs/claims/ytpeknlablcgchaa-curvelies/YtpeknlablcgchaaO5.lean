import Derived.Test.YtpeknlablcgchaaO4
/- Layer 16: the walk of CurveLies. -/
namespace Go.Proofs.Ytpeknlablcgchaa
open Go.RowKit
set_option linter.unusedVariables false
set_option linter.unusedSimpArgs false
set_option maxRecDepth 100000

theorem run_min3 {P : Program} (w : World) (ts : Array TypeId) (t : TypeId) (k k1 k2 : IntKind) (x y z : Int) : (Builtin.min_ ts t #[.int k x, .int k1 y, .int k2 z]).run P w = .ok (.int k (min (min x y) z)) w := by
  have e : ∀ a b : Int, (if b < a then b else a) = min a b := fun a b => by
    rw [Int.min_def]
    split <;> split <;> omega
  simp [Builtin.min_, Builtin.min2, e]
theorem run_max3 {P : Program} (w : World) (ts : Array TypeId) (t : TypeId) (k k1 k2 : IntKind) (x y z : Int) : (Builtin.max_ ts t #[.int k x, .int k1 y, .int k2 z]).run P w = .ok (.int k (max (max x y) z)) w := by
  have e : ∀ a b : Int, (if a < b then b else a) = max a b := fun a b => by
    rw [Int.max_def]
    split <;> split <;> omega
  simp [Builtin.max_, Builtin.max2, e]
set_option maxHeartbeats 1000000 in
theorem lies16_no (ax ay bx by1 cx cy : Int) (w : World) (HA : Hid (∀ W, Calls Try.prog 14 #[] W fun e w' => e = .returned (.bool true) ∧ Below W.heap.size W w')) (H1 : Hid (∀ W, Calls Try.prog 8 #[.agg #[.int .i64 ax, .int .i64 ay], .agg #[.int .i64 bx, .int .i64 by1], .agg #[.int .i64 cx, .int .i64 cy]] W fun e w' => (∃ a c, e = .returned (.slice a 0 c)) ∧ Below W.heap.size W w')) (H2 : Hid (∀ W, Calls Try.prog 11 #[.agg #[.int .i64 ax, .int .i64 ay], .agg #[.int .i64 bx, .int .i64 by1], .agg #[.int .i64 cx, .int .i64 cy]] W fun e w' => e = .returned (.bool false) ∧ Below W.heap.size W w')) :
    Calls Try.prog 4 #[.agg #[.int .i64 ax, .int .i64 ay], .agg #[.int .i64 bx, .int .i64 by1], .agg #[.int .i64 cx, .int .i64 cy]] w fun e w' => e = .returned (.bool true) ∧ Below w.heap.size w w' := by
  go_enter Try.func4, Try.ntmps4
  go_upto_region 1 with (go_big_may; first
    | (refine wl_box 23 _ _ rfl rfl (show _ = Value.agg #[.int .i64 ax, .int .i64 ay] from rfl) ?_; intro W1 ba Ba_1 l1 k1; have ga : w.heap.size ≤ ba := l1; have Hw1 := k1; clear l1 k1)
    | (refine wl_box 23 _ _ rfl rfl (show _ = Value.agg #[.int .i64 bx, .int .i64 by1] from rfl) ?_; intro W2 bb Bb_2 l2 k2; have gb : w.heap.size ≤ bb := Nat.le_trans Hw1.size l2; have nab : ba ≠ bb := Nat.ne_of_lt (Nat.lt_of_lt_of_le Ba_1.lt l2); have Ba_2 := Ba_1.keep k2; have Hw2 := bq_trans Hw1 k2; clear l2 k2 Ba_1 Hw1)
    | (refine wl_box 23 _ _ rfl rfl (show _ = Value.agg #[.int .i64 cx, .int .i64 cy] from rfl) ?_; intro W3 bc Bc_3 l3 k3; have gc : w.heap.size ≤ bc := Nat.le_trans Hw2.size l3; have nac : ba ≠ bc := Nat.ne_of_lt (Nat.lt_of_lt_of_le Ba_2.lt l3); have nbc : bb ≠ bc := Nat.ne_of_lt (Nat.lt_of_lt_of_le Bb_2.lt l3); have Ba_3 := Ba_2.keep k3; have Bb_3 := Bb_2.keep k3; have Hw3 := bq_trans Hw2 k3; clear l3 k3 Ba_2 Bb_2 Hw2))
  go_upto_region 2 with (go_big_may; first
    | (refine wl_load 23 2 _ Try.underlying23 rfl szPt _ rfl rfl _ rfl _ _ Ba_3 rfl ?_)
    | (refine wl_load 23 2 _ Try.underlying23 rfl szPt _ rfl rfl _ rfl _ _ Bb_3 rfl ?_)
    | (refine wl_load 23 2 _ Try.underlying23 rfl szPt _ rfl rfl _ rfl _ _ Bc_3 rfl ?_)
    | (go_at_call 8; (with_reducible refine (H1.out _).mono ?_); rintro e W4 ⟨⟨la, lc, rfl⟩, k4⟩; have Ba_4 := Ba_3.keep k4; have Bb_4 := Bb_3.keep k4; have Bc_4 := Bc_3.keep k4; have Hw4 := bq_trans Hw3 k4; clear k4 Ba_3 Bb_3 Bc_3 Hw3))
  go_wp2_with (first
    | (refine wl_load 23 2 _ Try.underlying23 rfl szPt _ rfl rfl _ rfl _ _ Ba_4 rfl ?_)
    | (refine wl_load 23 2 _ Try.underlying23 rfl szPt _ rfl rfl _ rfl _ _ Bb_4 rfl ?_)
    | (refine wl_load 23 2 _ Try.underlying23 rfl szPt _ rfl rfl _ rfl _ _ Bc_4 rfl ?_)
    | (go_at_call 11; (with_reducible refine (H2.out _).mono ?_); rintro e W5 ⟨rfl, k5⟩; have Ba_5 := Ba_4.keep k5; have Bb_5 := Bb_4.keep k5; have Bc_5 := Bc_4.keep k5; have Hw5 := bq_trans Hw4 k5; clear k5 Ba_4 Bb_4 Bc_4 Hw4)
    | (go_at_call 14; (with_reducible refine (HA.out _).mono ?_); rintro e W6 ⟨rfl, k6⟩; have Ba_6 := Ba_5.keep k6; have Bb_6 := Bb_5.keep k6; have Bc_6 := Bc_5.keep k6; have Hw6 := bq_trans Hw5 k6; clear k6 Ba_5 Bb_5 Bc_5 Hw5))
  go_ret
  exact ⟨rfl, Hw6⟩
set_option maxHeartbeats 4000000 in
theorem lies16_yes (ax ay bx by1 cx cy mnx mxx mny mxy : Int) (n j : Nat) (L : List (Int × Int)) (w : World) (hn : n ≤ 32) (hj : j + 1 = n) (hj3 : L[j]? = some (cx, cy)) (HA : Hid (∀ W, Calls Try.prog 14 #[] W fun e w' => e = .returned (.bool true) ∧ Below W.heap.size W w')) (H1 : Hid (∀ W, Calls Try.prog 8 #[.agg #[.int .i64 ax, .int .i64 ay], .agg #[.int .i64 bx, .int .i64 by1], .agg #[.int .i64 cx, .int .i64 cy]] W fun e w' => (∃ b o c, e = .returned (.slice (some ⟨b, o, none⟩) n c) ∧ Pts w' b o (L)) ∧ Below W.heap.size W w')) (H2 : Hid (∀ W, Calls Try.prog 11 #[.agg #[.int .i64 ax, .int .i64 ay], .agg #[.int .i64 bx, .int .i64 by1], .agg #[.int .i64 cx, .int .i64 cy]] W fun e w' => e = .returned (.bool true) ∧ Below W.heap.size W w'))
    (m1 : ∀ (w : World) (ts : Array TypeId) (t : TypeId), (Builtin.min_ ts t #[.int .i64 ax, .int .i64 bx, .int .i64 cx]).run Try.prog w = .ok (.int .i64 mnx) w) (m2 : ∀ (w : World) (ts : Array TypeId) (t : TypeId), (Builtin.max_ ts t #[.int .i64 ax, .int .i64 bx, .int .i64 cx]).run Try.prog w = .ok (.int .i64 mxx) w) (m3 : ∀ (w : World) (ts : Array TypeId) (t : TypeId), (Builtin.min_ ts t #[.int .i64 ay, .int .i64 by1, .int .i64 cy]).run Try.prog w = .ok (.int .i64 mny) w) (m4 : ∀ (w : World) (ts : Array TypeId) (t : TypeId), (Builtin.max_ ts t #[.int .i64 ay, .int .i64 by1, .int .i64 cy]).run Try.prog w = .ok (.int .i64 mxy) w)
    (HL : Hid (∀ k, k < n → ∃ x y, L[k]? = some (x, y) ∧ evP x y = true ∧ mnx ≤ x ∧ x ≤ mxx ∧ mny ≤ y ∧ y ≤ mxy)) :
    Calls Try.prog 4 #[.agg #[.int .i64 ax, .int .i64 ay], .agg #[.int .i64 bx, .int .i64 by1], .agg #[.int .i64 cx, .int .i64 cy]] w fun e w' => e = .returned (.bool true) ∧ Below w.heap.size w w' := by
  have hn2 : (n : Int) ≤ 32 := by omega
  have hn1 : 1 ≤ (n : Int) := by omega
  have hj0 : (0 : Int) ≤ (j : Int) := by omega
  have hj1 : (j : Int) < (n : Int) := by omega
  have HJ : Hid (IntKind.i64.wrap ((n : Int) - 1) = (j : Int)) := Lib.hid (by rw [wI _ (by omega)]; omega)
  clear hn hj
  go_enter Try.func4, Try.ntmps4
  go_upto_region 1 with (go_big_may; first
    | (refine wl_box 23 _ _ rfl rfl (show _ = Value.agg #[.int .i64 ax, .int .i64 ay] from rfl) ?_; intro W1 ba Ba_1 l1 k1; have ga : w.heap.size ≤ ba := l1; have Hw1 := k1; clear l1 k1)
    | (refine wl_box 23 _ _ rfl rfl (show _ = Value.agg #[.int .i64 bx, .int .i64 by1] from rfl) ?_; intro W2 bb Bb_2 l2 k2; have gb : w.heap.size ≤ bb := Nat.le_trans Hw1.size l2; have nab : ba ≠ bb := Nat.ne_of_lt (Nat.lt_of_lt_of_le Ba_1.lt l2); have Ba_2 := Ba_1.keep k2; have Hw2 := bq_trans Hw1 k2; clear l2 k2 Ba_1 Hw1)
    | (refine wl_box 23 _ _ rfl rfl (show _ = Value.agg #[.int .i64 cx, .int .i64 cy] from rfl) ?_; intro W3 bc Bc_3 l3 k3; have gc : w.heap.size ≤ bc := Nat.le_trans Hw2.size l3; have nac : ba ≠ bc := Nat.ne_of_lt (Nat.lt_of_lt_of_le Ba_2.lt l3); have nbc : bb ≠ bc := Nat.ne_of_lt (Nat.lt_of_lt_of_le Bb_2.lt l3); have Ba_3 := Ba_2.keep k3; have Bb_3 := Bb_2.keep k3; have Hw3 := bq_trans Hw2 k3; clear l3 k3 Ba_2 Bb_2 Hw2))
  go_upto_region 2 with (go_big_may; first
    | (refine wl_load 23 2 _ Try.underlying23 rfl szPt _ rfl rfl _ rfl _ _ Ba_3 rfl ?_)
    | (refine wl_load 23 2 _ Try.underlying23 rfl szPt _ rfl rfl _ rfl _ _ Bb_3 rfl ?_)
    | (refine wl_load 23 2 _ Try.underlying23 rfl szPt _ rfl rfl _ rfl _ _ Bc_3 rfl ?_)
    | (go_at_call 8; (with_reducible refine (H1.out _).mono ?_); rintro e W4 ⟨⟨lb, lo, lc, rfl, Pl_0⟩, k4⟩; have Ba_4 := Ba_3.keep k4; have Bb_4 := Bb_3.keep k4; have Bc_4 := Bc_3.keep k4; have Hw4 := bq_trans Hw3 k4; clear k4 Ba_3 Bb_3 Bc_3 Hw3))
  go_upto_region 4 with (go_big_may; first
    | (refine wl_load 23 2 _ Try.underlying23 rfl szPt _ rfl rfl _ rfl _ _ Ba_4 rfl ?_)
    | (refine wl_load 23 2 _ Try.underlying23 rfl szPt _ rfl rfl _ rfl _ _ Bb_4 rfl ?_)
    | (refine wl_load 23 2 _ Try.underlying23 rfl szPt _ rfl rfl _ rfl _ _ Bc_4 rfl ?_)
    | (go_at_call 11; (with_reducible refine (H2.out _).mono ?_); rintro e W5 ⟨rfl, k5⟩; have Ba_5 := Ba_4.keep k5; have Bb_5 := Bb_4.keep k5; have Bc_5 := Bc_4.keep k5; have Ol_5 := Pl_0.keep k5; have Hw5 := bq_trans Hw4 k5; clear k5 Ba_4 Bb_4 Bc_4 Pl_0 Hw4))
  have RL0 := Ol_5.get j cx cy hj3
  refine Det.wp_region_det (S := fun w' => Below W5.heap.size W5 w') (by kernel_rfl) (by kernel_rfl) (bq_drew (bq_refl _)) ?_
  refine Det.det_take (v := ?_) (by rfl) ?_ ?_
  rotate_left
  · (intro w hSw; go_simp; try with_reducible rfl)
  try simp only [Act.put, List.setIfInBounds_toArray, List.set_cons_zero, List.set_cons_succ]
  refine Det.det_take (v := ?_) (by rfl) ?_ ?_
  rotate_left
  · (intro w hSw; go_simp; try with_reducible rfl)
  try simp only [Act.put, List.setIfInBounds_toArray, List.set_cons_zero, List.set_cons_succ]
  refine Det.det_take (v := ?_) (by rfl) ?_ ?_
  rotate_left
  · (intro w hSw; have eb : decide ((n : Int) < 1) = false := (by simp; omega); go_simp; try with_reducible rfl)
  try simp only [Act.put, List.setIfInBounds_toArray, List.set_cons_zero, List.set_cons_succ]
  refine Det.det_take (v := ?_) (by rfl) ?_ ?_
  rotate_left
  · (intro w hSw; go_simp; try with_reducible rfl)
  try simp only [Act.put, List.setIfInBounds_toArray, List.set_cons_zero, List.set_cons_succ]
  refine Det.det_take (v := ?_) (by rfl) ?_ ?_
  rotate_left
  · (intro w hSw; go_simp; try with_reducible rfl)
  try simp only [Act.put, List.setIfInBounds_toArray, List.set_cons_zero, List.set_cons_succ]
  refine Det.det_take (v := ?_) (by rfl) ?_ ?_
  rotate_left
  · (intro w hSw; go_simp; try with_reducible rfl)
  try simp only [Act.put, List.setIfInBounds_toArray, List.set_cons_zero, List.set_cons_succ]
  refine Det.det_take (v := ?_) (by rfl) ?_ ?_
  rotate_left
  · (intro w hSw; have eb : decide (32 < (n : Int)) = false := (by simp; omega); go_simp; try with_reducible rfl)
  try simp only [Act.put, List.setIfInBounds_toArray, List.set_cons_zero, List.set_cons_succ]
  refine Det.det_take (v := ?_) (by rfl) ?_ ?_
  rotate_left
  · (intro w hSw; go_simp; try with_reducible rfl)
  try simp only [Act.put, List.setIfInBounds_toArray, List.set_cons_zero, List.set_cons_succ]
  refine Det.det_take (v := ?_) (by rfl) ?_ ?_
  rotate_left
  · (intro w hSw; go_simp; try with_reducible rfl)
  try simp only [Act.put, List.setIfInBounds_toArray, List.set_cons_zero, List.set_cons_succ]
  refine Det.det_take (v := ?_) (by rfl) ?_ ?_
  rotate_left
  · (intro w hSw; go_simp; try with_reducible rfl)
  try simp only [Act.put, List.setIfInBounds_toArray, List.set_cons_zero, List.set_cons_succ]
  refine Det.det_take (v := ?_) (by rfl) ?_ ?_
  rotate_left
  · (intro w hSw; go_simp; try with_reducible rfl)
  try simp only [Act.put, List.setIfInBounds_toArray, List.set_cons_zero, List.set_cons_succ]
  refine Det.det_take (v := ?_) (by rfl) ?_ ?_
  rotate_left
  · (intro w hSw; go_simp; try with_reducible rfl)
  try simp only [Act.put, List.setIfInBounds_toArray, List.set_cons_zero, List.set_cons_succ]
  refine Det.det_take (v := ?_) (by rfl) ?_ ?_
  rotate_left
  · (intro w hSw; have ew : IntKind.i64.wrap ((n : Int) - 1) = (j : Int) := HJ.out; go_simp; try with_reducible rfl)
  try simp only [Act.put, List.setIfInBounds_toArray, List.set_cons_zero, List.set_cons_succ]
  refine Det.det_take (v := ?_) (by rfl) ?_ ?_
  rotate_left
  · (intro w hSw; go_simp; try with_reducible rfl)
  try simp only [Act.put, List.setIfInBounds_toArray, List.set_cons_zero, List.set_cons_succ]
  refine Det.det_mid 23 _ rfl (by rfl) _ _ rfl ([.int .i64 cx, .int .i64 cy]) _ (fun w hS => rangeAt_keep RL0 hS) Try.underlying23 rfl szPt ?_
  try simp only [Act.put, List.setIfInBounds_toArray, List.set_cons_zero, List.set_cons_succ]
  refine Det.det_load 23 2 _ Try.underlying23 rfl szPt _ rfl (by rfl) _ rfl _ _ (fun w hS => Bc_5.keep hS) rfl ?_
  try simp only [Act.put, List.setIfInBounds_toArray, List.set_cons_zero, List.set_cons_succ]
  refine Det.det_take (v := ?_) (by rfl) ?_ ?_
  rotate_left
  · (intro w hSw; have q := eqPt cx cy w; go_simp; try with_reducible rfl)
  try simp only [Act.put, List.setIfInBounds_toArray, List.set_cons_zero, List.set_cons_succ]
  refine Det.det_take (v := ?_) (by rfl) ?_ ?_
  rotate_left
  · (intro w hSw; go_simp; try with_reducible rfl)
  try simp only [Act.put, List.setIfInBounds_toArray, List.set_cons_zero, List.set_cons_succ]
  refine Det.det_nil (fun W6 k6 => ?_)
  have Ba_6 := Ba_5.keep k6
  have Bb_6 := Bb_5.keep k6
  have Bc_6 := Bc_5.keep k6
  have Ol_6 := Ol_5.keep k6
  have Hw6 := bq_trans Hw5 k6
  clear k6 Ba_5 Bb_5 Bc_5 Ol_5 Hw5
  clear H1 H2 RL0
  have HB0 := Lib.hid Hw6
  clear Hw6
  go_wp2_with fail
  go_loopw [45] (fun i wr => LRel W6 n i wr) (fun i _ => n - (intOf i).toNat)
  case atStart => exact ⟨0, by omega, rfl, bq_refl _⟩
  case round =>
    obtain ⟨k, hk, rfl, hbel⟩ := hrel
    by_cases hlt : k < n
    · obtain ⟨x, y, hxy, hev, x0, x1, y0, y1⟩ := HL.out k hlt
      have HEV : Hid (∀ W, Calls Try.prog 9 #[.agg #[.int .i64 x, .int .i64 y]] W fun e w' => e = .returned (.bool true) ∧ Below W.heap.size W w') := Lib.hid fun W => hev ▸ even16_any x y W
      have RL := rangeAt_keep (Ol_6.get k x y hxy) hbel
      have Ra := Ba_6.keep hbel
      have Rb := Bb_6.keep hbel
      have Rc := Bc_6.keep hbel
      have HB := Lib.hid hbel
      have i1 : (0 : Int) ≤ (k : Int) := by omega
      have i2 : (k : Int) < (n : Int) := by omega
      clear hbel hxy hev Ba_6 Bb_6 Bc_6
      go_upto_region 9 with (go_big_may; first
        | (refine wpList_load_mid rfl 23 _ rfl lb (lo + k * 2) rfl [.int .i64 x, .int .i64 y] _ RL Try.underlying23 rfl szPt ?_)
        | (refine wl_alloc 23 _ zePt rfl rfl ?_; intro W41 bp Bp_41 l41 k41; have gp : wr.heap.size ≤ bp := l41; have nap : ba ≠ bp := Nat.ne_of_lt (Nat.lt_of_lt_of_le Ra.lt l41); have nbp : bb ≠ bp := Nat.ne_of_lt (Nat.lt_of_lt_of_le Rb.lt l41); have ncp : bc ≠ bp := Nat.ne_of_lt (Nat.lt_of_lt_of_le Rc.lt l41); have Ba_41 := Ra.keep k41; have Bb_41 := Rb.keep k41; have Bc_41 := Rc.keep k41; have Hw41 := k41; clear l41 k41 Ra Rb Rc)
        | (refine wl_store 23 2 szPt _ _ rfl rfl _ rfl #[.int .i64 x, .int .i64 y] rfl _ _ Bp_41 rfl rfl (by kernel_rfl) ?_; intro W42 Bp_42 T42; have Ba_42 := T42.blk Ba_41 nap; have Bb_42 := T42.blk Bb_41 nbp; have Bc_42 := T42.blk Bc_41 ncp; have Hw42 := T42.below Hw41 gp; clear T42 Ba_41 Bb_41 Bc_41 Bp_41 Hw41))
      refine Det.wp_region_text (S := fun w' => Below W42.heap.size W42 w') (bq_refl _) ?_
      refine Det.det_load 23 2 _ Try.underlying23 rfl szPt _ rfl (by rfl) _ rfl _ _ (fun w hS => Bp_42.keep hS) rfl ?_
      try simp only [Act.put, List.setIfInBounds_toArray, List.set_cons_zero, List.set_cons_succ]
      refine Det.det_call (f := 9) (args := #[.agg #[.int .i64 x, .int .i64 y]]) (v := .bool true) (by rfl) ?_ (fun w hS => (HEV.out w).mono fun e w' ⟨h1, h2⟩ => ⟨h1, bq_trans hS h2⟩) ?_
      · (intro w hSw; go_simp)
      try simp only [Act.put, List.setIfInBounds_toArray, List.set_cons_zero, List.set_cons_succ]
      refine Det.det_take (v := ?_) (by rfl) ?_ ?_
      rotate_left
      · (intro w hSw; go_simp; try with_reducible rfl)
      try simp only [Act.put, List.setIfInBounds_toArray, List.set_cons_zero, List.set_cons_succ]
      refine Det.det_take (v := ?_) (by rfl) ?_ ?_
      rotate_left
      · (intro w hSw; go_simp; try with_reducible rfl)
      try simp only [Act.put, List.setIfInBounds_toArray, List.set_cons_zero, List.set_cons_succ]
      refine Det.det_take (v := ?_) (by rfl) ?_ ?_
      rotate_left
      · (intro w hSw; go_simp; try with_reducible rfl)
      try simp only [Act.put, List.setIfInBounds_toArray, List.set_cons_zero, List.set_cons_succ]
      refine Det.det_take (v := ?_) (by rfl) ?_ ?_
      rotate_left
      · (intro w hSw; have cc : w.cell? ⟨bp, 0, none⟩ = some (.int .i64 x) := (Bp_42.keep hSw).cell 0; go_simp; try with_reducible rfl)
      try simp only [Act.put, List.setIfInBounds_toArray, List.set_cons_zero, List.set_cons_succ]
      refine Det.det_take (v := ?_) (by rfl) ?_ ?_
      rotate_left
      · (intro w hSw; go_simp; try with_reducible rfl)
      try simp only [Act.put, List.setIfInBounds_toArray, List.set_cons_zero, List.set_cons_succ]
      refine Det.det_take (v := ?_) (by rfl) ?_ ?_
      rotate_left
      · (intro w hSw; have cc : w.cell? ⟨ba, 0, none⟩ = some (.int .i64 ax) := (Ba_42.keep hSw).cell 0; go_simp; try with_reducible rfl)
      try simp only [Act.put, List.setIfInBounds_toArray, List.set_cons_zero, List.set_cons_succ]
      refine Det.det_take (v := ?_) (by rfl) ?_ ?_
      rotate_left
      · (intro w hSw; go_simp; try with_reducible rfl)
      try simp only [Act.put, List.setIfInBounds_toArray, List.set_cons_zero, List.set_cons_succ]
      refine Det.det_take (v := ?_) (by rfl) ?_ ?_
      rotate_left
      · (intro w hSw; have cc : w.cell? ⟨bb, 0, none⟩ = some (.int .i64 bx) := (Bb_42.keep hSw).cell 0; go_simp; try with_reducible rfl)
      try simp only [Act.put, List.setIfInBounds_toArray, List.set_cons_zero, List.set_cons_succ]
      refine Det.det_take (v := ?_) (by rfl) ?_ ?_
      rotate_left
      · (intro w hSw; go_simp; try with_reducible rfl)
      try simp only [Act.put, List.setIfInBounds_toArray, List.set_cons_zero, List.set_cons_succ]
      refine Det.det_take (v := ?_) (by rfl) ?_ ?_
      rotate_left
      · (intro w hSw; have cc : w.cell? ⟨bc, 0, none⟩ = some (.int .i64 cx) := (Bc_42.keep hSw).cell 0; go_simp; try with_reducible rfl)
      try simp only [Act.put, List.setIfInBounds_toArray, List.set_cons_zero, List.set_cons_succ]
      refine Det.det_take (v := ?_) (by rfl) ?_ ?_
      rotate_left
      · (intro w hSw; go_simp; try with_reducible rfl)
      try simp only [Act.put, List.setIfInBounds_toArray, List.set_cons_zero, List.set_cons_succ]
      refine Det.det_take (v := ?_) (by rfl) ?_ ?_
      rotate_left
      · (intro w hSw; have eb : decide (x < mnx) = false := (by simp; omega); go_simp; try with_reducible rfl)
      try simp only [Act.put, List.setIfInBounds_toArray, List.set_cons_zero, List.set_cons_succ]
      refine Det.det_take (v := ?_) (by rfl) ?_ ?_
      rotate_left
      · (intro w hSw; go_simp; try with_reducible rfl)
      try simp only [Act.put, List.setIfInBounds_toArray, List.set_cons_zero, List.set_cons_succ]
      refine Det.det_take (v := ?_) (by rfl) ?_ ?_
      rotate_left
      · (intro w hSw; go_simp; try with_reducible rfl)
      try simp only [Act.put, List.setIfInBounds_toArray, List.set_cons_zero, List.set_cons_succ]
      refine Det.det_take (v := ?_) (by rfl) ?_ ?_
      rotate_left
      · (intro w hSw; go_simp; try with_reducible rfl)
      try simp only [Act.put, List.setIfInBounds_toArray, List.set_cons_zero, List.set_cons_succ]
      refine Det.det_take (v := ?_) (by rfl) ?_ ?_
      rotate_left
      · (intro w hSw; have cc : w.cell? ⟨bp, 0, none⟩ = some (.int .i64 x) := (Bp_42.keep hSw).cell 0; go_simp; try with_reducible rfl)
      try simp only [Act.put, List.setIfInBounds_toArray, List.set_cons_zero, List.set_cons_succ]
      refine Det.det_take (v := ?_) (by rfl) ?_ ?_
      rotate_left
      · (intro w hSw; go_simp; try with_reducible rfl)
      try simp only [Act.put, List.setIfInBounds_toArray, List.set_cons_zero, List.set_cons_succ]
      refine Det.det_take (v := ?_) (by rfl) ?_ ?_
      rotate_left
      · (intro w hSw; have cc : w.cell? ⟨ba, 0, none⟩ = some (.int .i64 ax) := (Ba_42.keep hSw).cell 0; go_simp; try with_reducible rfl)
      try simp only [Act.put, List.setIfInBounds_toArray, List.set_cons_zero, List.set_cons_succ]
      refine Det.det_take (v := ?_) (by rfl) ?_ ?_
      rotate_left
      · (intro w hSw; go_simp; try with_reducible rfl)
      try simp only [Act.put, List.setIfInBounds_toArray, List.set_cons_zero, List.set_cons_succ]
      refine Det.det_take (v := ?_) (by rfl) ?_ ?_
      rotate_left
      · (intro w hSw; have cc : w.cell? ⟨bb, 0, none⟩ = some (.int .i64 bx) := (Bb_42.keep hSw).cell 0; go_simp; try with_reducible rfl)
      try simp only [Act.put, List.setIfInBounds_toArray, List.set_cons_zero, List.set_cons_succ]
      refine Det.det_take (v := ?_) (by rfl) ?_ ?_
      rotate_left
      · (intro w hSw; go_simp; try with_reducible rfl)
      try simp only [Act.put, List.setIfInBounds_toArray, List.set_cons_zero, List.set_cons_succ]
      refine Det.det_take (v := ?_) (by rfl) ?_ ?_
      rotate_left
      · (intro w hSw; have cc : w.cell? ⟨bc, 0, none⟩ = some (.int .i64 cx) := (Bc_42.keep hSw).cell 0; go_simp; try with_reducible rfl)
      try simp only [Act.put, List.setIfInBounds_toArray, List.set_cons_zero, List.set_cons_succ]
      refine Det.det_take (v := ?_) (by rfl) ?_ ?_
      rotate_left
      · (intro w hSw; go_simp; try with_reducible rfl)
      try simp only [Act.put, List.setIfInBounds_toArray, List.set_cons_zero, List.set_cons_succ]
      refine Det.det_take (v := ?_) (by rfl) ?_ ?_
      rotate_left
      · (intro w hSw; have eb : decide (mxx < x) = false := (by simp; omega); go_simp; try with_reducible rfl)
      try simp only [Act.put, List.setIfInBounds_toArray, List.set_cons_zero, List.set_cons_succ]
      refine Det.det_take (v := ?_) (by rfl) ?_ ?_
      rotate_left
      · (intro w hSw; go_simp; try with_reducible rfl)
      try simp only [Act.put, List.setIfInBounds_toArray, List.set_cons_zero, List.set_cons_succ]
      refine Det.det_take (v := ?_) (by rfl) ?_ ?_
      rotate_left
      · (intro w hSw; go_simp; try with_reducible rfl)
      try simp only [Act.put, List.setIfInBounds_toArray, List.set_cons_zero, List.set_cons_succ]
      refine Det.det_take (v := ?_) (by rfl) ?_ ?_
      rotate_left
      · (intro w hSw; go_simp; try with_reducible rfl)
      try simp only [Act.put, List.setIfInBounds_toArray, List.set_cons_zero, List.set_cons_succ]
      refine Det.det_take (v := ?_) (by rfl) ?_ ?_
      rotate_left
      · (intro w hSw; have cc : w.cell? ⟨bp, 1, none⟩ = some (.int .i64 y) := (Bp_42.keep hSw).cell 1; go_simp; try with_reducible rfl)
      try simp only [Act.put, List.setIfInBounds_toArray, List.set_cons_zero, List.set_cons_succ]
      refine Det.det_take (v := ?_) (by rfl) ?_ ?_
      rotate_left
      · (intro w hSw; go_simp; try with_reducible rfl)
      try simp only [Act.put, List.setIfInBounds_toArray, List.set_cons_zero, List.set_cons_succ]
      refine Det.det_take (v := ?_) (by rfl) ?_ ?_
      rotate_left
      · (intro w hSw; have cc : w.cell? ⟨ba, 1, none⟩ = some (.int .i64 ay) := (Ba_42.keep hSw).cell 1; go_simp; try with_reducible rfl)
      try simp only [Act.put, List.setIfInBounds_toArray, List.set_cons_zero, List.set_cons_succ]
      refine Det.det_take (v := ?_) (by rfl) ?_ ?_
      rotate_left
      · (intro w hSw; go_simp; try with_reducible rfl)
      try simp only [Act.put, List.setIfInBounds_toArray, List.set_cons_zero, List.set_cons_succ]
      refine Det.det_take (v := ?_) (by rfl) ?_ ?_
      rotate_left
      · (intro w hSw; have cc : w.cell? ⟨bb, 1, none⟩ = some (.int .i64 by1) := (Bb_42.keep hSw).cell 1; go_simp; try with_reducible rfl)
      try simp only [Act.put, List.setIfInBounds_toArray, List.set_cons_zero, List.set_cons_succ]
      refine Det.det_take (v := ?_) (by rfl) ?_ ?_
      rotate_left
      · (intro w hSw; go_simp; try with_reducible rfl)
      try simp only [Act.put, List.setIfInBounds_toArray, List.set_cons_zero, List.set_cons_succ]
      refine Det.det_take (v := ?_) (by rfl) ?_ ?_
      rotate_left
      · (intro w hSw; have cc : w.cell? ⟨bc, 1, none⟩ = some (.int .i64 cy) := (Bc_42.keep hSw).cell 1; go_simp; try with_reducible rfl)
      try simp only [Act.put, List.setIfInBounds_toArray, List.set_cons_zero, List.set_cons_succ]
      refine Det.det_take (v := ?_) (by rfl) ?_ ?_
      rotate_left
      · (intro w hSw; go_simp; try with_reducible rfl)
      try simp only [Act.put, List.setIfInBounds_toArray, List.set_cons_zero, List.set_cons_succ]
      refine Det.det_take (v := ?_) (by rfl) ?_ ?_
      rotate_left
      · (intro w hSw; have eb : decide (y < mny) = false := (by simp; omega); go_simp; try with_reducible rfl)
      try simp only [Act.put, List.setIfInBounds_toArray, List.set_cons_zero, List.set_cons_succ]
      refine Det.det_take (v := ?_) (by rfl) ?_ ?_
      rotate_left
      · (intro w hSw; go_simp; try with_reducible rfl)
      try simp only [Act.put, List.setIfInBounds_toArray, List.set_cons_zero, List.set_cons_succ]
      refine Det.det_take (v := ?_) (by rfl) ?_ ?_
      rotate_left
      · (intro w hSw; go_simp; try with_reducible rfl)
      try simp only [Act.put, List.setIfInBounds_toArray, List.set_cons_zero, List.set_cons_succ]
      refine Det.det_take (v := ?_) (by rfl) ?_ ?_
      rotate_left
      · (intro w hSw; go_simp; try with_reducible rfl)
      try simp only [Act.put, List.setIfInBounds_toArray, List.set_cons_zero, List.set_cons_succ]
      refine Det.det_take (v := ?_) (by rfl) ?_ ?_
      rotate_left
      · (intro w hSw; have cc : w.cell? ⟨bp, 1, none⟩ = some (.int .i64 y) := (Bp_42.keep hSw).cell 1; go_simp; try with_reducible rfl)
      try simp only [Act.put, List.setIfInBounds_toArray, List.set_cons_zero, List.set_cons_succ]
      refine Det.det_take (v := ?_) (by rfl) ?_ ?_
      rotate_left
      · (intro w hSw; go_simp; try with_reducible rfl)
      try simp only [Act.put, List.setIfInBounds_toArray, List.set_cons_zero, List.set_cons_succ]
      refine Det.det_take (v := ?_) (by rfl) ?_ ?_
      rotate_left
      · (intro w hSw; have cc : w.cell? ⟨ba, 1, none⟩ = some (.int .i64 ay) := (Ba_42.keep hSw).cell 1; go_simp; try with_reducible rfl)
      try simp only [Act.put, List.setIfInBounds_toArray, List.set_cons_zero, List.set_cons_succ]
      refine Det.det_take (v := ?_) (by rfl) ?_ ?_
      rotate_left
      · (intro w hSw; go_simp; try with_reducible rfl)
      try simp only [Act.put, List.setIfInBounds_toArray, List.set_cons_zero, List.set_cons_succ]
      refine Det.det_take (v := ?_) (by rfl) ?_ ?_
      rotate_left
      · (intro w hSw; have cc : w.cell? ⟨bb, 1, none⟩ = some (.int .i64 by1) := (Bb_42.keep hSw).cell 1; go_simp; try with_reducible rfl)
      try simp only [Act.put, List.setIfInBounds_toArray, List.set_cons_zero, List.set_cons_succ]
      refine Det.det_take (v := ?_) (by rfl) ?_ ?_
      rotate_left
      · (intro w hSw; go_simp; try with_reducible rfl)
      try simp only [Act.put, List.setIfInBounds_toArray, List.set_cons_zero, List.set_cons_succ]
      refine Det.det_take (v := ?_) (by rfl) ?_ ?_
      rotate_left
      · (intro w hSw; have cc : w.cell? ⟨bc, 1, none⟩ = some (.int .i64 cy) := (Bc_42.keep hSw).cell 1; go_simp; try with_reducible rfl)
      try simp only [Act.put, List.setIfInBounds_toArray, List.set_cons_zero, List.set_cons_succ]
      refine Det.det_take (v := ?_) (by rfl) ?_ ?_
      rotate_left
      · (intro w hSw; go_simp; try with_reducible rfl)
      try simp only [Act.put, List.setIfInBounds_toArray, List.set_cons_zero, List.set_cons_succ]
      refine Det.det_take (v := ?_) (by rfl) ?_ ?_
      rotate_left
      · (intro w hSw; have eb : decide (mxy < y) = false := (by simp; omega); go_simp; try with_reducible rfl)
      try simp only [Act.put, List.setIfInBounds_toArray, List.set_cons_zero, List.set_cons_succ]
      refine Det.det_take (v := ?_) (by rfl) ?_ ?_
      rotate_left
      · (intro w hSw; go_simp; try with_reducible rfl)
      try simp only [Act.put, List.setIfInBounds_toArray, List.set_cons_zero, List.set_cons_succ]
      refine Det.det_nil (fun W43 k43 => ?_)
      have Ba_43 := Ba_42.keep k43
      have Bb_43 := Bb_42.keep k43
      have Bc_43 := Bc_42.keep k43
      have Bp_43 := Bp_42.keep k43
      have Hw43 := bq_trans Hw42 k43
      clear k43 Ba_42 Bb_42 Bc_42 Bp_42 Hw42
      go_wp2_with fail
      go_roundw
      case rel => exact ⟨k + 1, by omega, by go_num, bq_trans HB.out Hw43⟩
      case measure => simp [intOf]; omega
    · have hkn : k = n := by omega
      have HB := Lib.hid hbel
      clear hbel
      subst hkn
      go_wp2_with (first
        | (go_at_call 14; (with_reducible refine (HA.out _).mono ?_); rintro e W99 ⟨rfl, k99⟩))
      go_ret
      exact ⟨rfl, bq_trans (bq_trans HB0.out HB.out) k99⟩
theorem curveLies_walk (ax ay bx by1 cx cy : Int) (w : World) : Calls Try.prog 4 #[.agg #[.int .i64 ax, .int .i64 ay], .agg #[.int .i64 bx, .int .i64 by1], .agg #[.int .i64 cx, .int .i64 cy]] w fun e w' => e = .returned (.bool true) ∧ Below w.heap.size w w' := by
  have H2 := Lib.hid fun W => right16_any ax ay bx by1 cx cy W
  cases q : allE ax ay bx by1 cx cy with
  | false =>
    rw [q] at H2
    exact lies16_no ax ay bx by1 cx cy w (Lib.hid awake16_any) (Lib.hid fun W => flat16_nil q W) H2
  | true =>
    rw [q] at H2
    obtain ⟨a1, a2, b1, b2, c1, c2⟩ := allE_bd q
    have hp := pie_bd (bendV ax ay bx by1 cx cy)
    obtain ⟨n, hn⟩ : ∃ n, pie (bendV ax ay bx by1 cx cy) = n := ⟨_, rfl⟩
    rw [hn] at hp
    have hlast : (flatL ax ay bx by1 cx cy)[n - 1]? = some (cx, cy) := by
      rw [flatL_at ax ay bx by1 cx cy (n - 1) (by omega), hn, show ((n - 1 : Nat) : Int) + 1 = (n : Int) by omega, ptV_last (by omega) c1.2, ptV_last (by omega) c2.2]
    have ⟨mx1, mx2⟩ := min3 ax bx cx
    have ⟨mx3, mx4⟩ := max3 ax bx cx
    have ⟨my1, my2⟩ := min3 ay by1 cy
    have ⟨my3, my4⟩ := max3 ay by1 cy
    refine lies16_yes ax ay bx by1 cx cy (min (min ax bx) cx) (max (max ax bx) cx) (min (min ay by1) cy) (max (max ay by1) cy) n (n - 1) (flatL ax ay bx by1 cx cy) w hp.2 (by omega) hlast (Lib.hid awake16_any) (Lib.hid fun W => flat16_pts q n hn W) H2
      (fun w ts t => run_min3 w ts t _ _ _ _ _ _) (fun w ts t => run_max3 w ts t _ _ _ _ _ _) (fun w ts t => run_min3 w ts t _ _ _ _ _ _) (fun w ts t => run_max3 w ts t _ _ _ _ _ _) (Lib.hid fun k hk => ?_)
    have hx := ptV_in (a := ax) (b := bx) (c := cx) (i := (k : Int) + 1) (n := (n : Int)) (lo := min (min ax bx) cx) (hi := max (max ax bx) cx) ⟨mx1.1, mx3.1⟩ ⟨mx1.2.1, mx3.2.1⟩ ⟨mx1.2.2, mx3.2.2⟩ (by omega) (by omega) (by omega) (by omega)
    have hy := ptV_in (a := ay) (b := by1) (c := cy) (i := (k : Int) + 1) (n := (n : Int)) (lo := min (min ay by1) cy) (hi := max (max ay by1) cy) ⟨my1.1, my3.1⟩ ⟨my1.2.1, my3.2.1⟩ ⟨my1.2.2, my3.2.2⟩ (by omega) (by omega) (by omega) (by omega)
    refine ⟨_, _, flatL_at ax ay bx by1 cx cy k (by omega), ?_, ?_⟩
    · rw [hn]
      have bx1 := ptV_bd a1.1 b1.1 c1.1 (i := (k : Int) + 1) (n := (n : Int)) (by omega) (by omega)
      have by2 := ptV_bd a2.1 b2.1 c2.1 (i := (k : Int) + 1) (n := (n : Int)) (by omega) (by omega)
      exact evP_of (evB_of bx1.1 bx1.2 (ptV_even _ _ _ _ _)) (evB_of by2.1 by2.2 (ptV_even _ _ _ _ _))
    · rw [hn]
      exact ⟨hx.1, hx.2, hy.1, hy.2⟩
end Go.Proofs.Ytpeknlablcgchaa
