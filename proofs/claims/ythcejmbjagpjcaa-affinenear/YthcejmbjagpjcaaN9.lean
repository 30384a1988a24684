import Derived.Test.YthcejmbjagpjcaaN7
/- Layer 14: the walk of AffineNear. -/
namespace Go.Proofs.Ythcejmbjagpjcaa
open Go.RowKit
set_option linter.unusedVariables false
set_option linter.unusedSimpArgs false
set_option maxRecDepth 100000

set_option maxHeartbeats 1000000 in
theorem near14_far (a b X Y x y : Int) (w : World) (a0 : -2147483648 ≤ a) (a1 : a ≤ 2147483647) (b0 : -2147483648 ≤ b) (b1 : b ≤ 2147483647) (ea : a.tmod 1048576 = X) (eb : b.tmod 1048576 = Y) (HA : Hid (∀ W, Calls Try.prog 14 #[] W fun e w' => e = .returned (.bool true) ∧ Below W.heap.size W w')) (H1 : Hid (∀ W, Calls Try.prog 28 #[.agg #[.int .i64 x, .int .i64 y], .int .i64 16777216] W fun e w' => e = .returned (.bool true) ∧ Below W.heap.size W w')) (H2 : Hid (∀ W, Calls Try.prog 19 #[.agg #[.int .i64 65536, .int .i64 0, .int .i64 0, .int .i64 65536, .int .i64 X, .int .i64 Y], .agg #[.int .i64 x, .int .i64 y]] W fun e w' => e = .returned (.tuple #[.agg #[.int .i64 0, .int .i64 0], .bool false]) ∧ Below W.heap.size W w')) :
    Calls Try.prog 8 #[.int .i32 a, .int .i32 b, .agg #[.int .i64 x, .int .i64 y]] w fun e w' => e = .returned (.bool true) ∧ Below w.heap.size w w' := by
  go_enter Try.func8, Try.ntmps8
  go_upto_region 1 with (go_big_may; first
    | (refine wl_box 37 _ _ rfl rfl (show _ = Value.agg #[.int .i64 x, .int .i64 y] from rfl) ?_; intro W1 bp Bp_1 l1 k1; have gp : w.heap.size ≤ bp := l1; have Hw1 := k1; clear l1 k1))
  go_upto_region 2 with (go_big_may; first
    | (refine wl_alloc 23 _ zeMt rfl rfl ?_; intro W2 bm Bm_2 l2 k2; have gm : w.heap.size ≤ bm := Nat.le_trans Hw1.size l2; have npm : bp ≠ bm := Nat.ne_of_lt (Nat.lt_of_lt_of_le Bp_1.lt l2); have Bp_2 := Bp_1.keep k2; have Hw2 := bq_trans Hw1 k2; clear l2 k2 Bp_1 Hw1)
    | (refine wl_store 23 6 szMt _ _ rfl rfl _ rfl #[.int .i64 65536, .int .i64 0, .int .i64 0, .int .i64 65536, .int .i64 X, .int .i64 Y] rfl _ _ Bm_2 rfl rfl (by kernel_rfl) ?_; intro W3 Bm_3 T3; have Bp_3 := T3.blk Bp_2 npm; have Hw3 := T3.below Hw2 gm; clear T3 Bp_2 Bm_2 Hw2))
  go_upto_region 3 with (go_big_may; first
    | (refine wl_load 37 2 _ Try.underlying37 rfl szPt _ rfl rfl _ rfl _ _ Bp_3 rfl ?_)
    | (go_at_call 28; (with_reducible refine (H1.out _).mono ?_); rintro e W4 ⟨rfl, k4⟩; have Bp_4 := Bp_3.keep k4; have Bm_4 := Bm_3.keep k4; have Hw4 := bq_trans Hw3 k4; clear k4 Bp_3 Bm_3 Hw3))
  go_upto_region 4 with (go_big_may; first
    | (refine wl_load 23 6 _ Try.underlying23 rfl szMt _ rfl rfl _ rfl _ _ Bm_4 rfl ?_)
    | (refine wl_load 37 2 _ Try.underlying37 rfl szPt _ rfl rfl _ rfl _ _ Bp_4 rfl ?_)
    | (go_at_call 19; (with_reducible refine (H2.out _).mono ?_); rintro e W5 ⟨rfl, k5⟩; have Bp_5 := Bp_4.keep k5; have Bm_5 := Bm_4.keep k5; have Hw5 := bq_trans Hw4 k5; clear k5 Bp_4 Bm_4 Hw4)
    | (refine wl_alloc 37 _ zePt rfl rfl ?_; intro W6 ba Ba_6 l6 k6; have ga : w.heap.size ≤ ba := Nat.le_trans Hw5.size l6; have npa : bp ≠ ba := Nat.ne_of_lt (Nat.lt_of_lt_of_le Bp_5.lt l6); have nma : bm ≠ ba := Nat.ne_of_lt (Nat.lt_of_lt_of_le Bm_5.lt l6); have Bp_6 := Bp_5.keep k6; have Bm_6 := Bm_5.keep k6; have Hw6 := bq_trans Hw5 k6; clear l6 k6 Bp_5 Bm_5 Hw5)
    | (refine wl_store 37 2 szPt _ _ rfl rfl _ rfl #[.int .i64 0, .int .i64 0] rfl _ _ Ba_6 rfl rfl (by kernel_rfl) ?_; intro W7 Ba_7 T7; have Bp_7 := T7.blk Bp_6 npa; have Bm_7 := T7.blk Bm_6 nma; have Hw7 := T7.below Hw6 ga; clear T7 Bp_6 Bm_6 Ba_6 Hw6))
  go_wp2_with (first
    | (go_at_call 14; (with_reducible refine (HA.out _).mono ?_); rintro e W8 ⟨rfl, k8⟩; have Bp_8 := Bp_7.keep k8; have Bm_8 := Bm_7.keep k8; have Ba_8 := Ba_7.keep k8; have Hw8 := bq_trans Hw7 k8; clear k8 Bp_7 Bm_7 Ba_7 Hw7))
  go_ret
  exact ⟨rfl, Hw8⟩
set_option maxHeartbeats 1000000 in
theorem near14_near (a b X Y x y r s g h u v : Int) (w : World) (a0 : -2147483648 ≤ a) (a1 : a ≤ 2147483647) (b0 : -2147483648 ≤ b) (b1 : b ≤ 2147483647) (ea : a.tmod 1048576 = X) (eb : b.tmod 1048576 = Y) (HA : Hid (∀ W, Calls Try.prog 14 #[] W fun e w' => e = .returned (.bool true) ∧ Below W.heap.size W w')) (H1 : Hid (∀ W, Calls Try.prog 28 #[.agg #[.int .i64 x, .int .i64 y], .int .i64 16777216] W fun e w' => e = .returned (.bool false) ∧ Below W.heap.size W w')) (H2 : Hid (∀ W, Calls Try.prog 19 #[.agg #[.int .i64 65536, .int .i64 0, .int .i64 0, .int .i64 65536, .int .i64 X, .int .i64 Y], .agg #[.int .i64 x, .int .i64 y]] W fun e w' => e = .returned (.tuple #[.agg #[.int .i64 r, .int .i64 s], .bool true]) ∧ Below W.heap.size W w'))
    (H3 : Hid (∀ W, Calls Try.prog 15 #[.agg #[.int .i64 65536, .int .i64 0, .int .i64 0, .int .i64 65536, .int .i64 X, .int .i64 Y], .agg #[.int .i64 r, .int .i64 s]] W fun e w' => e = .returned (.tuple #[.agg #[.int .i64 g, .int .i64 h], .int .i64 0]) ∧ Below W.heap.size W w'))
    (HU : Hid (IntKind.i64.wrap (x * 20480) = x * 20480 ∧ IntKind.i64.wrap (x * 20480 - g) = u ∧ IntKind.i64.wrap (y * 20480) = y * 20480 ∧ IntKind.i64.wrap (y * 20480 - h) = v)) (u0 : 0 ≤ u) (u1 : u < 65536) (v0 : 0 ≤ v) (v1 : v < 65536) :
    Calls Try.prog 8 #[.int .i32 a, .int .i32 b, .agg #[.int .i64 x, .int .i64 y]] w fun e w' => e = .returned (.bool true) ∧ Below w.heap.size w w' := by
  go_enter Try.func8, Try.ntmps8
  go_upto_region 1 with (go_big_may; first
    | (refine wl_box 37 _ _ rfl rfl (show _ = Value.agg #[.int .i64 x, .int .i64 y] from rfl) ?_; intro W1 bp Bp_1 l1 k1; have gp : w.heap.size ≤ bp := l1; have Hw1 := k1; clear l1 k1))
  go_upto_region 2 with (go_big_may; first
    | (refine wl_alloc 23 _ zeMt rfl rfl ?_; intro W2 bm Bm_2 l2 k2; have gm : w.heap.size ≤ bm := Nat.le_trans Hw1.size l2; have npm : bp ≠ bm := Nat.ne_of_lt (Nat.lt_of_lt_of_le Bp_1.lt l2); have Bp_2 := Bp_1.keep k2; have Hw2 := bq_trans Hw1 k2; clear l2 k2 Bp_1 Hw1)
    | (refine wl_store 23 6 szMt _ _ rfl rfl _ rfl #[.int .i64 65536, .int .i64 0, .int .i64 0, .int .i64 65536, .int .i64 X, .int .i64 Y] rfl _ _ Bm_2 rfl rfl (by kernel_rfl) ?_; intro W3 Bm_3 T3; have Bp_3 := T3.blk Bp_2 npm; have Hw3 := T3.below Hw2 gm; clear T3 Bp_2 Bm_2 Hw2))
  go_upto_region 5 with (go_big_may; first
    | (refine wl_load 37 2 _ Try.underlying37 rfl szPt _ rfl rfl _ rfl _ _ Bp_3 rfl ?_)
    | (go_at_call 28; (with_reducible refine (H1.out _).mono ?_); rintro e W4 ⟨rfl, k4⟩; have Bp_4 := Bp_3.keep k4; have Bm_4 := Bm_3.keep k4; have Hw4 := bq_trans Hw3 k4; clear k4 Bp_3 Bm_3 Hw3))
  go_upto_region 6 with (go_big_may; first
    | (refine wl_load 23 6 _ Try.underlying23 rfl szMt _ rfl rfl _ rfl _ _ Bm_4 rfl ?_)
    | (refine wl_load 37 2 _ Try.underlying37 rfl szPt _ rfl rfl _ rfl _ _ Bp_4 rfl ?_)
    | (go_at_call 19; (with_reducible refine (H2.out _).mono ?_); rintro e W5 ⟨rfl, k5⟩; have Bp_5 := Bp_4.keep k5; have Bm_5 := Bm_4.keep k5; have Hw5 := bq_trans Hw4 k5; clear k5 Bp_4 Bm_4 Hw4)
    | (refine wl_alloc 37 _ zePt rfl rfl ?_; intro W6 ba Ba_6 l6 k6; have ga : w.heap.size ≤ ba := Nat.le_trans Hw5.size l6; have npa : bp ≠ ba := Nat.ne_of_lt (Nat.lt_of_lt_of_le Bp_5.lt l6); have nma : bm ≠ ba := Nat.ne_of_lt (Nat.lt_of_lt_of_le Bm_5.lt l6); have Bp_6 := Bp_5.keep k6; have Bm_6 := Bm_5.keep k6; have Hw6 := bq_trans Hw5 k6; clear l6 k6 Bp_5 Bm_5 Hw5)
    | (refine wl_store 37 2 szPt _ _ rfl rfl _ rfl #[.int .i64 r, .int .i64 s] rfl _ _ Ba_6 rfl rfl (by kernel_rfl) ?_; intro W7 Ba_7 T7; have Bp_7 := T7.blk Bp_6 npa; have Bm_7 := T7.blk Bm_6 nma; have Hw7 := T7.below Hw6 ga; clear T7 Bp_6 Bm_6 Ba_6 Hw6))
  go_upto_region 7 with (go_big_may; first
    | (refine wl_load 23 6 _ Try.underlying23 rfl szMt _ rfl rfl _ rfl _ _ Bm_7 rfl ?_)
    | (refine wl_load 37 2 _ Try.underlying37 rfl szPt _ rfl rfl _ rfl _ _ Ba_7 rfl ?_)
    | (go_at_call 15; (with_reducible refine (H3.out _).mono ?_); rintro e W8 ⟨rfl, k8⟩; have Bp_8 := Bp_7.keep k8; have Bm_8 := Bm_7.keep k8; have Ba_8 := Ba_7.keep k8; have Hw8 := bq_trans Hw7 k8; clear k8 Bp_7 Bm_7 Ba_7 Hw7)
    | (refine wl_alloc 37 _ zePt rfl rfl ?_; intro W9 bc Bc_9 l9 k9; have gc : w.heap.size ≤ bc := Nat.le_trans Hw8.size l9; have npc : bp ≠ bc := Nat.ne_of_lt (Nat.lt_of_lt_of_le Bp_8.lt l9); have nmc : bm ≠ bc := Nat.ne_of_lt (Nat.lt_of_lt_of_le Bm_8.lt l9); have nac : ba ≠ bc := Nat.ne_of_lt (Nat.lt_of_lt_of_le Ba_8.lt l9); have Bp_9 := Bp_8.keep k9; have Bm_9 := Bm_8.keep k9; have Ba_9 := Ba_8.keep k9; have Hw9 := bq_trans Hw8 k9; clear l9 k9 Bp_8 Bm_8 Ba_8 Hw8)
    | (refine wl_store 37 2 szPt _ _ rfl rfl _ rfl #[.int .i64 g, .int .i64 h] rfl _ _ Bc_9 rfl rfl (by kernel_rfl) ?_; intro W10 Bc_10 T10; have Bp_10 := T10.blk Bp_9 npc; have Bm_10 := T10.blk Bm_9 nmc; have Ba_10 := T10.blk Ba_9 nac; have Hw10 := T10.below Hw9 gc; clear T10 Bp_9 Bm_9 Ba_9 Bc_9 Hw9))
  refine Det.wp_region_det (S := fun w' => Below W10.heap.size W10 w') (by kernel_rfl) (by kernel_rfl) (bq_drew (bq_refl _)) ?_
  refine Det.det_take (v := ?_) (by rfl) ?_ ?_
  rotate_left
  · (intro w hSw; go_simp; try with_reducible rfl)
  try simp only [Act.put, List.setIfInBounds_toArray, List.set_cons_zero, List.set_cons_succ]
  refine Det.det_take (v := ?_) (by rfl) ?_ ?_
  rotate_left
  · (intro w hSw; have cc : w.cell? ⟨bp, 0, none⟩ = some (.int .i64 x) := (Bp_10.keep hSw).cell 0; go_simp; try with_reducible rfl)
  try simp only [Act.put, List.setIfInBounds_toArray, List.set_cons_zero, List.set_cons_succ]
  refine Det.det_take (v := ?_) (by rfl) ?_ ?_
  rotate_left
  · (intro w hSw; obtain ⟨e1, e2, e3, e4⟩ := HU.out; go_simp; try with_reducible rfl)
  try simp only [Act.put, List.setIfInBounds_toArray, List.set_cons_zero, List.set_cons_succ]
  refine Det.det_take (v := ?_) (by rfl) ?_ ?_
  rotate_left
  · (intro w hSw; go_simp; try with_reducible rfl)
  try simp only [Act.put, List.setIfInBounds_toArray, List.set_cons_zero, List.set_cons_succ]
  refine Det.det_take (v := ?_) (by rfl) ?_ ?_
  rotate_left
  · (intro w hSw; have cc : w.cell? ⟨bc, 0, none⟩ = some (.int .i64 g) := (Bc_10.keep hSw).cell 0; go_simp; try with_reducible rfl)
  try simp only [Act.put, List.setIfInBounds_toArray, List.set_cons_zero, List.set_cons_succ]
  refine Det.det_take (v := ?_) (by rfl) ?_ ?_
  rotate_left
  · (intro w hSw; obtain ⟨e1, e2, e3, e4⟩ := HU.out; go_simp; try with_reducible rfl)
  try simp only [Act.put, List.setIfInBounds_toArray, List.set_cons_zero, List.set_cons_succ]
  refine Det.det_take (v := ?_) (by rfl) ?_ ?_
  rotate_left
  · (intro w hSw; go_simp; try with_reducible rfl)
  try simp only [Act.put, List.setIfInBounds_toArray, List.set_cons_zero, List.set_cons_succ]
  refine Det.det_take (v := ?_) (by rfl) ?_ ?_
  rotate_left
  · (intro w hSw; have cc : w.cell? ⟨bp, 1, none⟩ = some (.int .i64 y) := (Bp_10.keep hSw).cell 1; go_simp; try with_reducible rfl)
  try simp only [Act.put, List.setIfInBounds_toArray, List.set_cons_zero, List.set_cons_succ]
  refine Det.det_take (v := ?_) (by rfl) ?_ ?_
  rotate_left
  · (intro w hSw; obtain ⟨e1, e2, e3, e4⟩ := HU.out; go_simp; try with_reducible rfl)
  try simp only [Act.put, List.setIfInBounds_toArray, List.set_cons_zero, List.set_cons_succ]
  refine Det.det_take (v := ?_) (by rfl) ?_ ?_
  rotate_left
  · (intro w hSw; go_simp; try with_reducible rfl)
  try simp only [Act.put, List.setIfInBounds_toArray, List.set_cons_zero, List.set_cons_succ]
  refine Det.det_take (v := ?_) (by rfl) ?_ ?_
  rotate_left
  · (intro w hSw; have cc : w.cell? ⟨bc, 1, none⟩ = some (.int .i64 h) := (Bc_10.keep hSw).cell 1; go_simp; try with_reducible rfl)
  try simp only [Act.put, List.setIfInBounds_toArray, List.set_cons_zero, List.set_cons_succ]
  refine Det.det_take (v := ?_) (by rfl) ?_ ?_
  rotate_left
  · (intro w hSw; obtain ⟨e1, e2, e3, e4⟩ := HU.out; go_simp; try with_reducible rfl)
  try simp only [Act.put, List.setIfInBounds_toArray, List.set_cons_zero, List.set_cons_succ]
  refine Det.det_take (v := ?_) (by rfl) ?_ ?_
  rotate_left
  · (intro w hSw; go_simp; try with_reducible rfl)
  try simp only [Act.put, List.setIfInBounds_toArray, List.set_cons_zero, List.set_cons_succ]
  refine Det.det_take (v := ?_) (by rfl) ?_ ?_
  rotate_left
  · (intro w hSw; go_simp; try with_reducible rfl)
  try simp only [Act.put, List.setIfInBounds_toArray, List.set_cons_zero, List.set_cons_succ]
  refine Det.det_nil (fun W11 k11 => ?_)
  have Bp_11 := Bp_10.keep k11
  have Bm_11 := Bm_10.keep k11
  have Ba_11 := Ba_10.keep k11
  have Bc_11 := Bc_10.keep k11
  have Hw11 := bq_trans Hw10 k11
  clear k11 Bp_10 Bm_10 Ba_10 Bc_10 Hw10
  go_wp2_with (first
    | (go_at_call 14; (with_reducible refine (HA.out _).mono ?_); rintro e W12 ⟨rfl, k12⟩; have Bp_12 := Bp_11.keep k12; have Bm_12 := Bm_11.keep k12; have Ba_12 := Ba_11.keep k12; have Bc_12 := Bc_11.keep k12; have Hw12 := bq_trans Hw11 k12; clear k12 Bp_11 Bm_11 Ba_11 Bc_11 Hw11))
  go_ret
  exact ⟨rfl, Hw12⟩
theorem affineNear_walk (a b x y : Int) (w : World) (a0 : -2147483648 ≤ a) (a1 : a ≤ 2147483647) (b0 : -2147483648 ≤ b) (b1 : b ≤ 2147483647) (hx : I64 x) (hy : I64 y) : Calls Try.prog 8 #[.int .i32 a, .int .i32 b, .agg #[.int .i64 x, .int .i64 y]] w fun e w' => e = .returned (.bool true) ∧ Below w.heap.size w w' := by
  obtain ⟨X, eX⟩ : ∃ X, a.tmod 1048576 = X := ⟨_, rfl⟩
  obtain ⟨Y, eY⟩ : ∃ Y, b.tmod 1048576 = Y := ⟨_, rfl⟩
  have bX : -1048576 ≤ X ∧ X ≤ 1048576 := by
    have h1 := Int.tmod_lt_of_pos a (show (0 : Int) < 1048576 by decide)
    have h2 := Int.lt_tmod_of_pos a (show (0 : Int) < 1048576 by decide)
    omega
  have bY : -1048576 ≤ Y ∧ Y ≤ 1048576 := by
    have h1 := Int.tmod_lt_of_pos b (show (0 : Int) < 1048576 by decide)
    have h2 := Int.lt_tmod_of_pos b (show (0 : Int) < 1048576 by decide)
    omega
  have hm : I64M 65536 0 0 65536 X Y := ⟨⟨by decide, by decide⟩, ⟨by decide, by decide⟩, ⟨by decide, by decide⟩, ⟨by decide, by decide⟩, ⟨by omega, by omega⟩, ⟨by omega, by omega⟩⟩
  have hok : matOk 65536 0 0 65536 X Y = true := by simp [matOk, nr]; omega
  have H1 := Lib.hid fun W => rfar14_any x y 16777216 W (by omega) (by omega)
  have H2 := Lib.hid fun W => back14_any 65536 0 0 65536 X Y x y W hm
  cases q : ptOk 16777216 x y with
  | false =>
    rw [q] at H1
    rw [bckV_no (by rw [q, Bool.and_false])] at H2
    exact near14_far a b X Y x y w a0 a1 b0 b1 eX eY (Lib.hid awake14_any) H1 H2
  | true =>
    rw [q] at H1
    rw [bckV_yes hok q (by decide)] at H2
    obtain ⟨bx, by1⟩ := ptOk_bd q
    have e1 : (65536 * uT x X - 0 * uT y Y).fdiv (det14 65536 0 0 65536) = uT x X / 65536 := by
      rw [fdiv_pos _ _ (by decide), show det14 65536 0 0 65536 = 4294967296 from rfl]
      omega
    have e2 : (65536 * uT y Y - 0 * uT x X).fdiv (det14 65536 0 0 65536) = uT y Y / 65536 := by
      rw [fdiv_pos _ _ (by decide), show det14 65536 0 0 65536 = 4294967296 from rfl]
      omega
    rw [e1, e2] at H2
    have hU : uT x X = x * 20480 - X * 65536 := rfl
    have hV : uT y Y = y * 20480 - Y * 65536 := rfl
    have q2 : ptOk 1073741824 (uT x X / 65536) (uT y Y / 65536) = true := by simp [ptOk, nr]; omega
    have H3 := Lib.hid fun W => apply14_any 65536 0 0 65536 X Y (uT x X / 65536) (uT y Y / 65536) W hm
    rw [aplV_yes hok q2] at H3
    exact near14_near a b X Y x y _ _ _ _ (x * 20480 - (65536 * (uT x X / 65536) + 0 * (uT y Y / 65536) + X * 65536)) (y * 20480 - (0 * (uT x X / 65536) + 65536 * (uT y Y / 65536) + Y * 65536)) w a0 a1 b0 b1 eX eY (Lib.hid awake14_any) H1 H2 H3
      (Lib.hid ⟨wI _ (by omega), wI _ (by omega), wI _ (by omega), wI _ (by omega)⟩) (by omega) (by omega) (by omega) (by omega)
end Go.Proofs.Ythcejmbjagpjcaa
