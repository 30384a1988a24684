import Derived.Test.YthcejmbjagpjcaaN7
/- Layer 14: the walks of AffinePoints, AffineBack, AffineColors and AffineComposes. -/
namespace Go.Proofs.Ythcejmbjagpjcaa
open Go.RowKit
set_option linter.unusedVariables false
set_option linter.unusedSimpArgs false
set_option maxRecDepth 100000

set_option maxHeartbeats 2000000 in
theorem points14_core (A B C D X Y x y r s u v ev f : Int) (w : World) (HA : Hid (∀ W, Calls Try.prog 14 #[] W fun e w' => e = .returned (.bool true) ∧ Below W.heap.size W w'))
    (H1 : Hid (∀ W, Calls Try.prog 15 #[.agg #[.int .i64 A, .int .i64 B, .int .i64 C, .int .i64 D, .int .i64 X, .int .i64 Y], .agg #[.int .i64 x, .int .i64 y]] W fun e w' => e = .returned (.tuple #[.agg #[.int .i64 r, .int .i64 s], .int .i64 ev]) ∧ Below W.heap.size W w')) (H2 : Hid (∀ W, Calls Try.prog 16 #[.agg #[.int .i64 A, .int .i64 B, .int .i64 C, .int .i64 D, .int .i64 X, .int .i64 Y], .agg #[.int .i64 x, .int .i64 y]] W fun e w' => e = .returned (.tuple #[.agg #[.int .i64 u, .int .i64 v], .int .i64 f]) ∧ Below W.heap.size W w')) (H3 : Hid (∀ W, Calls Try.prog 17 #[.agg #[.int .i64 A, .int .i64 B, .int .i64 C, .int .i64 D, .int .i64 X, .int .i64 Y], .agg #[.int .i64 x, .int .i64 y]] W fun e w' => e = .returned (.tuple #[.agg #[.int .i64 r, .int .i64 s], .int .i64 ev]) ∧ Below W.heap.size W w')) (H4 : Hid (∀ W, Calls Try.prog 18 #[.agg #[.int .i64 A, .int .i64 B, .int .i64 C, .int .i64 D, .int .i64 X, .int .i64 Y], .agg #[.int .i64 x, .int .i64 y]] W fun e w' => e = .returned (.tuple #[.agg #[.int .i64 u, .int .i64 v], .int .i64 f]) ∧ Below W.heap.size W w')) :
    Calls Try.prog 4 #[.agg #[.int .i64 A, .int .i64 B, .int .i64 C, .int .i64 D, .int .i64 X, .int .i64 Y], .agg #[.int .i64 x, .int .i64 y]] w fun e w' => e = .returned (.bool true) ∧ Below w.heap.size w w' := by
  go_enter Try.func4, Try.ntmps4
  go_upto_region 1 with (go_big_may; first
    | (refine wl_box 23 _ _ rfl rfl (show _ = Value.agg #[.int .i64 A, .int .i64 B, .int .i64 C, .int .i64 D, .int .i64 X, .int .i64 Y] from rfl) ?_; intro W1 bm Bm_1 l1 k1; have gm : w.heap.size ≤ bm := l1; have Hw1 := k1; clear l1 k1)
    | (refine wl_box 37 _ _ rfl rfl (show _ = Value.agg #[.int .i64 x, .int .i64 y] from rfl) ?_; intro W2 bp Bp_2 l2 k2; have gp : w.heap.size ≤ bp := Nat.le_trans Hw1.size l2; have nmp : bm ≠ bp := Nat.ne_of_lt (Nat.lt_of_lt_of_le Bm_1.lt l2); have Bm_2 := Bm_1.keep k2; have Hw2 := bq_trans Hw1 k2; clear l2 k2 Bm_1 Hw1))
  go_upto_region 2 with (go_big_may; first
    | (refine wl_load 23 6 _ Try.underlying23 rfl szMt _ rfl rfl _ rfl _ _ Bm_2 rfl ?_)
    | (refine wl_load 37 2 _ Try.underlying37 rfl szPt _ rfl rfl _ rfl _ _ Bp_2 rfl ?_)
    | (go_at_call 15; (with_reducible refine (H1.out _).mono ?_); rintro e W3 ⟨rfl, k3⟩; have Bm_3 := Bm_2.keep k3; have Bp_3 := Bp_2.keep k3; have Hw3 := bq_trans Hw2 k3; clear k3 Bm_2 Bp_2 Hw2)
    | (refine wl_alloc 37 _ zePt rfl rfl ?_; intro W4 ba Ba_4 l4 k4; have ga : w.heap.size ≤ ba := Nat.le_trans Hw3.size l4; have nma : bm ≠ ba := Nat.ne_of_lt (Nat.lt_of_lt_of_le Bm_3.lt l4); have npa : bp ≠ ba := Nat.ne_of_lt (Nat.lt_of_lt_of_le Bp_3.lt l4); have Bm_4 := Bm_3.keep k4; have Bp_4 := Bp_3.keep k4; have Hw4 := bq_trans Hw3 k4; clear l4 k4 Bm_3 Bp_3 Hw3)
    | (refine wl_store 37 2 szPt _ _ rfl rfl _ rfl #[.int .i64 r, .int .i64 s] rfl _ _ Ba_4 rfl rfl (by kernel_rfl) ?_; intro W5 Ba_5 T5; have Bm_5 := T5.blk Bm_4 nma; have Bp_5 := T5.blk Bp_4 npa; have Hw5 := T5.below Hw4 ga; clear T5 Bm_4 Bp_4 Ba_4 Hw4))
  go_upto_region 3 with (go_big_may; first
    | (refine wl_load 23 6 _ Try.underlying23 rfl szMt _ rfl rfl _ rfl _ _ Bm_5 rfl ?_)
    | (refine wl_load 37 2 _ Try.underlying37 rfl szPt _ rfl rfl _ rfl _ _ Bp_5 rfl ?_)
    | (go_at_call 16; (with_reducible refine (H2.out _).mono ?_); rintro e W6 ⟨rfl, k6⟩; have Bm_6 := Bm_5.keep k6; have Bp_6 := Bp_5.keep k6; have Ba_6 := Ba_5.keep k6; have Hw6 := bq_trans Hw5 k6; clear k6 Bm_5 Bp_5 Ba_5 Hw5)
    | (refine wl_alloc 37 _ zePt rfl rfl ?_; intro W7 bb Bb_7 l7 k7; have gb : w.heap.size ≤ bb := Nat.le_trans Hw6.size l7; have nmb : bm ≠ bb := Nat.ne_of_lt (Nat.lt_of_lt_of_le Bm_6.lt l7); have npb : bp ≠ bb := Nat.ne_of_lt (Nat.lt_of_lt_of_le Bp_6.lt l7); have nab : ba ≠ bb := Nat.ne_of_lt (Nat.lt_of_lt_of_le Ba_6.lt l7); have Bm_7 := Bm_6.keep k7; have Bp_7 := Bp_6.keep k7; have Ba_7 := Ba_6.keep k7; have Hw7 := bq_trans Hw6 k7; clear l7 k7 Bm_6 Bp_6 Ba_6 Hw6)
    | (refine wl_store 37 2 szPt _ _ rfl rfl _ rfl #[.int .i64 u, .int .i64 v] rfl _ _ Bb_7 rfl rfl (by kernel_rfl) ?_; intro W8 Bb_8 T8; have Bm_8 := T8.blk Bm_7 nmb; have Bp_8 := T8.blk Bp_7 npb; have Ba_8 := T8.blk Ba_7 nab; have Hw8 := T8.below Hw7 gb; clear T8 Bm_7 Bp_7 Ba_7 Bb_7 Hw7))
  go_upto_region 4 with (go_big_may; first
    | (refine wl_load 23 6 _ Try.underlying23 rfl szMt _ rfl rfl _ rfl _ _ Bm_8 rfl ?_)
    | (refine wl_load 37 2 _ Try.underlying37 rfl szPt _ rfl rfl _ rfl _ _ Bp_8 rfl ?_)
    | (go_at_call 17; (with_reducible refine (H3.out _).mono ?_); rintro e W9 ⟨rfl, k9⟩; have Bm_9 := Bm_8.keep k9; have Bp_9 := Bp_8.keep k9; have Ba_9 := Ba_8.keep k9; have Bb_9 := Bb_8.keep k9; have Hw9 := bq_trans Hw8 k9; clear k9 Bm_8 Bp_8 Ba_8 Bb_8 Hw8)
    | (refine wl_alloc 37 _ zePt rfl rfl ?_; intro W10 bc Bc_10 l10 k10; have gc : w.heap.size ≤ bc := Nat.le_trans Hw9.size l10; have nmc : bm ≠ bc := Nat.ne_of_lt (Nat.lt_of_lt_of_le Bm_9.lt l10); have npc : bp ≠ bc := Nat.ne_of_lt (Nat.lt_of_lt_of_le Bp_9.lt l10); have nac : ba ≠ bc := Nat.ne_of_lt (Nat.lt_of_lt_of_le Ba_9.lt l10); have nbc : bb ≠ bc := Nat.ne_of_lt (Nat.lt_of_lt_of_le Bb_9.lt l10); have Bm_10 := Bm_9.keep k10; have Bp_10 := Bp_9.keep k10; have Ba_10 := Ba_9.keep k10; have Bb_10 := Bb_9.keep k10; have Hw10 := bq_trans Hw9 k10; clear l10 k10 Bm_9 Bp_9 Ba_9 Bb_9 Hw9)
    | (refine wl_store 37 2 szPt _ _ rfl rfl _ rfl #[.int .i64 r, .int .i64 s] rfl _ _ Bc_10 rfl rfl (by kernel_rfl) ?_; intro W11 Bc_11 T11; have Bm_11 := T11.blk Bm_10 nmc; have Bp_11 := T11.blk Bp_10 npc; have Ba_11 := T11.blk Ba_10 nac; have Bb_11 := T11.blk Bb_10 nbc; have Hw11 := T11.below Hw10 gc; clear T11 Bm_10 Bp_10 Ba_10 Bb_10 Bc_10 Hw10))
  go_upto_region 5 with (go_big_may; first
    | (refine wl_load 23 6 _ Try.underlying23 rfl szMt _ rfl rfl _ rfl _ _ Bm_11 rfl ?_)
    | (refine wl_load 37 2 _ Try.underlying37 rfl szPt _ rfl rfl _ rfl _ _ Bp_11 rfl ?_)
    | (go_at_call 18; (with_reducible refine (H4.out _).mono ?_); rintro e W12 ⟨rfl, k12⟩; have Bm_12 := Bm_11.keep k12; have Bp_12 := Bp_11.keep k12; have Ba_12 := Ba_11.keep k12; have Bb_12 := Bb_11.keep k12; have Bc_12 := Bc_11.keep k12; have Hw12 := bq_trans Hw11 k12; clear k12 Bm_11 Bp_11 Ba_11 Bb_11 Bc_11 Hw11)
    | (refine wl_alloc 37 _ zePt rfl rfl ?_; intro W13 bd Bd_13 l13 k13; have gd : w.heap.size ≤ bd := Nat.le_trans Hw12.size l13; have nmd : bm ≠ bd := Nat.ne_of_lt (Nat.lt_of_lt_of_le Bm_12.lt l13); have npd : bp ≠ bd := Nat.ne_of_lt (Nat.lt_of_lt_of_le Bp_12.lt l13); have nad : ba ≠ bd := Nat.ne_of_lt (Nat.lt_of_lt_of_le Ba_12.lt l13); have nbd : bb ≠ bd := Nat.ne_of_lt (Nat.lt_of_lt_of_le Bb_12.lt l13); have ncd : bc ≠ bd := Nat.ne_of_lt (Nat.lt_of_lt_of_le Bc_12.lt l13); have Bm_13 := Bm_12.keep k13; have Bp_13 := Bp_12.keep k13; have Ba_13 := Ba_12.keep k13; have Bb_13 := Bb_12.keep k13; have Bc_13 := Bc_12.keep k13; have Hw13 := bq_trans Hw12 k13; clear l13 k13 Bm_12 Bp_12 Ba_12 Bb_12 Bc_12 Hw12)
    | (refine wl_store 37 2 szPt _ _ rfl rfl _ rfl #[.int .i64 u, .int .i64 v] rfl _ _ Bd_13 rfl rfl (by kernel_rfl) ?_; intro W14 Bd_14 T14; have Bm_14 := T14.blk Bm_13 nmd; have Bp_14 := T14.blk Bp_13 npd; have Ba_14 := T14.blk Ba_13 nad; have Bb_14 := T14.blk Bb_13 nbd; have Bc_14 := T14.blk Bc_13 ncd; have Hw14 := T14.below Hw13 gd; clear T14 Bm_13 Bp_13 Ba_13 Bb_13 Bc_13 Bd_13 Hw13))
  refine Det.wp_region_text (S := fun w' => Below W14.heap.size W14 w') (bq_refl _) ?_
  refine Det.det_load 37 2 _ Try.underlying37 rfl szPt _ rfl (by rfl) _ rfl _ _ (fun w hS => Ba_14.keep hS) rfl ?_
  try simp only [Act.put, List.setIfInBounds_toArray, List.set_cons_zero, List.set_cons_succ]
  refine Det.det_load 37 2 _ Try.underlying37 rfl szPt _ rfl (by rfl) _ rfl _ _ (fun w hS => Bc_14.keep hS) rfl ?_
  try simp only [Act.put, List.setIfInBounds_toArray, List.set_cons_zero, List.set_cons_succ]
  refine Det.det_take (v := ?_) (by rfl) ?_ ?_
  rotate_left
  · (intro w hSw; have q := eqP14 r s w; go_simp; try with_reducible rfl)
  try simp only [Act.put, List.setIfInBounds_toArray, List.set_cons_zero, List.set_cons_succ]
  refine Det.det_take (v := ?_) (by rfl) ?_ ?_
  rotate_left
  · (intro w hSw; go_simp; try with_reducible rfl)
  try simp only [Act.put, List.setIfInBounds_toArray, List.set_cons_zero, List.set_cons_succ]
  refine Det.det_take (v := ?_) (by rfl) ?_ ?_
  rotate_left
  · (intro w hSw; go_simp; try with_reducible rfl)
  try simp only [Act.put, List.setIfInBounds_toArray, List.set_cons_zero, List.set_cons_succ]
  refine Det.det_take (v := ?_) (by rfl) ?_ ?_
  rotate_left
  · (intro w hSw; go_simp; try with_reducible rfl)
  try simp only [Act.put, List.setIfInBounds_toArray, List.set_cons_zero, List.set_cons_succ]
  refine Det.det_take (v := ?_) (by rfl) ?_ ?_
  rotate_left
  · (intro w hSw; go_simp; try with_reducible rfl)
  try simp only [Act.put, List.setIfInBounds_toArray, List.set_cons_zero, List.set_cons_succ]
  refine Det.det_take (v := ?_) (by rfl) ?_ ?_
  rotate_left
  · (intro w hSw; go_simp; try with_reducible rfl)
  try simp only [Act.put, List.setIfInBounds_toArray, List.set_cons_zero, List.set_cons_succ]
  refine Det.det_take (v := ?_) (by rfl) ?_ ?_
  rotate_left
  · (intro w hSw; go_simp; try with_reducible rfl)
  try simp only [Act.put, List.setIfInBounds_toArray, List.set_cons_zero, List.set_cons_succ]
  refine Det.det_load 37 2 _ Try.underlying37 rfl szPt _ rfl (by rfl) _ rfl _ _ (fun w hS => Bb_14.keep hS) rfl ?_
  try simp only [Act.put, List.setIfInBounds_toArray, List.set_cons_zero, List.set_cons_succ]
  refine Det.det_load 37 2 _ Try.underlying37 rfl szPt _ rfl (by rfl) _ rfl _ _ (fun w hS => Bd_14.keep hS) rfl ?_
  try simp only [Act.put, List.setIfInBounds_toArray, List.set_cons_zero, List.set_cons_succ]
  refine Det.det_take (v := ?_) (by rfl) ?_ ?_
  rotate_left
  · (intro w hSw; have q := eqP14 u v w; go_simp; try with_reducible rfl)
  try simp only [Act.put, List.setIfInBounds_toArray, List.set_cons_zero, List.set_cons_succ]
  refine Det.det_take (v := ?_) (by rfl) ?_ ?_
  rotate_left
  · (intro w hSw; go_simp; try with_reducible rfl)
  try simp only [Act.put, List.setIfInBounds_toArray, List.set_cons_zero, List.set_cons_succ]
  refine Det.det_take (v := ?_) (by rfl) ?_ ?_
  rotate_left
  · (intro w hSw; go_simp; try with_reducible rfl)
  try simp only [Act.put, List.setIfInBounds_toArray, List.set_cons_zero, List.set_cons_succ]
  refine Det.det_take (v := ?_) (by rfl) ?_ ?_
  rotate_left
  · (intro w hSw; go_simp; try with_reducible rfl)
  try simp only [Act.put, List.setIfInBounds_toArray, List.set_cons_zero, List.set_cons_succ]
  refine Det.det_take (v := ?_) (by rfl) ?_ ?_
  rotate_left
  · (intro w hSw; go_simp; try with_reducible rfl)
  try simp only [Act.put, List.setIfInBounds_toArray, List.set_cons_zero, List.set_cons_succ]
  refine Det.det_take (v := ?_) (by rfl) ?_ ?_
  rotate_left
  · (intro w hSw; go_simp; try with_reducible rfl)
  try simp only [Act.put, List.setIfInBounds_toArray, List.set_cons_zero, List.set_cons_succ]
  refine Det.det_take (v := ?_) (by rfl) ?_ ?_
  rotate_left
  · (intro w hSw; go_simp; try with_reducible rfl)
  try simp only [Act.put, List.setIfInBounds_toArray, List.set_cons_zero, List.set_cons_succ]
  refine Det.det_take (v := ?_) (by rfl) ?_ ?_
  rotate_left
  · (intro w hSw; go_simp; try with_reducible rfl)
  try simp only [Act.put, List.setIfInBounds_toArray, List.set_cons_zero, List.set_cons_succ]
  refine Det.det_call (f := 14) (args := #[]) (v := .bool true) (by rfl) ?_ (fun w hS => (HA.out w).mono fun e w' ⟨h1, h2⟩ => ⟨h1, bq_trans hS h2⟩) ?_
  · (intro w hSw; go_simp)
  try simp only [Act.put, List.setIfInBounds_toArray, List.set_cons_zero, List.set_cons_succ]
  refine Det.det_take (v := ?_) (by rfl) ?_ ?_
  rotate_left
  · (intro w hSw; go_simp; try with_reducible rfl)
  try simp only [Act.put, List.setIfInBounds_toArray, List.set_cons_zero, List.set_cons_succ]
  refine Det.det_take (v := ?_) (by rfl) ?_ ?_
  rotate_left
  · (intro w hSw; go_simp; try with_reducible rfl)
  try simp only [Act.put, List.setIfInBounds_toArray, List.set_cons_zero, List.set_cons_succ]
  refine Det.det_nil (fun W15 k15 => ?_)
  have Bm_15 := Bm_14.keep k15
  have Bp_15 := Bp_14.keep k15
  have Ba_15 := Ba_14.keep k15
  have Bb_15 := Bb_14.keep k15
  have Bc_15 := Bc_14.keep k15
  have Bd_15 := Bd_14.keep k15
  have Hw15 := bq_trans Hw14 k15
  clear k15 Bm_14 Bp_14 Ba_14 Bb_14 Bc_14 Bd_14 Hw14
  go_wp2_with fail
  go_ret
  exact ⟨rfl, Hw15⟩
theorem aplV_form (A B C D X Y x y : Int) : ∃ r s ev : Int, aplV A B C D X Y x y = .tuple #[.agg #[.int .i64 r, .int .i64 s], .int .i64 ev] := by
  unfold aplV
  split
  · exact ⟨_, _, _, rfl⟩
  · exact ⟨_, _, _, rfl⟩
theorem grdV_form (A B C D X Y x y : Int) : ∃ r s ev : Int, grdV A B C D X Y x y = .tuple #[.agg #[.int .i64 r, .int .i64 s], .int .i64 ev] := by
  unfold grdV
  split
  · split
    · exact ⟨_, _, _, rfl⟩
    · exact ⟨_, _, _, rfl⟩
  · exact ⟨_, _, _, rfl⟩
theorem affinePoints_walk (A B C D X Y x y : Int) (w : World) (hm : I64M A B C D X Y) : Calls Try.prog 4 #[.agg #[.int .i64 A, .int .i64 B, .int .i64 C, .int .i64 D, .int .i64 X, .int .i64 Y], .agg #[.int .i64 x, .int .i64 y]] w fun e w' => e = .returned (.bool true) ∧ Below w.heap.size w w' := by
  obtain ⟨r, s, ev, h1⟩ := aplV_form A B C D X Y x y
  obtain ⟨u, v, f, h2⟩ := grdV_form A B C D X Y x y
  exact points14_core A B C D X Y x y r s u v ev f w (Lib.hid awake14_any) (Lib.hid fun W => h1 ▸ apply14_any A B C D X Y x y W hm) (Lib.hid fun W => h2 ▸ grid14_any A B C D X Y x y W hm) (Lib.hid fun W => h1 ▸ rapply14_any A B C D X Y x y W) (Lib.hid fun W => h2 ▸ rgrid14_any A B C D X Y x y W)
set_option maxHeartbeats 2000000 in
theorem back14_law0 (A B C D X Y x y r s z : Int) (q : Bool) (w : World) (HA : Hid (∀ W, Calls Try.prog 14 #[] W fun e w' => e = .returned (.bool true) ∧ Below W.heap.size W w'))
    (H1 : Hid (∀ W, Calls Try.prog 19 #[.agg #[.int .i64 A, .int .i64 B, .int .i64 C, .int .i64 D, .int .i64 X, .int .i64 Y], .agg #[.int .i64 x, .int .i64 y]] W fun e w' => e = .returned (.tuple #[.agg #[.int .i64 r, .int .i64 s], .bool q]) ∧ Below W.heap.size W w')) (H2 : Hid (∀ W, Calls Try.prog 20 #[.agg #[.int .i64 A, .int .i64 B, .int .i64 C, .int .i64 D, .int .i64 X, .int .i64 Y], .agg #[.int .i64 x, .int .i64 y]] W fun e w' => e = .returned (.tuple #[.agg #[.int .i64 r, .int .i64 s], .bool q]) ∧ Below W.heap.size W w')) (H3 : Hid (∀ W, Calls Try.prog 21 #[.agg #[.int .i64 A, .int .i64 B, .int .i64 C, .int .i64 D, .int .i64 X, .int .i64 Y]] W fun e w' => e = .returned (.bool false) ∧ Below W.heap.size W w'))  (H5 : Hid (∀ W, Calls Try.prog 23 #[.agg #[.int .i64 A, .int .i64 B, .int .i64 C, .int .i64 D, .int .i64 X, .int .i64 Y]] W fun e w' => e = .returned (.int .i64 0) ∧ Below W.heap.size W w')) :
    Calls Try.prog 5 #[.agg #[.int .i64 A, .int .i64 B, .int .i64 C, .int .i64 D, .int .i64 X, .int .i64 Y], .agg #[.int .i64 x, .int .i64 y]] w fun e w' => e = .returned (.bool true) ∧ Below w.heap.size w w' := by
  go_enter Try.func5, Try.ntmps5
  go_upto_region 1 with (go_big_may; first
    | (refine wl_box 23 _ _ rfl rfl (show _ = Value.agg #[.int .i64 A, .int .i64 B, .int .i64 C, .int .i64 D, .int .i64 X, .int .i64 Y] from rfl) ?_; intro W1 bm Bm_1 l1 k1; have gm : w.heap.size ≤ bm := l1; have Hw1 := k1; clear l1 k1)
    | (refine wl_box 37 _ _ rfl rfl (show _ = Value.agg #[.int .i64 x, .int .i64 y] from rfl) ?_; intro W2 bp Bp_2 l2 k2; have gp : w.heap.size ≤ bp := Nat.le_trans Hw1.size l2; have nmp : bm ≠ bp := Nat.ne_of_lt (Nat.lt_of_lt_of_le Bm_1.lt l2); have Bm_2 := Bm_1.keep k2; have Hw2 := bq_trans Hw1 k2; clear l2 k2 Bm_1 Hw1))
  go_upto_region 2 with (go_big_may; first
    | (refine wl_load 23 6 _ Try.underlying23 rfl szMt _ rfl rfl _ rfl _ _ Bm_2 rfl ?_)
    | (refine wl_load 37 2 _ Try.underlying37 rfl szPt _ rfl rfl _ rfl _ _ Bp_2 rfl ?_)
    | (go_at_call 19; (with_reducible refine (H1.out _).mono ?_); rintro e W3 ⟨rfl, k3⟩; have Bm_3 := Bm_2.keep k3; have Bp_3 := Bp_2.keep k3; have Hw3 := bq_trans Hw2 k3; clear k3 Bm_2 Bp_2 Hw2)
    | (refine wl_alloc 37 _ zePt rfl rfl ?_; intro W4 ba Ba_4 l4 k4; have ga : w.heap.size ≤ ba := Nat.le_trans Hw3.size l4; have nma : bm ≠ ba := Nat.ne_of_lt (Nat.lt_of_lt_of_le Bm_3.lt l4); have npa : bp ≠ ba := Nat.ne_of_lt (Nat.lt_of_lt_of_le Bp_3.lt l4); have Bm_4 := Bm_3.keep k4; have Bp_4 := Bp_3.keep k4; have Hw4 := bq_trans Hw3 k4; clear l4 k4 Bm_3 Bp_3 Hw3)
    | (refine wl_store 37 2 szPt _ _ rfl rfl _ rfl #[.int .i64 r, .int .i64 s] rfl _ _ Ba_4 rfl rfl (by kernel_rfl) ?_; intro W5 Ba_5 T5; have Bm_5 := T5.blk Bm_4 nma; have Bp_5 := T5.blk Bp_4 npa; have Hw5 := T5.below Hw4 ga; clear T5 Bm_4 Bp_4 Ba_4 Hw4))
  go_upto_region 3 with (go_big_may; first
    | (refine wl_load 23 6 _ Try.underlying23 rfl szMt _ rfl rfl _ rfl _ _ Bm_5 rfl ?_)
    | (refine wl_load 37 2 _ Try.underlying37 rfl szPt _ rfl rfl _ rfl _ _ Bp_5 rfl ?_)
    | (go_at_call 20; (with_reducible refine (H2.out _).mono ?_); rintro e W6 ⟨rfl, k6⟩; have Bm_6 := Bm_5.keep k6; have Bp_6 := Bp_5.keep k6; have Ba_6 := Ba_5.keep k6; have Hw6 := bq_trans Hw5 k6; clear k6 Bm_5 Bp_5 Ba_5 Hw5)
    | (refine wl_alloc 37 _ zePt rfl rfl ?_; intro W7 bb Bb_7 l7 k7; have gb : w.heap.size ≤ bb := Nat.le_trans Hw6.size l7; have nmb : bm ≠ bb := Nat.ne_of_lt (Nat.lt_of_lt_of_le Bm_6.lt l7); have npb : bp ≠ bb := Nat.ne_of_lt (Nat.lt_of_lt_of_le Bp_6.lt l7); have nab : ba ≠ bb := Nat.ne_of_lt (Nat.lt_of_lt_of_le Ba_6.lt l7); have Bm_7 := Bm_6.keep k7; have Bp_7 := Bp_6.keep k7; have Ba_7 := Ba_6.keep k7; have Hw7 := bq_trans Hw6 k7; clear l7 k7 Bm_6 Bp_6 Ba_6 Hw6)
    | (refine wl_store 37 2 szPt _ _ rfl rfl _ rfl #[.int .i64 r, .int .i64 s] rfl _ _ Bb_7 rfl rfl (by kernel_rfl) ?_; intro W8 Bb_8 T8; have Bm_8 := T8.blk Bm_7 nmb; have Bp_8 := T8.blk Bp_7 npb; have Ba_8 := T8.blk Ba_7 nab; have Hw8 := T8.below Hw7 gb; clear T8 Bm_7 Bp_7 Ba_7 Bb_7 Hw7))
  go_upto_region 6 with (go_big_may; first
    | (refine wl_load 23 6 _ Try.underlying23 rfl szMt _ rfl rfl _ rfl _ _ Bm_8 rfl ?_)
    | (go_at_call 21; (with_reducible refine (H3.out _).mono ?_); rintro e W9 ⟨rfl, k9⟩; have Bm_9 := Bm_8.keep k9; have Bp_9 := Bp_8.keep k9; have Ba_9 := Ba_8.keep k9; have Bb_9 := Bb_8.keep k9; have Hw9 := bq_trans Hw8 k9; clear k9 Bm_8 Bp_8 Ba_8 Bb_8 Hw8))
  refine Det.wp_region_text (S := fun w' => Below W9.heap.size W9 w') (bq_refl _) ?_
  refine Det.det_load 37 2 _ Try.underlying37 rfl szPt _ rfl (by rfl) _ rfl _ _ (fun w hS => Ba_9.keep hS) rfl ?_
  try simp only [Act.put, List.setIfInBounds_toArray, List.set_cons_zero, List.set_cons_succ]
  refine Det.det_load 37 2 _ Try.underlying37 rfl szPt _ rfl (by rfl) _ rfl _ _ (fun w hS => Bb_9.keep hS) rfl ?_
  try simp only [Act.put, List.setIfInBounds_toArray, List.set_cons_zero, List.set_cons_succ]
  refine Det.det_take (v := ?_) (by rfl) ?_ ?_
  rotate_left
  · (intro w hSw; have q := eqP14 r s w; go_simp; try with_reducible rfl)
  try simp only [Act.put, List.setIfInBounds_toArray, List.set_cons_zero, List.set_cons_succ]
  refine Det.det_take (v := ?_) (by rfl) ?_ ?_
  rotate_left
  · (intro w hSw; go_simp; try with_reducible rfl)
  try simp only [Act.put, List.setIfInBounds_toArray, List.set_cons_zero, List.set_cons_succ]
  refine Det.det_take (v := ?_) (by rfl) ?_ ?_
  rotate_left
  · (intro w hSw; go_simp; try with_reducible rfl)
  try simp only [Act.put, List.setIfInBounds_toArray, List.set_cons_zero, List.set_cons_succ]
  refine Det.det_take (v := ?_) (by rfl) ?_ ?_
  rotate_left
  · (intro w hSw; go_simp; try with_reducible rfl)
  try simp only [Act.put, List.setIfInBounds_toArray, List.set_cons_zero, List.set_cons_succ]
  refine Det.det_take (v := ?_) (by rfl) ?_ ?_
  rotate_left
  · (intro w hSw; have eb : (q == q) = true := (by cases q <;> rfl); go_simp; try with_reducible rfl)
  try simp only [Act.put, List.setIfInBounds_toArray, List.set_cons_zero, List.set_cons_succ]
  refine Det.det_take (v := ?_) (by rfl) ?_ ?_
  rotate_left
  · (intro w hSw; go_simp; try with_reducible rfl)
  try simp only [Act.put, List.setIfInBounds_toArray, List.set_cons_zero, List.set_cons_succ]
  refine Det.det_take (v := ?_) (by rfl) ?_ ?_
  rotate_left
  · (intro w hSw; go_simp; try with_reducible rfl)
  try simp only [Act.put, List.setIfInBounds_toArray, List.set_cons_zero, List.set_cons_succ]
  refine Det.det_load 23 6 _ Try.underlying23 rfl szMt _ rfl (by rfl) _ rfl _ _ (fun w hS => Bm_9.keep hS) rfl ?_
  try simp only [Act.put, List.setIfInBounds_toArray, List.set_cons_zero, List.set_cons_succ]
  refine Det.det_call (f := 23) (args := #[.agg #[.int .i64 A, .int .i64 B, .int .i64 C, .int .i64 D, .int .i64 X, .int .i64 Y]]) (v := .int .i64 0) (by rfl) ?_ (fun w hS => (H5.out w).mono fun e w' ⟨h1, h2⟩ => ⟨h1, bq_trans hS h2⟩) ?_
  · (intro w hSw; go_simp)
  try simp only [Act.put, List.setIfInBounds_toArray, List.set_cons_zero, List.set_cons_succ]
  refine Det.det_take (v := ?_) (by rfl) ?_ ?_
  rotate_left
  · (intro w hSw; go_simp; try with_reducible rfl)
  try simp only [Act.put, List.setIfInBounds_toArray, List.set_cons_zero, List.set_cons_succ]
  refine Det.det_take (v := ?_) (by rfl) ?_ ?_
  rotate_left
  · (intro w hSw; go_simp; try with_reducible rfl)
  try simp only [Act.put, List.setIfInBounds_toArray, List.set_cons_zero, List.set_cons_succ]
  refine Det.det_take (v := ?_) (by rfl) ?_ ?_
  rotate_left
  · (intro w hSw; go_simp; try with_reducible rfl)
  try simp only [Act.put, List.setIfInBounds_toArray, List.set_cons_zero, List.set_cons_succ]
  refine Det.det_take (v := ?_) (by rfl) ?_ ?_
  rotate_left
  · (intro w hSw; go_simp; try with_reducible rfl)
  try simp only [Act.put, List.setIfInBounds_toArray, List.set_cons_zero, List.set_cons_succ]
  refine Det.det_call (f := 14) (args := #[]) (v := .bool true) (by rfl) ?_ (fun w hS => (HA.out w).mono fun e w' ⟨h1, h2⟩ => ⟨h1, bq_trans hS h2⟩) ?_
  · (intro w hSw; go_simp)
  try simp only [Act.put, List.setIfInBounds_toArray, List.set_cons_zero, List.set_cons_succ]
  refine Det.det_take (v := ?_) (by rfl) ?_ ?_
  rotate_left
  · (intro w hSw; go_simp; try with_reducible rfl)
  try simp only [Act.put, List.setIfInBounds_toArray, List.set_cons_zero, List.set_cons_succ]
  refine Det.det_take (v := ?_) (by rfl) ?_ ?_
  rotate_left
  · (intro w hSw; go_simp; try with_reducible rfl)
  try simp only [Act.put, List.setIfInBounds_toArray, List.set_cons_zero, List.set_cons_succ]
  refine Det.det_nil (fun W10 k10 => ?_)
  have Bm_10 := Bm_9.keep k10
  have Bp_10 := Bp_9.keep k10
  have Ba_10 := Ba_9.keep k10
  have Bb_10 := Bb_9.keep k10
  have Hw10 := bq_trans Hw9 k10
  clear k10 Bm_9 Bp_9 Ba_9 Bb_9 Hw9
  go_wp2_with fail
  go_ret
  exact ⟨rfl, Hw10⟩
set_option maxHeartbeats 2000000 in
theorem back14_law1 (A B C D X Y x y r s z : Int) (q : Bool) (w : World) (HA : Hid (∀ W, Calls Try.prog 14 #[] W fun e w' => e = .returned (.bool true) ∧ Below W.heap.size W w'))
    (H1 : Hid (∀ W, Calls Try.prog 19 #[.agg #[.int .i64 A, .int .i64 B, .int .i64 C, .int .i64 D, .int .i64 X, .int .i64 Y], .agg #[.int .i64 x, .int .i64 y]] W fun e w' => e = .returned (.tuple #[.agg #[.int .i64 r, .int .i64 s], .bool q]) ∧ Below W.heap.size W w')) (H2 : Hid (∀ W, Calls Try.prog 20 #[.agg #[.int .i64 A, .int .i64 B, .int .i64 C, .int .i64 D, .int .i64 X, .int .i64 Y], .agg #[.int .i64 x, .int .i64 y]] W fun e w' => e = .returned (.tuple #[.agg #[.int .i64 r, .int .i64 s], .bool q]) ∧ Below W.heap.size W w')) (H3 : Hid (∀ W, Calls Try.prog 21 #[.agg #[.int .i64 A, .int .i64 B, .int .i64 C, .int .i64 D, .int .i64 X, .int .i64 Y]] W fun e w' => e = .returned (.bool true) ∧ Below W.heap.size W w')) (H4 : Hid (∀ W, Calls Try.prog 22 #[.agg #[.int .i64 A, .int .i64 B, .int .i64 C, .int .i64 D, .int .i64 X, .int .i64 Y]] W fun e w' => e = .returned (.int .i64 z) ∧ Below W.heap.size W w')) (H5 : Hid (∀ W, Calls Try.prog 23 #[.agg #[.int .i64 A, .int .i64 B, .int .i64 C, .int .i64 D, .int .i64 X, .int .i64 Y]] W fun e w' => e = .returned (.int .i64 z) ∧ Below W.heap.size W w')) :
    Calls Try.prog 5 #[.agg #[.int .i64 A, .int .i64 B, .int .i64 C, .int .i64 D, .int .i64 X, .int .i64 Y], .agg #[.int .i64 x, .int .i64 y]] w fun e w' => e = .returned (.bool true) ∧ Below w.heap.size w w' := by
  go_enter Try.func5, Try.ntmps5
  go_upto_region 1 with (go_big_may; first
    | (refine wl_box 23 _ _ rfl rfl (show _ = Value.agg #[.int .i64 A, .int .i64 B, .int .i64 C, .int .i64 D, .int .i64 X, .int .i64 Y] from rfl) ?_; intro W1 bm Bm_1 l1 k1; have gm : w.heap.size ≤ bm := l1; have Hw1 := k1; clear l1 k1)
    | (refine wl_box 37 _ _ rfl rfl (show _ = Value.agg #[.int .i64 x, .int .i64 y] from rfl) ?_; intro W2 bp Bp_2 l2 k2; have gp : w.heap.size ≤ bp := Nat.le_trans Hw1.size l2; have nmp : bm ≠ bp := Nat.ne_of_lt (Nat.lt_of_lt_of_le Bm_1.lt l2); have Bm_2 := Bm_1.keep k2; have Hw2 := bq_trans Hw1 k2; clear l2 k2 Bm_1 Hw1))
  go_upto_region 2 with (go_big_may; first
    | (refine wl_load 23 6 _ Try.underlying23 rfl szMt _ rfl rfl _ rfl _ _ Bm_2 rfl ?_)
    | (refine wl_load 37 2 _ Try.underlying37 rfl szPt _ rfl rfl _ rfl _ _ Bp_2 rfl ?_)
    | (go_at_call 19; (with_reducible refine (H1.out _).mono ?_); rintro e W3 ⟨rfl, k3⟩; have Bm_3 := Bm_2.keep k3; have Bp_3 := Bp_2.keep k3; have Hw3 := bq_trans Hw2 k3; clear k3 Bm_2 Bp_2 Hw2)
    | (refine wl_alloc 37 _ zePt rfl rfl ?_; intro W4 ba Ba_4 l4 k4; have ga : w.heap.size ≤ ba := Nat.le_trans Hw3.size l4; have nma : bm ≠ ba := Nat.ne_of_lt (Nat.lt_of_lt_of_le Bm_3.lt l4); have npa : bp ≠ ba := Nat.ne_of_lt (Nat.lt_of_lt_of_le Bp_3.lt l4); have Bm_4 := Bm_3.keep k4; have Bp_4 := Bp_3.keep k4; have Hw4 := bq_trans Hw3 k4; clear l4 k4 Bm_3 Bp_3 Hw3)
    | (refine wl_store 37 2 szPt _ _ rfl rfl _ rfl #[.int .i64 r, .int .i64 s] rfl _ _ Ba_4 rfl rfl (by kernel_rfl) ?_; intro W5 Ba_5 T5; have Bm_5 := T5.blk Bm_4 nma; have Bp_5 := T5.blk Bp_4 npa; have Hw5 := T5.below Hw4 ga; clear T5 Bm_4 Bp_4 Ba_4 Hw4))
  go_upto_region 3 with (go_big_may; first
    | (refine wl_load 23 6 _ Try.underlying23 rfl szMt _ rfl rfl _ rfl _ _ Bm_5 rfl ?_)
    | (refine wl_load 37 2 _ Try.underlying37 rfl szPt _ rfl rfl _ rfl _ _ Bp_5 rfl ?_)
    | (go_at_call 20; (with_reducible refine (H2.out _).mono ?_); rintro e W6 ⟨rfl, k6⟩; have Bm_6 := Bm_5.keep k6; have Bp_6 := Bp_5.keep k6; have Ba_6 := Ba_5.keep k6; have Hw6 := bq_trans Hw5 k6; clear k6 Bm_5 Bp_5 Ba_5 Hw5)
    | (refine wl_alloc 37 _ zePt rfl rfl ?_; intro W7 bb Bb_7 l7 k7; have gb : w.heap.size ≤ bb := Nat.le_trans Hw6.size l7; have nmb : bm ≠ bb := Nat.ne_of_lt (Nat.lt_of_lt_of_le Bm_6.lt l7); have npb : bp ≠ bb := Nat.ne_of_lt (Nat.lt_of_lt_of_le Bp_6.lt l7); have nab : ba ≠ bb := Nat.ne_of_lt (Nat.lt_of_lt_of_le Ba_6.lt l7); have Bm_7 := Bm_6.keep k7; have Bp_7 := Bp_6.keep k7; have Ba_7 := Ba_6.keep k7; have Hw7 := bq_trans Hw6 k7; clear l7 k7 Bm_6 Bp_6 Ba_6 Hw6)
    | (refine wl_store 37 2 szPt _ _ rfl rfl _ rfl #[.int .i64 r, .int .i64 s] rfl _ _ Bb_7 rfl rfl (by kernel_rfl) ?_; intro W8 Bb_8 T8; have Bm_8 := T8.blk Bm_7 nmb; have Bp_8 := T8.blk Bp_7 npb; have Ba_8 := T8.blk Ba_7 nab; have Hw8 := T8.below Hw7 gb; clear T8 Bm_7 Bp_7 Ba_7 Bb_7 Hw7))
  go_upto_region 5 with (go_big_may; first
    | (refine wl_load 23 6 _ Try.underlying23 rfl szMt _ rfl rfl _ rfl _ _ Bm_8 rfl ?_)
    | (go_at_call 21; (with_reducible refine (H3.out _).mono ?_); rintro e W9 ⟨rfl, k9⟩; have Bm_9 := Bm_8.keep k9; have Bp_9 := Bp_8.keep k9; have Ba_9 := Ba_8.keep k9; have Bb_9 := Bb_8.keep k9; have Hw9 := bq_trans Hw8 k9; clear k9 Bm_8 Bp_8 Ba_8 Bb_8 Hw8))
  go_upto_region 6 with (go_big_may; first
    | (refine wl_load 23 6 _ Try.underlying23 rfl szMt _ rfl rfl _ rfl _ _ Bm_9 rfl ?_)
    | (go_at_call 22; (with_reducible refine (H4.out _).mono ?_); rintro e W10 ⟨rfl, k10⟩; have Bm_10 := Bm_9.keep k10; have Bp_10 := Bp_9.keep k10; have Ba_10 := Ba_9.keep k10; have Bb_10 := Bb_9.keep k10; have Hw10 := bq_trans Hw9 k10; clear k10 Bm_9 Bp_9 Ba_9 Bb_9 Hw9))
  refine Det.wp_region_text (S := fun w' => Below W10.heap.size W10 w') (bq_refl _) ?_
  refine Det.det_load 37 2 _ Try.underlying37 rfl szPt _ rfl (by rfl) _ rfl _ _ (fun w hS => Ba_10.keep hS) rfl ?_
  try simp only [Act.put, List.setIfInBounds_toArray, List.set_cons_zero, List.set_cons_succ]
  refine Det.det_load 37 2 _ Try.underlying37 rfl szPt _ rfl (by rfl) _ rfl _ _ (fun w hS => Bb_10.keep hS) rfl ?_
  try simp only [Act.put, List.setIfInBounds_toArray, List.set_cons_zero, List.set_cons_succ]
  refine Det.det_take (v := ?_) (by rfl) ?_ ?_
  rotate_left
  · (intro w hSw; have q := eqP14 r s w; go_simp; try with_reducible rfl)
  try simp only [Act.put, List.setIfInBounds_toArray, List.set_cons_zero, List.set_cons_succ]
  refine Det.det_take (v := ?_) (by rfl) ?_ ?_
  rotate_left
  · (intro w hSw; go_simp; try with_reducible rfl)
  try simp only [Act.put, List.setIfInBounds_toArray, List.set_cons_zero, List.set_cons_succ]
  refine Det.det_take (v := ?_) (by rfl) ?_ ?_
  rotate_left
  · (intro w hSw; go_simp; try with_reducible rfl)
  try simp only [Act.put, List.setIfInBounds_toArray, List.set_cons_zero, List.set_cons_succ]
  refine Det.det_take (v := ?_) (by rfl) ?_ ?_
  rotate_left
  · (intro w hSw; go_simp; try with_reducible rfl)
  try simp only [Act.put, List.setIfInBounds_toArray, List.set_cons_zero, List.set_cons_succ]
  refine Det.det_take (v := ?_) (by rfl) ?_ ?_
  rotate_left
  · (intro w hSw; have eb : (q == q) = true := (by cases q <;> rfl); go_simp; try with_reducible rfl)
  try simp only [Act.put, List.setIfInBounds_toArray, List.set_cons_zero, List.set_cons_succ]
  refine Det.det_take (v := ?_) (by rfl) ?_ ?_
  rotate_left
  · (intro w hSw; go_simp; try with_reducible rfl)
  try simp only [Act.put, List.setIfInBounds_toArray, List.set_cons_zero, List.set_cons_succ]
  refine Det.det_take (v := ?_) (by rfl) ?_ ?_
  rotate_left
  · (intro w hSw; go_simp; try with_reducible rfl)
  try simp only [Act.put, List.setIfInBounds_toArray, List.set_cons_zero, List.set_cons_succ]
  refine Det.det_load 23 6 _ Try.underlying23 rfl szMt _ rfl (by rfl) _ rfl _ _ (fun w hS => Bm_10.keep hS) rfl ?_
  try simp only [Act.put, List.setIfInBounds_toArray, List.set_cons_zero, List.set_cons_succ]
  refine Det.det_call (f := 23) (args := #[.agg #[.int .i64 A, .int .i64 B, .int .i64 C, .int .i64 D, .int .i64 X, .int .i64 Y]]) (v := .int .i64 z) (by rfl) ?_ (fun w hS => (H5.out w).mono fun e w' ⟨h1, h2⟩ => ⟨h1, bq_trans hS h2⟩) ?_
  · (intro w hSw; go_simp)
  try simp only [Act.put, List.setIfInBounds_toArray, List.set_cons_zero, List.set_cons_succ]
  refine Det.det_take (v := ?_) (by rfl) ?_ ?_
  rotate_left
  · (intro w hSw; go_simp; try with_reducible rfl)
  try simp only [Act.put, List.setIfInBounds_toArray, List.set_cons_zero, List.set_cons_succ]
  refine Det.det_take (v := ?_) (by rfl) ?_ ?_
  rotate_left
  · (intro w hSw; go_simp; try with_reducible rfl)
  try simp only [Act.put, List.setIfInBounds_toArray, List.set_cons_zero, List.set_cons_succ]
  refine Det.det_take (v := ?_) (by rfl) ?_ ?_
  rotate_left
  · (intro w hSw; go_simp; try with_reducible rfl)
  try simp only [Act.put, List.setIfInBounds_toArray, List.set_cons_zero, List.set_cons_succ]
  refine Det.det_take (v := ?_) (by rfl) ?_ ?_
  rotate_left
  · (intro w hSw; go_simp; try with_reducible rfl)
  try simp only [Act.put, List.setIfInBounds_toArray, List.set_cons_zero, List.set_cons_succ]
  refine Det.det_call (f := 14) (args := #[]) (v := .bool true) (by rfl) ?_ (fun w hS => (HA.out w).mono fun e w' ⟨h1, h2⟩ => ⟨h1, bq_trans hS h2⟩) ?_
  · (intro w hSw; go_simp)
  try simp only [Act.put, List.setIfInBounds_toArray, List.set_cons_zero, List.set_cons_succ]
  refine Det.det_take (v := ?_) (by rfl) ?_ ?_
  rotate_left
  · (intro w hSw; go_simp; try with_reducible rfl)
  try simp only [Act.put, List.setIfInBounds_toArray, List.set_cons_zero, List.set_cons_succ]
  refine Det.det_take (v := ?_) (by rfl) ?_ ?_
  rotate_left
  · (intro w hSw; go_simp; try with_reducible rfl)
  try simp only [Act.put, List.setIfInBounds_toArray, List.set_cons_zero, List.set_cons_succ]
  refine Det.det_nil (fun W11 k11 => ?_)
  have Bm_11 := Bm_10.keep k11
  have Bp_11 := Bp_10.keep k11
  have Ba_11 := Ba_10.keep k11
  have Bb_11 := Bb_10.keep k11
  have Hw11 := bq_trans Hw10 k11
  clear k11 Bm_10 Bp_10 Ba_10 Bb_10 Hw10
  go_wp2_with fail
  go_ret
  exact ⟨rfl, Hw11⟩
theorem affineBack_walk (A B C D X Y x y : Int) (w : World) (hm : I64M A B C D X Y) : Calls Try.prog 5 #[.agg #[.int .i64 A, .int .i64 B, .int .i64 C, .int .i64 D, .int .i64 X, .int .i64 Y], .agg #[.int .i64 x, .int .i64 y]] w fun e w' => e = .returned (.bool true) ∧ Below w.heap.size w w' := by
  obtain ⟨r, s, q, h1⟩ := bckV_form A B C D X Y x y
  have H1 := Lib.hid fun W => h1 ▸ back14_any A B C D X Y x y W hm
  have H2 := Lib.hid fun W => h1 ▸ rback14_any A B C D X Y x y W
  have H3 := Lib.hid fun W => refmatrix_any A B C D X Y W
  have H5 := Lib.hid fun W => scale14_any A B C D X Y W hm
  cases q1 : matOk A B C D X Y with
  | false =>
    rw [q1] at H3 H5
    exact back14_law0 A B C D X Y x y r s 0 q w (Lib.hid awake14_any) H1 H2 H3 H5
  | true =>
    have H4 := Lib.hid fun W => rscale14_any A B C D X Y W q1
    rw [q1] at H3 H5
    exact back14_law1 A B C D X Y x y r s _ q w (Lib.hid awake14_any) H1 H2 H3 H4 H5
set_option maxHeartbeats 2000000 in
theorem colors14_law0 (m0 m1 m2 m3 d0 d1 d2 d3 kr kg kb ka r0 r1 r2 r3 : Int) (w : World) (HA : Hid (∀ W, Calls Try.prog 14 #[] W fun e w' => e = .returned (.bool true) ∧ Below W.heap.size W w')) (H1 : Hid (∀ W, Calls Try.prog 12 #[.agg #[.int .i64 m0, .int .i64 m1, .int .i64 m2, .int .i64 m3, .int .i64 d0, .int .i64 d1, .int .i64 d2, .int .i64 d3]] W fun e w' => e = .returned (.bool false) ∧ Below W.heap.size W w'))  (H4 : Hid (∀ W, Calls Try.prog 26 #[.agg #[.int .i64 m0, .int .i64 m1, .int .i64 m2, .int .i64 m3, .int .i64 d0, .int .i64 d1, .int .i64 d2, .int .i64 d3], .agg #[.int .i64 kr, .int .i64 kg, .int .i64 kb, .int .i64 ka]] W fun e w' => e = .returned (.agg #[.int .i64 0, .int .i64 0, .int .i64 0, .int .i64 0]) ∧ Below W.heap.size W w')) :
    Calls Try.prog 6 #[.agg #[.int .i64 m0, .int .i64 m1, .int .i64 m2, .int .i64 m3, .int .i64 d0, .int .i64 d1, .int .i64 d2, .int .i64 d3], .agg #[.int .i64 kr, .int .i64 kg, .int .i64 kb, .int .i64 ka]] w fun e w' => e = .returned (.bool true) ∧ Below w.heap.size w w' := by
  go_enter Try.func6, Try.ntmps6
  go_upto_region 4 with (go_big_may; first
    | (refine wl_box 26 _ _ rfl rfl (show _ = Value.agg #[.int .i64 m0, .int .i64 m1, .int .i64 m2, .int .i64 m3, .int .i64 d0, .int .i64 d1, .int .i64 d2, .int .i64 d3] from rfl) ?_; intro W1 bc Bc_1 l1 k1; have gc : w.heap.size ≤ bc := l1; have Hw1 := k1; clear l1 k1)
    | (refine wl_box 48 _ _ rfl rfl (show _ = Value.agg #[.int .i64 kr, .int .i64 kg, .int .i64 kb, .int .i64 ka] from rfl) ?_; intro W2 bk Bk_2 l2 k2; have gk : w.heap.size ≤ bk := Nat.le_trans Hw1.size l2; have nck : bc ≠ bk := Nat.ne_of_lt (Nat.lt_of_lt_of_le Bc_1.lt l2); have Bc_2 := Bc_1.keep k2; have Hw2 := bq_trans Hw1 k2; clear l2 k2 Bc_1 Hw1)
    | (refine wl_alloc 48 _ zeRg rfl rfl ?_; intro W3 bt Bt_3 l3 k3; have gt : w.heap.size ≤ bt := Nat.le_trans Hw2.size l3; have nct : bc ≠ bt := Nat.ne_of_lt (Nat.lt_of_lt_of_le Bc_2.lt l3); have nkt : bk ≠ bt := Nat.ne_of_lt (Nat.lt_of_lt_of_le Bk_2.lt l3); have Bc_3 := Bc_2.keep k3; have Bk_3 := Bk_2.keep k3; have Hw3 := bq_trans Hw2 k3; clear l3 k3 Bc_2 Bk_2 Hw2)
    | (refine wl_store 48 4 szRg _ _ rfl rfl _ rfl #[.int .i64 0, .int .i64 0, .int .i64 0, .int .i64 0] rfl _ _ Bt_3 rfl rfl (by kernel_rfl) ?_; intro W4 Bt_4 T4; have Bc_4 := T4.blk Bc_3 nct; have Bk_4 := T4.blk Bk_3 nkt; have Hw4 := T4.below Hw3 gt; clear T4 Bc_3 Bk_3 Bt_3 Hw3)
    | (refine wl_load 26 8 _ Try.underlying26 rfl szCx _ rfl rfl _ rfl _ _ Bc_4 rfl ?_)
    | (go_at_call 12; (with_reducible refine (H1.out _).mono ?_); rintro e W5 ⟨rfl, k5⟩; have Bc_5 := Bc_4.keep k5; have Bk_5 := Bk_4.keep k5; have Bt_5 := Bt_4.keep k5; have Hw5 := bq_trans Hw4 k5; clear k5 Bc_4 Bk_4 Bt_4 Hw4))
  refine Det.wp_region_det (S := fun w' => Below W5.heap.size W5 w') (by kernel_rfl) (by kernel_rfl) (bq_drew (bq_refl _)) ?_
  refine Det.det_load 26 8 _ Try.underlying26 rfl szCx _ rfl (by rfl) _ rfl _ _ (fun w hS => Bc_5.keep hS) rfl ?_
  try simp only [Act.put, List.setIfInBounds_toArray, List.set_cons_zero, List.set_cons_succ]
  refine Det.det_load 48 4 _ Try.underlying48 rfl szRg _ rfl (by rfl) _ rfl _ _ (fun w hS => Bk_5.keep hS) rfl ?_
  try simp only [Act.put, List.setIfInBounds_toArray, List.set_cons_zero, List.set_cons_succ]
  refine Det.det_call (f := 26) (args := #[.agg #[.int .i64 m0, .int .i64 m1, .int .i64 m2, .int .i64 m3, .int .i64 d0, .int .i64 d1, .int .i64 d2, .int .i64 d3], .agg #[.int .i64 kr, .int .i64 kg, .int .i64 kb, .int .i64 ka]]) (v := .agg #[.int .i64 0, .int .i64 0, .int .i64 0, .int .i64 0]) (by rfl) ?_ (fun w hS => (H4.out w).mono fun e w' ⟨h1, h2⟩ => ⟨h1, bq_trans hS h2⟩) ?_
  · (intro w hSw; go_simp)
  try simp only [Act.put, List.setIfInBounds_toArray, List.set_cons_zero, List.set_cons_succ]
  refine Det.det_load 48 4 _ Try.underlying48 rfl szRg _ rfl (by rfl) _ rfl _ _ (fun w hS => Bt_5.keep hS) rfl ?_
  try simp only [Act.put, List.setIfInBounds_toArray, List.set_cons_zero, List.set_cons_succ]
  refine Det.det_take (v := ?_) (by rfl) ?_ ?_
  rotate_left
  · (intro w hSw; have q := eqR14 0 0 0 0 w; go_simp; try with_reducible rfl)
  try simp only [Act.put, List.setIfInBounds_toArray, List.set_cons_zero, List.set_cons_succ]
  refine Det.det_take (v := ?_) (by rfl) ?_ ?_
  rotate_left
  · (intro w hSw; go_simp; try with_reducible rfl)
  try simp only [Act.put, List.setIfInBounds_toArray, List.set_cons_zero, List.set_cons_succ]
  refine Det.det_call (f := 14) (args := #[]) (v := .bool true) (by rfl) ?_ (fun w hS => (HA.out w).mono fun e w' ⟨h1, h2⟩ => ⟨h1, bq_trans hS h2⟩) ?_
  · (intro w hSw; go_simp)
  try simp only [Act.put, List.setIfInBounds_toArray, List.set_cons_zero, List.set_cons_succ]
  refine Det.det_take (v := ?_) (by rfl) ?_ ?_
  rotate_left
  · (intro w hSw; go_simp; try with_reducible rfl)
  try simp only [Act.put, List.setIfInBounds_toArray, List.set_cons_zero, List.set_cons_succ]
  refine Det.det_take (v := ?_) (by rfl) ?_ ?_
  rotate_left
  · (intro w hSw; go_simp; try with_reducible rfl)
  try simp only [Act.put, List.setIfInBounds_toArray, List.set_cons_zero, List.set_cons_succ]
  refine Det.det_nil (fun W6 k6 => ?_)
  have Bc_6 := Bc_5.keep k6
  have Bk_6 := Bk_5.keep k6
  have Bt_6 := Bt_5.keep k6
  have Hw6 := bq_trans Hw5 k6
  clear k6 Bc_5 Bk_5 Bt_5 Hw5
  go_wp2_with fail
  go_ret
  exact ⟨rfl, Hw6⟩
set_option maxHeartbeats 2000000 in
theorem colors14_law1 (m0 m1 m2 m3 d0 d1 d2 d3 kr kg kb ka r0 r1 r2 r3 : Int) (w : World) (HA : Hid (∀ W, Calls Try.prog 14 #[] W fun e w' => e = .returned (.bool true) ∧ Below W.heap.size W w')) (H1 : Hid (∀ W, Calls Try.prog 12 #[.agg #[.int .i64 m0, .int .i64 m1, .int .i64 m2, .int .i64 m3, .int .i64 d0, .int .i64 d1, .int .i64 d2, .int .i64 d3]] W fun e w' => e = .returned (.bool true) ∧ Below W.heap.size W w')) (H2 : Hid (∀ W, Calls Try.prog 24 #[.agg #[.int .i64 kr, .int .i64 kg, .int .i64 kb, .int .i64 ka]] W fun e w' => e = .returned (.bool false) ∧ Below W.heap.size W w'))  (H4 : Hid (∀ W, Calls Try.prog 26 #[.agg #[.int .i64 m0, .int .i64 m1, .int .i64 m2, .int .i64 m3, .int .i64 d0, .int .i64 d1, .int .i64 d2, .int .i64 d3], .agg #[.int .i64 kr, .int .i64 kg, .int .i64 kb, .int .i64 ka]] W fun e w' => e = .returned (.agg #[.int .i64 0, .int .i64 0, .int .i64 0, .int .i64 0]) ∧ Below W.heap.size W w')) :
    Calls Try.prog 6 #[.agg #[.int .i64 m0, .int .i64 m1, .int .i64 m2, .int .i64 m3, .int .i64 d0, .int .i64 d1, .int .i64 d2, .int .i64 d3], .agg #[.int .i64 kr, .int .i64 kg, .int .i64 kb, .int .i64 ka]] w fun e w' => e = .returned (.bool true) ∧ Below w.heap.size w w' := by
  go_enter Try.func6, Try.ntmps6
  go_upto_region 4 with (go_big_may; first
    | (refine wl_box 26 _ _ rfl rfl (show _ = Value.agg #[.int .i64 m0, .int .i64 m1, .int .i64 m2, .int .i64 m3, .int .i64 d0, .int .i64 d1, .int .i64 d2, .int .i64 d3] from rfl) ?_; intro W1 bc Bc_1 l1 k1; have gc : w.heap.size ≤ bc := l1; have Hw1 := k1; clear l1 k1)
    | (refine wl_box 48 _ _ rfl rfl (show _ = Value.agg #[.int .i64 kr, .int .i64 kg, .int .i64 kb, .int .i64 ka] from rfl) ?_; intro W2 bk Bk_2 l2 k2; have gk : w.heap.size ≤ bk := Nat.le_trans Hw1.size l2; have nck : bc ≠ bk := Nat.ne_of_lt (Nat.lt_of_lt_of_le Bc_1.lt l2); have Bc_2 := Bc_1.keep k2; have Hw2 := bq_trans Hw1 k2; clear l2 k2 Bc_1 Hw1)
    | (refine wl_alloc 48 _ zeRg rfl rfl ?_; intro W3 bt Bt_3 l3 k3; have gt : w.heap.size ≤ bt := Nat.le_trans Hw2.size l3; have nct : bc ≠ bt := Nat.ne_of_lt (Nat.lt_of_lt_of_le Bc_2.lt l3); have nkt : bk ≠ bt := Nat.ne_of_lt (Nat.lt_of_lt_of_le Bk_2.lt l3); have Bc_3 := Bc_2.keep k3; have Bk_3 := Bk_2.keep k3; have Hw3 := bq_trans Hw2 k3; clear l3 k3 Bc_2 Bk_2 Hw2)
    | (refine wl_store 48 4 szRg _ _ rfl rfl _ rfl #[.int .i64 0, .int .i64 0, .int .i64 0, .int .i64 0] rfl _ _ Bt_3 rfl rfl (by kernel_rfl) ?_; intro W4 Bt_4 T4; have Bc_4 := T4.blk Bc_3 nct; have Bk_4 := T4.blk Bk_3 nkt; have Hw4 := T4.below Hw3 gt; clear T4 Bc_3 Bk_3 Bt_3 Hw3)
    | (refine wl_load 26 8 _ Try.underlying26 rfl szCx _ rfl rfl _ rfl _ _ Bc_4 rfl ?_)
    | (go_at_call 12; (with_reducible refine (H1.out _).mono ?_); rintro e W5 ⟨rfl, k5⟩; have Bc_5 := Bc_4.keep k5; have Bk_5 := Bk_4.keep k5; have Bt_5 := Bt_4.keep k5; have Hw5 := bq_trans Hw4 k5; clear k5 Bc_4 Bk_4 Bt_4 Hw4)
    | (refine wlg_load 48 4 _ Try.underlying48 rfl szRg _ rfl rfl _ rfl _ _ Bk_5 rfl ?_)
    | (go_at_call 24; (with_reducible refine (H2.out _).mono ?_); rintro e W6 ⟨rfl, k6⟩; have Bc_6 := Bc_5.keep k6; have Bk_6 := Bk_5.keep k6; have Bt_6 := Bt_5.keep k6; have Hw6 := bq_trans Hw5 k6; clear k6 Bc_5 Bk_5 Bt_5 Hw5))
  refine Det.wp_region_det (S := fun w' => Below W6.heap.size W6 w') (by kernel_rfl) (by kernel_rfl) (bq_drew (bq_refl _)) ?_
  refine Det.det_load 26 8 _ Try.underlying26 rfl szCx _ rfl (by rfl) _ rfl _ _ (fun w hS => Bc_6.keep hS) rfl ?_
  try simp only [Act.put, List.setIfInBounds_toArray, List.set_cons_zero, List.set_cons_succ]
  refine Det.det_load 48 4 _ Try.underlying48 rfl szRg _ rfl (by rfl) _ rfl _ _ (fun w hS => Bk_6.keep hS) rfl ?_
  try simp only [Act.put, List.setIfInBounds_toArray, List.set_cons_zero, List.set_cons_succ]
  refine Det.det_call (f := 26) (args := #[.agg #[.int .i64 m0, .int .i64 m1, .int .i64 m2, .int .i64 m3, .int .i64 d0, .int .i64 d1, .int .i64 d2, .int .i64 d3], .agg #[.int .i64 kr, .int .i64 kg, .int .i64 kb, .int .i64 ka]]) (v := .agg #[.int .i64 0, .int .i64 0, .int .i64 0, .int .i64 0]) (by rfl) ?_ (fun w hS => (H4.out w).mono fun e w' ⟨h1, h2⟩ => ⟨h1, bq_trans hS h2⟩) ?_
  · (intro w hSw; go_simp)
  try simp only [Act.put, List.setIfInBounds_toArray, List.set_cons_zero, List.set_cons_succ]
  refine Det.det_load 48 4 _ Try.underlying48 rfl szRg _ rfl (by rfl) _ rfl _ _ (fun w hS => Bt_6.keep hS) rfl ?_
  try simp only [Act.put, List.setIfInBounds_toArray, List.set_cons_zero, List.set_cons_succ]
  refine Det.det_take (v := ?_) (by rfl) ?_ ?_
  rotate_left
  · (intro w hSw; have q := eqR14 0 0 0 0 w; go_simp; try with_reducible rfl)
  try simp only [Act.put, List.setIfInBounds_toArray, List.set_cons_zero, List.set_cons_succ]
  refine Det.det_take (v := ?_) (by rfl) ?_ ?_
  rotate_left
  · (intro w hSw; go_simp; try with_reducible rfl)
  try simp only [Act.put, List.setIfInBounds_toArray, List.set_cons_zero, List.set_cons_succ]
  refine Det.det_call (f := 14) (args := #[]) (v := .bool true) (by rfl) ?_ (fun w hS => (HA.out w).mono fun e w' ⟨h1, h2⟩ => ⟨h1, bq_trans hS h2⟩) ?_
  · (intro w hSw; go_simp)
  try simp only [Act.put, List.setIfInBounds_toArray, List.set_cons_zero, List.set_cons_succ]
  refine Det.det_take (v := ?_) (by rfl) ?_ ?_
  rotate_left
  · (intro w hSw; go_simp; try with_reducible rfl)
  try simp only [Act.put, List.setIfInBounds_toArray, List.set_cons_zero, List.set_cons_succ]
  refine Det.det_take (v := ?_) (by rfl) ?_ ?_
  rotate_left
  · (intro w hSw; go_simp; try with_reducible rfl)
  try simp only [Act.put, List.setIfInBounds_toArray, List.set_cons_zero, List.set_cons_succ]
  refine Det.det_nil (fun W7 k7 => ?_)
  have Bc_7 := Bc_6.keep k7
  have Bk_7 := Bk_6.keep k7
  have Bt_7 := Bt_6.keep k7
  have Hw7 := bq_trans Hw6 k7
  clear k7 Bc_6 Bk_6 Bt_6 Hw6
  go_wp2_with fail
  go_ret
  exact ⟨rfl, Hw7⟩
set_option maxHeartbeats 2000000 in
theorem colors14_law2 (m0 m1 m2 m3 d0 d1 d2 d3 kr kg kb ka r0 r1 r2 r3 : Int) (w : World) (HA : Hid (∀ W, Calls Try.prog 14 #[] W fun e w' => e = .returned (.bool true) ∧ Below W.heap.size W w')) (H1 : Hid (∀ W, Calls Try.prog 12 #[.agg #[.int .i64 m0, .int .i64 m1, .int .i64 m2, .int .i64 m3, .int .i64 d0, .int .i64 d1, .int .i64 d2, .int .i64 d3]] W fun e w' => e = .returned (.bool true) ∧ Below W.heap.size W w')) (H2 : Hid (∀ W, Calls Try.prog 24 #[.agg #[.int .i64 kr, .int .i64 kg, .int .i64 kb, .int .i64 ka]] W fun e w' => e = .returned (.bool true) ∧ Below W.heap.size W w')) (H3 : Hid (∀ W, Calls Try.prog 25 #[.agg #[.int .i64 m0, .int .i64 m1, .int .i64 m2, .int .i64 m3, .int .i64 d0, .int .i64 d1, .int .i64 d2, .int .i64 d3], .agg #[.int .i64 kr, .int .i64 kg, .int .i64 kb, .int .i64 ka]] W fun e w' => e = .returned (.agg #[.int .i64 r0, .int .i64 r1, .int .i64 r2, .int .i64 r3]) ∧ Below W.heap.size W w')) (H4 : Hid (∀ W, Calls Try.prog 26 #[.agg #[.int .i64 m0, .int .i64 m1, .int .i64 m2, .int .i64 m3, .int .i64 d0, .int .i64 d1, .int .i64 d2, .int .i64 d3], .agg #[.int .i64 kr, .int .i64 kg, .int .i64 kb, .int .i64 ka]] W fun e w' => e = .returned (.agg #[.int .i64 r0, .int .i64 r1, .int .i64 r2, .int .i64 r3]) ∧ Below W.heap.size W w')) :
    Calls Try.prog 6 #[.agg #[.int .i64 m0, .int .i64 m1, .int .i64 m2, .int .i64 m3, .int .i64 d0, .int .i64 d1, .int .i64 d2, .int .i64 d3], .agg #[.int .i64 kr, .int .i64 kg, .int .i64 kb, .int .i64 ka]] w fun e w' => e = .returned (.bool true) ∧ Below w.heap.size w w' := by
  go_enter Try.func6, Try.ntmps6
  go_upto_region 3 with (go_big_may; first
    | (refine wl_box 26 _ _ rfl rfl (show _ = Value.agg #[.int .i64 m0, .int .i64 m1, .int .i64 m2, .int .i64 m3, .int .i64 d0, .int .i64 d1, .int .i64 d2, .int .i64 d3] from rfl) ?_; intro W1 bc Bc_1 l1 k1; have gc : w.heap.size ≤ bc := l1; have Hw1 := k1; clear l1 k1)
    | (refine wl_box 48 _ _ rfl rfl (show _ = Value.agg #[.int .i64 kr, .int .i64 kg, .int .i64 kb, .int .i64 ka] from rfl) ?_; intro W2 bk Bk_2 l2 k2; have gk : w.heap.size ≤ bk := Nat.le_trans Hw1.size l2; have nck : bc ≠ bk := Nat.ne_of_lt (Nat.lt_of_lt_of_le Bc_1.lt l2); have Bc_2 := Bc_1.keep k2; have Hw2 := bq_trans Hw1 k2; clear l2 k2 Bc_1 Hw1)
    | (refine wl_alloc 48 _ zeRg rfl rfl ?_; intro W3 bt Bt_3 l3 k3; have gt : w.heap.size ≤ bt := Nat.le_trans Hw2.size l3; have nct : bc ≠ bt := Nat.ne_of_lt (Nat.lt_of_lt_of_le Bc_2.lt l3); have nkt : bk ≠ bt := Nat.ne_of_lt (Nat.lt_of_lt_of_le Bk_2.lt l3); have Bc_3 := Bc_2.keep k3; have Bk_3 := Bk_2.keep k3; have Hw3 := bq_trans Hw2 k3; clear l3 k3 Bc_2 Bk_2 Hw2)
    | (refine wl_store 48 4 szRg _ _ rfl rfl _ rfl #[.int .i64 0, .int .i64 0, .int .i64 0, .int .i64 0] rfl _ _ Bt_3 rfl rfl (by kernel_rfl) ?_; intro W4 Bt_4 T4; have Bc_4 := T4.blk Bc_3 nct; have Bk_4 := T4.blk Bk_3 nkt; have Hw4 := T4.below Hw3 gt; clear T4 Bc_3 Bk_3 Bt_3 Hw3)
    | (refine wl_load 26 8 _ Try.underlying26 rfl szCx _ rfl rfl _ rfl _ _ Bc_4 rfl ?_)
    | (go_at_call 12; (with_reducible refine (H1.out _).mono ?_); rintro e W5 ⟨rfl, k5⟩; have Bc_5 := Bc_4.keep k5; have Bk_5 := Bk_4.keep k5; have Bt_5 := Bt_4.keep k5; have Hw5 := bq_trans Hw4 k5; clear k5 Bc_4 Bk_4 Bt_4 Hw4)
    | (refine wlg_load 48 4 _ Try.underlying48 rfl szRg _ rfl rfl _ rfl _ _ Bk_5 rfl ?_)
    | (go_at_call 24; (with_reducible refine (H2.out _).mono ?_); rintro e W6 ⟨rfl, k6⟩; have Bc_6 := Bc_5.keep k6; have Bk_6 := Bk_5.keep k6; have Bt_6 := Bt_5.keep k6; have Hw6 := bq_trans Hw5 k6; clear k6 Bc_5 Bk_5 Bt_5 Hw5))
  go_upto_region 4 with (go_big_may; first
    | (refine wl_load 26 8 _ Try.underlying26 rfl szCx _ rfl rfl _ rfl _ _ Bc_6 rfl ?_)
    | (refine wl_load 48 4 _ Try.underlying48 rfl szRg _ rfl rfl _ rfl _ _ Bk_6 rfl ?_)
    | (go_at_call 25; (with_reducible refine (H3.out _).mono ?_); rintro e W7 ⟨rfl, k7⟩; have Bc_7 := Bc_6.keep k7; have Bk_7 := Bk_6.keep k7; have Bt_7 := Bt_6.keep k7; have Hw7 := bq_trans Hw6 k7; clear k7 Bc_6 Bk_6 Bt_6 Hw6)
    | (refine wl_store 48 4 szRg _ _ rfl rfl _ rfl #[.int .i64 r0, .int .i64 r1, .int .i64 r2, .int .i64 r3] rfl _ _ Bt_7 rfl rfl (by kernel_rfl) ?_; intro W8 Bt_8 T8; have Bc_8 := T8.blk Bc_7 nct; have Bk_8 := T8.blk Bk_7 nkt; have Hw8 := T8.below Hw7 gt; clear T8 Bc_7 Bk_7 Bt_7 Hw7))
  refine Det.wp_region_det (S := fun w' => Below W8.heap.size W8 w') (by kernel_rfl) (by kernel_rfl) (bq_drew (bq_refl _)) ?_
  refine Det.det_load 26 8 _ Try.underlying26 rfl szCx _ rfl (by rfl) _ rfl _ _ (fun w hS => Bc_8.keep hS) rfl ?_
  try simp only [Act.put, List.setIfInBounds_toArray, List.set_cons_zero, List.set_cons_succ]
  refine Det.det_load 48 4 _ Try.underlying48 rfl szRg _ rfl (by rfl) _ rfl _ _ (fun w hS => Bk_8.keep hS) rfl ?_
  try simp only [Act.put, List.setIfInBounds_toArray, List.set_cons_zero, List.set_cons_succ]
  refine Det.det_call (f := 26) (args := #[.agg #[.int .i64 m0, .int .i64 m1, .int .i64 m2, .int .i64 m3, .int .i64 d0, .int .i64 d1, .int .i64 d2, .int .i64 d3], .agg #[.int .i64 kr, .int .i64 kg, .int .i64 kb, .int .i64 ka]]) (v := .agg #[.int .i64 r0, .int .i64 r1, .int .i64 r2, .int .i64 r3]) (by rfl) ?_ (fun w hS => (H4.out w).mono fun e w' ⟨h1, h2⟩ => ⟨h1, bq_trans hS h2⟩) ?_
  · (intro w hSw; go_simp)
  try simp only [Act.put, List.setIfInBounds_toArray, List.set_cons_zero, List.set_cons_succ]
  refine Det.det_load 48 4 _ Try.underlying48 rfl szRg _ rfl (by rfl) _ rfl _ _ (fun w hS => Bt_8.keep hS) rfl ?_
  try simp only [Act.put, List.setIfInBounds_toArray, List.set_cons_zero, List.set_cons_succ]
  refine Det.det_take (v := ?_) (by rfl) ?_ ?_
  rotate_left
  · (intro w hSw; have q := eqR14 r0 r1 r2 r3 w; go_simp; try with_reducible rfl)
  try simp only [Act.put, List.setIfInBounds_toArray, List.set_cons_zero, List.set_cons_succ]
  refine Det.det_take (v := ?_) (by rfl) ?_ ?_
  rotate_left
  · (intro w hSw; go_simp; try with_reducible rfl)
  try simp only [Act.put, List.setIfInBounds_toArray, List.set_cons_zero, List.set_cons_succ]
  refine Det.det_call (f := 14) (args := #[]) (v := .bool true) (by rfl) ?_ (fun w hS => (HA.out w).mono fun e w' ⟨h1, h2⟩ => ⟨h1, bq_trans hS h2⟩) ?_
  · (intro w hSw; go_simp)
  try simp only [Act.put, List.setIfInBounds_toArray, List.set_cons_zero, List.set_cons_succ]
  refine Det.det_take (v := ?_) (by rfl) ?_ ?_
  rotate_left
  · (intro w hSw; go_simp; try with_reducible rfl)
  try simp only [Act.put, List.setIfInBounds_toArray, List.set_cons_zero, List.set_cons_succ]
  refine Det.det_take (v := ?_) (by rfl) ?_ ?_
  rotate_left
  · (intro w hSw; go_simp; try with_reducible rfl)
  try simp only [Act.put, List.setIfInBounds_toArray, List.set_cons_zero, List.set_cons_succ]
  refine Det.det_nil (fun W9 k9 => ?_)
  have Bc_9 := Bc_8.keep k9
  have Bk_9 := Bk_8.keep k9
  have Bt_9 := Bt_8.keep k9
  have Hw9 := bq_trans Hw8 k9
  clear k9 Bc_8 Bk_8 Bt_8 Hw8
  go_wp2_with fail
  go_ret
  exact ⟨rfl, Hw9⟩
theorem affineColors_walk (m0 m1 m2 m3 d0 d1 d2 d3 kr kg kb ka : Int) (w : World) (hc : I64C m0 m1 m2 m3 d0 d1 d2 d3) (h0 : I64 kr) (h1 : I64 kg) (h2 : I64 kb) (h3 : I64 ka) : Calls Try.prog 6 #[.agg #[.int .i64 m0, .int .i64 m1, .int .i64 m2, .int .i64 m3, .int .i64 d0, .int .i64 d1, .int .i64 d2, .int .i64 d3], .agg #[.int .i64 kr, .int .i64 kg, .int .i64 kb, .int .i64 ka]] w fun e w' => e = .returned (.bool true) ∧ Below w.heap.size w w' := by
  have H1 := Lib.hid fun W => rrightc m0 m1 m2 m3 d0 d1 d2 d3 W
  have H2 := Lib.hid fun W => refrgba_any kr kg kb ka W h0 h1 h2 h3
  have H4 := Lib.hid fun W => color14_any m0 m1 m2 m3 d0 d1 d2 d3 kr kg kb ka W hc h0 h1 h2 h3
  cases q1 : cxOk8 m0 m1 m2 m3 d0 d1 d2 d3 with
  | false =>
    rw [colV_no (by rw [q1]; rfl)] at H4
    exact colors14_law0 m0 m1 m2 m3 d0 d1 d2 d3 kr kg kb ka 0 0 0 0 w (Lib.hid awake14_any) (Lib.hid fun W => q1 ▸ H1.out W) H4
  | true =>
    cases q2 : rgbaOk kr kg kb ka with
    | false =>
      rw [colV_no (by rw [q1, q2]; rfl)] at H4
      rw [q2] at H2
      exact colors14_law1 m0 m1 m2 m3 d0 d1 d2 d3 kr kg kb ka 0 0 0 0 w (Lib.hid awake14_any) (Lib.hid fun W => q1 ▸ H1.out W) H2 H4
    | true =>
      have H3 := Lib.hid fun W => rcolor14_any m0 m1 m2 m3 d0 d1 d2 d3 kr kg kb ka W q1 q2
      rw [colV_yes q1 q2] at H3 H4
      rw [q2] at H2
      exact colors14_law2 m0 m1 m2 m3 d0 d1 d2 d3 kr kg kb ka _ _ _ _ w (Lib.hid awake14_any) (Lib.hid fun W => q1 ▸ H1.out W) H2 H3 H4
set_option maxHeartbeats 2000000 in
theorem composes14_law0 (A B C D X Y ia ib ic id ix iy om0 om1 om2 om3 od0 od1 od2 od3 im0 im1 im2 im3 id0 id1 id2 id3 r0 r1 r2 r3 r4 r5 ev s0 s1 s2 s3 s4 s5 s6 s7 : Int) (w : World) (HA : Hid (∀ W, Calls Try.prog 14 #[] W fun e w' => e = .returned (.bool true) ∧ Below W.heap.size W w'))
    (H1 : Hid (∀ W, Calls Try.prog 9 #[.agg #[.int .i64 A, .int .i64 B, .int .i64 C, .int .i64 D, .int .i64 X, .int .i64 Y], .agg #[.int .i64 ia, .int .i64 ib, .int .i64 ic, .int .i64 id, .int .i64 ix, .int .i64 iy]] W fun e w' => e = .returned (.tuple #[.agg #[.int .i64 r0, .int .i64 r1, .int .i64 r2, .int .i64 r3, .int .i64 r4, .int .i64 r5], .int .i64 ev]) ∧ Below W.heap.size W w')) (H2 : Hid (∀ W, Calls Try.prog 10 #[.agg #[.int .i64 A, .int .i64 B, .int .i64 C, .int .i64 D, .int .i64 X, .int .i64 Y], .agg #[.int .i64 ia, .int .i64 ib, .int .i64 ic, .int .i64 id, .int .i64 ix, .int .i64 iy]] W fun e w' => e = .returned (.tuple #[.agg #[.int .i64 r0, .int .i64 r1, .int .i64 r2, .int .i64 r3, .int .i64 r4, .int .i64 r5], .int .i64 ev]) ∧ Below W.heap.size W w')) (H3 : Hid (∀ W, Calls Try.prog 11 #[.agg #[.int .i64 om0, .int .i64 om1, .int .i64 om2, .int .i64 om3, .int .i64 od0, .int .i64 od1, .int .i64 od2, .int .i64 od3], .agg #[.int .i64 im0, .int .i64 im1, .int .i64 im2, .int .i64 im3, .int .i64 id0, .int .i64 id1, .int .i64 id2, .int .i64 id3]] W fun e w' => e = .returned (.agg #[.int .i64 0, .int .i64 0, .int .i64 0, .int .i64 0, .int .i64 0, .int .i64 0, .int .i64 0, .int .i64 0]) ∧ Below W.heap.size W w')) (H4 : Hid (∀ W, Calls Try.prog 12 #[.agg #[.int .i64 om0, .int .i64 om1, .int .i64 om2, .int .i64 om3, .int .i64 od0, .int .i64 od1, .int .i64 od2, .int .i64 od3]] W fun e w' => e = .returned (.bool false) ∧ Below W.heap.size W w'))  :
    Calls Try.prog 3 #[.agg #[.int .i64 A, .int .i64 B, .int .i64 C, .int .i64 D, .int .i64 X, .int .i64 Y], .agg #[.int .i64 ia, .int .i64 ib, .int .i64 ic, .int .i64 id, .int .i64 ix, .int .i64 iy], .agg #[.int .i64 om0, .int .i64 om1, .int .i64 om2, .int .i64 om3, .int .i64 od0, .int .i64 od1, .int .i64 od2, .int .i64 od3], .agg #[.int .i64 im0, .int .i64 im1, .int .i64 im2, .int .i64 im3, .int .i64 id0, .int .i64 id1, .int .i64 id2, .int .i64 id3]] w fun e w' => e = .returned (.bool true) ∧ Below w.heap.size w w' := by
  go_enter Try.func3, Try.ntmps3
  go_upto_region 1 with (go_big_may; first
    | (refine wl_box 23 _ _ rfl rfl (show _ = Value.agg #[.int .i64 A, .int .i64 B, .int .i64 C, .int .i64 D, .int .i64 X, .int .i64 Y] from rfl) ?_; intro W1 bm Bm_1 l1 k1; have gm : w.heap.size ≤ bm := l1; have Hw1 := k1; clear l1 k1)
    | (refine wl_box 23 _ _ rfl rfl (show _ = Value.agg #[.int .i64 ia, .int .i64 ib, .int .i64 ic, .int .i64 id, .int .i64 ix, .int .i64 iy] from rfl) ?_; intro W2 bi Bi_2 l2 k2; have gi : w.heap.size ≤ bi := Nat.le_trans Hw1.size l2; have nmi : bm ≠ bi := Nat.ne_of_lt (Nat.lt_of_lt_of_le Bm_1.lt l2); have Bm_2 := Bm_1.keep k2; have Hw2 := bq_trans Hw1 k2; clear l2 k2 Bm_1 Hw1)
    | (refine wl_box 26 _ _ rfl rfl (show _ = Value.agg #[.int .i64 om0, .int .i64 om1, .int .i64 om2, .int .i64 om3, .int .i64 od0, .int .i64 od1, .int .i64 od2, .int .i64 od3] from rfl) ?_; intro W3 bc Bc_3 l3 k3; have gc : w.heap.size ≤ bc := Nat.le_trans Hw2.size l3; have nmc : bm ≠ bc := Nat.ne_of_lt (Nat.lt_of_lt_of_le Bm_2.lt l3); have nic : bi ≠ bc := Nat.ne_of_lt (Nat.lt_of_lt_of_le Bi_2.lt l3); have Bm_3 := Bm_2.keep k3; have Bi_3 := Bi_2.keep k3; have Hw3 := bq_trans Hw2 k3; clear l3 k3 Bm_2 Bi_2 Hw2)
    | (refine wl_box 26 _ _ rfl rfl (show _ = Value.agg #[.int .i64 im0, .int .i64 im1, .int .i64 im2, .int .i64 im3, .int .i64 id0, .int .i64 id1, .int .i64 id2, .int .i64 id3] from rfl) ?_; intro W4 bd Bd_4 l4 k4; have gd : w.heap.size ≤ bd := Nat.le_trans Hw3.size l4; have nmd : bm ≠ bd := Nat.ne_of_lt (Nat.lt_of_lt_of_le Bm_3.lt l4); have nid : bi ≠ bd := Nat.ne_of_lt (Nat.lt_of_lt_of_le Bi_3.lt l4); have ncd : bc ≠ bd := Nat.ne_of_lt (Nat.lt_of_lt_of_le Bc_3.lt l4); have Bm_4 := Bm_3.keep k4; have Bi_4 := Bi_3.keep k4; have Bc_4 := Bc_3.keep k4; have Hw4 := bq_trans Hw3 k4; clear l4 k4 Bm_3 Bi_3 Bc_3 Hw3))
  go_upto_region 2 with (go_big_may; first
    | (refine wl_load 23 6 _ Try.underlying23 rfl szMt _ rfl rfl _ rfl _ _ Bm_4 rfl ?_)
    | (refine wl_load 23 6 _ Try.underlying23 rfl szMt _ rfl rfl _ rfl _ _ Bi_4 rfl ?_)
    | (go_at_call 9; (with_reducible refine (H1.out _).mono ?_); rintro e W5 ⟨rfl, k5⟩; have Bm_5 := Bm_4.keep k5; have Bi_5 := Bi_4.keep k5; have Bc_5 := Bc_4.keep k5; have Bd_5 := Bd_4.keep k5; have Hw5 := bq_trans Hw4 k5; clear k5 Bm_4 Bi_4 Bc_4 Bd_4 Hw4)
    | (refine wl_alloc 23 _ zeMt rfl rfl ?_; intro W6 ba Ba_6 l6 k6; have ga : w.heap.size ≤ ba := Nat.le_trans Hw5.size l6; have nma : bm ≠ ba := Nat.ne_of_lt (Nat.lt_of_lt_of_le Bm_5.lt l6); have nia : bi ≠ ba := Nat.ne_of_lt (Nat.lt_of_lt_of_le Bi_5.lt l6); have nca : bc ≠ ba := Nat.ne_of_lt (Nat.lt_of_lt_of_le Bc_5.lt l6); have nda : bd ≠ ba := Nat.ne_of_lt (Nat.lt_of_lt_of_le Bd_5.lt l6); have Bm_6 := Bm_5.keep k6; have Bi_6 := Bi_5.keep k6; have Bc_6 := Bc_5.keep k6; have Bd_6 := Bd_5.keep k6; have Hw6 := bq_trans Hw5 k6; clear l6 k6 Bm_5 Bi_5 Bc_5 Bd_5 Hw5)
    | (refine wl_store 23 6 szMt _ _ rfl rfl _ rfl #[.int .i64 r0, .int .i64 r1, .int .i64 r2, .int .i64 r3, .int .i64 r4, .int .i64 r5] rfl _ _ Ba_6 rfl rfl (by kernel_rfl) ?_; intro W7 Ba_7 T7; have Bm_7 := T7.blk Bm_6 nma; have Bi_7 := T7.blk Bi_6 nia; have Bc_7 := T7.blk Bc_6 nca; have Bd_7 := T7.blk Bd_6 nda; have Hw7 := T7.below Hw6 ga; clear T7 Bm_6 Bi_6 Bc_6 Bd_6 Ba_6 Hw6))
  go_upto_region 3 with (go_big_may; first
    | (refine wl_load 23 6 _ Try.underlying23 rfl szMt _ rfl rfl _ rfl _ _ Bm_7 rfl ?_)
    | (refine wl_load 23 6 _ Try.underlying23 rfl szMt _ rfl rfl _ rfl _ _ Bi_7 rfl ?_)
    | (go_at_call 10; (with_reducible refine (H2.out _).mono ?_); rintro e W8 ⟨rfl, k8⟩; have Bm_8 := Bm_7.keep k8; have Bi_8 := Bi_7.keep k8; have Bc_8 := Bc_7.keep k8; have Bd_8 := Bd_7.keep k8; have Ba_8 := Ba_7.keep k8; have Hw8 := bq_trans Hw7 k8; clear k8 Bm_7 Bi_7 Bc_7 Bd_7 Ba_7 Hw7)
    | (refine wl_alloc 23 _ zeMt rfl rfl ?_; intro W9 bb Bb_9 l9 k9; have gb : w.heap.size ≤ bb := Nat.le_trans Hw8.size l9; have nmb : bm ≠ bb := Nat.ne_of_lt (Nat.lt_of_lt_of_le Bm_8.lt l9); have nib : bi ≠ bb := Nat.ne_of_lt (Nat.lt_of_lt_of_le Bi_8.lt l9); have ncb : bc ≠ bb := Nat.ne_of_lt (Nat.lt_of_lt_of_le Bc_8.lt l9); have ndb : bd ≠ bb := Nat.ne_of_lt (Nat.lt_of_lt_of_le Bd_8.lt l9); have nab : ba ≠ bb := Nat.ne_of_lt (Nat.lt_of_lt_of_le Ba_8.lt l9); have Bm_9 := Bm_8.keep k9; have Bi_9 := Bi_8.keep k9; have Bc_9 := Bc_8.keep k9; have Bd_9 := Bd_8.keep k9; have Ba_9 := Ba_8.keep k9; have Hw9 := bq_trans Hw8 k9; clear l9 k9 Bm_8 Bi_8 Bc_8 Bd_8 Ba_8 Hw8)
    | (refine wl_store 23 6 szMt _ _ rfl rfl _ rfl #[.int .i64 r0, .int .i64 r1, .int .i64 r2, .int .i64 r3, .int .i64 r4, .int .i64 r5] rfl _ _ Bb_9 rfl rfl (by kernel_rfl) ?_; intro W10 Bb_10 T10; have Bm_10 := T10.blk Bm_9 nmb; have Bi_10 := T10.blk Bi_9 nib; have Bc_10 := T10.blk Bc_9 ncb; have Bd_10 := T10.blk Bd_9 ndb; have Ba_10 := T10.blk Ba_9 nab; have Hw10 := T10.below Hw9 gb; clear T10 Bm_9 Bi_9 Bc_9 Bd_9 Ba_9 Bb_9 Hw9))
  go_upto_region 4 with (go_big_may; first
    | (refine wl_load 26 8 _ Try.underlying26 rfl szCx _ rfl rfl _ rfl _ _ Bc_10 rfl ?_)
    | (refine wl_load 26 8 _ Try.underlying26 rfl szCx _ rfl rfl _ rfl _ _ Bd_10 rfl ?_)
    | (go_at_call 11; (with_reducible refine (H3.out _).mono ?_); rintro e W11 ⟨rfl, k11⟩; have Bm_11 := Bm_10.keep k11; have Bi_11 := Bi_10.keep k11; have Bc_11 := Bc_10.keep k11; have Bd_11 := Bd_10.keep k11; have Ba_11 := Ba_10.keep k11; have Bb_11 := Bb_10.keep k11; have Hw11 := bq_trans Hw10 k11; clear k11 Bm_10 Bi_10 Bc_10 Bd_10 Ba_10 Bb_10 Hw10)
    | (refine wl_alloc 26 _ zeCx rfl rfl ?_; intro W12 bx Bx_12 l12 k12; have gx : w.heap.size ≤ bx := Nat.le_trans Hw11.size l12; have nmx : bm ≠ bx := Nat.ne_of_lt (Nat.lt_of_lt_of_le Bm_11.lt l12); have nix : bi ≠ bx := Nat.ne_of_lt (Nat.lt_of_lt_of_le Bi_11.lt l12); have ncx : bc ≠ bx := Nat.ne_of_lt (Nat.lt_of_lt_of_le Bc_11.lt l12); have ndx : bd ≠ bx := Nat.ne_of_lt (Nat.lt_of_lt_of_le Bd_11.lt l12); have nax : ba ≠ bx := Nat.ne_of_lt (Nat.lt_of_lt_of_le Ba_11.lt l12); have nbx : bb ≠ bx := Nat.ne_of_lt (Nat.lt_of_lt_of_le Bb_11.lt l12); have Bm_12 := Bm_11.keep k12; have Bi_12 := Bi_11.keep k12; have Bc_12 := Bc_11.keep k12; have Bd_12 := Bd_11.keep k12; have Ba_12 := Ba_11.keep k12; have Bb_12 := Bb_11.keep k12; have Hw12 := bq_trans Hw11 k12; clear l12 k12 Bm_11 Bi_11 Bc_11 Bd_11 Ba_11 Bb_11 Hw11)
    | (refine wl_store 26 8 szCx _ _ rfl rfl _ rfl #[.int .i64 0, .int .i64 0, .int .i64 0, .int .i64 0, .int .i64 0, .int .i64 0, .int .i64 0, .int .i64 0] rfl _ _ Bx_12 rfl rfl (by kernel_rfl) ?_; intro W13 Bx_13 T13; have Bm_13 := T13.blk Bm_12 nmx; have Bi_13 := T13.blk Bi_12 nix; have Bc_13 := T13.blk Bc_12 ncx; have Bd_13 := T13.blk Bd_12 ndx; have Ba_13 := T13.blk Ba_12 nax; have Bb_13 := T13.blk Bb_12 nbx; have Hw13 := T13.below Hw12 gx; clear T13 Bm_12 Bi_12 Bc_12 Bd_12 Ba_12 Bb_12 Bx_12 Hw12))
  go_upto_region 5 with (go_big_may; first
    | (refine wl_alloc 26 _ zeCx rfl rfl ?_; intro W14 bt Bt_14 l14 k14; have gt : w.heap.size ≤ bt := Nat.le_trans Hw13.size l14; have nmt : bm ≠ bt := Nat.ne_of_lt (Nat.lt_of_lt_of_le Bm_13.lt l14); have nit : bi ≠ bt := Nat.ne_of_lt (Nat.lt_of_lt_of_le Bi_13.lt l14); have nct : bc ≠ bt := Nat.ne_of_lt (Nat.lt_of_lt_of_le Bc_13.lt l14); have ndt : bd ≠ bt := Nat.ne_of_lt (Nat.lt_of_lt_of_le Bd_13.lt l14); have nat : ba ≠ bt := Nat.ne_of_lt (Nat.lt_of_lt_of_le Ba_13.lt l14); have nbt : bb ≠ bt := Nat.ne_of_lt (Nat.lt_of_lt_of_le Bb_13.lt l14); have nxt : bx ≠ bt := Nat.ne_of_lt (Nat.lt_of_lt_of_le Bx_13.lt l14); have Bm_14 := Bm_13.keep k14; have Bi_14 := Bi_13.keep k14; have Bc_14 := Bc_13.keep k14; have Bd_14 := Bd_13.keep k14; have Ba_14 := Ba_13.keep k14; have Bb_14 := Bb_13.keep k14; have Bx_14 := Bx_13.keep k14; have Hw14 := bq_trans Hw13 k14; clear l14 k14 Bm_13 Bi_13 Bc_13 Bd_13 Ba_13 Bb_13 Bx_13 Hw13)
    | (refine wl_store 26 8 szCx _ _ rfl rfl _ rfl #[.int .i64 0, .int .i64 0, .int .i64 0, .int .i64 0, .int .i64 0, .int .i64 0, .int .i64 0, .int .i64 0] rfl _ _ Bt_14 rfl rfl (by kernel_rfl) ?_; intro W15 Bt_15 T15; have Bm_15 := T15.blk Bm_14 nmt; have Bi_15 := T15.blk Bi_14 nit; have Bc_15 := T15.blk Bc_14 nct; have Bd_15 := T15.blk Bd_14 ndt; have Ba_15 := T15.blk Ba_14 nat; have Bb_15 := T15.blk Bb_14 nbt; have Bx_15 := T15.blk Bx_14 nxt; have Hw15 := T15.below Hw14 gt; clear T15 Bm_14 Bi_14 Bc_14 Bd_14 Ba_14 Bb_14 Bx_14 Bt_14 Hw14))
  go_upto_region 7 with (go_big_may; first
    | (refine wl_load 26 8 _ Try.underlying26 rfl szCx _ rfl rfl _ rfl _ _ Bc_15 rfl ?_)
    | (go_at_call 12; (with_reducible refine (H4.out _).mono ?_); rintro e W16 ⟨rfl, k16⟩; have Bm_16 := Bm_15.keep k16; have Bi_16 := Bi_15.keep k16; have Bc_16 := Bc_15.keep k16; have Bd_16 := Bd_15.keep k16; have Ba_16 := Ba_15.keep k16; have Bb_16 := Bb_15.keep k16; have Bx_16 := Bx_15.keep k16; have Bt_16 := Bt_15.keep k16; have Hw16 := bq_trans Hw15 k16; clear k16 Bm_15 Bi_15 Bc_15 Bd_15 Ba_15 Bb_15 Bx_15 Bt_15 Hw15))
  refine Det.wp_region_text (S := fun w' => Below W16.heap.size W16 w') (bq_refl _) ?_
  refine Det.det_load 23 6 _ Try.underlying23 rfl szMt _ rfl (by rfl) _ rfl _ _ (fun w hS => Ba_16.keep hS) rfl ?_
  try simp only [Act.put, List.setIfInBounds_toArray, List.set_cons_zero, List.set_cons_succ]
  refine Det.det_load 23 6 _ Try.underlying23 rfl szMt _ rfl (by rfl) _ rfl _ _ (fun w hS => Bb_16.keep hS) rfl ?_
  try simp only [Act.put, List.setIfInBounds_toArray, List.set_cons_zero, List.set_cons_succ]
  refine Det.det_take (v := ?_) (by rfl) ?_ ?_
  rotate_left
  · (intro w hSw; have q := eqM14 r0 r1 r2 r3 r4 r5 w; go_simp; try with_reducible rfl)
  try simp only [Act.put, List.setIfInBounds_toArray, List.set_cons_zero, List.set_cons_succ]
  refine Det.det_take (v := ?_) (by rfl) ?_ ?_
  rotate_left
  · (intro w hSw; go_simp; try with_reducible rfl)
  try simp only [Act.put, List.setIfInBounds_toArray, List.set_cons_zero, List.set_cons_succ]
  refine Det.det_take (v := ?_) (by rfl) ?_ ?_
  rotate_left
  · (intro w hSw; go_simp; try with_reducible rfl)
  try simp only [Act.put, List.setIfInBounds_toArray, List.set_cons_zero, List.set_cons_succ]
  refine Det.det_take (v := ?_) (by rfl) ?_ ?_
  rotate_left
  · (intro w hSw; go_simp; try with_reducible rfl)
  try simp only [Act.put, List.setIfInBounds_toArray, List.set_cons_zero, List.set_cons_succ]
  refine Det.det_take (v := ?_) (by rfl) ?_ ?_
  rotate_left
  · (intro w hSw; go_simp; try with_reducible rfl)
  try simp only [Act.put, List.setIfInBounds_toArray, List.set_cons_zero, List.set_cons_succ]
  refine Det.det_take (v := ?_) (by rfl) ?_ ?_
  rotate_left
  · (intro w hSw; go_simp; try with_reducible rfl)
  try simp only [Act.put, List.setIfInBounds_toArray, List.set_cons_zero, List.set_cons_succ]
  refine Det.det_take (v := ?_) (by rfl) ?_ ?_
  rotate_left
  · (intro w hSw; go_simp; try with_reducible rfl)
  try simp only [Act.put, List.setIfInBounds_toArray, List.set_cons_zero, List.set_cons_succ]
  refine Det.det_load 26 8 _ Try.underlying26 rfl szCx _ rfl (by rfl) _ rfl _ _ (fun w hS => Bx_16.keep hS) rfl ?_
  try simp only [Act.put, List.setIfInBounds_toArray, List.set_cons_zero, List.set_cons_succ]
  refine Det.det_load 26 8 _ Try.underlying26 rfl szCx _ rfl (by rfl) _ rfl _ _ (fun w hS => Bt_16.keep hS) rfl ?_
  try simp only [Act.put, List.setIfInBounds_toArray, List.set_cons_zero, List.set_cons_succ]
  refine Det.det_take (v := ?_) (by rfl) ?_ ?_
  rotate_left
  · (intro w hSw; have q1 : (Op.equalIn 9999 24 (.agg #[.int .i64 0, .int .i64 0, .int .i64 0, .int .i64 0]) (.agg #[.int .i64 0, .int .i64 0, .int .i64 0, .int .i64 0])).run Try.prog w = .ok true w := eqA14 0 0 0 0 9997 w; have q2 : (Op.equalIn 9999 24 (.agg #[.int .i64 0, .int .i64 0, .int .i64 0, .int .i64 0]) (.agg #[.int .i64 0, .int .i64 0, .int .i64 0, .int .i64 0])).run Try.prog w = .ok true w := eqA14 0 0 0 0 9997 w; go_simp; try with_reducible rfl)
  try simp only [Act.put, List.setIfInBounds_toArray, List.set_cons_zero, List.set_cons_succ]
  refine Det.det_take (v := ?_) (by rfl) ?_ ?_
  rotate_left
  · (intro w hSw; go_simp; try with_reducible rfl)
  try simp only [Act.put, List.setIfInBounds_toArray, List.set_cons_zero, List.set_cons_succ]
  refine Det.det_take (v := ?_) (by rfl) ?_ ?_
  rotate_left
  · (intro w hSw; go_simp; try with_reducible rfl)
  try simp only [Act.put, List.setIfInBounds_toArray, List.set_cons_zero, List.set_cons_succ]
  refine Det.det_call (f := 14) (args := #[]) (v := .bool true) (by rfl) ?_ (fun w hS => (HA.out w).mono fun e w' ⟨h1, h2⟩ => ⟨h1, bq_trans hS h2⟩) ?_
  · (intro w hSw; go_simp)
  try simp only [Act.put, List.setIfInBounds_toArray, List.set_cons_zero, List.set_cons_succ]
  refine Det.det_take (v := ?_) (by rfl) ?_ ?_
  rotate_left
  · (intro w hSw; go_simp; try with_reducible rfl)
  try simp only [Act.put, List.setIfInBounds_toArray, List.set_cons_zero, List.set_cons_succ]
  refine Det.det_take (v := ?_) (by rfl) ?_ ?_
  rotate_left
  · (intro w hSw; go_simp; try with_reducible rfl)
  try simp only [Act.put, List.setIfInBounds_toArray, List.set_cons_zero, List.set_cons_succ]
  refine Det.det_nil (fun W17 k17 => ?_)
  have Bm_17 := Bm_16.keep k17
  have Bi_17 := Bi_16.keep k17
  have Bc_17 := Bc_16.keep k17
  have Bd_17 := Bd_16.keep k17
  have Ba_17 := Ba_16.keep k17
  have Bb_17 := Bb_16.keep k17
  have Bx_17 := Bx_16.keep k17
  have Bt_17 := Bt_16.keep k17
  have Hw17 := bq_trans Hw16 k17
  clear k17 Bm_16 Bi_16 Bc_16 Bd_16 Ba_16 Bb_16 Bx_16 Bt_16 Hw16
  go_wp2_with fail
  go_ret
  exact ⟨rfl, Hw17⟩
set_option maxHeartbeats 2000000 in
theorem composes14_law1 (A B C D X Y ia ib ic id ix iy om0 om1 om2 om3 od0 od1 od2 od3 im0 im1 im2 im3 id0 id1 id2 id3 r0 r1 r2 r3 r4 r5 ev s0 s1 s2 s3 s4 s5 s6 s7 : Int) (w : World) (HA : Hid (∀ W, Calls Try.prog 14 #[] W fun e w' => e = .returned (.bool true) ∧ Below W.heap.size W w'))
    (H1 : Hid (∀ W, Calls Try.prog 9 #[.agg #[.int .i64 A, .int .i64 B, .int .i64 C, .int .i64 D, .int .i64 X, .int .i64 Y], .agg #[.int .i64 ia, .int .i64 ib, .int .i64 ic, .int .i64 id, .int .i64 ix, .int .i64 iy]] W fun e w' => e = .returned (.tuple #[.agg #[.int .i64 r0, .int .i64 r1, .int .i64 r2, .int .i64 r3, .int .i64 r4, .int .i64 r5], .int .i64 ev]) ∧ Below W.heap.size W w')) (H2 : Hid (∀ W, Calls Try.prog 10 #[.agg #[.int .i64 A, .int .i64 B, .int .i64 C, .int .i64 D, .int .i64 X, .int .i64 Y], .agg #[.int .i64 ia, .int .i64 ib, .int .i64 ic, .int .i64 id, .int .i64 ix, .int .i64 iy]] W fun e w' => e = .returned (.tuple #[.agg #[.int .i64 r0, .int .i64 r1, .int .i64 r2, .int .i64 r3, .int .i64 r4, .int .i64 r5], .int .i64 ev]) ∧ Below W.heap.size W w')) (H3 : Hid (∀ W, Calls Try.prog 11 #[.agg #[.int .i64 om0, .int .i64 om1, .int .i64 om2, .int .i64 om3, .int .i64 od0, .int .i64 od1, .int .i64 od2, .int .i64 od3], .agg #[.int .i64 im0, .int .i64 im1, .int .i64 im2, .int .i64 im3, .int .i64 id0, .int .i64 id1, .int .i64 id2, .int .i64 id3]] W fun e w' => e = .returned (.agg #[.int .i64 0, .int .i64 0, .int .i64 0, .int .i64 0, .int .i64 0, .int .i64 0, .int .i64 0, .int .i64 0]) ∧ Below W.heap.size W w')) (H4 : Hid (∀ W, Calls Try.prog 12 #[.agg #[.int .i64 om0, .int .i64 om1, .int .i64 om2, .int .i64 om3, .int .i64 od0, .int .i64 od1, .int .i64 od2, .int .i64 od3]] W fun e w' => e = .returned (.bool true) ∧ Below W.heap.size W w')) (H5 : Hid (∀ W, Calls Try.prog 12 #[.agg #[.int .i64 im0, .int .i64 im1, .int .i64 im2, .int .i64 im3, .int .i64 id0, .int .i64 id1, .int .i64 id2, .int .i64 id3]] W fun e w' => e = .returned (.bool false) ∧ Below W.heap.size W w'))  :
    Calls Try.prog 3 #[.agg #[.int .i64 A, .int .i64 B, .int .i64 C, .int .i64 D, .int .i64 X, .int .i64 Y], .agg #[.int .i64 ia, .int .i64 ib, .int .i64 ic, .int .i64 id, .int .i64 ix, .int .i64 iy], .agg #[.int .i64 om0, .int .i64 om1, .int .i64 om2, .int .i64 om3, .int .i64 od0, .int .i64 od1, .int .i64 od2, .int .i64 od3], .agg #[.int .i64 im0, .int .i64 im1, .int .i64 im2, .int .i64 im3, .int .i64 id0, .int .i64 id1, .int .i64 id2, .int .i64 id3]] w fun e w' => e = .returned (.bool true) ∧ Below w.heap.size w w' := by
  go_enter Try.func3, Try.ntmps3
  go_upto_region 1 with (go_big_may; first
    | (refine wl_box 23 _ _ rfl rfl (show _ = Value.agg #[.int .i64 A, .int .i64 B, .int .i64 C, .int .i64 D, .int .i64 X, .int .i64 Y] from rfl) ?_; intro W1 bm Bm_1 l1 k1; have gm : w.heap.size ≤ bm := l1; have Hw1 := k1; clear l1 k1)
    | (refine wl_box 23 _ _ rfl rfl (show _ = Value.agg #[.int .i64 ia, .int .i64 ib, .int .i64 ic, .int .i64 id, .int .i64 ix, .int .i64 iy] from rfl) ?_; intro W2 bi Bi_2 l2 k2; have gi : w.heap.size ≤ bi := Nat.le_trans Hw1.size l2; have nmi : bm ≠ bi := Nat.ne_of_lt (Nat.lt_of_lt_of_le Bm_1.lt l2); have Bm_2 := Bm_1.keep k2; have Hw2 := bq_trans Hw1 k2; clear l2 k2 Bm_1 Hw1)
    | (refine wl_box 26 _ _ rfl rfl (show _ = Value.agg #[.int .i64 om0, .int .i64 om1, .int .i64 om2, .int .i64 om3, .int .i64 od0, .int .i64 od1, .int .i64 od2, .int .i64 od3] from rfl) ?_; intro W3 bc Bc_3 l3 k3; have gc : w.heap.size ≤ bc := Nat.le_trans Hw2.size l3; have nmc : bm ≠ bc := Nat.ne_of_lt (Nat.lt_of_lt_of_le Bm_2.lt l3); have nic : bi ≠ bc := Nat.ne_of_lt (Nat.lt_of_lt_of_le Bi_2.lt l3); have Bm_3 := Bm_2.keep k3; have Bi_3 := Bi_2.keep k3; have Hw3 := bq_trans Hw2 k3; clear l3 k3 Bm_2 Bi_2 Hw2)
    | (refine wl_box 26 _ _ rfl rfl (show _ = Value.agg #[.int .i64 im0, .int .i64 im1, .int .i64 im2, .int .i64 im3, .int .i64 id0, .int .i64 id1, .int .i64 id2, .int .i64 id3] from rfl) ?_; intro W4 bd Bd_4 l4 k4; have gd : w.heap.size ≤ bd := Nat.le_trans Hw3.size l4; have nmd : bm ≠ bd := Nat.ne_of_lt (Nat.lt_of_lt_of_le Bm_3.lt l4); have nid : bi ≠ bd := Nat.ne_of_lt (Nat.lt_of_lt_of_le Bi_3.lt l4); have ncd : bc ≠ bd := Nat.ne_of_lt (Nat.lt_of_lt_of_le Bc_3.lt l4); have Bm_4 := Bm_3.keep k4; have Bi_4 := Bi_3.keep k4; have Bc_4 := Bc_3.keep k4; have Hw4 := bq_trans Hw3 k4; clear l4 k4 Bm_3 Bi_3 Bc_3 Hw3))
  go_upto_region 2 with (go_big_may; first
    | (refine wl_load 23 6 _ Try.underlying23 rfl szMt _ rfl rfl _ rfl _ _ Bm_4 rfl ?_)
    | (refine wl_load 23 6 _ Try.underlying23 rfl szMt _ rfl rfl _ rfl _ _ Bi_4 rfl ?_)
    | (go_at_call 9; (with_reducible refine (H1.out _).mono ?_); rintro e W5 ⟨rfl, k5⟩; have Bm_5 := Bm_4.keep k5; have Bi_5 := Bi_4.keep k5; have Bc_5 := Bc_4.keep k5; have Bd_5 := Bd_4.keep k5; have Hw5 := bq_trans Hw4 k5; clear k5 Bm_4 Bi_4 Bc_4 Bd_4 Hw4)
    | (refine wl_alloc 23 _ zeMt rfl rfl ?_; intro W6 ba Ba_6 l6 k6; have ga : w.heap.size ≤ ba := Nat.le_trans Hw5.size l6; have nma : bm ≠ ba := Nat.ne_of_lt (Nat.lt_of_lt_of_le Bm_5.lt l6); have nia : bi ≠ ba := Nat.ne_of_lt (Nat.lt_of_lt_of_le Bi_5.lt l6); have nca : bc ≠ ba := Nat.ne_of_lt (Nat.lt_of_lt_of_le Bc_5.lt l6); have nda : bd ≠ ba := Nat.ne_of_lt (Nat.lt_of_lt_of_le Bd_5.lt l6); have Bm_6 := Bm_5.keep k6; have Bi_6 := Bi_5.keep k6; have Bc_6 := Bc_5.keep k6; have Bd_6 := Bd_5.keep k6; have Hw6 := bq_trans Hw5 k6; clear l6 k6 Bm_5 Bi_5 Bc_5 Bd_5 Hw5)
    | (refine wl_store 23 6 szMt _ _ rfl rfl _ rfl #[.int .i64 r0, .int .i64 r1, .int .i64 r2, .int .i64 r3, .int .i64 r4, .int .i64 r5] rfl _ _ Ba_6 rfl rfl (by kernel_rfl) ?_; intro W7 Ba_7 T7; have Bm_7 := T7.blk Bm_6 nma; have Bi_7 := T7.blk Bi_6 nia; have Bc_7 := T7.blk Bc_6 nca; have Bd_7 := T7.blk Bd_6 nda; have Hw7 := T7.below Hw6 ga; clear T7 Bm_6 Bi_6 Bc_6 Bd_6 Ba_6 Hw6))
  go_upto_region 3 with (go_big_may; first
    | (refine wl_load 23 6 _ Try.underlying23 rfl szMt _ rfl rfl _ rfl _ _ Bm_7 rfl ?_)
    | (refine wl_load 23 6 _ Try.underlying23 rfl szMt _ rfl rfl _ rfl _ _ Bi_7 rfl ?_)
    | (go_at_call 10; (with_reducible refine (H2.out _).mono ?_); rintro e W8 ⟨rfl, k8⟩; have Bm_8 := Bm_7.keep k8; have Bi_8 := Bi_7.keep k8; have Bc_8 := Bc_7.keep k8; have Bd_8 := Bd_7.keep k8; have Ba_8 := Ba_7.keep k8; have Hw8 := bq_trans Hw7 k8; clear k8 Bm_7 Bi_7 Bc_7 Bd_7 Ba_7 Hw7)
    | (refine wl_alloc 23 _ zeMt rfl rfl ?_; intro W9 bb Bb_9 l9 k9; have gb : w.heap.size ≤ bb := Nat.le_trans Hw8.size l9; have nmb : bm ≠ bb := Nat.ne_of_lt (Nat.lt_of_lt_of_le Bm_8.lt l9); have nib : bi ≠ bb := Nat.ne_of_lt (Nat.lt_of_lt_of_le Bi_8.lt l9); have ncb : bc ≠ bb := Nat.ne_of_lt (Nat.lt_of_lt_of_le Bc_8.lt l9); have ndb : bd ≠ bb := Nat.ne_of_lt (Nat.lt_of_lt_of_le Bd_8.lt l9); have nab : ba ≠ bb := Nat.ne_of_lt (Nat.lt_of_lt_of_le Ba_8.lt l9); have Bm_9 := Bm_8.keep k9; have Bi_9 := Bi_8.keep k9; have Bc_9 := Bc_8.keep k9; have Bd_9 := Bd_8.keep k9; have Ba_9 := Ba_8.keep k9; have Hw9 := bq_trans Hw8 k9; clear l9 k9 Bm_8 Bi_8 Bc_8 Bd_8 Ba_8 Hw8)
    | (refine wl_store 23 6 szMt _ _ rfl rfl _ rfl #[.int .i64 r0, .int .i64 r1, .int .i64 r2, .int .i64 r3, .int .i64 r4, .int .i64 r5] rfl _ _ Bb_9 rfl rfl (by kernel_rfl) ?_; intro W10 Bb_10 T10; have Bm_10 := T10.blk Bm_9 nmb; have Bi_10 := T10.blk Bi_9 nib; have Bc_10 := T10.blk Bc_9 ncb; have Bd_10 := T10.blk Bd_9 ndb; have Ba_10 := T10.blk Ba_9 nab; have Hw10 := T10.below Hw9 gb; clear T10 Bm_9 Bi_9 Bc_9 Bd_9 Ba_9 Bb_9 Hw9))
  go_upto_region 4 with (go_big_may; first
    | (refine wl_load 26 8 _ Try.underlying26 rfl szCx _ rfl rfl _ rfl _ _ Bc_10 rfl ?_)
    | (refine wl_load 26 8 _ Try.underlying26 rfl szCx _ rfl rfl _ rfl _ _ Bd_10 rfl ?_)
    | (go_at_call 11; (with_reducible refine (H3.out _).mono ?_); rintro e W11 ⟨rfl, k11⟩; have Bm_11 := Bm_10.keep k11; have Bi_11 := Bi_10.keep k11; have Bc_11 := Bc_10.keep k11; have Bd_11 := Bd_10.keep k11; have Ba_11 := Ba_10.keep k11; have Bb_11 := Bb_10.keep k11; have Hw11 := bq_trans Hw10 k11; clear k11 Bm_10 Bi_10 Bc_10 Bd_10 Ba_10 Bb_10 Hw10)
    | (refine wl_alloc 26 _ zeCx rfl rfl ?_; intro W12 bx Bx_12 l12 k12; have gx : w.heap.size ≤ bx := Nat.le_trans Hw11.size l12; have nmx : bm ≠ bx := Nat.ne_of_lt (Nat.lt_of_lt_of_le Bm_11.lt l12); have nix : bi ≠ bx := Nat.ne_of_lt (Nat.lt_of_lt_of_le Bi_11.lt l12); have ncx : bc ≠ bx := Nat.ne_of_lt (Nat.lt_of_lt_of_le Bc_11.lt l12); have ndx : bd ≠ bx := Nat.ne_of_lt (Nat.lt_of_lt_of_le Bd_11.lt l12); have nax : ba ≠ bx := Nat.ne_of_lt (Nat.lt_of_lt_of_le Ba_11.lt l12); have nbx : bb ≠ bx := Nat.ne_of_lt (Nat.lt_of_lt_of_le Bb_11.lt l12); have Bm_12 := Bm_11.keep k12; have Bi_12 := Bi_11.keep k12; have Bc_12 := Bc_11.keep k12; have Bd_12 := Bd_11.keep k12; have Ba_12 := Ba_11.keep k12; have Bb_12 := Bb_11.keep k12; have Hw12 := bq_trans Hw11 k12; clear l12 k12 Bm_11 Bi_11 Bc_11 Bd_11 Ba_11 Bb_11 Hw11)
    | (refine wl_store 26 8 szCx _ _ rfl rfl _ rfl #[.int .i64 0, .int .i64 0, .int .i64 0, .int .i64 0, .int .i64 0, .int .i64 0, .int .i64 0, .int .i64 0] rfl _ _ Bx_12 rfl rfl (by kernel_rfl) ?_; intro W13 Bx_13 T13; have Bm_13 := T13.blk Bm_12 nmx; have Bi_13 := T13.blk Bi_12 nix; have Bc_13 := T13.blk Bc_12 ncx; have Bd_13 := T13.blk Bd_12 ndx; have Ba_13 := T13.blk Ba_12 nax; have Bb_13 := T13.blk Bb_12 nbx; have Hw13 := T13.below Hw12 gx; clear T13 Bm_12 Bi_12 Bc_12 Bd_12 Ba_12 Bb_12 Bx_12 Hw12))
  go_upto_region 5 with (go_big_may; first
    | (refine wl_alloc 26 _ zeCx rfl rfl ?_; intro W14 bt Bt_14 l14 k14; have gt : w.heap.size ≤ bt := Nat.le_trans Hw13.size l14; have nmt : bm ≠ bt := Nat.ne_of_lt (Nat.lt_of_lt_of_le Bm_13.lt l14); have nit : bi ≠ bt := Nat.ne_of_lt (Nat.lt_of_lt_of_le Bi_13.lt l14); have nct : bc ≠ bt := Nat.ne_of_lt (Nat.lt_of_lt_of_le Bc_13.lt l14); have ndt : bd ≠ bt := Nat.ne_of_lt (Nat.lt_of_lt_of_le Bd_13.lt l14); have nat : ba ≠ bt := Nat.ne_of_lt (Nat.lt_of_lt_of_le Ba_13.lt l14); have nbt : bb ≠ bt := Nat.ne_of_lt (Nat.lt_of_lt_of_le Bb_13.lt l14); have nxt : bx ≠ bt := Nat.ne_of_lt (Nat.lt_of_lt_of_le Bx_13.lt l14); have Bm_14 := Bm_13.keep k14; have Bi_14 := Bi_13.keep k14; have Bc_14 := Bc_13.keep k14; have Bd_14 := Bd_13.keep k14; have Ba_14 := Ba_13.keep k14; have Bb_14 := Bb_13.keep k14; have Bx_14 := Bx_13.keep k14; have Hw14 := bq_trans Hw13 k14; clear l14 k14 Bm_13 Bi_13 Bc_13 Bd_13 Ba_13 Bb_13 Bx_13 Hw13)
    | (refine wl_store 26 8 szCx _ _ rfl rfl _ rfl #[.int .i64 0, .int .i64 0, .int .i64 0, .int .i64 0, .int .i64 0, .int .i64 0, .int .i64 0, .int .i64 0] rfl _ _ Bt_14 rfl rfl (by kernel_rfl) ?_; intro W15 Bt_15 T15; have Bm_15 := T15.blk Bm_14 nmt; have Bi_15 := T15.blk Bi_14 nit; have Bc_15 := T15.blk Bc_14 nct; have Bd_15 := T15.blk Bd_14 ndt; have Ba_15 := T15.blk Ba_14 nat; have Bb_15 := T15.blk Bb_14 nbt; have Bx_15 := T15.blk Bx_14 nxt; have Hw15 := T15.below Hw14 gt; clear T15 Bm_14 Bi_14 Bc_14 Bd_14 Ba_14 Bb_14 Bx_14 Bt_14 Hw14))
  go_upto_region 7 with (go_big_may; first
    | (refine wl_load 26 8 _ Try.underlying26 rfl szCx _ rfl rfl _ rfl _ _ Bc_15 rfl ?_)
    | (go_at_call 12; (with_reducible refine (H4.out _).mono ?_); rintro e W16 ⟨rfl, k16⟩; have Bm_16 := Bm_15.keep k16; have Bi_16 := Bi_15.keep k16; have Bc_16 := Bc_15.keep k16; have Bd_16 := Bd_15.keep k16; have Ba_16 := Ba_15.keep k16; have Bb_16 := Bb_15.keep k16; have Bx_16 := Bx_15.keep k16; have Bt_16 := Bt_15.keep k16; have Hw16 := bq_trans Hw15 k16; clear k16 Bm_15 Bi_15 Bc_15 Bd_15 Ba_15 Bb_15 Bx_15 Bt_15 Hw15)
    | (refine wlg_load 26 8 _ Try.underlying26 rfl szCx _ rfl rfl _ rfl _ _ Bd_16 rfl ?_)
    | (go_at_call 12; (with_reducible refine (H5.out _).mono ?_); rintro e W17 ⟨rfl, k17⟩; have Bm_17 := Bm_16.keep k17; have Bi_17 := Bi_16.keep k17; have Bc_17 := Bc_16.keep k17; have Bd_17 := Bd_16.keep k17; have Ba_17 := Ba_16.keep k17; have Bb_17 := Bb_16.keep k17; have Bx_17 := Bx_16.keep k17; have Bt_17 := Bt_16.keep k17; have Hw17 := bq_trans Hw16 k17; clear k17 Bm_16 Bi_16 Bc_16 Bd_16 Ba_16 Bb_16 Bx_16 Bt_16 Hw16))
  refine Det.wp_region_text (S := fun w' => Below W17.heap.size W17 w') (bq_refl _) ?_
  refine Det.det_load 23 6 _ Try.underlying23 rfl szMt _ rfl (by rfl) _ rfl _ _ (fun w hS => Ba_17.keep hS) rfl ?_
  try simp only [Act.put, List.setIfInBounds_toArray, List.set_cons_zero, List.set_cons_succ]
  refine Det.det_load 23 6 _ Try.underlying23 rfl szMt _ rfl (by rfl) _ rfl _ _ (fun w hS => Bb_17.keep hS) rfl ?_
  try simp only [Act.put, List.setIfInBounds_toArray, List.set_cons_zero, List.set_cons_succ]
  refine Det.det_take (v := ?_) (by rfl) ?_ ?_
  rotate_left
  · (intro w hSw; have q := eqM14 r0 r1 r2 r3 r4 r5 w; go_simp; try with_reducible rfl)
  try simp only [Act.put, List.setIfInBounds_toArray, List.set_cons_zero, List.set_cons_succ]
  refine Det.det_take (v := ?_) (by rfl) ?_ ?_
  rotate_left
  · (intro w hSw; go_simp; try with_reducible rfl)
  try simp only [Act.put, List.setIfInBounds_toArray, List.set_cons_zero, List.set_cons_succ]
  refine Det.det_take (v := ?_) (by rfl) ?_ ?_
  rotate_left
  · (intro w hSw; go_simp; try with_reducible rfl)
  try simp only [Act.put, List.setIfInBounds_toArray, List.set_cons_zero, List.set_cons_succ]
  refine Det.det_take (v := ?_) (by rfl) ?_ ?_
  rotate_left
  · (intro w hSw; go_simp; try with_reducible rfl)
  try simp only [Act.put, List.setIfInBounds_toArray, List.set_cons_zero, List.set_cons_succ]
  refine Det.det_take (v := ?_) (by rfl) ?_ ?_
  rotate_left
  · (intro w hSw; go_simp; try with_reducible rfl)
  try simp only [Act.put, List.setIfInBounds_toArray, List.set_cons_zero, List.set_cons_succ]
  refine Det.det_take (v := ?_) (by rfl) ?_ ?_
  rotate_left
  · (intro w hSw; go_simp; try with_reducible rfl)
  try simp only [Act.put, List.setIfInBounds_toArray, List.set_cons_zero, List.set_cons_succ]
  refine Det.det_take (v := ?_) (by rfl) ?_ ?_
  rotate_left
  · (intro w hSw; go_simp; try with_reducible rfl)
  try simp only [Act.put, List.setIfInBounds_toArray, List.set_cons_zero, List.set_cons_succ]
  refine Det.det_load 26 8 _ Try.underlying26 rfl szCx _ rfl (by rfl) _ rfl _ _ (fun w hS => Bx_17.keep hS) rfl ?_
  try simp only [Act.put, List.setIfInBounds_toArray, List.set_cons_zero, List.set_cons_succ]
  refine Det.det_load 26 8 _ Try.underlying26 rfl szCx _ rfl (by rfl) _ rfl _ _ (fun w hS => Bt_17.keep hS) rfl ?_
  try simp only [Act.put, List.setIfInBounds_toArray, List.set_cons_zero, List.set_cons_succ]
  refine Det.det_take (v := ?_) (by rfl) ?_ ?_
  rotate_left
  · (intro w hSw; have q1 : (Op.equalIn 9999 24 (.agg #[.int .i64 0, .int .i64 0, .int .i64 0, .int .i64 0]) (.agg #[.int .i64 0, .int .i64 0, .int .i64 0, .int .i64 0])).run Try.prog w = .ok true w := eqA14 0 0 0 0 9997 w; have q2 : (Op.equalIn 9999 24 (.agg #[.int .i64 0, .int .i64 0, .int .i64 0, .int .i64 0]) (.agg #[.int .i64 0, .int .i64 0, .int .i64 0, .int .i64 0])).run Try.prog w = .ok true w := eqA14 0 0 0 0 9997 w; go_simp; try with_reducible rfl)
  try simp only [Act.put, List.setIfInBounds_toArray, List.set_cons_zero, List.set_cons_succ]
  refine Det.det_take (v := ?_) (by rfl) ?_ ?_
  rotate_left
  · (intro w hSw; go_simp; try with_reducible rfl)
  try simp only [Act.put, List.setIfInBounds_toArray, List.set_cons_zero, List.set_cons_succ]
  refine Det.det_take (v := ?_) (by rfl) ?_ ?_
  rotate_left
  · (intro w hSw; go_simp; try with_reducible rfl)
  try simp only [Act.put, List.setIfInBounds_toArray, List.set_cons_zero, List.set_cons_succ]
  refine Det.det_call (f := 14) (args := #[]) (v := .bool true) (by rfl) ?_ (fun w hS => (HA.out w).mono fun e w' ⟨h1, h2⟩ => ⟨h1, bq_trans hS h2⟩) ?_
  · (intro w hSw; go_simp)
  try simp only [Act.put, List.setIfInBounds_toArray, List.set_cons_zero, List.set_cons_succ]
  refine Det.det_take (v := ?_) (by rfl) ?_ ?_
  rotate_left
  · (intro w hSw; go_simp; try with_reducible rfl)
  try simp only [Act.put, List.setIfInBounds_toArray, List.set_cons_zero, List.set_cons_succ]
  refine Det.det_take (v := ?_) (by rfl) ?_ ?_
  rotate_left
  · (intro w hSw; go_simp; try with_reducible rfl)
  try simp only [Act.put, List.setIfInBounds_toArray, List.set_cons_zero, List.set_cons_succ]
  refine Det.det_nil (fun W18 k18 => ?_)
  have Bm_18 := Bm_17.keep k18
  have Bi_18 := Bi_17.keep k18
  have Bc_18 := Bc_17.keep k18
  have Bd_18 := Bd_17.keep k18
  have Ba_18 := Ba_17.keep k18
  have Bb_18 := Bb_17.keep k18
  have Bx_18 := Bx_17.keep k18
  have Bt_18 := Bt_17.keep k18
  have Hw18 := bq_trans Hw17 k18
  clear k18 Bm_17 Bi_17 Bc_17 Bd_17 Ba_17 Bb_17 Bx_17 Bt_17 Hw17
  go_wp2_with fail
  go_ret
  exact ⟨rfl, Hw18⟩
set_option maxHeartbeats 2000000 in
theorem composes14_law2 (A B C D X Y ia ib ic id ix iy om0 om1 om2 om3 od0 od1 od2 od3 im0 im1 im2 im3 id0 id1 id2 id3 r0 r1 r2 r3 r4 r5 ev s0 s1 s2 s3 s4 s5 s6 s7 : Int) (w : World) (HA : Hid (∀ W, Calls Try.prog 14 #[] W fun e w' => e = .returned (.bool true) ∧ Below W.heap.size W w'))
    (H1 : Hid (∀ W, Calls Try.prog 9 #[.agg #[.int .i64 A, .int .i64 B, .int .i64 C, .int .i64 D, .int .i64 X, .int .i64 Y], .agg #[.int .i64 ia, .int .i64 ib, .int .i64 ic, .int .i64 id, .int .i64 ix, .int .i64 iy]] W fun e w' => e = .returned (.tuple #[.agg #[.int .i64 r0, .int .i64 r1, .int .i64 r2, .int .i64 r3, .int .i64 r4, .int .i64 r5], .int .i64 ev]) ∧ Below W.heap.size W w')) (H2 : Hid (∀ W, Calls Try.prog 10 #[.agg #[.int .i64 A, .int .i64 B, .int .i64 C, .int .i64 D, .int .i64 X, .int .i64 Y], .agg #[.int .i64 ia, .int .i64 ib, .int .i64 ic, .int .i64 id, .int .i64 ix, .int .i64 iy]] W fun e w' => e = .returned (.tuple #[.agg #[.int .i64 r0, .int .i64 r1, .int .i64 r2, .int .i64 r3, .int .i64 r4, .int .i64 r5], .int .i64 ev]) ∧ Below W.heap.size W w')) (H3 : Hid (∀ W, Calls Try.prog 11 #[.agg #[.int .i64 om0, .int .i64 om1, .int .i64 om2, .int .i64 om3, .int .i64 od0, .int .i64 od1, .int .i64 od2, .int .i64 od3], .agg #[.int .i64 im0, .int .i64 im1, .int .i64 im2, .int .i64 im3, .int .i64 id0, .int .i64 id1, .int .i64 id2, .int .i64 id3]] W fun e w' => e = .returned (.agg #[.int .i64 s0, .int .i64 s1, .int .i64 s2, .int .i64 s3, .int .i64 s4, .int .i64 s5, .int .i64 s6, .int .i64 s7]) ∧ Below W.heap.size W w')) (H4 : Hid (∀ W, Calls Try.prog 12 #[.agg #[.int .i64 om0, .int .i64 om1, .int .i64 om2, .int .i64 om3, .int .i64 od0, .int .i64 od1, .int .i64 od2, .int .i64 od3]] W fun e w' => e = .returned (.bool true) ∧ Below W.heap.size W w')) (H5 : Hid (∀ W, Calls Try.prog 12 #[.agg #[.int .i64 im0, .int .i64 im1, .int .i64 im2, .int .i64 im3, .int .i64 id0, .int .i64 id1, .int .i64 id2, .int .i64 id3]] W fun e w' => e = .returned (.bool true) ∧ Below W.heap.size W w')) (H6 : Hid (∀ W, Calls Try.prog 13 #[.agg #[.int .i64 om0, .int .i64 om1, .int .i64 om2, .int .i64 om3, .int .i64 od0, .int .i64 od1, .int .i64 od2, .int .i64 od3], .agg #[.int .i64 im0, .int .i64 im1, .int .i64 im2, .int .i64 im3, .int .i64 id0, .int .i64 id1, .int .i64 id2, .int .i64 id3]] W fun e w' => e = .returned (.agg #[.int .i64 s0, .int .i64 s1, .int .i64 s2, .int .i64 s3, .int .i64 s4, .int .i64 s5, .int .i64 s6, .int .i64 s7]) ∧ Below W.heap.size W w')) :
    Calls Try.prog 3 #[.agg #[.int .i64 A, .int .i64 B, .int .i64 C, .int .i64 D, .int .i64 X, .int .i64 Y], .agg #[.int .i64 ia, .int .i64 ib, .int .i64 ic, .int .i64 id, .int .i64 ix, .int .i64 iy], .agg #[.int .i64 om0, .int .i64 om1, .int .i64 om2, .int .i64 om3, .int .i64 od0, .int .i64 od1, .int .i64 od2, .int .i64 od3], .agg #[.int .i64 im0, .int .i64 im1, .int .i64 im2, .int .i64 im3, .int .i64 id0, .int .i64 id1, .int .i64 id2, .int .i64 id3]] w fun e w' => e = .returned (.bool true) ∧ Below w.heap.size w w' := by
  go_enter Try.func3, Try.ntmps3
  go_upto_region 1 with (go_big_may; first
    | (refine wl_box 23 _ _ rfl rfl (show _ = Value.agg #[.int .i64 A, .int .i64 B, .int .i64 C, .int .i64 D, .int .i64 X, .int .i64 Y] from rfl) ?_; intro W1 bm Bm_1 l1 k1; have gm : w.heap.size ≤ bm := l1; have Hw1 := k1; clear l1 k1)
    | (refine wl_box 23 _ _ rfl rfl (show _ = Value.agg #[.int .i64 ia, .int .i64 ib, .int .i64 ic, .int .i64 id, .int .i64 ix, .int .i64 iy] from rfl) ?_; intro W2 bi Bi_2 l2 k2; have gi : w.heap.size ≤ bi := Nat.le_trans Hw1.size l2; have nmi : bm ≠ bi := Nat.ne_of_lt (Nat.lt_of_lt_of_le Bm_1.lt l2); have Bm_2 := Bm_1.keep k2; have Hw2 := bq_trans Hw1 k2; clear l2 k2 Bm_1 Hw1)
    | (refine wl_box 26 _ _ rfl rfl (show _ = Value.agg #[.int .i64 om0, .int .i64 om1, .int .i64 om2, .int .i64 om3, .int .i64 od0, .int .i64 od1, .int .i64 od2, .int .i64 od3] from rfl) ?_; intro W3 bc Bc_3 l3 k3; have gc : w.heap.size ≤ bc := Nat.le_trans Hw2.size l3; have nmc : bm ≠ bc := Nat.ne_of_lt (Nat.lt_of_lt_of_le Bm_2.lt l3); have nic : bi ≠ bc := Nat.ne_of_lt (Nat.lt_of_lt_of_le Bi_2.lt l3); have Bm_3 := Bm_2.keep k3; have Bi_3 := Bi_2.keep k3; have Hw3 := bq_trans Hw2 k3; clear l3 k3 Bm_2 Bi_2 Hw2)
    | (refine wl_box 26 _ _ rfl rfl (show _ = Value.agg #[.int .i64 im0, .int .i64 im1, .int .i64 im2, .int .i64 im3, .int .i64 id0, .int .i64 id1, .int .i64 id2, .int .i64 id3] from rfl) ?_; intro W4 bd Bd_4 l4 k4; have gd : w.heap.size ≤ bd := Nat.le_trans Hw3.size l4; have nmd : bm ≠ bd := Nat.ne_of_lt (Nat.lt_of_lt_of_le Bm_3.lt l4); have nid : bi ≠ bd := Nat.ne_of_lt (Nat.lt_of_lt_of_le Bi_3.lt l4); have ncd : bc ≠ bd := Nat.ne_of_lt (Nat.lt_of_lt_of_le Bc_3.lt l4); have Bm_4 := Bm_3.keep k4; have Bi_4 := Bi_3.keep k4; have Bc_4 := Bc_3.keep k4; have Hw4 := bq_trans Hw3 k4; clear l4 k4 Bm_3 Bi_3 Bc_3 Hw3))
  go_upto_region 2 with (go_big_may; first
    | (refine wl_load 23 6 _ Try.underlying23 rfl szMt _ rfl rfl _ rfl _ _ Bm_4 rfl ?_)
    | (refine wl_load 23 6 _ Try.underlying23 rfl szMt _ rfl rfl _ rfl _ _ Bi_4 rfl ?_)
    | (go_at_call 9; (with_reducible refine (H1.out _).mono ?_); rintro e W5 ⟨rfl, k5⟩; have Bm_5 := Bm_4.keep k5; have Bi_5 := Bi_4.keep k5; have Bc_5 := Bc_4.keep k5; have Bd_5 := Bd_4.keep k5; have Hw5 := bq_trans Hw4 k5; clear k5 Bm_4 Bi_4 Bc_4 Bd_4 Hw4)
    | (refine wl_alloc 23 _ zeMt rfl rfl ?_; intro W6 ba Ba_6 l6 k6; have ga : w.heap.size ≤ ba := Nat.le_trans Hw5.size l6; have nma : bm ≠ ba := Nat.ne_of_lt (Nat.lt_of_lt_of_le Bm_5.lt l6); have nia : bi ≠ ba := Nat.ne_of_lt (Nat.lt_of_lt_of_le Bi_5.lt l6); have nca : bc ≠ ba := Nat.ne_of_lt (Nat.lt_of_lt_of_le Bc_5.lt l6); have nda : bd ≠ ba := Nat.ne_of_lt (Nat.lt_of_lt_of_le Bd_5.lt l6); have Bm_6 := Bm_5.keep k6; have Bi_6 := Bi_5.keep k6; have Bc_6 := Bc_5.keep k6; have Bd_6 := Bd_5.keep k6; have Hw6 := bq_trans Hw5 k6; clear l6 k6 Bm_5 Bi_5 Bc_5 Bd_5 Hw5)
    | (refine wl_store 23 6 szMt _ _ rfl rfl _ rfl #[.int .i64 r0, .int .i64 r1, .int .i64 r2, .int .i64 r3, .int .i64 r4, .int .i64 r5] rfl _ _ Ba_6 rfl rfl (by kernel_rfl) ?_; intro W7 Ba_7 T7; have Bm_7 := T7.blk Bm_6 nma; have Bi_7 := T7.blk Bi_6 nia; have Bc_7 := T7.blk Bc_6 nca; have Bd_7 := T7.blk Bd_6 nda; have Hw7 := T7.below Hw6 ga; clear T7 Bm_6 Bi_6 Bc_6 Bd_6 Ba_6 Hw6))
  go_upto_region 3 with (go_big_may; first
    | (refine wl_load 23 6 _ Try.underlying23 rfl szMt _ rfl rfl _ rfl _ _ Bm_7 rfl ?_)
    | (refine wl_load 23 6 _ Try.underlying23 rfl szMt _ rfl rfl _ rfl _ _ Bi_7 rfl ?_)
    | (go_at_call 10; (with_reducible refine (H2.out _).mono ?_); rintro e W8 ⟨rfl, k8⟩; have Bm_8 := Bm_7.keep k8; have Bi_8 := Bi_7.keep k8; have Bc_8 := Bc_7.keep k8; have Bd_8 := Bd_7.keep k8; have Ba_8 := Ba_7.keep k8; have Hw8 := bq_trans Hw7 k8; clear k8 Bm_7 Bi_7 Bc_7 Bd_7 Ba_7 Hw7)
    | (refine wl_alloc 23 _ zeMt rfl rfl ?_; intro W9 bb Bb_9 l9 k9; have gb : w.heap.size ≤ bb := Nat.le_trans Hw8.size l9; have nmb : bm ≠ bb := Nat.ne_of_lt (Nat.lt_of_lt_of_le Bm_8.lt l9); have nib : bi ≠ bb := Nat.ne_of_lt (Nat.lt_of_lt_of_le Bi_8.lt l9); have ncb : bc ≠ bb := Nat.ne_of_lt (Nat.lt_of_lt_of_le Bc_8.lt l9); have ndb : bd ≠ bb := Nat.ne_of_lt (Nat.lt_of_lt_of_le Bd_8.lt l9); have nab : ba ≠ bb := Nat.ne_of_lt (Nat.lt_of_lt_of_le Ba_8.lt l9); have Bm_9 := Bm_8.keep k9; have Bi_9 := Bi_8.keep k9; have Bc_9 := Bc_8.keep k9; have Bd_9 := Bd_8.keep k9; have Ba_9 := Ba_8.keep k9; have Hw9 := bq_trans Hw8 k9; clear l9 k9 Bm_8 Bi_8 Bc_8 Bd_8 Ba_8 Hw8)
    | (refine wl_store 23 6 szMt _ _ rfl rfl _ rfl #[.int .i64 r0, .int .i64 r1, .int .i64 r2, .int .i64 r3, .int .i64 r4, .int .i64 r5] rfl _ _ Bb_9 rfl rfl (by kernel_rfl) ?_; intro W10 Bb_10 T10; have Bm_10 := T10.blk Bm_9 nmb; have Bi_10 := T10.blk Bi_9 nib; have Bc_10 := T10.blk Bc_9 ncb; have Bd_10 := T10.blk Bd_9 ndb; have Ba_10 := T10.blk Ba_9 nab; have Hw10 := T10.below Hw9 gb; clear T10 Bm_9 Bi_9 Bc_9 Bd_9 Ba_9 Bb_9 Hw9))
  go_upto_region 4 with (go_big_may; first
    | (refine wl_load 26 8 _ Try.underlying26 rfl szCx _ rfl rfl _ rfl _ _ Bc_10 rfl ?_)
    | (refine wl_load 26 8 _ Try.underlying26 rfl szCx _ rfl rfl _ rfl _ _ Bd_10 rfl ?_)
    | (go_at_call 11; (with_reducible refine (H3.out _).mono ?_); rintro e W11 ⟨rfl, k11⟩; have Bm_11 := Bm_10.keep k11; have Bi_11 := Bi_10.keep k11; have Bc_11 := Bc_10.keep k11; have Bd_11 := Bd_10.keep k11; have Ba_11 := Ba_10.keep k11; have Bb_11 := Bb_10.keep k11; have Hw11 := bq_trans Hw10 k11; clear k11 Bm_10 Bi_10 Bc_10 Bd_10 Ba_10 Bb_10 Hw10)
    | (refine wl_alloc 26 _ zeCx rfl rfl ?_; intro W12 bx Bx_12 l12 k12; have gx : w.heap.size ≤ bx := Nat.le_trans Hw11.size l12; have nmx : bm ≠ bx := Nat.ne_of_lt (Nat.lt_of_lt_of_le Bm_11.lt l12); have nix : bi ≠ bx := Nat.ne_of_lt (Nat.lt_of_lt_of_le Bi_11.lt l12); have ncx : bc ≠ bx := Nat.ne_of_lt (Nat.lt_of_lt_of_le Bc_11.lt l12); have ndx : bd ≠ bx := Nat.ne_of_lt (Nat.lt_of_lt_of_le Bd_11.lt l12); have nax : ba ≠ bx := Nat.ne_of_lt (Nat.lt_of_lt_of_le Ba_11.lt l12); have nbx : bb ≠ bx := Nat.ne_of_lt (Nat.lt_of_lt_of_le Bb_11.lt l12); have Bm_12 := Bm_11.keep k12; have Bi_12 := Bi_11.keep k12; have Bc_12 := Bc_11.keep k12; have Bd_12 := Bd_11.keep k12; have Ba_12 := Ba_11.keep k12; have Bb_12 := Bb_11.keep k12; have Hw12 := bq_trans Hw11 k12; clear l12 k12 Bm_11 Bi_11 Bc_11 Bd_11 Ba_11 Bb_11 Hw11)
    | (refine wl_store 26 8 szCx _ _ rfl rfl _ rfl #[.int .i64 s0, .int .i64 s1, .int .i64 s2, .int .i64 s3, .int .i64 s4, .int .i64 s5, .int .i64 s6, .int .i64 s7] rfl _ _ Bx_12 rfl rfl (by kernel_rfl) ?_; intro W13 Bx_13 T13; have Bm_13 := T13.blk Bm_12 nmx; have Bi_13 := T13.blk Bi_12 nix; have Bc_13 := T13.blk Bc_12 ncx; have Bd_13 := T13.blk Bd_12 ndx; have Ba_13 := T13.blk Ba_12 nax; have Bb_13 := T13.blk Bb_12 nbx; have Hw13 := T13.below Hw12 gx; clear T13 Bm_12 Bi_12 Bc_12 Bd_12 Ba_12 Bb_12 Bx_12 Hw12))
  go_upto_region 5 with (go_big_may; first
    | (refine wl_alloc 26 _ zeCx rfl rfl ?_; intro W14 bt Bt_14 l14 k14; have gt : w.heap.size ≤ bt := Nat.le_trans Hw13.size l14; have nmt : bm ≠ bt := Nat.ne_of_lt (Nat.lt_of_lt_of_le Bm_13.lt l14); have nit : bi ≠ bt := Nat.ne_of_lt (Nat.lt_of_lt_of_le Bi_13.lt l14); have nct : bc ≠ bt := Nat.ne_of_lt (Nat.lt_of_lt_of_le Bc_13.lt l14); have ndt : bd ≠ bt := Nat.ne_of_lt (Nat.lt_of_lt_of_le Bd_13.lt l14); have nat : ba ≠ bt := Nat.ne_of_lt (Nat.lt_of_lt_of_le Ba_13.lt l14); have nbt : bb ≠ bt := Nat.ne_of_lt (Nat.lt_of_lt_of_le Bb_13.lt l14); have nxt : bx ≠ bt := Nat.ne_of_lt (Nat.lt_of_lt_of_le Bx_13.lt l14); have Bm_14 := Bm_13.keep k14; have Bi_14 := Bi_13.keep k14; have Bc_14 := Bc_13.keep k14; have Bd_14 := Bd_13.keep k14; have Ba_14 := Ba_13.keep k14; have Bb_14 := Bb_13.keep k14; have Bx_14 := Bx_13.keep k14; have Hw14 := bq_trans Hw13 k14; clear l14 k14 Bm_13 Bi_13 Bc_13 Bd_13 Ba_13 Bb_13 Bx_13 Hw13)
    | (refine wl_store 26 8 szCx _ _ rfl rfl _ rfl #[.int .i64 0, .int .i64 0, .int .i64 0, .int .i64 0, .int .i64 0, .int .i64 0, .int .i64 0, .int .i64 0] rfl _ _ Bt_14 rfl rfl (by kernel_rfl) ?_; intro W15 Bt_15 T15; have Bm_15 := T15.blk Bm_14 nmt; have Bi_15 := T15.blk Bi_14 nit; have Bc_15 := T15.blk Bc_14 nct; have Bd_15 := T15.blk Bd_14 ndt; have Ba_15 := T15.blk Ba_14 nat; have Bb_15 := T15.blk Bb_14 nbt; have Bx_15 := T15.blk Bx_14 nxt; have Hw15 := T15.below Hw14 gt; clear T15 Bm_14 Bi_14 Bc_14 Bd_14 Ba_14 Bb_14 Bx_14 Bt_14 Hw14))
  go_upto_region 6 with (go_big_may; first
    | (refine wl_load 26 8 _ Try.underlying26 rfl szCx _ rfl rfl _ rfl _ _ Bc_15 rfl ?_)
    | (go_at_call 12; (with_reducible refine (H4.out _).mono ?_); rintro e W16 ⟨rfl, k16⟩; have Bm_16 := Bm_15.keep k16; have Bi_16 := Bi_15.keep k16; have Bc_16 := Bc_15.keep k16; have Bd_16 := Bd_15.keep k16; have Ba_16 := Ba_15.keep k16; have Bb_16 := Bb_15.keep k16; have Bx_16 := Bx_15.keep k16; have Bt_16 := Bt_15.keep k16; have Hw16 := bq_trans Hw15 k16; clear k16 Bm_15 Bi_15 Bc_15 Bd_15 Ba_15 Bb_15 Bx_15 Bt_15 Hw15)
    | (refine wlg_load 26 8 _ Try.underlying26 rfl szCx _ rfl rfl _ rfl _ _ Bd_16 rfl ?_)
    | (go_at_call 12; (with_reducible refine (H5.out _).mono ?_); rintro e W17 ⟨rfl, k17⟩; have Bm_17 := Bm_16.keep k17; have Bi_17 := Bi_16.keep k17; have Bc_17 := Bc_16.keep k17; have Bd_17 := Bd_16.keep k17; have Ba_17 := Ba_16.keep k17; have Bb_17 := Bb_16.keep k17; have Bx_17 := Bx_16.keep k17; have Bt_17 := Bt_16.keep k17; have Hw17 := bq_trans Hw16 k17; clear k17 Bm_16 Bi_16 Bc_16 Bd_16 Ba_16 Bb_16 Bx_16 Bt_16 Hw16))
  go_upto_region 7 with (go_big_may; first
    | (refine wl_load 26 8 _ Try.underlying26 rfl szCx _ rfl rfl _ rfl _ _ Bc_17 rfl ?_)
    | (refine wl_load 26 8 _ Try.underlying26 rfl szCx _ rfl rfl _ rfl _ _ Bd_17 rfl ?_)
    | (go_at_call 13; (with_reducible refine (H6.out _).mono ?_); rintro e W18 ⟨rfl, k18⟩; have Bm_18 := Bm_17.keep k18; have Bi_18 := Bi_17.keep k18; have Bc_18 := Bc_17.keep k18; have Bd_18 := Bd_17.keep k18; have Ba_18 := Ba_17.keep k18; have Bb_18 := Bb_17.keep k18; have Bx_18 := Bx_17.keep k18; have Bt_18 := Bt_17.keep k18; have Hw18 := bq_trans Hw17 k18; clear k18 Bm_17 Bi_17 Bc_17 Bd_17 Ba_17 Bb_17 Bx_17 Bt_17 Hw17)
    | (refine wl_store 26 8 szCx _ _ rfl rfl _ rfl #[.int .i64 s0, .int .i64 s1, .int .i64 s2, .int .i64 s3, .int .i64 s4, .int .i64 s5, .int .i64 s6, .int .i64 s7] rfl _ _ Bt_18 rfl rfl (by kernel_rfl) ?_; intro W19 Bt_19 T19; have Bm_19 := T19.blk Bm_18 nmt; have Bi_19 := T19.blk Bi_18 nit; have Bc_19 := T19.blk Bc_18 nct; have Bd_19 := T19.blk Bd_18 ndt; have Ba_19 := T19.blk Ba_18 nat; have Bb_19 := T19.blk Bb_18 nbt; have Bx_19 := T19.blk Bx_18 nxt; have Hw19 := T19.below Hw18 gt; clear T19 Bm_18 Bi_18 Bc_18 Bd_18 Ba_18 Bb_18 Bx_18 Bt_18 Hw18))
  refine Det.wp_region_text (S := fun w' => Below W19.heap.size W19 w') (bq_refl _) ?_
  refine Det.det_load 23 6 _ Try.underlying23 rfl szMt _ rfl (by rfl) _ rfl _ _ (fun w hS => Ba_19.keep hS) rfl ?_
  try simp only [Act.put, List.setIfInBounds_toArray, List.set_cons_zero, List.set_cons_succ]
  refine Det.det_load 23 6 _ Try.underlying23 rfl szMt _ rfl (by rfl) _ rfl _ _ (fun w hS => Bb_19.keep hS) rfl ?_
  try simp only [Act.put, List.setIfInBounds_toArray, List.set_cons_zero, List.set_cons_succ]
  refine Det.det_take (v := ?_) (by rfl) ?_ ?_
  rotate_left
  · (intro w hSw; have q := eqM14 r0 r1 r2 r3 r4 r5 w; go_simp; try with_reducible rfl)
  try simp only [Act.put, List.setIfInBounds_toArray, List.set_cons_zero, List.set_cons_succ]
  refine Det.det_take (v := ?_) (by rfl) ?_ ?_
  rotate_left
  · (intro w hSw; go_simp; try with_reducible rfl)
  try simp only [Act.put, List.setIfInBounds_toArray, List.set_cons_zero, List.set_cons_succ]
  refine Det.det_take (v := ?_) (by rfl) ?_ ?_
  rotate_left
  · (intro w hSw; go_simp; try with_reducible rfl)
  try simp only [Act.put, List.setIfInBounds_toArray, List.set_cons_zero, List.set_cons_succ]
  refine Det.det_take (v := ?_) (by rfl) ?_ ?_
  rotate_left
  · (intro w hSw; go_simp; try with_reducible rfl)
  try simp only [Act.put, List.setIfInBounds_toArray, List.set_cons_zero, List.set_cons_succ]
  refine Det.det_take (v := ?_) (by rfl) ?_ ?_
  rotate_left
  · (intro w hSw; go_simp; try with_reducible rfl)
  try simp only [Act.put, List.setIfInBounds_toArray, List.set_cons_zero, List.set_cons_succ]
  refine Det.det_take (v := ?_) (by rfl) ?_ ?_
  rotate_left
  · (intro w hSw; go_simp; try with_reducible rfl)
  try simp only [Act.put, List.setIfInBounds_toArray, List.set_cons_zero, List.set_cons_succ]
  refine Det.det_take (v := ?_) (by rfl) ?_ ?_
  rotate_left
  · (intro w hSw; go_simp; try with_reducible rfl)
  try simp only [Act.put, List.setIfInBounds_toArray, List.set_cons_zero, List.set_cons_succ]
  refine Det.det_load 26 8 _ Try.underlying26 rfl szCx _ rfl (by rfl) _ rfl _ _ (fun w hS => Bx_19.keep hS) rfl ?_
  try simp only [Act.put, List.setIfInBounds_toArray, List.set_cons_zero, List.set_cons_succ]
  refine Det.det_load 26 8 _ Try.underlying26 rfl szCx _ rfl (by rfl) _ rfl _ _ (fun w hS => Bt_19.keep hS) rfl ?_
  try simp only [Act.put, List.setIfInBounds_toArray, List.set_cons_zero, List.set_cons_succ]
  refine Det.det_take (v := ?_) (by rfl) ?_ ?_
  rotate_left
  · (intro w hSw; have q1 : (Op.equalIn 9999 24 (.agg #[.int .i64 s0, .int .i64 s1, .int .i64 s2, .int .i64 s3]) (.agg #[.int .i64 s0, .int .i64 s1, .int .i64 s2, .int .i64 s3])).run Try.prog w = .ok true w := eqA14 s0 s1 s2 s3 9997 w; have q2 : (Op.equalIn 9999 24 (.agg #[.int .i64 s4, .int .i64 s5, .int .i64 s6, .int .i64 s7]) (.agg #[.int .i64 s4, .int .i64 s5, .int .i64 s6, .int .i64 s7])).run Try.prog w = .ok true w := eqA14 s4 s5 s6 s7 9997 w; go_simp; try with_reducible rfl)
  try simp only [Act.put, List.setIfInBounds_toArray, List.set_cons_zero, List.set_cons_succ]
  refine Det.det_take (v := ?_) (by rfl) ?_ ?_
  rotate_left
  · (intro w hSw; go_simp; try with_reducible rfl)
  try simp only [Act.put, List.setIfInBounds_toArray, List.set_cons_zero, List.set_cons_succ]
  refine Det.det_take (v := ?_) (by rfl) ?_ ?_
  rotate_left
  · (intro w hSw; go_simp; try with_reducible rfl)
  try simp only [Act.put, List.setIfInBounds_toArray, List.set_cons_zero, List.set_cons_succ]
  refine Det.det_call (f := 14) (args := #[]) (v := .bool true) (by rfl) ?_ (fun w hS => (HA.out w).mono fun e w' ⟨h1, h2⟩ => ⟨h1, bq_trans hS h2⟩) ?_
  · (intro w hSw; go_simp)
  try simp only [Act.put, List.setIfInBounds_toArray, List.set_cons_zero, List.set_cons_succ]
  refine Det.det_take (v := ?_) (by rfl) ?_ ?_
  rotate_left
  · (intro w hSw; go_simp; try with_reducible rfl)
  try simp only [Act.put, List.setIfInBounds_toArray, List.set_cons_zero, List.set_cons_succ]
  refine Det.det_take (v := ?_) (by rfl) ?_ ?_
  rotate_left
  · (intro w hSw; go_simp; try with_reducible rfl)
  try simp only [Act.put, List.setIfInBounds_toArray, List.set_cons_zero, List.set_cons_succ]
  refine Det.det_nil (fun W20 k20 => ?_)
  have Bm_20 := Bm_19.keep k20
  have Bi_20 := Bi_19.keep k20
  have Bc_20 := Bc_19.keep k20
  have Bd_20 := Bd_19.keep k20
  have Ba_20 := Ba_19.keep k20
  have Bb_20 := Bb_19.keep k20
  have Bx_20 := Bx_19.keep k20
  have Bt_20 := Bt_19.keep k20
  have Hw20 := bq_trans Hw19 k20
  clear k20 Bm_19 Bi_19 Bc_19 Bd_19 Ba_19 Bb_19 Bx_19 Bt_19 Hw19
  go_wp2_with fail
  go_ret
  exact ⟨rfl, Hw20⟩
theorem affineComposes_walk (A B C D X Y ia ib ic id ix iy om0 om1 om2 om3 od0 od1 od2 od3 im0 im1 im2 im3 id0 id1 id2 id3 : Int) (w : World) (hm : I64M A B C D X Y) (hi : I64M ia ib ic id ix iy) (ho : I64C om0 om1 om2 om3 od0 od1 od2 od3) (hn : I64C im0 im1 im2 im3 id0 id1 id2 id3) : Calls Try.prog 3 #[.agg #[.int .i64 A, .int .i64 B, .int .i64 C, .int .i64 D, .int .i64 X, .int .i64 Y], .agg #[.int .i64 ia, .int .i64 ib, .int .i64 ic, .int .i64 id, .int .i64 ix, .int .i64 iy], .agg #[.int .i64 om0, .int .i64 om1, .int .i64 om2, .int .i64 om3, .int .i64 od0, .int .i64 od1, .int .i64 od2, .int .i64 od3], .agg #[.int .i64 im0, .int .i64 im1, .int .i64 im2, .int .i64 im3, .int .i64 id0, .int .i64 id1, .int .i64 id2, .int .i64 id3]] w fun e w' => e = .returned (.bool true) ∧ Below w.heap.size w w' := by
  obtain ⟨r0, r1, r2, r3, r4, r5, ev, h1⟩ := cmpV_form A B C D X Y ia ib ic id ix iy
  have H1 := Lib.hid fun W => h1 ▸ comp14_any A B C D X Y ia ib ic id ix iy W hm hi
  have H2 := Lib.hid fun W => h1 ▸ rcomp14_any A B C D X Y ia ib ic id ix iy W
  have H3 := Lib.hid fun W => compcx14_any om0 om1 om2 om3 od0 od1 od2 od3 im0 im1 im2 im3 id0 id1 id2 id3 W ho hn
  have H4 := Lib.hid fun W => rrightc om0 om1 om2 om3 od0 od1 od2 od3 W
  have H5 := Lib.hid fun W => rrightc im0 im1 im2 im3 id0 id1 id2 id3 W
  cases q1 : cxOk8 om0 om1 om2 om3 od0 od1 od2 od3 with
  | false =>
    rw [ccxV_no (by rw [q1]; rfl)] at H3
    exact composes14_law0 A B C D X Y ia ib ic id ix iy om0 om1 om2 om3 od0 od1 od2 od3 im0 im1 im2 im3 id0 id1 id2 id3 r0 r1 r2 r3 r4 r5 ev 0 0 0 0 0 0 0 0 w (Lib.hid awake14_any) H1 H2 H3 (Lib.hid fun W => q1 ▸ H4.out W)
  | true =>
    cases q2 : cxOk8 im0 im1 im2 im3 id0 id1 id2 id3 with
    | false =>
      rw [ccxV_no (by rw [q1, q2]; rfl)] at H3
      exact composes14_law1 A B C D X Y ia ib ic id ix iy om0 om1 om2 om3 od0 od1 od2 od3 im0 im1 im2 im3 id0 id1 id2 id3 r0 r1 r2 r3 r4 r5 ev 0 0 0 0 0 0 0 0 w (Lib.hid awake14_any) H1 H2 H3 (Lib.hid fun W => q1 ▸ H4.out W) (Lib.hid fun W => q2 ▸ H5.out W)
    | true =>
      have H6 := Lib.hid fun W => rcompcx14_any om0 om1 om2 om3 od0 od1 od2 od3 im0 im1 im2 im3 id0 id1 id2 id3 W q1 q2
      rw [ccxV_yes q1 q2] at H3 H6
      exact composes14_law2 A B C D X Y ia ib ic id ix iy om0 om1 om2 om3 od0 od1 od2 od3 im0 im1 im2 im3 id0 id1 id2 id3 r0 r1 r2 r3 r4 r5 ev _ _ _ _ _ _ _ _ w (Lib.hid awake14_any) H1 H2 H3 (Lib.hid fun W => q1 ▸ H4.out W) (Lib.hid fun W => q2 ▸ H5.out W) H6
end Go.Proofs.Ythcejmbjagpjcaa
