import Derived.Test.YthcejmbjagpjcabN6
import Derived.Test.YthcejmbjagpjcabFa
import Derived.Laws.StructEq
/- Layer 14: equal values; what turns nothing; a fixed answer. -/
namespace Go.Proofs.Ythcejmbjagpjcab
open Go.RowKit
set_option linter.unusedVariables false
set_option linter.unusedSimpArgs false
set_option maxRecDepth 100000

theorem eqM14 (A B C D X Y : Int) (w : World) : (Op.equalIn 10000 25 (.agg #[.int .i64 A, .int .i64 B, .int .i64 C, .int .i64 D, .int .i64 X, .int .i64 Y]) (.agg #[.int .i64 A, .int .i64 B, .int .i64 C, .int .i64 D, .int .i64 X, .int .i64 Y])).run Try.prog w = .ok true w := by
  go_simp
theorem eqP14 (x y : Int) (w : World) : (Op.equalIn 10000 31 (.agg #[.int .i64 x, .int .i64 y]) (.agg #[.int .i64 x, .int .i64 y])).run Try.prog w = .ok true w := by
  go_simp
theorem same14_any (w : World) : Calls Try.prog 12 #[] w fun e w' => e = .returned (.agg #[.int .i64 65536, .int .i64 0, .int .i64 0, .int .i64 65536, .int .i64 0, .int .i64 0]) ∧ Below w.heap.size w w' := by
  go_enter Try.func12, Try.ntmps12
  go_wp2_with (first
    | (refine wl_alloc 25 _ zeMt rfl rfl ?_; intro W1 bo Bo_1 l1 k1; have go : w.heap.size ≤ bo := l1; have Hw1 := k1; clear l1 k1)
    | (refine wl_store 25 6 szMt _ _ rfl rfl _ rfl #[.int .i64 65536, .int .i64 0, .int .i64 0, .int .i64 65536, .int .i64 0, .int .i64 0] rfl _ _ Bo_1 rfl rfl (by kernel_rfl) ?_; intro W2 Bo_2 T2; have Hw2 := T2.below Hw1 go; clear T2 Bo_1 Hw1))
  exact post_cell Try.underlying25 rfl szMt Try.results12 Bo_2 rfl rfl rfl ⟨rfl, Hw2⟩
set_option maxHeartbeats 2000000 in
theorem awake14_core (w : World) (HS : Hid (∀ W, Calls Try.prog 12 #[] W fun e w' => e = .returned (.agg #[.int .i64 65536, .int .i64 0, .int .i64 0, .int .i64 65536, .int .i64 0, .int .i64 0]) ∧ Below W.heap.size W w'))
    (H1 : Hid (∀ W, Calls Try.prog 6 #[.agg #[.int .i64 65536, .int .i64 0, .int .i64 0, .int .i64 65536, .int .i64 0, .int .i64 0], .agg #[.int .i64 20, .int .i64 40]] W fun e w' => e = .returned (.tuple #[.agg #[.int .i64 1310720, .int .i64 2621440], .int .i64 0]) ∧ Below W.heap.size W w'))
    (H2 : Hid (∀ W, Calls Try.prog 13 #[.agg #[.int .i64 65536, .int .i64 0, .int .i64 0, .int .i64 65536, .int .i64 0, .int .i64 0], .agg #[.int .i64 20, .int .i64 40]] W fun e w' => e = .returned (.tuple #[.agg #[.int .i64 64, .int .i64 128], .int .i64 0]) ∧ Below W.heap.size W w'))
    (H3 : Hid (∀ W, Calls Try.prog 14 #[.agg #[.int .i64 65536, .int .i64 0, .int .i64 0, .int .i64 65536, .int .i64 0, .int .i64 0], .agg #[.int .i64 64, .int .i64 128]] W fun e w' => e = .returned (.tuple #[.agg #[.int .i64 20, .int .i64 40], .bool true]) ∧ Below W.heap.size W w'))
    (H4 : Hid (∀ W, Calls Try.prog 15 #[.agg #[.int .i64 65536, .int .i64 0, .int .i64 0, .int .i64 65536, .int .i64 0, .int .i64 0]] W fun e w' => e = .returned (.int .i64 65536) ∧ Below W.heap.size W w')) :
    Calls Try.prog 7 #[] w fun e w' => e = .returned (.bool true) ∧ Below w.heap.size w w' := by
  go_enter Try.func7, Try.ntmps7
  go_upto_region 2 with (go_big_may; first
    | (go_at_call 12; (with_reducible refine (HS.out _).mono ?_); rintro e W1 ⟨rfl, k1⟩; have Hw1 := k1; clear k1)
    | (go_at_call 6; (with_reducible refine (H1.out _).mono ?_); rintro e W2 ⟨rfl, k2⟩; have Hw2 := bq_trans Hw1 k2; clear k2 Hw1)
    | (refine wl_alloc 31 _ zePt rfl rfl ?_; intro W3 ba Ba_3 l3 k3; have ga : w.heap.size ≤ ba := Nat.le_trans Hw2.size l3; have Hw3 := bq_trans Hw2 k3; clear l3 k3 Hw2)
    | (refine wl_store 31 2 szPt _ _ rfl rfl _ rfl #[.int .i64 1310720, .int .i64 2621440] rfl _ _ Ba_3 rfl rfl (by kernel_rfl) ?_; intro W4 Ba_4 T4; have Hw4 := T4.below Hw3 ga; clear T4 Ba_3 Hw3))
  go_upto_region 3 with (go_big_may; first
    | (go_at_call 12; (with_reducible refine (HS.out _).mono ?_); rintro e W5 ⟨rfl, k5⟩; have Ba_5 := Ba_4.keep k5; have Hw5 := bq_trans Hw4 k5; clear k5 Ba_4 Hw4)
    | (go_at_call 13; (with_reducible refine (H2.out _).mono ?_); rintro e W6 ⟨rfl, k6⟩; have Ba_6 := Ba_5.keep k6; have Hw6 := bq_trans Hw5 k6; clear k6 Ba_5 Hw5)
    | (refine wl_alloc 31 _ zePt rfl rfl ?_; intro W7 bb Bb_7 l7 k7; have gb : w.heap.size ≤ bb := Nat.le_trans Hw6.size l7; have nab : ba ≠ bb := Nat.ne_of_lt (Nat.lt_of_lt_of_le Ba_6.lt l7); have Ba_7 := Ba_6.keep k7; have Hw7 := bq_trans Hw6 k7; clear l7 k7 Ba_6 Hw6)
    | (refine wl_store 31 2 szPt _ _ rfl rfl _ rfl #[.int .i64 64, .int .i64 128] rfl _ _ Bb_7 rfl rfl (by kernel_rfl) ?_; intro W8 Bb_8 T8; have Ba_8 := T8.blk Ba_7 nab; have Hw8 := T8.below Hw7 gb; clear T8 Ba_7 Bb_7 Hw7))
  go_upto_region 4 with (go_big_may; first
    | (go_at_call 12; (with_reducible refine (HS.out _).mono ?_); rintro e W9 ⟨rfl, k9⟩; have Ba_9 := Ba_8.keep k9; have Bb_9 := Bb_8.keep k9; have Hw9 := bq_trans Hw8 k9; clear k9 Ba_8 Bb_8 Hw8)
    | (go_at_call 14; (with_reducible refine (H3.out _).mono ?_); rintro e W10 ⟨rfl, k10⟩; have Ba_10 := Ba_9.keep k10; have Bb_10 := Bb_9.keep k10; have Hw10 := bq_trans Hw9 k10; clear k10 Ba_9 Bb_9 Hw9)
    | (refine wl_alloc 31 _ zePt rfl rfl ?_; intro W11 bc Bc_11 l11 k11; have gc : w.heap.size ≤ bc := Nat.le_trans Hw10.size l11; have nac : ba ≠ bc := Nat.ne_of_lt (Nat.lt_of_lt_of_le Ba_10.lt l11); have nbc : bb ≠ bc := Nat.ne_of_lt (Nat.lt_of_lt_of_le Bb_10.lt l11); have Ba_11 := Ba_10.keep k11; have Bb_11 := Bb_10.keep k11; have Hw11 := bq_trans Hw10 k11; clear l11 k11 Ba_10 Bb_10 Hw10)
    | (refine wl_store 31 2 szPt _ _ rfl rfl _ rfl #[.int .i64 20, .int .i64 40] rfl _ _ Bc_11 rfl rfl (by kernel_rfl) ?_; intro W12 Bc_12 T12; have Ba_12 := T12.blk Ba_11 nac; have Bb_12 := T12.blk Bb_11 nbc; have Hw12 := T12.below Hw11 gc; clear T12 Ba_11 Bb_11 Bc_11 Hw11))
  refine Det.wp_region_text (S := fun w' => Below W12.heap.size W12 w') (bq_refl _) ?_
  refine Det.det_load 31 2 _ Try.underlying31 rfl szPt _ rfl (by rfl) _ rfl _ _ (fun w hS => Ba_12.keep hS) rfl ?_
  try simp only [Act.put, List.setIfInBounds_toArray, List.set_cons_zero, List.set_cons_succ]
  refine Det.det_take (v := ?_) (by rfl) ?_ ?_
  rotate_left
  · (intro w hSw; go_simp; try with_reducible rfl)
  try simp only [Act.put, List.setIfInBounds_toArray, List.set_cons_zero, List.set_cons_succ]
  refine Det.det_take (v := ?_) (by rfl) ?_ ?_
  rotate_left
  · (intro w hSw; have q := eqP14 1310720 2621440 w; go_simp; try with_reducible rfl)
  try simp only [Act.put, List.setIfInBounds_toArray, List.set_cons_zero, List.set_cons_succ]
  refine Det.det_take (v := ?_) (by rfl) ?_ ?_
  rotate_left
  · (intro w hSw; go_simp; try with_reducible rfl)
  try simp only [Act.put, List.setIfInBounds_toArray, List.set_cons_zero, List.set_cons_succ]
  refine Det.det_take (v := ?_) (by rfl) ?_ ?_
  rotate_left
  · (intro w hSw; go_simp; try with_reducible rfl)
  try simp only [Act.put, List.setIfInBounds_toArray, List.set_cons_zero, List.set_cons_succ]
  refine Det.det_take (v := ?_) (by rfl) ?_ ?_
  rotate_left
  · (intro w hSw; go_simp; try with_reducible rfl)
  try simp only [Act.put, List.setIfInBounds_toArray, List.set_cons_zero, List.set_cons_succ]
  refine Det.det_take (v := ?_) (by rfl) ?_ ?_
  rotate_left
  · (intro w hSw; go_simp; try with_reducible rfl)
  try simp only [Act.put, List.setIfInBounds_toArray, List.set_cons_zero, List.set_cons_succ]
  refine Det.det_take (v := ?_) (by rfl) ?_ ?_
  rotate_left
  · (intro w hSw; go_simp; try with_reducible rfl)
  try simp only [Act.put, List.setIfInBounds_toArray, List.set_cons_zero, List.set_cons_succ]
  refine Det.det_load 31 2 _ Try.underlying31 rfl szPt _ rfl (by rfl) _ rfl _ _ (fun w hS => Bb_12.keep hS) rfl ?_
  try simp only [Act.put, List.setIfInBounds_toArray, List.set_cons_zero, List.set_cons_succ]
  refine Det.det_take (v := ?_) (by rfl) ?_ ?_
  rotate_left
  · (intro w hSw; go_simp; try with_reducible rfl)
  try simp only [Act.put, List.setIfInBounds_toArray, List.set_cons_zero, List.set_cons_succ]
  refine Det.det_take (v := ?_) (by rfl) ?_ ?_
  rotate_left
  · (intro w hSw; have q := eqP14 64 128 w; go_simp; try with_reducible rfl)
  try simp only [Act.put, List.setIfInBounds_toArray, List.set_cons_zero, List.set_cons_succ]
  refine Det.det_take (v := ?_) (by rfl) ?_ ?_
  rotate_left
  · (intro w hSw; go_simp; try with_reducible rfl)
  try simp only [Act.put, List.setIfInBounds_toArray, List.set_cons_zero, List.set_cons_succ]
  refine Det.det_take (v := ?_) (by rfl) ?_ ?_
  rotate_left
  · (intro w hSw; go_simp; try with_reducible rfl)
  try simp only [Act.put, List.setIfInBounds_toArray, List.set_cons_zero, List.set_cons_succ]
  refine Det.det_take (v := ?_) (by rfl) ?_ ?_
  rotate_left
  · (intro w hSw; go_simp; try with_reducible rfl)
  try simp only [Act.put, List.setIfInBounds_toArray, List.set_cons_zero, List.set_cons_succ]
  refine Det.det_take (v := ?_) (by rfl) ?_ ?_
  rotate_left
  · (intro w hSw; go_simp; try with_reducible rfl)
  try simp only [Act.put, List.setIfInBounds_toArray, List.set_cons_zero, List.set_cons_succ]
  refine Det.det_take (v := ?_) (by rfl) ?_ ?_
  rotate_left
  · (intro w hSw; go_simp; try with_reducible rfl)
  try simp only [Act.put, List.setIfInBounds_toArray, List.set_cons_zero, List.set_cons_succ]
  refine Det.det_take (v := ?_) (by rfl) ?_ ?_
  rotate_left
  · (intro w hSw; go_simp; try with_reducible rfl)
  try simp only [Act.put, List.setIfInBounds_toArray, List.set_cons_zero, List.set_cons_succ]
  refine Det.det_load 31 2 _ Try.underlying31 rfl szPt _ rfl (by rfl) _ rfl _ _ (fun w hS => Bc_12.keep hS) rfl ?_
  try simp only [Act.put, List.setIfInBounds_toArray, List.set_cons_zero, List.set_cons_succ]
  refine Det.det_take (v := ?_) (by rfl) ?_ ?_
  rotate_left
  · (intro w hSw; go_simp; try with_reducible rfl)
  try simp only [Act.put, List.setIfInBounds_toArray, List.set_cons_zero, List.set_cons_succ]
  refine Det.det_take (v := ?_) (by rfl) ?_ ?_
  rotate_left
  · (intro w hSw; have q := eqP14 20 40 w; go_simp; try with_reducible rfl)
  try simp only [Act.put, List.setIfInBounds_toArray, List.set_cons_zero, List.set_cons_succ]
  refine Det.det_take (v := ?_) (by rfl) ?_ ?_
  rotate_left
  · (intro w hSw; go_simp; try with_reducible rfl)
  try simp only [Act.put, List.setIfInBounds_toArray, List.set_cons_zero, List.set_cons_succ]
  refine Det.det_take (v := ?_) (by rfl) ?_ ?_
  rotate_left
  · (intro w hSw; go_simp; try with_reducible rfl)
  try simp only [Act.put, List.setIfInBounds_toArray, List.set_cons_zero, List.set_cons_succ]
  refine Det.det_take (v := ?_) (by rfl) ?_ ?_
  rotate_left
  · (intro w hSw; go_simp; try with_reducible rfl)
  try simp only [Act.put, List.setIfInBounds_toArray, List.set_cons_zero, List.set_cons_succ]
  refine Det.det_take (v := ?_) (by rfl) ?_ ?_
  rotate_left
  · (intro w hSw; go_simp; try with_reducible rfl)
  try simp only [Act.put, List.setIfInBounds_toArray, List.set_cons_zero, List.set_cons_succ]
  refine Det.det_take (v := ?_) (by rfl) ?_ ?_
  rotate_left
  · (intro w hSw; go_simp; try with_reducible rfl)
  try simp only [Act.put, List.setIfInBounds_toArray, List.set_cons_zero, List.set_cons_succ]
  refine Det.det_call (f := 12) (args := #[]) (v := .agg #[.int .i64 65536, .int .i64 0, .int .i64 0, .int .i64 65536, .int .i64 0, .int .i64 0]) (by rfl) ?_ (fun w hS => (HS.out w).mono fun e w' ⟨h1, h2⟩ => ⟨h1, bq_trans hS h2⟩) ?_
  · (intro w hSw; go_simp)
  try simp only [Act.put, List.setIfInBounds_toArray, List.set_cons_zero, List.set_cons_succ]
  refine Det.det_call (f := 15) (args := #[.agg #[.int .i64 65536, .int .i64 0, .int .i64 0, .int .i64 65536, .int .i64 0, .int .i64 0]]) (v := .int .i64 65536) (by rfl) ?_ (fun w hS => (H4.out w).mono fun e w' ⟨h1, h2⟩ => ⟨h1, bq_trans hS h2⟩) ?_
  · (intro w hSw; go_simp)
  try simp only [Act.put, List.setIfInBounds_toArray, List.set_cons_zero, List.set_cons_succ]
  refine Det.det_take (v := ?_) (by rfl) ?_ ?_
  rotate_left
  · (intro w hSw; go_simp; try with_reducible rfl)
  try simp only [Act.put, List.setIfInBounds_toArray, List.set_cons_zero, List.set_cons_succ]
  refine Det.det_take (v := ?_) (by rfl) ?_ ?_
  rotate_left
  · (intro w hSw; go_simp; try with_reducible rfl)
  try simp only [Act.put, List.setIfInBounds_toArray, List.set_cons_zero, List.set_cons_succ]
  refine Det.det_take (v := ?_) (by rfl) ?_ ?_
  rotate_left
  · (intro w hSw; go_simp; try with_reducible rfl)
  try simp only [Act.put, List.setIfInBounds_toArray, List.set_cons_zero, List.set_cons_succ]
  refine Det.det_nil (fun W13 k13 => ?_)
  have Ba_13 := Ba_12.keep k13
  have Bb_13 := Bb_12.keep k13
  have Bc_13 := Bc_12.keep k13
  have Hw13 := bq_trans Hw12 k13
  clear k13 Ba_12 Bb_12 Bc_12 Hw12
  go_wp2_with fail
  go_ret
  exact ⟨rfl, Hw13⟩
theorem I64M_same : I64M 65536 0 0 65536 0 0 := ⟨⟨by decide, by decide⟩, ⟨by decide, by decide⟩, ⟨by decide, by decide⟩, ⟨by decide, by decide⟩, ⟨by decide, by decide⟩, ⟨by decide, by decide⟩⟩
theorem awake14_any (w : World) : Calls Try.prog 7 #[] w fun e w' => e = .returned (.bool true) ∧ Below w.heap.size w w' := by
  have h1 : aplV 65536 0 0 65536 0 0 20 40 = .tuple #[.agg #[.int .i64 1310720, .int .i64 2621440], .int .i64 0] := by kernel_rfl
  have h2 : grdV 65536 0 0 65536 0 0 20 40 = .tuple #[.agg #[.int .i64 64, .int .i64 128], .int .i64 0] := by kernel_rfl
  have h3 : bckV 65536 0 0 65536 0 0 64 128 = .tuple #[.agg #[.int .i64 20, .int .i64 40], .bool true] := by kernel_rfl
  have h4 : (if matOk 65536 0 0 65536 0 0 then sclV 65536 0 0 65536 else 0) = (65536 : Int) := by kernel_rfl
  exact awake14_core w (Lib.hid same14_any) (Lib.hid fun W => h1 ▸ apply14_any 65536 0 0 65536 0 0 20 40 W I64M_same) (Lib.hid fun W => h2 ▸ grid14_any 65536 0 0 65536 0 0 20 40 W I64M_same) (Lib.hid fun W => h3 ▸ back14_any 65536 0 0 65536 0 0 64 128 W I64M_same) (Lib.hid fun W => h4 ▸ scale14_any 65536 0 0 65536 0 0 W I64M_same)
end Go.Proofs.Ythcejmbjagpjcab
