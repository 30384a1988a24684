import Derived.Test.YthcejmbjagpjcabN7
/- Layer 14: the walk of AffineChains. -/
namespace Go.Proofs.Ythcejmbjagpjcab
open Go.RowKit
set_option linter.unusedVariables false
set_option linter.unusedSimpArgs false
set_option maxRecDepth 100000

set_option maxHeartbeats 1000000 in
theorem whole14_core (l0 l1 l2 l3 l4 l5 a0 a1 a2 a3 : Int) (w : World) (l0l : -128 ≤ l0) (l0g : l0 ≤ 127) (l1l : -128 ≤ l1) (l1g : l1 ≤ 127) (l2l : -128 ≤ l2) (l2g : l2 ≤ 127) (l3l : -128 ≤ l3) (l3g : l3 ≤ 127) (l4l : -128 ≤ l4) (l4g : l4 ≤ 127) (l5l : -128 ≤ l5) (l5g : l5 ≤ 127) (e0 : l0.tmod 4 = a0) (c0 : -3 ≤ a0) (d0 : a0 ≤ 3) (e1 : l1.tmod 4 = a1) (c1 : -3 ≤ a1) (d1 : a1 ≤ 3) (e2 : l2.tmod 4 = a2) (c2 : -3 ≤ a2) (d2 : a2 ≤ 3) (e3 : l3.tmod 4 = a3) (c3 : -3 ≤ a3) (d3 : a3 ≤ 3) :
    Calls Try.prog 4 #[.agg #[.int .i8 l0, .int .i8 l1, .int .i8 l2, .int .i8 l3, .int .i8 l4, .int .i8 l5]] w fun e w' => e = .returned (.agg #[.int .i64 (a0 * 65536), .int .i64 (a1 * 65536), .int .i64 (a2 * 65536), .int .i64 (a3 * 65536), .int .i64 l4, .int .i64 l5]) ∧ Below w.heap.size w w' := by
  go_enter Try.func4, Try.ntmps4
  go_upto_region 1 with (go_big_may; first
    | (refine wl_box 23 _ _ rfl rfl (show _ = Value.agg #[.int .i8 l0, .int .i8 l1, .int .i8 l2, .int .i8 l3, .int .i8 l4, .int .i8 l5] from rfl) ?_; intro W1 bm Bm_1 l1 k1; have gm : w.heap.size ≤ bm := l1; have Hw1 := k1; clear l1 k1; have cm_0_1 : W1.cell? ⟨bm, 0, none⟩ = some (.int .i8 l0) := Bm_1.cell 0; have cm_1_1 : W1.cell? ⟨bm, 1, none⟩ = some (.int .i8 l1) := Bm_1.cell 1; have cm_2_1 : W1.cell? ⟨bm, 2, none⟩ = some (.int .i8 l2) := Bm_1.cell 2; have cm_3_1 : W1.cell? ⟨bm, 3, none⟩ = some (.int .i8 l3) := Bm_1.cell 3; have cm_4_1 : W1.cell? ⟨bm, 4, none⟩ = some (.int .i8 l4) := Bm_1.cell 4; have cm_5_1 : W1.cell? ⟨bm, 5, none⟩ = some (.int .i8 l5) := Bm_1.cell 5)
    | (refine wl_alloc 25 _ zeMt rfl rfl ?_; intro W2 bo Bo_2 l2 k2; have go : w.heap.size ≤ bo := Nat.le_trans Hw1.size l2; have nmo : bm ≠ bo := Nat.ne_of_lt (Nat.lt_of_lt_of_le Bm_1.lt l2); have Bm_2 := Bm_1.keep k2; have Hw2 := bq_trans Hw1 k2; clear l2 k2 Bm_1 cm_0_1 cm_1_1 cm_2_1 cm_3_1 cm_4_1 cm_5_1 Hw1; have cm_0_2 : W2.cell? ⟨bm, 0, none⟩ = some (.int .i8 l0) := Bm_2.cell 0; have cm_1_2 : W2.cell? ⟨bm, 1, none⟩ = some (.int .i8 l1) := Bm_2.cell 1; have cm_2_2 : W2.cell? ⟨bm, 2, none⟩ = some (.int .i8 l2) := Bm_2.cell 2; have cm_3_2 : W2.cell? ⟨bm, 3, none⟩ = some (.int .i8 l3) := Bm_2.cell 3; have cm_4_2 : W2.cell? ⟨bm, 4, none⟩ = some (.int .i8 l4) := Bm_2.cell 4; have cm_5_2 : W2.cell? ⟨bm, 5, none⟩ = some (.int .i8 l5) := Bm_2.cell 5))
  go_wp2_with (first
    | (refine wl_store 25 6 szMt _ _ rfl rfl _ rfl #[.int .i64 (a0 * 65536), .int .i64 (a1 * 65536), .int .i64 (a2 * 65536), .int .i64 (a3 * 65536), .int .i64 l4, .int .i64 l5] rfl _ _ Bo_2 rfl rfl (by kernel_rfl) ?_; intro W3 Bo_3 T3; have Bm_3 := T3.blk Bm_2 nmo; have Hw3 := T3.below Hw2 go; clear T3 Bm_2 cm_0_2 cm_1_2 cm_2_2 cm_3_2 cm_4_2 cm_5_2 Bo_2 Hw2))
  exact post_cell Try.underlying25 rfl szMt Try.results4 Bo_3 rfl rfl rfl ⟨rfl, Hw3⟩
theorem szA8 : (Try.prog.info? 23).map (·.size) = some 6 := by kernel_rfl
set_option maxHeartbeats 2000000 in
theorem chains14_core (l0 l1 l2 l3 l4 l5 n0 n1 n2 n3 n4 n5 x y A B C D X Y ia ib ic id ix iy r0 r1 r2 r3 r4 r5 g h u v r s : Int) (w : World) (xl : -128 ≤ x) (xg : x ≤ 127) (yl : -128 ≤ y) (yg : y ≤ 127) (gl : -100000000 ≤ g) (gg : g ≤ 100000000) (hl : -100000000 ≤ h) (hg : h ≤ 100000000) (hu : g / 65536 = u) (hv : h / 65536 = v) (HA : Hid (∀ W, Calls Try.prog 7 #[] W fun e w' => e = .returned (.bool true) ∧ Below W.heap.size W w'))
    (H1 : Hid (∀ W, Calls Try.prog 4 #[.agg #[.int .i8 l0, .int .i8 l1, .int .i8 l2, .int .i8 l3, .int .i8 l4, .int .i8 l5]] W fun e w' => e = .returned (.agg #[.int .i64 A, .int .i64 B, .int .i64 C, .int .i64 D, .int .i64 X, .int .i64 Y]) ∧ Below W.heap.size W w')) (H2 : Hid (∀ W, Calls Try.prog 4 #[.agg #[.int .i8 n0, .int .i8 n1, .int .i8 n2, .int .i8 n3, .int .i8 n4, .int .i8 n5]] W fun e w' => e = .returned (.agg #[.int .i64 ia, .int .i64 ib, .int .i64 ic, .int .i64 id, .int .i64 ix, .int .i64 iy]) ∧ Below W.heap.size W w'))
    (H3 : Hid (∀ W, Calls Try.prog 5 #[.agg #[.int .i64 A, .int .i64 B, .int .i64 C, .int .i64 D, .int .i64 X, .int .i64 Y], .agg #[.int .i64 ia, .int .i64 ib, .int .i64 ic, .int .i64 id, .int .i64 ix, .int .i64 iy]] W fun e w' => e = .returned (.tuple #[.agg #[.int .i64 r0, .int .i64 r1, .int .i64 r2, .int .i64 r3, .int .i64 r4, .int .i64 r5], .int .i64 0]) ∧ Below W.heap.size W w'))
    (H4 : Hid (∀ W, Calls Try.prog 6 #[.agg #[.int .i64 ia, .int .i64 ib, .int .i64 ic, .int .i64 id, .int .i64 ix, .int .i64 iy], .agg #[.int .i64 x, .int .i64 y]] W fun e w' => e = .returned (.tuple #[.agg #[.int .i64 g, .int .i64 h], .int .i64 0]) ∧ Below W.heap.size W w')) (H5 : Hid (∀ W, Calls Try.prog 6 #[.agg #[.int .i64 A, .int .i64 B, .int .i64 C, .int .i64 D, .int .i64 X, .int .i64 Y], .agg #[.int .i64 u, .int .i64 v]] W fun e w' => e = .returned (.tuple #[.agg #[.int .i64 r, .int .i64 s], .int .i64 0]) ∧ Below W.heap.size W w')) (H6 : Hid (∀ W, Calls Try.prog 6 #[.agg #[.int .i64 r0, .int .i64 r1, .int .i64 r2, .int .i64 r3, .int .i64 r4, .int .i64 r5], .agg #[.int .i64 x, .int .i64 y]] W fun e w' => e = .returned (.tuple #[.agg #[.int .i64 r, .int .i64 s], .int .i64 0]) ∧ Below W.heap.size W w')) :
    Calls Try.prog 3 #[.agg #[.int .i8 l0, .int .i8 l1, .int .i8 l2, .int .i8 l3, .int .i8 l4, .int .i8 l5], .agg #[.int .i8 n0, .int .i8 n1, .int .i8 n2, .int .i8 n3, .int .i8 n4, .int .i8 n5], .int .i8 x, .int .i8 y] w fun e w' => e = .returned (.bool true) ∧ Below w.heap.size w w' := by
  go_enter Try.func3, Try.ntmps3
  go_upto_region 1 with (go_big_may; first
    | (refine wl_box 23 _ _ rfl rfl (show _ = Value.agg #[.int .i8 l0, .int .i8 l1, .int .i8 l2, .int .i8 l3, .int .i8 l4, .int .i8 l5] from rfl) ?_; intro W1 bm Bm_1 l1 k1; have gm : w.heap.size ≤ bm := l1; have Hw1 := k1; clear l1 k1)
    | (refine wl_box 23 _ _ rfl rfl (show _ = Value.agg #[.int .i8 n0, .int .i8 n1, .int .i8 n2, .int .i8 n3, .int .i8 n4, .int .i8 n5] from rfl) ?_; intro W2 bn Bn_2 l2 k2; have gn : w.heap.size ≤ bn := Nat.le_trans Hw1.size l2; have nmn : bm ≠ bn := Nat.ne_of_lt (Nat.lt_of_lt_of_le Bm_1.lt l2); have Bm_2 := Bm_1.keep k2; have Hw2 := bq_trans Hw1 k2; clear l2 k2 Bm_1 Hw1))
  go_upto_region 2 with (go_big_may; first
    | (refine wl_load 23 6 _ Try.underlying23 rfl szA8 _ rfl rfl _ rfl _ _ Bm_2 rfl ?_)
    | (go_at_call 4; (with_reducible refine (H1.out _).mono ?_); rintro e W3 ⟨rfl, k3⟩; have Bm_3 := Bm_2.keep k3; have Bn_3 := Bn_2.keep k3; have Hw3 := bq_trans Hw2 k3; clear k3 Bm_2 Bn_2 Hw2)
    | (refine wl_alloc 25 _ zeMt rfl rfl ?_; intro W4 ba Ba_4 l4 k4; have ga : w.heap.size ≤ ba := Nat.le_trans Hw3.size l4; have nma : bm ≠ ba := Nat.ne_of_lt (Nat.lt_of_lt_of_le Bm_3.lt l4); have nna : bn ≠ ba := Nat.ne_of_lt (Nat.lt_of_lt_of_le Bn_3.lt l4); have Bm_4 := Bm_3.keep k4; have Bn_4 := Bn_3.keep k4; have Hw4 := bq_trans Hw3 k4; clear l4 k4 Bm_3 Bn_3 Hw3)
    | (refine wl_store 25 6 szMt _ _ rfl rfl _ rfl #[.int .i64 A, .int .i64 B, .int .i64 C, .int .i64 D, .int .i64 X, .int .i64 Y] rfl _ _ Ba_4 rfl rfl (by kernel_rfl) ?_; intro W5 Ba_5 T5; have Bm_5 := T5.blk Bm_4 nma; have Bn_5 := T5.blk Bn_4 nna; have Hw5 := T5.below Hw4 ga; clear T5 Bm_4 Bn_4 Ba_4 Hw4))
  go_upto_region 3 with (go_big_may; first
    | (refine wl_load 23 6 _ Try.underlying23 rfl szA8 _ rfl rfl _ rfl _ _ Bn_5 rfl ?_)
    | (go_at_call 4; (with_reducible refine (H2.out _).mono ?_); rintro e W6 ⟨rfl, k6⟩; have Bm_6 := Bm_5.keep k6; have Bn_6 := Bn_5.keep k6; have Ba_6 := Ba_5.keep k6; have Hw6 := bq_trans Hw5 k6; clear k6 Bm_5 Bn_5 Ba_5 Hw5)
    | (refine wl_alloc 25 _ zeMt rfl rfl ?_; intro W7 bb Bb_7 l7 k7; have gb : w.heap.size ≤ bb := Nat.le_trans Hw6.size l7; have nmb : bm ≠ bb := Nat.ne_of_lt (Nat.lt_of_lt_of_le Bm_6.lt l7); have nnb : bn ≠ bb := Nat.ne_of_lt (Nat.lt_of_lt_of_le Bn_6.lt l7); have nab : ba ≠ bb := Nat.ne_of_lt (Nat.lt_of_lt_of_le Ba_6.lt l7); have Bm_7 := Bm_6.keep k7; have Bn_7 := Bn_6.keep k7; have Ba_7 := Ba_6.keep k7; have Hw7 := bq_trans Hw6 k7; clear l7 k7 Bm_6 Bn_6 Ba_6 Hw6)
    | (refine wl_store 25 6 szMt _ _ rfl rfl _ rfl #[.int .i64 ia, .int .i64 ib, .int .i64 ic, .int .i64 id, .int .i64 ix, .int .i64 iy] rfl _ _ Bb_7 rfl rfl (by kernel_rfl) ?_; intro W8 Bb_8 T8; have Bm_8 := T8.blk Bm_7 nmb; have Bn_8 := T8.blk Bn_7 nnb; have Ba_8 := T8.blk Ba_7 nab; have Hw8 := T8.below Hw7 gb; clear T8 Bm_7 Bn_7 Ba_7 Bb_7 Hw7))
  go_upto_region 4 with (go_big_may; first
    | (refine wl_load 25 6 _ Try.underlying25 rfl szMt _ rfl rfl _ rfl _ _ Ba_8 rfl ?_)
    | (refine wl_load 25 6 _ Try.underlying25 rfl szMt _ rfl rfl _ rfl _ _ Bb_8 rfl ?_)
    | (go_at_call 5; (with_reducible refine (H3.out _).mono ?_); rintro e W9 ⟨rfl, k9⟩; have Bm_9 := Bm_8.keep k9; have Bn_9 := Bn_8.keep k9; have Ba_9 := Ba_8.keep k9; have Bb_9 := Bb_8.keep k9; have Hw9 := bq_trans Hw8 k9; clear k9 Bm_8 Bn_8 Ba_8 Bb_8 Hw8)
    | (refine wl_alloc 25 _ zeMt rfl rfl ?_; intro W10 bc Bc_10 l10 k10; have gc : w.heap.size ≤ bc := Nat.le_trans Hw9.size l10; have nmc : bm ≠ bc := Nat.ne_of_lt (Nat.lt_of_lt_of_le Bm_9.lt l10); have nnc : bn ≠ bc := Nat.ne_of_lt (Nat.lt_of_lt_of_le Bn_9.lt l10); have nac : ba ≠ bc := Nat.ne_of_lt (Nat.lt_of_lt_of_le Ba_9.lt l10); have nbc : bb ≠ bc := Nat.ne_of_lt (Nat.lt_of_lt_of_le Bb_9.lt l10); have Bm_10 := Bm_9.keep k10; have Bn_10 := Bn_9.keep k10; have Ba_10 := Ba_9.keep k10; have Bb_10 := Bb_9.keep k10; have Hw10 := bq_trans Hw9 k10; clear l10 k10 Bm_9 Bn_9 Ba_9 Bb_9 Hw9)
    | (refine wl_store 25 6 szMt _ _ rfl rfl _ rfl #[.int .i64 r0, .int .i64 r1, .int .i64 r2, .int .i64 r3, .int .i64 r4, .int .i64 r5] rfl _ _ Bc_10 rfl rfl (by kernel_rfl) ?_; intro W11 Bc_11 T11; have Bm_11 := T11.blk Bm_10 nmc; have Bn_11 := T11.blk Bn_10 nnc; have Ba_11 := T11.blk Ba_10 nac; have Bb_11 := T11.blk Bb_10 nbc; have Hw11 := T11.below Hw10 gc; clear T11 Bm_10 Bn_10 Ba_10 Bb_10 Bc_10 Hw10))
  go_upto_region 5 with (go_big_may; first
    | (refine wl_load 25 6 _ Try.underlying25 rfl szMt _ rfl rfl _ rfl _ _ Bb_11 rfl ?_)
    | (go_at_call 6; (with_reducible refine (H4.out _).mono ?_); rintro e W12 ⟨rfl, k12⟩; have Bm_12 := Bm_11.keep k12; have Bn_12 := Bn_11.keep k12; have Ba_12 := Ba_11.keep k12; have Bb_12 := Bb_11.keep k12; have Bc_12 := Bc_11.keep k12; have Hw12 := bq_trans Hw11 k12; clear k12 Bm_11 Bn_11 Ba_11 Bb_11 Bc_11 Hw11)
    | (refine wl_alloc 31 _ zePt rfl rfl ?_; intro W13 bd Bd_13 l13 k13; have gd : w.heap.size ≤ bd := Nat.le_trans Hw12.size l13; have nmd : bm ≠ bd := Nat.ne_of_lt (Nat.lt_of_lt_of_le Bm_12.lt l13); have nnd : bn ≠ bd := Nat.ne_of_lt (Nat.lt_of_lt_of_le Bn_12.lt l13); have nad : ba ≠ bd := Nat.ne_of_lt (Nat.lt_of_lt_of_le Ba_12.lt l13); have nbd : bb ≠ bd := Nat.ne_of_lt (Nat.lt_of_lt_of_le Bb_12.lt l13); have ncd : bc ≠ bd := Nat.ne_of_lt (Nat.lt_of_lt_of_le Bc_12.lt l13); have Bm_13 := Bm_12.keep k13; have Bn_13 := Bn_12.keep k13; have Ba_13 := Ba_12.keep k13; have Bb_13 := Bb_12.keep k13; have Bc_13 := Bc_12.keep k13; have Hw13 := bq_trans Hw12 k13; clear l13 k13 Bm_12 Bn_12 Ba_12 Bb_12 Bc_12 Hw12)
    | (refine wl_store 31 2 szPt _ _ rfl rfl _ rfl #[.int .i64 g, .int .i64 h] rfl _ _ Bd_13 rfl rfl (by kernel_rfl) ?_; intro W14 Bd_14 T14; have Bm_14 := T14.blk Bm_13 nmd; have Bn_14 := T14.blk Bn_13 nnd; have Ba_14 := T14.blk Ba_13 nad; have Bb_14 := T14.blk Bb_13 nbd; have Bc_14 := T14.blk Bc_13 ncd; have Hw14 := T14.below Hw13 gd; clear T14 Bm_13 Bn_13 Ba_13 Bb_13 Bc_13 Bd_13 Hw13))
  have cu : W14.cell? ⟨bd, 0, none⟩ = some (.int .i64 g) := Bd_14.cell 0
  have cv : W14.cell? ⟨bd, 1, none⟩ = some (.int .i64 h) := Bd_14.cell 1
  go_upto_region 6 with (go_big_may; first
    | (refine wl_load 25 6 _ Try.underlying25 rfl szMt _ rfl rfl _ rfl _ _ Ba_14 rfl ?_)
    | (go_at_call 6; (with_reducible refine (H5.out _).mono ?_); rintro e W15 ⟨rfl, k15⟩; have Bm_15 := Bm_14.keep k15; have Bn_15 := Bn_14.keep k15; have Ba_15 := Ba_14.keep k15; have Bb_15 := Bb_14.keep k15; have Bc_15 := Bc_14.keep k15; have Bd_15 := Bd_14.keep k15; have Hw15 := bq_trans Hw14 k15; clear cu cv; clear k15 Bm_14 Bn_14 Ba_14 Bb_14 Bc_14 Bd_14 Hw14)
    | (refine wl_alloc 31 _ zePt rfl rfl ?_; intro W16 be Be_16 l16 k16; have ge : w.heap.size ≤ be := Nat.le_trans Hw15.size l16; have nme : bm ≠ be := Nat.ne_of_lt (Nat.lt_of_lt_of_le Bm_15.lt l16); have nne : bn ≠ be := Nat.ne_of_lt (Nat.lt_of_lt_of_le Bn_15.lt l16); have nae : ba ≠ be := Nat.ne_of_lt (Nat.lt_of_lt_of_le Ba_15.lt l16); have nbe : bb ≠ be := Nat.ne_of_lt (Nat.lt_of_lt_of_le Bb_15.lt l16); have nce : bc ≠ be := Nat.ne_of_lt (Nat.lt_of_lt_of_le Bc_15.lt l16); have nde : bd ≠ be := Nat.ne_of_lt (Nat.lt_of_lt_of_le Bd_15.lt l16); have Bm_16 := Bm_15.keep k16; have Bn_16 := Bn_15.keep k16; have Ba_16 := Ba_15.keep k16; have Bb_16 := Bb_15.keep k16; have Bc_16 := Bc_15.keep k16; have Bd_16 := Bd_15.keep k16; have Hw16 := bq_trans Hw15 k16; clear l16 k16 Bm_15 Bn_15 Ba_15 Bb_15 Bc_15 Bd_15 Hw15)
    | (refine wl_store 31 2 szPt _ _ rfl rfl _ rfl #[.int .i64 r, .int .i64 s] rfl _ _ Be_16 rfl rfl (by kernel_rfl) ?_; intro W17 Be_17 T17; have Bm_17 := T17.blk Bm_16 nme; have Bn_17 := T17.blk Bn_16 nne; have Ba_17 := T17.blk Ba_16 nae; have Bb_17 := T17.blk Bb_16 nbe; have Bc_17 := T17.blk Bc_16 nce; have Bd_17 := T17.blk Bd_16 nde; have Hw17 := T17.below Hw16 ge; clear T17 Bm_16 Bn_16 Ba_16 Bb_16 Bc_16 Bd_16 Be_16 Hw16))
  go_upto_region 7 with (go_big_may; first
    | (refine wl_load 25 6 _ Try.underlying25 rfl szMt _ rfl rfl _ rfl _ _ Bc_17 rfl ?_)
    | (go_at_call 6; (with_reducible refine (H6.out _).mono ?_); rintro e W18 ⟨rfl, k18⟩; have Bm_18 := Bm_17.keep k18; have Bn_18 := Bn_17.keep k18; have Ba_18 := Ba_17.keep k18; have Bb_18 := Bb_17.keep k18; have Bc_18 := Bc_17.keep k18; have Bd_18 := Bd_17.keep k18; have Be_18 := Be_17.keep k18; have Hw18 := bq_trans Hw17 k18; clear k18 Bm_17 Bn_17 Ba_17 Bb_17 Bc_17 Bd_17 Be_17 Hw17)
    | (refine wl_alloc 31 _ zePt rfl rfl ?_; intro W19 bf Bf_19 l19 k19; have gf : w.heap.size ≤ bf := Nat.le_trans Hw18.size l19; have nmf : bm ≠ bf := Nat.ne_of_lt (Nat.lt_of_lt_of_le Bm_18.lt l19); have nnf : bn ≠ bf := Nat.ne_of_lt (Nat.lt_of_lt_of_le Bn_18.lt l19); have naf : ba ≠ bf := Nat.ne_of_lt (Nat.lt_of_lt_of_le Ba_18.lt l19); have nbf : bb ≠ bf := Nat.ne_of_lt (Nat.lt_of_lt_of_le Bb_18.lt l19); have ncf : bc ≠ bf := Nat.ne_of_lt (Nat.lt_of_lt_of_le Bc_18.lt l19); have ndf : bd ≠ bf := Nat.ne_of_lt (Nat.lt_of_lt_of_le Bd_18.lt l19); have nef : be ≠ bf := Nat.ne_of_lt (Nat.lt_of_lt_of_le Be_18.lt l19); have Bm_19 := Bm_18.keep k19; have Bn_19 := Bn_18.keep k19; have Ba_19 := Ba_18.keep k19; have Bb_19 := Bb_18.keep k19; have Bc_19 := Bc_18.keep k19; have Bd_19 := Bd_18.keep k19; have Be_19 := Be_18.keep k19; have Hw19 := bq_trans Hw18 k19; clear l19 k19 Bm_18 Bn_18 Ba_18 Bb_18 Bc_18 Bd_18 Be_18 Hw18)
    | (refine wl_store 31 2 szPt _ _ rfl rfl _ rfl #[.int .i64 r, .int .i64 s] rfl _ _ Bf_19 rfl rfl (by kernel_rfl) ?_; intro W20 Bf_20 T20; have Bm_20 := T20.blk Bm_19 nmf; have Bn_20 := T20.blk Bn_19 nnf; have Ba_20 := T20.blk Ba_19 naf; have Bb_20 := T20.blk Bb_19 nbf; have Bc_20 := T20.blk Bc_19 ncf; have Bd_20 := T20.blk Bd_19 ndf; have Be_20 := T20.blk Be_19 nef; have Hw20 := T20.below Hw19 gf; clear T20 Bm_19 Bn_19 Ba_19 Bb_19 Bc_19 Bd_19 Be_19 Bf_19 Hw19))
  refine Det.wp_region_text (S := fun w' => Below W20.heap.size W20 w') (bq_refl _) ?_
  refine Det.det_take (v := ?_) (by rfl) ?_ ?_
  rotate_left
  · (intro w hSw; go_simp; try with_reducible rfl)
  try simp only [Act.put, List.setIfInBounds_toArray, List.set_cons_zero, List.set_cons_succ]
  refine Det.det_take (v := ?_) (by rfl) ?_ ?_
  rotate_left
  · (intro w hSw; go_simp; try with_reducible rfl)
  try simp only [Act.put, List.setIfInBounds_toArray, List.set_cons_zero, List.set_cons_succ]
  refine Det.det_take (v := ?_) (by rfl) ?_ ?_
  rotate_left
  · (intro w hSw; go_simp; try with_reducible rfl)
  try simp only [Act.put, List.setIfInBounds_toArray, List.set_cons_zero, List.set_cons_succ]
  refine Det.det_take (v := ?_) (by rfl) ?_ ?_
  rotate_left
  · (intro w hSw; go_simp; try with_reducible rfl)
  try simp only [Act.put, List.setIfInBounds_toArray, List.set_cons_zero, List.set_cons_succ]
  refine Det.det_take (v := ?_) (by rfl) ?_ ?_
  rotate_left
  · (intro w hSw; go_simp; try with_reducible rfl)
  try simp only [Act.put, List.setIfInBounds_toArray, List.set_cons_zero, List.set_cons_succ]
  refine Det.det_take (v := ?_) (by rfl) ?_ ?_
  rotate_left
  · (intro w hSw; go_simp; try with_reducible rfl)
  try simp only [Act.put, List.setIfInBounds_toArray, List.set_cons_zero, List.set_cons_succ]
  refine Det.det_take (v := ?_) (by rfl) ?_ ?_
  rotate_left
  · (intro w hSw; go_simp; try with_reducible rfl)
  try simp only [Act.put, List.setIfInBounds_toArray, List.set_cons_zero, List.set_cons_succ]
  refine Det.det_take (v := ?_) (by rfl) ?_ ?_
  rotate_left
  · (intro w hSw; go_simp; try with_reducible rfl)
  try simp only [Act.put, List.setIfInBounds_toArray, List.set_cons_zero, List.set_cons_succ]
  refine Det.det_take (v := ?_) (by rfl) ?_ ?_
  rotate_left
  · (intro w hSw; go_simp; try with_reducible rfl)
  try simp only [Act.put, List.setIfInBounds_toArray, List.set_cons_zero, List.set_cons_succ]
  refine Det.det_take (v := ?_) (by rfl) ?_ ?_
  rotate_left
  · (intro w hSw; go_simp; try with_reducible rfl)
  try simp only [Act.put, List.setIfInBounds_toArray, List.set_cons_zero, List.set_cons_succ]
  refine Det.det_take (v := ?_) (by rfl) ?_ ?_
  rotate_left
  · (intro w hSw; go_simp; try with_reducible rfl)
  try simp only [Act.put, List.setIfInBounds_toArray, List.set_cons_zero, List.set_cons_succ]
  refine Det.det_take (v := ?_) (by rfl) ?_ ?_
  rotate_left
  · (intro w hSw; go_simp; try with_reducible rfl)
  try simp only [Act.put, List.setIfInBounds_toArray, List.set_cons_zero, List.set_cons_succ]
  refine Det.det_take (v := ?_) (by rfl) ?_ ?_
  rotate_left
  · (intro w hSw; go_simp; try with_reducible rfl)
  try simp only [Act.put, List.setIfInBounds_toArray, List.set_cons_zero, List.set_cons_succ]
  refine Det.det_take (v := ?_) (by rfl) ?_ ?_
  rotate_left
  · (intro w hSw; go_simp; try with_reducible rfl)
  try simp only [Act.put, List.setIfInBounds_toArray, List.set_cons_zero, List.set_cons_succ]
  refine Det.det_take (v := ?_) (by rfl) ?_ ?_
  rotate_left
  · (intro w hSw; go_simp; try with_reducible rfl)
  try simp only [Act.put, List.setIfInBounds_toArray, List.set_cons_zero, List.set_cons_succ]
  refine Det.det_load 31 2 _ Try.underlying31 rfl szPt _ rfl (by rfl) _ rfl _ _ (fun w hS => Be_20.keep hS) rfl ?_
  try simp only [Act.put, List.setIfInBounds_toArray, List.set_cons_zero, List.set_cons_succ]
  refine Det.det_load 31 2 _ Try.underlying31 rfl szPt _ rfl (by rfl) _ rfl _ _ (fun w hS => Bf_20.keep hS) rfl ?_
  try simp only [Act.put, List.setIfInBounds_toArray, List.set_cons_zero, List.set_cons_succ]
  refine Det.det_take (v := ?_) (by rfl) ?_ ?_
  rotate_left
  · (intro w hSw; have q := eqP14 r s w; go_simp; try with_reducible rfl)
  try simp only [Act.put, List.setIfInBounds_toArray, List.set_cons_zero, List.set_cons_succ]
  refine Det.det_take (v := ?_) (by rfl) ?_ ?_
  rotate_left
  · (intro w hSw; go_simp; try with_reducible rfl)
  try simp only [Act.put, List.setIfInBounds_toArray, List.set_cons_zero, List.set_cons_succ]
  refine Det.det_take (v := ?_) (by rfl) ?_ ?_
  rotate_left
  · (intro w hSw; go_simp; try with_reducible rfl)
  try simp only [Act.put, List.setIfInBounds_toArray, List.set_cons_zero, List.set_cons_succ]
  refine Det.det_call (f := 7) (args := #[]) (v := .bool true) (by rfl) ?_ (fun w hS => (HA.out w).mono fun e w' ⟨h1, h2⟩ => ⟨h1, bq_trans hS h2⟩) ?_
  · (intro w hSw; go_simp)
  try simp only [Act.put, List.setIfInBounds_toArray, List.set_cons_zero, List.set_cons_succ]
  refine Det.det_take (v := ?_) (by rfl) ?_ ?_
  rotate_left
  · (intro w hSw; go_simp; try with_reducible rfl)
  try simp only [Act.put, List.setIfInBounds_toArray, List.set_cons_zero, List.set_cons_succ]
  refine Det.det_take (v := ?_) (by rfl) ?_ ?_
  rotate_left
  · (intro w hSw; go_simp; try with_reducible rfl)
  try simp only [Act.put, List.setIfInBounds_toArray, List.set_cons_zero, List.set_cons_succ]
  refine Det.det_nil (fun W21 k21 => ?_)
  have Bm_21 := Bm_20.keep k21
  have Bn_21 := Bn_20.keep k21
  have Ba_21 := Ba_20.keep k21
  have Bb_21 := Bb_20.keep k21
  have Bc_21 := Bc_20.keep k21
  have Bd_21 := Bd_20.keep k21
  have Be_21 := Be_20.keep k21
  have Bf_21 := Bf_20.keep k21
  have Hw21 := bq_trans Hw20 k21
  clear k21 Bm_20 Bn_20 Ba_20 Bb_20 Bc_20 Bd_20 Be_20 Bf_20 Hw20
  go_wp2_with fail
  go_ret
  exact ⟨rfl, Hw21⟩
theorem mod4_bd (x : Int) : -3 ≤ x.tmod 4 ∧ x.tmod 4 ≤ 3 := by
  have h1 := Int.tmod_lt_of_pos x (show (0 : Int) < 4 by decide)
  have h2 := Int.lt_tmod_of_pos x (show (0 : Int) < 4 by decide)
  omega
theorem whole14_any (l0 l1 l2 l3 l4 l5 : Int) (w : World) (h0 : (-128 ≤ l0 ∧ l0 ≤ 127)) (h1 : (-128 ≤ l1 ∧ l1 ≤ 127)) (h2 : (-128 ≤ l2 ∧ l2 ≤ 127)) (h3 : (-128 ≤ l3 ∧ l3 ≤ 127)) (h4 : (-128 ≤ l4 ∧ l4 ≤ 127)) (h5 : (-128 ≤ l5 ∧ l5 ≤ 127)) :
    Calls Try.prog 4 #[.agg #[.int .i8 l0, .int .i8 l1, .int .i8 l2, .int .i8 l3, .int .i8 l4, .int .i8 l5]] w fun e w' => e = .returned (.agg #[.int .i64 (l0.tmod 4 * 65536), .int .i64 (l1.tmod 4 * 65536), .int .i64 (l2.tmod 4 * 65536), .int .i64 (l3.tmod 4 * 65536), .int .i64 l4, .int .i64 l5]) ∧ Below w.heap.size w w' :=
  whole14_core l0 l1 l2 l3 l4 l5 _ _ _ _ w h0.1 h0.2 h1.1 h1.2 h2.1 h2.2 h3.1 h3.2 h4.1 h4.2 h5.1 h5.2 rfl (mod4_bd l0).1 (mod4_bd l0).2 rfl (mod4_bd l1).1 (mod4_bd l1).2 rfl (mod4_bd l2).1 (mod4_bd l2).2 rfl (mod4_bd l3).1 (mod4_bd l3).2
theorem dt_w (p q x y : Int) : dt (p * 65536) (q * 65536) (x * 65536) (y * 65536) = (p * x + q * y) * 65536 := by
  unfold dt
  rw [show p * 65536 * (x * 65536) + q * 65536 * (y * 65536) = ((p * x + q * y) * 65536) * 65536 by grind]
  exact Int.mul_ediv_cancel _ (by decide)
theorem dt_x (p q x y : Int) : dt (p * 65536) (q * 65536) x y = p * x + q * y := by
  unfold dt
  rw [show p * 65536 * x + q * 65536 * y = (p * x + q * y) * 65536 by grind]
  exact Int.mul_ediv_cancel _ (by decide)
set_option maxHeartbeats 1000000 in
theorem chains14_num (a0 a1 a2 a3 b0 b1 b2 b3 l4 l5 n4 n5 x y : Int) (ha0 : -3 ≤ a0 ∧ a0 ≤ 3) (ha1 : -3 ≤ a1 ∧ a1 ≤ 3) (ha2 : -3 ≤ a2 ∧ a2 ≤ 3) (ha3 : -3 ≤ a3 ∧ a3 ≤ 3) (hb0 : -3 ≤ b0 ∧ b0 ≤ 3) (hb1 : -3 ≤ b1 ∧ b1 ≤ 3) (hb2 : -3 ≤ b2 ∧ b2 ≤ 3) (hb3 : -3 ≤ b3 ∧ b3 ≤ 3) (hl4 : (-128 ≤ l4 ∧ l4 ≤ 127)) (hl5 : (-128 ≤ l5 ∧ l5 ≤ 127)) (hn4 : (-128 ≤ n4 ∧ n4 ≤ 127)) (hn5 : (-128 ≤ n5 ∧ n5 ≤ 127)) (hx : (-128 ≤ x ∧ x ≤ 127)) (hy : (-128 ≤ y ∧ y ≤ 127)) :
    (I64M (a0 * 65536) (a1 * 65536) (a2 * 65536) (a3 * 65536) l4 l5 ∧ I64M (b0 * 65536) (b1 * 65536) (b2 * 65536) (b3 * 65536) n4 n5 ∧ I64M ((a0 * b0 + a2 * b1) * 65536) ((a1 * b0 + a3 * b1) * 65536) ((a0 * b2 + a2 * b3) * 65536) ((a1 * b2 + a3 * b3) * 65536) (a0 * n4 + a2 * n5 + l4) (a1 * n4 + a3 * n5 + l5)) ∧ (matOk (a0 * 65536) (a1 * 65536) (a2 * 65536) (a3 * 65536) l4 l5 = true ∧ matOk (b0 * 65536) (b1 * 65536) (b2 * 65536) (b3 * 65536) n4 n5 = true ∧ matOk ((a0 * b0 + a2 * b1) * 65536) ((a1 * b0 + a3 * b1) * 65536) ((a0 * b2 + a2 * b3) * 65536) ((a1 * b2 + a3 * b3) * 65536) (a0 * n4 + a2 * n5 + l4) (a1 * n4 + a3 * n5 + l5) = true) ∧ ptOk 1073741824 x y = true ∧ ptOk 1073741824 (b0 * x + b2 * y + n4) (b1 * x + b3 * y + n5) = true ∧
    (-100000000 ≤ b0 * 65536 * x + b2 * 65536 * y + n4 * 65536 ∧ b0 * 65536 * x + b2 * 65536 * y + n4 * 65536 ≤ 100000000) ∧ (-100000000 ≤ b1 * 65536 * x + b3 * 65536 * y + n5 * 65536 ∧ b1 * 65536 * x + b3 * 65536 * y + n5 * 65536 ≤ 100000000) ∧
    (b0 * 65536 * x + b2 * 65536 * y + n4 * 65536) / 65536 = b0 * x + b2 * y + n4 ∧ (b1 * 65536 * x + b3 * 65536 * y + n5 * 65536) / 65536 = b1 * x + b3 * y + n5 := by
  have ma0b0 := mul_bd 3 3 ha0 hb0
  have ma0b1 := mul_bd 3 3 ha0 hb1
  have ma0b2 := mul_bd 3 3 ha0 hb2
  have ma0b3 := mul_bd 3 3 ha0 hb3
  have ma0n4 := mul_bd 3 128 ha0 (show -128 ≤ n4 ∧ n4 ≤ 128 by omega)
  have ma0n5 := mul_bd 3 128 ha0 (show -128 ≤ n5 ∧ n5 ≤ 128 by omega)
  have ma1b0 := mul_bd 3 3 ha1 hb0
  have ma1b1 := mul_bd 3 3 ha1 hb1
  have ma1b2 := mul_bd 3 3 ha1 hb2
  have ma1b3 := mul_bd 3 3 ha1 hb3
  have ma1n4 := mul_bd 3 128 ha1 (show -128 ≤ n4 ∧ n4 ≤ 128 by omega)
  have ma1n5 := mul_bd 3 128 ha1 (show -128 ≤ n5 ∧ n5 ≤ 128 by omega)
  have ma2b0 := mul_bd 3 3 ha2 hb0
  have ma2b1 := mul_bd 3 3 ha2 hb1
  have ma2b2 := mul_bd 3 3 ha2 hb2
  have ma2b3 := mul_bd 3 3 ha2 hb3
  have ma2n4 := mul_bd 3 128 ha2 (show -128 ≤ n4 ∧ n4 ≤ 128 by omega)
  have ma2n5 := mul_bd 3 128 ha2 (show -128 ≤ n5 ∧ n5 ≤ 128 by omega)
  have ma3b0 := mul_bd 3 3 ha3 hb0
  have ma3b1 := mul_bd 3 3 ha3 hb1
  have ma3b2 := mul_bd 3 3 ha3 hb2
  have ma3b3 := mul_bd 3 3 ha3 hb3
  have ma3n4 := mul_bd 3 128 ha3 (show -128 ≤ n4 ∧ n4 ≤ 128 by omega)
  have ma3n5 := mul_bd 3 128 ha3 (show -128 ≤ n5 ∧ n5 ≤ 128 by omega)
  have mb0x := mul_bd 3 128 hb0 (show -128 ≤ x ∧ x ≤ 128 by omega)
  have mb0y := mul_bd 3 128 hb0 (show -128 ≤ y ∧ y ≤ 128 by omega)
  have mb1x := mul_bd 3 128 hb1 (show -128 ≤ x ∧ x ≤ 128 by omega)
  have mb1y := mul_bd 3 128 hb1 (show -128 ≤ y ∧ y ≤ 128 by omega)
  have mb2x := mul_bd 3 128 hb2 (show -128 ≤ x ∧ x ≤ 128 by omega)
  have mb2y := mul_bd 3 128 hb2 (show -128 ≤ y ∧ y ≤ 128 by omega)
  have mb3x := mul_bd 3 128 hb3 (show -128 ≤ x ∧ x ≤ 128 by omega)
  have mb3y := mul_bd 3 128 hb3 (show -128 ≤ y ∧ y ≤ 128 by omega)
  have e0 : b0 * 65536 * x + b2 * 65536 * y + n4 * 65536 = (b0 * x + b2 * y + n4) * 65536 := by grind
  have e1 : b1 * 65536 * x + b3 * 65536 * y + n5 * 65536 = (b1 * x + b3 * y + n5) * 65536 := by grind
  rw [e0, e1]
  refine ⟨⟨⟨⟨?_, ?_⟩, ⟨?_, ?_⟩, ⟨?_, ?_⟩, ⟨?_, ?_⟩, ⟨?_, ?_⟩, ⟨?_, ?_⟩⟩, ⟨⟨?_, ?_⟩, ⟨?_, ?_⟩, ⟨?_, ?_⟩, ⟨?_, ?_⟩, ⟨?_, ?_⟩, ⟨?_, ?_⟩⟩, ⟨⟨?_, ?_⟩, ⟨?_, ?_⟩, ⟨?_, ?_⟩, ⟨?_, ?_⟩, ⟨?_, ?_⟩, ⟨?_, ?_⟩⟩⟩, ⟨?_, ?_, ?_⟩, ?_, ?_, ⟨?_, ?_⟩, ⟨?_, ?_⟩, Int.mul_ediv_cancel _ (by decide), Int.mul_ediv_cancel _ (by decide)⟩
  all_goals first | omega | (simp [matOk, nr]; omega) | (simp [ptOk, nr]; omega)
theorem affineChains_walk (l0 l1 l2 l3 l4 l5 n0 n1 n2 n3 n4 n5 x y : Int) (w : World) (hl0 : (-128 ≤ l0 ∧ l0 ≤ 127)) (hl1 : (-128 ≤ l1 ∧ l1 ≤ 127)) (hl2 : (-128 ≤ l2 ∧ l2 ≤ 127)) (hl3 : (-128 ≤ l3 ∧ l3 ≤ 127)) (hl4 : (-128 ≤ l4 ∧ l4 ≤ 127)) (hl5 : (-128 ≤ l5 ∧ l5 ≤ 127)) (hn0 : (-128 ≤ n0 ∧ n0 ≤ 127)) (hn1 : (-128 ≤ n1 ∧ n1 ≤ 127)) (hn2 : (-128 ≤ n2 ∧ n2 ≤ 127)) (hn3 : (-128 ≤ n3 ∧ n3 ≤ 127)) (hn4 : (-128 ≤ n4 ∧ n4 ≤ 127)) (hn5 : (-128 ≤ n5 ∧ n5 ≤ 127)) (hx : (-128 ≤ x ∧ x ≤ 127)) (hy : (-128 ≤ y ∧ y ≤ 127)) :
    Calls Try.prog 3 #[.agg #[.int .i8 l0, .int .i8 l1, .int .i8 l2, .int .i8 l3, .int .i8 l4, .int .i8 l5], .agg #[.int .i8 n0, .int .i8 n1, .int .i8 n2, .int .i8 n3, .int .i8 n4, .int .i8 n5], .int .i8 x, .int .i8 y] w fun e w' => e = .returned (.bool true) ∧ Below w.heap.size w w' := by
  have HW1 := Lib.hid fun W => whole14_any l0 l1 l2 l3 l4 l5 W hl0 hl1 hl2 hl3 hl4 hl5
  have HW2 := Lib.hid fun W => whole14_any n0 n1 n2 n3 n4 n5 W hn0 hn1 hn2 hn3 hn4 hn5
  have ha0 := mod4_bd l0
  have hb0 := mod4_bd n0
  have ha1 := mod4_bd l1
  have hb1 := mod4_bd n1
  have ha2 := mod4_bd l2
  have hb2 := mod4_bd n2
  have ha3 := mod4_bd l3
  have hb3 := mod4_bd n3
  generalize l0.tmod 4 = a0 at *
  generalize n0.tmod 4 = b0 at *
  generalize l1.tmod 4 = a1 at *
  generalize n1.tmod 4 = b1 at *
  generalize l2.tmod 4 = a2 at *
  generalize n2.tmod 4 = b2 at *
  generalize l3.tmod 4 = a3 at *
  generalize n3.tmod 4 = b3 at *
  obtain ⟨⟨iM, iN, iR⟩, ⟨oM, oN, oR⟩, px, pu, ⟨g0, g1⟩, ⟨k0, k1⟩, eu, ev⟩ := chains14_num a0 a1 a2 a3 b0 b1 b2 b3 l4 l5 n4 n5 x y ha0 ha1 ha2 ha3 hb0 hb1 hb2 hb3 hl4 hl5 hn4 hn5 hx hy
  have HC := Lib.hid fun W => comp14_any (a0 * 65536) (a1 * 65536) (a2 * 65536) (a3 * 65536) l4 l5 (b0 * 65536) (b1 * 65536) (b2 * 65536) (b3 * 65536) n4 n5 W iM iN
  have oR2 : matOk (dt (a0 * 65536) (a2 * 65536) (b0 * 65536) (b1 * 65536)) (dt (a1 * 65536) (a3 * 65536) (b0 * 65536) (b1 * 65536)) (dt (a0 * 65536) (a2 * 65536) (b2 * 65536) (b3 * 65536)) (dt (a1 * 65536) (a3 * 65536) (b2 * 65536) (b3 * 65536)) (dt (a0 * 65536) (a2 * 65536) n4 n5 + l4) (dt (a1 * 65536) (a3 * 65536) n4 n5 + l5) = true := by rw [dt_w, dt_w, dt_w, dt_w, dt_x, dt_x]; exact oR
  rw [cmpV_yes oM oN oR2, dt_w, dt_w, dt_w, dt_w, dt_x, dt_x] at HC
  have H4 := Lib.hid fun W => apply14_any (b0 * 65536) (b1 * 65536) (b2 * 65536) (b3 * 65536) n4 n5 x y W iN
  have H5 := Lib.hid fun W => apply14_any (a0 * 65536) (a1 * 65536) (a2 * 65536) (a3 * 65536) l4 l5 (b0 * x + b2 * y + n4) (b1 * x + b3 * y + n5) W iM
  have H6 := Lib.hid fun W => apply14_any ((a0 * b0 + a2 * b1) * 65536) ((a1 * b0 + a3 * b1) * 65536) ((a0 * b2 + a2 * b3) * 65536) ((a1 * b2 + a3 * b3) * 65536) (a0 * n4 + a2 * n5 + l4) (a1 * n4 + a3 * n5 + l5) x y W iR
  rw [aplV_yes oN px] at H4
  rw [aplV_yes oM pu] at H5
  rw [aplV_yes oR px] at H6
  have f0 : (a0 * b0 + a2 * b1) * 65536 * x + (a0 * b2 + a2 * b3) * 65536 * y + (a0 * n4 + a2 * n5 + l4) * 65536 = a0 * 65536 * (b0 * x + b2 * y + n4) + a2 * 65536 * (b1 * x + b3 * y + n5) + l4 * 65536 := by grind
  have f1 : (a1 * b0 + a3 * b1) * 65536 * x + (a1 * b2 + a3 * b3) * 65536 * y + (a1 * n4 + a3 * n5 + l5) * 65536 = a1 * 65536 * (b0 * x + b2 * y + n4) + a3 * 65536 * (b1 * x + b3 * y + n5) + l5 * 65536 := by grind
  rw [f0, f1] at H6
  exact chains14_core l0 l1 l2 l3 l4 l5 n0 n1 n2 n3 n4 n5 x y (a0 * 65536) (a1 * 65536) (a2 * 65536) (a3 * 65536) l4 l5 (b0 * 65536) (b1 * 65536) (b2 * 65536) (b3 * 65536) n4 n5 ((a0 * b0 + a2 * b1) * 65536) ((a1 * b0 + a3 * b1) * 65536) ((a0 * b2 + a2 * b3) * 65536) ((a1 * b2 + a3 * b3) * 65536) (a0 * n4 + a2 * n5 + l4) (a1 * n4 + a3 * n5 + l5) _ _ (b0 * x + b2 * y + n4) (b1 * x + b3 * y + n5) _ _ w hx.1 hx.2 hy.1 hy.2 g0 g1 k0 k1 eu ev (Lib.hid awake14_any) HW1 HW2 HC H4 H5 H6
end Go.Proofs.Ythcejmbjagpjcab
