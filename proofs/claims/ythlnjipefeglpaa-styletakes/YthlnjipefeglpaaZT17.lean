import Derived.Test.YthlnjipefeglpaaZT13
namespace Go.Proofs.Ythlnjipefeglpaa
open Go.RowKit
set_option linter.unusedVariables false
set_option maxHeartbeats 4000000 in
theorem rtakematrix_11 (s : ByteArray) (a n1 n2 mA mD mB mC mX mY e0 e1 e2 e3 e4 e5 : Int) (x0 x1 x2 x3 x4 x5 z : RS) (q : Bool) (w : World) (c1 : (n1 == 1) = true) (c2 : (n2 == 1) = true)
    (HG : Hid (∀ W, Calls Try.prog 96 #[.agg #[.string s, .int .i64 a]] W fun e w' => e = .returned (.agg x0.cells) ∧ Below W.heap.size W w'))
    (P1 : Hid (∀ W, Calls Try.prog 95 #[.agg x0.cells, .int .i64 1] W fun e w' => e = .returned (.tuple #[.int .i64 n1, .agg x1.cells]) ∧ Below W.heap.size W w'))
    (S1 : Hid (∀ W, Calls Try.prog 97 #[.agg x1.cells, .int .i64 5, .int .i64 2] W fun e w' => ∃ g, e = .returned (.tuple #[.slice (some ⟨g, 0, none⟩) 2 2, .agg x2.cells]) ∧ Blk w' g (iA [mA, mD]) 3 ∧ W.heap.size ≤ g ∧ Below W.heap.size W w'))
    (P2 : Hid (∀ W, Calls Try.prog 95 #[.agg x2.cells, .int .i64 1] W fun e w' => e = .returned (.tuple #[.int .i64 n2, .agg x3.cells]) ∧ Below W.heap.size W w'))
    (S2 : Hid (∀ W, Calls Try.prog 97 #[.agg x3.cells, .int .i64 5, .int .i64 2] W fun e w' => ∃ g, e = .returned (.tuple #[.slice (some ⟨g, 0, none⟩) 2 2, .agg x4.cells]) ∧ Blk w' g (iA [mB, mC]) 3 ∧ W.heap.size ≤ g ∧ Below W.heap.size W w'))
    (S3 : Hid (∀ W, Calls Try.prog 97 #[.agg x4.cells, .int .i64 5, .int .i64 2] W fun e w' => ∃ g, e = .returned (.tuple #[.slice (some ⟨g, 0, none⟩) 2 2, .agg x5.cells]) ∧ Blk w' g (iA [mX, mY]) 3 ∧ W.heap.size ≤ g ∧ Below W.heap.size W w'))
    (HR : Hid (∀ W, Calls Try.prog 28 #[.agg #[.int .i64 mA, .int .i64 mB, .int .i64 mC, .int .i64 mD, .int .i64 mX, .int .i64 mY]] W fun e w' => e = .returned (.bool q) ∧ Below W.heap.size W w'))
    (HD : Hid (∀ W, Calls Try.prog 98 #[.agg #[.string x5.s, .int .i64 x5.a, .int .i64 x5.e], .bool q] W fun e w' => e = .returned (.agg #[.string z.s, .int .i64 z.a, .int .i64 z.e]) ∧ Below W.heap.size W w'))
    (E0 : Hid ((z.e != 0) = true → [e0, e1, e2, e3, e4, e5] = [0, 0, 0, 0, 0, 0])) (E1 : Hid ((z.e != 0) = false → [e0, e1, e2, e3, e4, e5] = [mA, mB, mC, mD, mX, mY]))
    : Calls Try.prog 83 #[.agg #[.string s, .int .i64 a]] w fun e w' => e = .returned (.tuple #[.agg (iA [e0, e1, e2, e3, e4, e5]), .agg z.cells]) ∧ Below w.heap.size w w' := by
  go_enter Try.func83, Try.ntmps83
  go_wp2_with (first
    | (refine wl_box 51 _ _ rfl rfl (show _ = Value.agg #[.string s, .int .i64 a] from rfl) ?_; intro W1 br Br_1 l1 k1; have gr : w.heap.size ≤ br := l1; have Hw1 := k1; clear l1 k1)
    | (refine wl_alloc 25 _ zero27e rfl rfl ?_; intro W2 ba Ba_2 l2 k2; have ga : w.heap.size ≤ ba := Nat.le_trans Hw1.size l2; have nra : br ≠ ba := Nat.ne_of_lt (Nat.lt_of_lt_of_le Br_1.lt l2); have Br_2 := Br_1.keep k2; have Hw2 := bq_trans Hw1 k2; clear l2 k2 Br_1 Hw1)
    | (refine wl_alloc 53 _ zero62 rfl rfl ?_; intro W3 bo Bo_3 l3 k3; have go : w.heap.size ≤ bo := Nat.le_trans Hw2.size l3; have nro : br ≠ bo := Nat.ne_of_lt (Nat.lt_of_lt_of_le Br_2.lt l3); have nao : ba ≠ bo := Nat.ne_of_lt (Nat.lt_of_lt_of_le Ba_2.lt l3); have Br_3 := Br_2.keep k3; have Ba_3 := Ba_2.keep k3; have Hw3 := bq_trans Hw2 k3; clear l3 k3 Br_2 Ba_2 Hw2)
    | (refine wl_alloc 25 _ zero27e rfl rfl ?_; intro W4 bc Bc_4 l4 k4; have gc : w.heap.size ≤ bc := Nat.le_trans Hw3.size l4; have nrc : br ≠ bc := Nat.ne_of_lt (Nat.lt_of_lt_of_le Br_3.lt l4); have nac : ba ≠ bc := Nat.ne_of_lt (Nat.lt_of_lt_of_le Ba_3.lt l4); have noc : bo ≠ bc := Nat.ne_of_lt (Nat.lt_of_lt_of_le Bo_3.lt l4); have Br_4 := Br_3.keep k4; have Ba_4 := Ba_3.keep k4; have Bo_4 := Bo_3.keep k4; have Hw4 := bq_trans Hw3 k4; clear l4 k4 Br_3 Ba_3 Bo_3 Hw3)
    | (refine wl_store 25 6 size27e _ _ rfl rfl _ rfl #[.int .i64 65536, .int .i64 0, .int .i64 0, .int .i64 65536, .int .i64 0, .int .i64 0] rfl _ _ Bc_4 rfl rfl (by kernel_rfl) ?_; intro W5 Bc_5 T5; have Br_5 := T5.blk Br_4 nrc; have Ba_5 := T5.blk Ba_4 nac; have Bo_5 := T5.blk Bo_4 noc; have Hw5 := T5.below Hw4 gc; clear T5 Br_4 Ba_4 Bo_4 Bc_4 Hw4)
    | (refine wl_load 51 2 _ Try.underlying51 rfl size60 _ rfl rfl _ rfl _ _ Br_5 rfl ?_)
    | (go_at_call 96; (with_reducible refine (HG.out _).mono ?_); rintro e W6 ⟨rfl, k6⟩; have Br_6 := Br_5.keep k6; have Ba_6 := Ba_5.keep k6; have Bo_6 := Bo_5.keep k6; have Bc_6 := Bc_5.keep k6; have Hw6 := bq_trans Hw5 k6; clear k6 Br_5 Ba_5 Bo_5 Bc_5 Hw5)
    | (go_at_call 95; (with_reducible refine (P1.out _).mono ?_); rintro e W7 ⟨rfl, k7⟩; have Br_7 := Br_6.keep k7; have Ba_7 := Ba_6.keep k7; have Bo_7 := Bo_6.keep k7; have Bc_7 := Bc_6.keep k7; have Hw7 := bq_trans Hw6 k7; clear k7 Br_6 Ba_6 Bo_6 Bc_6 Hw6)
    | (refine wl_alloc 53 _ zero62 rfl rfl ?_; intro W8 bv Bv_8 l8 k8; have gv : w.heap.size ≤ bv := Nat.le_trans Hw7.size l8; have nrv : br ≠ bv := Nat.ne_of_lt (Nat.lt_of_lt_of_le Br_7.lt l8); have nav : ba ≠ bv := Nat.ne_of_lt (Nat.lt_of_lt_of_le Ba_7.lt l8); have nov : bo ≠ bv := Nat.ne_of_lt (Nat.lt_of_lt_of_le Bo_7.lt l8); have ncv : bc ≠ bv := Nat.ne_of_lt (Nat.lt_of_lt_of_le Bc_7.lt l8); have Br_8 := Br_7.keep k8; have Ba_8 := Ba_7.keep k8; have Bo_8 := Bo_7.keep k8; have Bc_8 := Bc_7.keep k8; have Hw8 := bq_trans Hw7 k8; clear l8 k8 Br_7 Ba_7 Bo_7 Bc_7 Hw7)
    | (refine wl_store 53 3 size62 _ _ rfl rfl _ rfl _ rfl _ _ Bv_8 rfl rfl (by kernel_rfl) ?_; intro W9 Bv_9 T9; have Br_9 := T9.blk Br_8 nrv; have Ba_9 := T9.blk Ba_8 nav; have Bo_9 := T9.blk Bo_8 nov; have Bc_9 := T9.blk Bc_8 ncv; have Hw9 := T9.below Hw8 gv; clear T9 Br_8 Ba_8 Bo_8 Bc_8 Bv_8 Hw8)
    | (refine wl_load 53 3 _ Try.underlying53 rfl size62 _ rfl rfl _ rfl _ _ Bv_9 rfl ?_)
    | (go_at_call 97; (with_reducible refine (S1.out _).mono ?_); rintro e W10 ⟨bg, rfl, Bg_10, l10, k10⟩; have gg : w.heap.size ≤ bg := Nat.le_trans Hw9.size l10; have nrg : br ≠ bg := Nat.ne_of_lt (Nat.lt_of_lt_of_le Br_9.lt l10); have nag : ba ≠ bg := Nat.ne_of_lt (Nat.lt_of_lt_of_le Ba_9.lt l10); have nog : bo ≠ bg := Nat.ne_of_lt (Nat.lt_of_lt_of_le Bo_9.lt l10); have ncg : bc ≠ bg := Nat.ne_of_lt (Nat.lt_of_lt_of_le Bc_9.lt l10); have nvg : bv ≠ bg := Nat.ne_of_lt (Nat.lt_of_lt_of_le Bv_9.lt l10); have Br_10 := Br_9.keep k10; have Ba_10 := Ba_9.keep k10; have Bo_10 := Bo_9.keep k10; have Bc_10 := Bc_9.keep k10; have Bv_10 := Bv_9.keep k10; have Hw10 := bq_trans Hw9 k10; clear l10 k10 Br_9 Ba_9 Bo_9 Bc_9 Bv_9 Hw9)
    | (refine wl_alloc 53 _ zero62 rfl rfl ?_; intro W11 bj Bj_11 l11 k11; have gj : w.heap.size ≤ bj := Nat.le_trans Hw10.size l11; have nrj : br ≠ bj := Nat.ne_of_lt (Nat.lt_of_lt_of_le Br_10.lt l11); have naj : ba ≠ bj := Nat.ne_of_lt (Nat.lt_of_lt_of_le Ba_10.lt l11); have noj : bo ≠ bj := Nat.ne_of_lt (Nat.lt_of_lt_of_le Bo_10.lt l11); have ncj : bc ≠ bj := Nat.ne_of_lt (Nat.lt_of_lt_of_le Bc_10.lt l11); have nvj : bv ≠ bj := Nat.ne_of_lt (Nat.lt_of_lt_of_le Bv_10.lt l11); have ngj : bg ≠ bj := Nat.ne_of_lt (Nat.lt_of_lt_of_le Bg_10.lt l11); have Br_11 := Br_10.keep k11; have Ba_11 := Ba_10.keep k11; have Bo_11 := Bo_10.keep k11; have Bc_11 := Bc_10.keep k11; have Bv_11 := Bv_10.keep k11; have Bg_11 := Bg_10.keep k11; have Hw11 := bq_trans Hw10 k11; clear l11 k11 Br_10 Ba_10 Bo_10 Bc_10 Bv_10 Bg_10 Hw10)
    | (refine wl_store 53 3 size62 _ _ rfl rfl _ rfl _ rfl _ _ Bj_11 rfl rfl (by kernel_rfl) ?_; intro W12 Bj_12 T12; have Br_12 := T12.blk Br_11 nrj; have Ba_12 := T12.blk Ba_11 naj; have Bo_12 := T12.blk Bo_11 noj; have Bc_12 := T12.blk Bc_11 ncj; have Bv_12 := T12.blk Bv_11 nvj; have Bg_12 := T12.blk Bg_11 ngj; have Hw12 := T12.below Hw11 gj; clear T12 Br_11 Ba_11 Bo_11 Bc_11 Bv_11 Bg_11 Bj_11 Hw11))
  have HC13 : Hid (∀ w', But bc bv W12 w' → w'.cell? ⟨bg, 0, none⟩ = some (.int .i64 mA) ∧ w'.cell? ⟨bg, 1, none⟩ = some (.int .i64 mD) ∧ w'.cell? ⟨bj, 0, none⟩ = some (.string x2.s) ∧ w'.cell? ⟨bj, 1, none⟩ = some (.int .i64 x2.a) ∧ w'.cell? ⟨bj, 2, none⟩ = some (.int .i64 x2.e)) := Lib.hid fun w' hw' => ⟨(Bg_12.but hw' (Ne.symm ncg) (Ne.symm nvg)).cell 0, (Bg_12.but hw' (Ne.symm ncg) (Ne.symm nvg)).cell 1, (Bj_12.but hw' (Ne.symm ncj) (Ne.symm nvj)).cell 0, (Bj_12.but hw' (Ne.symm ncj) (Ne.symm nvj)).cell 1, (Bj_12.but hw' (Ne.symm ncj) (Ne.symm nvj)).cell 2⟩
  have hd13 : Below W12.heap.size W12 W12.drew := bq_drew (bq_refl W12)
  have dc0 : W12.cell? ⟨bc, 0, none⟩ = some (.int .i64 65536) := Bc_12.cell 0
  have fc0 := Bc_12.frozen 0
  have dc3 : W12.cell? ⟨bc, 3, none⟩ = some (.int .i64 65536) := Bc_12.cell 3
  have fc3 := Bc_12.frozen 3
  have dv0 : W12.cell? ⟨bv, 0, none⟩ = some (.string x1.s) := Bv_12.cell 0
  have fv0 := Bv_12.frozen 0
  have dv1 : W12.cell? ⟨bv, 1, none⟩ = some (.int .i64 x1.a) := Bv_12.cell 1
  have fv1 := Bv_12.frozen 1
  have dv2 : W12.cell? ⟨bv, 2, none⟩ = some (.int .i64 x1.e) := Bv_12.cell 2
  have fv2 := Bv_12.frozen 2
  have na13 : ¬ bc = bv := ncv
  have nb13 : ¬ bv = bc := Ne.symm ncv
  go_region_held3 (fun w' => w'.cell? ⟨bg, 0, none⟩ = some (.int .i64 mA) ∧ w'.cell? ⟨bg, 1, none⟩ = some (.int .i64 mD) ∧ w'.cell? ⟨bj, 0, none⟩ = some (.string x2.s) ∧ w'.cell? ⟨bj, 1, none⟩ = some (.int .i64 x2.a) ∧ w'.cell? ⟨bj, 2, none⟩ = some (.int .i64 x2.e))
    ((refine HC13.out _ ?_; repeat' (first | (with_reducible refine But.setp _ _ ?_) | (with_reducible refine But.setq _ _ ?_) | (with_reducible refine But.drw ?_) | (with_reducible exact But.of (by assumption)) | (with_reducible exact But.of (bq_refl _)))))
    (fail)
  have Br_13 := (((((Br_12.other (a := ⟨bc, 0, none⟩) (.int .i64 mA) nrc).other (a := ⟨bc, 3, none⟩) (.int .i64 mD) nrc).other (a := ⟨bv, 0, none⟩) (.string x2.s) nrv).other (a := ⟨bv, 1, none⟩) (.int .i64 x2.a) nrv).other (a := ⟨bv, 2, none⟩) (.int .i64 x2.e) nrv).drew
  have Ba_13 := (((((Ba_12.other (a := ⟨bc, 0, none⟩) (.int .i64 mA) nac).other (a := ⟨bc, 3, none⟩) (.int .i64 mD) nac).other (a := ⟨bv, 0, none⟩) (.string x2.s) nav).other (a := ⟨bv, 1, none⟩) (.int .i64 x2.a) nav).other (a := ⟨bv, 2, none⟩) (.int .i64 x2.e) nav).drew
  have Bo_13 := (((((Bo_12.other (a := ⟨bc, 0, none⟩) (.int .i64 mA) noc).other (a := ⟨bc, 3, none⟩) (.int .i64 mD) noc).other (a := ⟨bv, 0, none⟩) (.string x2.s) nov).other (a := ⟨bv, 1, none⟩) (.int .i64 x2.a) nov).other (a := ⟨bv, 2, none⟩) (.int .i64 x2.e) nov).drew
  have Bc_13 : Blk (((((W12.setCell ⟨bc, 0, none⟩ (.int .i64 mA)).setCell ⟨bc, 3, none⟩ (.int .i64 mD)).setCell ⟨bv, 0, none⟩ (.string x2.s)).setCell ⟨bv, 1, none⟩ (.int .i64 x2.a)).setCell ⟨bv, 2, none⟩ (.int .i64 x2.e)).drew bc #[.int .i64 mA, .int .i64 0, .int .i64 0, .int .i64 mD, .int .i64 0, .int .i64 0] 25 := (((((Bc_12.set 0 (.int .i64 mA)).set 3 (.int .i64 mD)).other (a := ⟨bv, 0, none⟩) (.string x2.s) ncv).other (a := ⟨bv, 1, none⟩) (.int .i64 x2.a) ncv).other (a := ⟨bv, 2, none⟩) (.int .i64 x2.e) ncv).drew
  have Bv_13 : Blk (((((W12.setCell ⟨bc, 0, none⟩ (.int .i64 mA)).setCell ⟨bc, 3, none⟩ (.int .i64 mD)).setCell ⟨bv, 0, none⟩ (.string x2.s)).setCell ⟨bv, 1, none⟩ (.int .i64 x2.a)).setCell ⟨bv, 2, none⟩ (.int .i64 x2.e)).drew bv x2.cells 53 := (((((Bv_12.other (a := ⟨bc, 0, none⟩) (.int .i64 mA) (Ne.symm ncv)).other (a := ⟨bc, 3, none⟩) (.int .i64 mD) (Ne.symm ncv)).set 0 (.string x2.s)).set 1 (.int .i64 x2.a)).set 2 (.int .i64 x2.e)).drew
  have Bg_13 := (((((Bg_12.other (a := ⟨bc, 0, none⟩) (.int .i64 mA) (Ne.symm ncg)).other (a := ⟨bc, 3, none⟩) (.int .i64 mD) (Ne.symm ncg)).other (a := ⟨bv, 0, none⟩) (.string x2.s) (Ne.symm nvg)).other (a := ⟨bv, 1, none⟩) (.int .i64 x2.a) (Ne.symm nvg)).other (a := ⟨bv, 2, none⟩) (.int .i64 x2.e) (Ne.symm nvg)).drew
  have Bj_13 := (((((Bj_12.other (a := ⟨bc, 0, none⟩) (.int .i64 mA) (Ne.symm ncj)).other (a := ⟨bc, 3, none⟩) (.int .i64 mD) (Ne.symm ncj)).other (a := ⟨bv, 0, none⟩) (.string x2.s) (Ne.symm nvj)).other (a := ⟨bv, 1, none⟩) (.int .i64 x2.a) (Ne.symm nvj)).other (a := ⟨bv, 2, none⟩) (.int .i64 x2.e) (Ne.symm nvj)).drew
  have Hw13 : Below w.heap.size w (((((W12.setCell ⟨bc, 0, none⟩ (.int .i64 mA)).setCell ⟨bc, 3, none⟩ (.int .i64 mD)).setCell ⟨bv, 0, none⟩ (.string x2.s)).setCell ⟨bv, 1, none⟩ (.int .i64 x2.a)).setCell ⟨bv, 2, none⟩ (.int .i64 x2.e)).drew := bq_drew (bq_set (bq_set (bq_set (bq_set (bq_set Hw12 ⟨bc, 0, none⟩ gc (.int .i64 mA)) ⟨bc, 3, none⟩ gc (.int .i64 mD)) ⟨bv, 0, none⟩ gv (.string x2.s)) ⟨bv, 1, none⟩ gv (.int .i64 x2.a)) ⟨bv, 2, none⟩ gv (.int .i64 x2.e))
  clear HC13 hd13 dc0 fc0 dc3 fc3 dv0 fv0 dv1 fv1 dv2 fv2 na13 nb13 Br_12 Ba_12 Bo_12 Bc_12 Bv_12 Bg_12 Bj_12 Hw12 
  generalize (((((W12.setCell ⟨bc, 0, none⟩ (.int .i64 mA)).setCell ⟨bc, 3, none⟩ (.int .i64 mD)).setCell ⟨bv, 0, none⟩ (.string x2.s)).setCell ⟨bv, 1, none⟩ (.int .i64 x2.a)).setCell ⟨bv, 2, none⟩ (.int .i64 x2.e)).drew = W13 at Br_13 Ba_13 Bo_13 Bc_13 Bv_13 Bg_13 Bj_13 Hw13  ⊢
  go_wp2_with (first
    | (refine wl_load 53 3 _ Try.underlying53 rfl size62 _ rfl rfl _ rfl _ _ Bv_13 rfl ?_)
    | (go_at_call 95; (with_reducible refine (P2.out _).mono ?_); rintro e W14 ⟨rfl, k14⟩; have Br_14 := Br_13.keep k14; have Ba_14 := Ba_13.keep k14; have Bo_14 := Bo_13.keep k14; have Bc_14 := Bc_13.keep k14; have Bv_14 := Bv_13.keep k14; have Bg_14 := Bg_13.keep k14; have Bj_14 := Bj_13.keep k14; have Hw14 := bq_trans Hw13 k14; clear k14 Br_13 Ba_13 Bo_13 Bc_13 Bv_13 Bg_13 Bj_13 Hw13)
    | (refine wl_store 53 3 size62 _ _ rfl rfl _ rfl _ rfl _ _ Bv_14 rfl rfl (by kernel_rfl) ?_; intro W15 Bv_15 T15; have Br_15 := T15.blk Br_14 nrv; have Ba_15 := T15.blk Ba_14 nav; have Bo_15 := T15.blk Bo_14 nov; have Bc_15 := T15.blk Bc_14 ncv; have Bg_15 := T15.blk Bg_14 (Ne.symm nvg); have Bj_15 := T15.blk Bj_14 (Ne.symm nvj); have Hw15 := T15.below Hw14 gv; clear T15 Br_14 Ba_14 Bo_14 Bc_14 Bg_14 Bj_14 Bv_14 Hw14)
    | (refine wl_load 53 3 _ Try.underlying53 rfl size62 _ rfl rfl _ rfl _ _ Bv_15 rfl ?_)
    | (go_at_call 97; (with_reducible refine (S2.out _).mono ?_); rintro e W16 ⟨bh, rfl, Bh_16, l16, k16⟩; have gh : w.heap.size ≤ bh := Nat.le_trans Hw15.size l16; have nrh : br ≠ bh := Nat.ne_of_lt (Nat.lt_of_lt_of_le Br_15.lt l16); have nah : ba ≠ bh := Nat.ne_of_lt (Nat.lt_of_lt_of_le Ba_15.lt l16); have noh : bo ≠ bh := Nat.ne_of_lt (Nat.lt_of_lt_of_le Bo_15.lt l16); have nch : bc ≠ bh := Nat.ne_of_lt (Nat.lt_of_lt_of_le Bc_15.lt l16); have nvh : bv ≠ bh := Nat.ne_of_lt (Nat.lt_of_lt_of_le Bv_15.lt l16); have ngh : bg ≠ bh := Nat.ne_of_lt (Nat.lt_of_lt_of_le Bg_15.lt l16); have njh : bj ≠ bh := Nat.ne_of_lt (Nat.lt_of_lt_of_le Bj_15.lt l16); have Br_16 := Br_15.keep k16; have Ba_16 := Ba_15.keep k16; have Bo_16 := Bo_15.keep k16; have Bc_16 := Bc_15.keep k16; have Bv_16 := Bv_15.keep k16; have Bg_16 := Bg_15.keep k16; have Bj_16 := Bj_15.keep k16; have Hw16 := bq_trans Hw15 k16; clear l16 k16 Br_15 Ba_15 Bo_15 Bc_15 Bv_15 Bg_15 Bj_15 Hw15)
    | (refine wl_alloc 53 _ zero62 rfl rfl ?_; intro W17 bu Bu_17 l17 k17; have gu : w.heap.size ≤ bu := Nat.le_trans Hw16.size l17; have nru : br ≠ bu := Nat.ne_of_lt (Nat.lt_of_lt_of_le Br_16.lt l17); have nau : ba ≠ bu := Nat.ne_of_lt (Nat.lt_of_lt_of_le Ba_16.lt l17); have nou : bo ≠ bu := Nat.ne_of_lt (Nat.lt_of_lt_of_le Bo_16.lt l17); have ncu : bc ≠ bu := Nat.ne_of_lt (Nat.lt_of_lt_of_le Bc_16.lt l17); have nvu : bv ≠ bu := Nat.ne_of_lt (Nat.lt_of_lt_of_le Bv_16.lt l17); have ngu : bg ≠ bu := Nat.ne_of_lt (Nat.lt_of_lt_of_le Bg_16.lt l17); have nju : bj ≠ bu := Nat.ne_of_lt (Nat.lt_of_lt_of_le Bj_16.lt l17); have nhu : bh ≠ bu := Nat.ne_of_lt (Nat.lt_of_lt_of_le Bh_16.lt l17); have Br_17 := Br_16.keep k17; have Ba_17 := Ba_16.keep k17; have Bo_17 := Bo_16.keep k17; have Bc_17 := Bc_16.keep k17; have Bv_17 := Bv_16.keep k17; have Bg_17 := Bg_16.keep k17; have Bj_17 := Bj_16.keep k17; have Bh_17 := Bh_16.keep k17; have Hw17 := bq_trans Hw16 k17; clear l17 k17 Br_16 Ba_16 Bo_16 Bc_16 Bv_16 Bg_16 Bj_16 Bh_16 Hw16)
    | (refine wl_store 53 3 size62 _ _ rfl rfl _ rfl _ rfl _ _ Bu_17 rfl rfl (by kernel_rfl) ?_; intro W18 Bu_18 T18; have Br_18 := T18.blk Br_17 nru; have Ba_18 := T18.blk Ba_17 nau; have Bo_18 := T18.blk Bo_17 nou; have Bc_18 := T18.blk Bc_17 ncu; have Bv_18 := T18.blk Bv_17 nvu; have Bg_18 := T18.blk Bg_17 ngu; have Bj_18 := T18.blk Bj_17 nju; have Bh_18 := T18.blk Bh_17 nhu; have Hw18 := T18.below Hw17 gu; clear T18 Br_17 Ba_17 Bo_17 Bc_17 Bv_17 Bg_17 Bj_17 Bh_17 Bu_17 Hw17))
  have HC19 : Hid (∀ w', But bc bv W18 w' → w'.cell? ⟨bh, 0, none⟩ = some (.int .i64 mB) ∧ w'.cell? ⟨bh, 1, none⟩ = some (.int .i64 mC) ∧ w'.cell? ⟨bu, 0, none⟩ = some (.string x4.s) ∧ w'.cell? ⟨bu, 1, none⟩ = some (.int .i64 x4.a) ∧ w'.cell? ⟨bu, 2, none⟩ = some (.int .i64 x4.e)) := Lib.hid fun w' hw' => ⟨(Bh_18.but hw' (Ne.symm nch) (Ne.symm nvh)).cell 0, (Bh_18.but hw' (Ne.symm nch) (Ne.symm nvh)).cell 1, (Bu_18.but hw' (Ne.symm ncu) (Ne.symm nvu)).cell 0, (Bu_18.but hw' (Ne.symm ncu) (Ne.symm nvu)).cell 1, (Bu_18.but hw' (Ne.symm ncu) (Ne.symm nvu)).cell 2⟩
  have hd19 : Below W18.heap.size W18 W18.drew := bq_drew (bq_refl W18)
  have dc1 : W18.cell? ⟨bc, 1, none⟩ = some (.int .i64 0) := Bc_18.cell 1
  have fc1 := Bc_18.frozen 1
  have dc2 : W18.cell? ⟨bc, 2, none⟩ = some (.int .i64 0) := Bc_18.cell 2
  have fc2 := Bc_18.frozen 2
  have dv0 : W18.cell? ⟨bv, 0, none⟩ = some (.string x3.s) := Bv_18.cell 0
  have fv0 := Bv_18.frozen 0
  have dv1 : W18.cell? ⟨bv, 1, none⟩ = some (.int .i64 x3.a) := Bv_18.cell 1
  have fv1 := Bv_18.frozen 1
  have dv2 : W18.cell? ⟨bv, 2, none⟩ = some (.int .i64 x3.e) := Bv_18.cell 2
  have fv2 := Bv_18.frozen 2
  have na19 : ¬ bc = bv := ncv
  have nb19 : ¬ bv = bc := Ne.symm ncv
  go_region_held3 (fun w' => w'.cell? ⟨bh, 0, none⟩ = some (.int .i64 mB) ∧ w'.cell? ⟨bh, 1, none⟩ = some (.int .i64 mC) ∧ w'.cell? ⟨bu, 0, none⟩ = some (.string x4.s) ∧ w'.cell? ⟨bu, 1, none⟩ = some (.int .i64 x4.a) ∧ w'.cell? ⟨bu, 2, none⟩ = some (.int .i64 x4.e))
    ((refine HC19.out _ ?_; repeat' (first | (with_reducible refine But.setp _ _ ?_) | (with_reducible refine But.setq _ _ ?_) | (with_reducible refine But.drw ?_) | (with_reducible exact But.of (by assumption)) | (with_reducible exact But.of (bq_refl _)))))
    (fail)
  have Br_19 := (((((Br_18.other (a := ⟨bc, 1, none⟩) (.int .i64 mB) nrc).other (a := ⟨bc, 2, none⟩) (.int .i64 mC) nrc).other (a := ⟨bv, 0, none⟩) (.string x4.s) nrv).other (a := ⟨bv, 1, none⟩) (.int .i64 x4.a) nrv).other (a := ⟨bv, 2, none⟩) (.int .i64 x4.e) nrv).drew
  have Ba_19 := (((((Ba_18.other (a := ⟨bc, 1, none⟩) (.int .i64 mB) nac).other (a := ⟨bc, 2, none⟩) (.int .i64 mC) nac).other (a := ⟨bv, 0, none⟩) (.string x4.s) nav).other (a := ⟨bv, 1, none⟩) (.int .i64 x4.a) nav).other (a := ⟨bv, 2, none⟩) (.int .i64 x4.e) nav).drew
  have Bo_19 := (((((Bo_18.other (a := ⟨bc, 1, none⟩) (.int .i64 mB) noc).other (a := ⟨bc, 2, none⟩) (.int .i64 mC) noc).other (a := ⟨bv, 0, none⟩) (.string x4.s) nov).other (a := ⟨bv, 1, none⟩) (.int .i64 x4.a) nov).other (a := ⟨bv, 2, none⟩) (.int .i64 x4.e) nov).drew
  have Bc_19 : Blk (((((W18.setCell ⟨bc, 1, none⟩ (.int .i64 mB)).setCell ⟨bc, 2, none⟩ (.int .i64 mC)).setCell ⟨bv, 0, none⟩ (.string x4.s)).setCell ⟨bv, 1, none⟩ (.int .i64 x4.a)).setCell ⟨bv, 2, none⟩ (.int .i64 x4.e)).drew bc #[.int .i64 mA, .int .i64 mB, .int .i64 mC, .int .i64 mD, .int .i64 0, .int .i64 0] 25 := (((((Bc_18.set 1 (.int .i64 mB)).set 2 (.int .i64 mC)).other (a := ⟨bv, 0, none⟩) (.string x4.s) ncv).other (a := ⟨bv, 1, none⟩) (.int .i64 x4.a) ncv).other (a := ⟨bv, 2, none⟩) (.int .i64 x4.e) ncv).drew
  have Bv_19 : Blk (((((W18.setCell ⟨bc, 1, none⟩ (.int .i64 mB)).setCell ⟨bc, 2, none⟩ (.int .i64 mC)).setCell ⟨bv, 0, none⟩ (.string x4.s)).setCell ⟨bv, 1, none⟩ (.int .i64 x4.a)).setCell ⟨bv, 2, none⟩ (.int .i64 x4.e)).drew bv x4.cells 53 := (((((Bv_18.other (a := ⟨bc, 1, none⟩) (.int .i64 mB) (Ne.symm ncv)).other (a := ⟨bc, 2, none⟩) (.int .i64 mC) (Ne.symm ncv)).set 0 (.string x4.s)).set 1 (.int .i64 x4.a)).set 2 (.int .i64 x4.e)).drew
  have Bg_19 := (((((Bg_18.other (a := ⟨bc, 1, none⟩) (.int .i64 mB) (Ne.symm ncg)).other (a := ⟨bc, 2, none⟩) (.int .i64 mC) (Ne.symm ncg)).other (a := ⟨bv, 0, none⟩) (.string x4.s) (Ne.symm nvg)).other (a := ⟨bv, 1, none⟩) (.int .i64 x4.a) (Ne.symm nvg)).other (a := ⟨bv, 2, none⟩) (.int .i64 x4.e) (Ne.symm nvg)).drew
  have Bj_19 := (((((Bj_18.other (a := ⟨bc, 1, none⟩) (.int .i64 mB) (Ne.symm ncj)).other (a := ⟨bc, 2, none⟩) (.int .i64 mC) (Ne.symm ncj)).other (a := ⟨bv, 0, none⟩) (.string x4.s) (Ne.symm nvj)).other (a := ⟨bv, 1, none⟩) (.int .i64 x4.a) (Ne.symm nvj)).other (a := ⟨bv, 2, none⟩) (.int .i64 x4.e) (Ne.symm nvj)).drew
  have Bh_19 := (((((Bh_18.other (a := ⟨bc, 1, none⟩) (.int .i64 mB) (Ne.symm nch)).other (a := ⟨bc, 2, none⟩) (.int .i64 mC) (Ne.symm nch)).other (a := ⟨bv, 0, none⟩) (.string x4.s) (Ne.symm nvh)).other (a := ⟨bv, 1, none⟩) (.int .i64 x4.a) (Ne.symm nvh)).other (a := ⟨bv, 2, none⟩) (.int .i64 x4.e) (Ne.symm nvh)).drew
  have Bu_19 := (((((Bu_18.other (a := ⟨bc, 1, none⟩) (.int .i64 mB) (Ne.symm ncu)).other (a := ⟨bc, 2, none⟩) (.int .i64 mC) (Ne.symm ncu)).other (a := ⟨bv, 0, none⟩) (.string x4.s) (Ne.symm nvu)).other (a := ⟨bv, 1, none⟩) (.int .i64 x4.a) (Ne.symm nvu)).other (a := ⟨bv, 2, none⟩) (.int .i64 x4.e) (Ne.symm nvu)).drew
  have Hw19 : Below w.heap.size w (((((W18.setCell ⟨bc, 1, none⟩ (.int .i64 mB)).setCell ⟨bc, 2, none⟩ (.int .i64 mC)).setCell ⟨bv, 0, none⟩ (.string x4.s)).setCell ⟨bv, 1, none⟩ (.int .i64 x4.a)).setCell ⟨bv, 2, none⟩ (.int .i64 x4.e)).drew := bq_drew (bq_set (bq_set (bq_set (bq_set (bq_set Hw18 ⟨bc, 1, none⟩ gc (.int .i64 mB)) ⟨bc, 2, none⟩ gc (.int .i64 mC)) ⟨bv, 0, none⟩ gv (.string x4.s)) ⟨bv, 1, none⟩ gv (.int .i64 x4.a)) ⟨bv, 2, none⟩ gv (.int .i64 x4.e))
  clear HC19 hd19 dc1 fc1 dc2 fc2 dv0 fv0 dv1 fv1 dv2 fv2 na19 nb19 Br_18 Ba_18 Bo_18 Bc_18 Bv_18 Bg_18 Bj_18 Bh_18 Bu_18 Hw18 
  generalize (((((W18.setCell ⟨bc, 1, none⟩ (.int .i64 mB)).setCell ⟨bc, 2, none⟩ (.int .i64 mC)).setCell ⟨bv, 0, none⟩ (.string x4.s)).setCell ⟨bv, 1, none⟩ (.int .i64 x4.a)).setCell ⟨bv, 2, none⟩ (.int .i64 x4.e)).drew = W19 at Br_19 Ba_19 Bo_19 Bc_19 Bv_19 Bg_19 Bj_19 Bh_19 Bu_19 Hw19  ⊢
  go_wp2_with (first
    | (refine wl_load 53 3 _ Try.underlying53 rfl size62 _ rfl rfl _ rfl _ _ Bv_19 rfl ?_)
    | (go_at_call 97; (with_reducible refine (S3.out _).mono ?_); rintro e W20 ⟨bf, rfl, Bf_20, l20, k20⟩; have gf : w.heap.size ≤ bf := Nat.le_trans Hw19.size l20; have nrf : br ≠ bf := Nat.ne_of_lt (Nat.lt_of_lt_of_le Br_19.lt l20); have naf : ba ≠ bf := Nat.ne_of_lt (Nat.lt_of_lt_of_le Ba_19.lt l20); have nof : bo ≠ bf := Nat.ne_of_lt (Nat.lt_of_lt_of_le Bo_19.lt l20); have ncf : bc ≠ bf := Nat.ne_of_lt (Nat.lt_of_lt_of_le Bc_19.lt l20); have nvf : bv ≠ bf := Nat.ne_of_lt (Nat.lt_of_lt_of_le Bv_19.lt l20); have ngf : bg ≠ bf := Nat.ne_of_lt (Nat.lt_of_lt_of_le Bg_19.lt l20); have njf : bj ≠ bf := Nat.ne_of_lt (Nat.lt_of_lt_of_le Bj_19.lt l20); have nhf : bh ≠ bf := Nat.ne_of_lt (Nat.lt_of_lt_of_le Bh_19.lt l20); have nuf : bu ≠ bf := Nat.ne_of_lt (Nat.lt_of_lt_of_le Bu_19.lt l20); have Br_20 := Br_19.keep k20; have Ba_20 := Ba_19.keep k20; have Bo_20 := Bo_19.keep k20; have Bc_20 := Bc_19.keep k20; have Bv_20 := Bv_19.keep k20; have Bg_20 := Bg_19.keep k20; have Bj_20 := Bj_19.keep k20; have Bh_20 := Bh_19.keep k20; have Bu_20 := Bu_19.keep k20; have Hw20 := bq_trans Hw19 k20; clear l20 k20 Br_19 Ba_19 Bo_19 Bc_19 Bv_19 Bg_19 Bj_19 Bh_19 Bu_19 Hw19)
    | (refine wl_alloc 53 _ zero62 rfl rfl ?_; intro W21 bx Bx_21 l21 k21; have gx : w.heap.size ≤ bx := Nat.le_trans Hw20.size l21; have nrx : br ≠ bx := Nat.ne_of_lt (Nat.lt_of_lt_of_le Br_20.lt l21); have nax : ba ≠ bx := Nat.ne_of_lt (Nat.lt_of_lt_of_le Ba_20.lt l21); have nox : bo ≠ bx := Nat.ne_of_lt (Nat.lt_of_lt_of_le Bo_20.lt l21); have ncx : bc ≠ bx := Nat.ne_of_lt (Nat.lt_of_lt_of_le Bc_20.lt l21); have nvx : bv ≠ bx := Nat.ne_of_lt (Nat.lt_of_lt_of_le Bv_20.lt l21); have ngx : bg ≠ bx := Nat.ne_of_lt (Nat.lt_of_lt_of_le Bg_20.lt l21); have njx : bj ≠ bx := Nat.ne_of_lt (Nat.lt_of_lt_of_le Bj_20.lt l21); have nhx : bh ≠ bx := Nat.ne_of_lt (Nat.lt_of_lt_of_le Bh_20.lt l21); have nux : bu ≠ bx := Nat.ne_of_lt (Nat.lt_of_lt_of_le Bu_20.lt l21); have nfx : bf ≠ bx := Nat.ne_of_lt (Nat.lt_of_lt_of_le Bf_20.lt l21); have Br_21 := Br_20.keep k21; have Ba_21 := Ba_20.keep k21; have Bo_21 := Bo_20.keep k21; have Bc_21 := Bc_20.keep k21; have Bv_21 := Bv_20.keep k21; have Bg_21 := Bg_20.keep k21; have Bj_21 := Bj_20.keep k21; have Bh_21 := Bh_20.keep k21; have Bu_21 := Bu_20.keep k21; have Bf_21 := Bf_20.keep k21; have Hw21 := bq_trans Hw20 k21; clear l21 k21 Br_20 Ba_20 Bo_20 Bc_20 Bv_20 Bg_20 Bj_20 Bh_20 Bu_20 Bf_20 Hw20)
    | (refine wl_store 53 3 size62 _ _ rfl rfl _ rfl _ rfl _ _ Bx_21 rfl rfl (by kernel_rfl) ?_; intro W22 Bx_22 T22; have Br_22 := T22.blk Br_21 nrx; have Ba_22 := T22.blk Ba_21 nax; have Bo_22 := T22.blk Bo_21 nox; have Bc_22 := T22.blk Bc_21 ncx; have Bv_22 := T22.blk Bv_21 nvx; have Bg_22 := T22.blk Bg_21 ngx; have Bj_22 := T22.blk Bj_21 njx; have Bh_22 := T22.blk Bh_21 nhx; have Bu_22 := T22.blk Bu_21 nux; have Bf_22 := T22.blk Bf_21 nfx; have Hw22 := T22.below Hw21 gx; clear T22 Br_21 Ba_21 Bo_21 Bc_21 Bv_21 Bg_21 Bj_21 Bh_21 Bu_21 Bf_21 Bx_21 Hw21))
  have HC23 : Hid (∀ w', But bc bc W22 w' → w'.cell? ⟨bf, 0, none⟩ = some (.int .i64 mX) ∧ w'.cell? ⟨bf, 1, none⟩ = some (.int .i64 mY)) := Lib.hid fun w' hw' => ⟨(Bf_22.but hw' (Ne.symm ncf) (Ne.symm ncf)).cell 0, (Bf_22.but hw' (Ne.symm ncf) (Ne.symm ncf)).cell 1⟩
  have hd23 : Below W22.heap.size W22 W22.drew := bq_drew (bq_refl W22)
  have dc4 : W22.cell? ⟨bc, 4, none⟩ = some (.int .i64 0) := Bc_22.cell 4
  have fc4 := Bc_22.frozen 4
  have dc5 : W22.cell? ⟨bc, 5, none⟩ = some (.int .i64 0) := Bc_22.cell 5
  have fc5 := Bc_22.frozen 5
  go_region_held3 (fun w' => w'.cell? ⟨bf, 0, none⟩ = some (.int .i64 mX) ∧ w'.cell? ⟨bf, 1, none⟩ = some (.int .i64 mY))
    ((refine HC23.out _ ?_; repeat' (first | (with_reducible refine But.setp _ _ ?_) | (with_reducible refine But.setq _ _ ?_) | (with_reducible refine But.drw ?_) | (with_reducible exact But.of (by assumption)) | (with_reducible exact But.of (bq_refl _)))))
    (fail)
  have Br_23 := ((Br_22.other (a := ⟨bc, 4, none⟩) (.int .i64 mX) nrc).other (a := ⟨bc, 5, none⟩) (.int .i64 mY) nrc).drew
  have Ba_23 := ((Ba_22.other (a := ⟨bc, 4, none⟩) (.int .i64 mX) nac).other (a := ⟨bc, 5, none⟩) (.int .i64 mY) nac).drew
  have Bo_23 := ((Bo_22.other (a := ⟨bc, 4, none⟩) (.int .i64 mX) noc).other (a := ⟨bc, 5, none⟩) (.int .i64 mY) noc).drew
  have Bc_23 : Blk ((W22.setCell ⟨bc, 4, none⟩ (.int .i64 mX)).setCell ⟨bc, 5, none⟩ (.int .i64 mY)).drew bc #[.int .i64 mA, .int .i64 mB, .int .i64 mC, .int .i64 mD, .int .i64 mX, .int .i64 mY] 25 := ((Bc_22.set 4 (.int .i64 mX)).set 5 (.int .i64 mY)).drew
  have Bv_23 := ((Bv_22.other (a := ⟨bc, 4, none⟩) (.int .i64 mX) (Ne.symm ncv)).other (a := ⟨bc, 5, none⟩) (.int .i64 mY) (Ne.symm ncv)).drew
  have Bg_23 := ((Bg_22.other (a := ⟨bc, 4, none⟩) (.int .i64 mX) (Ne.symm ncg)).other (a := ⟨bc, 5, none⟩) (.int .i64 mY) (Ne.symm ncg)).drew
  have Bj_23 := ((Bj_22.other (a := ⟨bc, 4, none⟩) (.int .i64 mX) (Ne.symm ncj)).other (a := ⟨bc, 5, none⟩) (.int .i64 mY) (Ne.symm ncj)).drew
  have Bh_23 := ((Bh_22.other (a := ⟨bc, 4, none⟩) (.int .i64 mX) (Ne.symm nch)).other (a := ⟨bc, 5, none⟩) (.int .i64 mY) (Ne.symm nch)).drew
  have Bu_23 := ((Bu_22.other (a := ⟨bc, 4, none⟩) (.int .i64 mX) (Ne.symm ncu)).other (a := ⟨bc, 5, none⟩) (.int .i64 mY) (Ne.symm ncu)).drew
  have Bf_23 := ((Bf_22.other (a := ⟨bc, 4, none⟩) (.int .i64 mX) (Ne.symm ncf)).other (a := ⟨bc, 5, none⟩) (.int .i64 mY) (Ne.symm ncf)).drew
  have Bx_23 := ((Bx_22.other (a := ⟨bc, 4, none⟩) (.int .i64 mX) (Ne.symm ncx)).other (a := ⟨bc, 5, none⟩) (.int .i64 mY) (Ne.symm ncx)).drew
  have Hw23 : Below w.heap.size w ((W22.setCell ⟨bc, 4, none⟩ (.int .i64 mX)).setCell ⟨bc, 5, none⟩ (.int .i64 mY)).drew := bq_drew (bq_set (bq_set Hw22 ⟨bc, 4, none⟩ gc (.int .i64 mX)) ⟨bc, 5, none⟩ gc (.int .i64 mY))
  clear HC23 hd23 dc4 fc4 dc5 fc5 Br_22 Ba_22 Bo_22 Bc_22 Bv_22 Bg_22 Bj_22 Bh_22 Bu_22 Bf_22 Bx_22 Hw22 
  generalize ((W22.setCell ⟨bc, 4, none⟩ (.int .i64 mX)).setCell ⟨bc, 5, none⟩ (.int .i64 mY)).drew = W23 at Br_23 Ba_23 Bo_23 Bc_23 Bv_23 Bg_23 Bj_23 Bh_23 Bu_23 Bf_23 Bx_23 Hw23  ⊢
  have HRb : Hid (∀ W, Below W23.heap.size W23 W → Calls Try.prog 28 #[.agg #[.int .i64 mA, .int .i64 mB, .int .i64 mC, .int .i64 mD, .int .i64 mX, .int .i64 mY]] W fun e w' => e = .returned (.bool q) ∧ Below W23.heap.size W23 w') := Lib.hid fun W h => (HR.out W).mono fun e w' ⟨h1, h2⟩ => ⟨h1, bq_trans h h2⟩
  have HDb : Hid (∀ W, Below W23.heap.size W23 W → Calls Try.prog 98 #[.agg #[.string x5.s, .int .i64 x5.a, .int .i64 x5.e], .bool q] W fun e w' => e = .returned (.agg #[.string z.s, .int .i64 z.a, .int .i64 z.e]) ∧ Below W23.heap.size W23 w') := Lib.hid fun W h => (HD.out W).mono fun e w' ⟨h1, h2⟩ => ⟨h1, bq_trans h h2⟩
  have BX := Lib.hid Bx_23
  have BC : Hid (Blk W23 bc #[.int .i64 mA, .int .i64 mB, .int .i64 mC, .int .i64 mD, .int .i64 mX, .int .i64 mY] 25) := Lib.hid Bc_23
  have BA := Lib.hid Ba_23
  have BO := Lib.hid Bo_23
  have HB := Lib.hid Hw23
  have x0c : W23.cell? ⟨bx, 0, none⟩ = some (.string x5.s) := Bx_23.cell 0
  have x1c : W23.cell? ⟨bx, 1, none⟩ = some (.int .i64 x5.a) := Bx_23.cell 1
  have x2c : W23.cell? ⟨bx, 2, none⟩ = some (.int .i64 x5.e) := Bx_23.cell 2
  have c0c : W23.cell? ⟨bc, 0, none⟩ = some (.int .i64 mA) := BC.out.cell 0
  have c1c : W23.cell? ⟨bc, 1, none⟩ = some (.int .i64 mB) := BC.out.cell 1
  have c2c : W23.cell? ⟨bc, 2, none⟩ = some (.int .i64 mC) := BC.out.cell 2
  have c3c : W23.cell? ⟨bc, 3, none⟩ = some (.int .i64 mD) := BC.out.cell 3
  have c4c : W23.cell? ⟨bc, 4, none⟩ = some (.int .i64 mX) := BC.out.cell 4
  have c5c : W23.cell? ⟨bc, 5, none⟩ = some (.int .i64 mY) := BC.out.cell 5
  have hd0 : Below W23.heap.size W23 W23.drew := bq_drew (bq_refl W23)
  clear HR HD HG P1 P2 S3 S1 S2 Br_23 Ba_23 Bo_23 Bc_23 Bv_23 Bg_23 Bj_23 Bh_23 Bu_23 Bf_23 Bx_23 Hw23 
  go_wp2_with fail
  go_region_with (first
    | (go_at_call 28; refine (HRb.out _ (by first | assumption | exact hd0)).mono ?_; rintro e w9 ⟨rfl, hb9⟩; have y0 : w9.cell? ⟨bx, 0, none⟩ = some (.string x5.s) := (BX.out.keep hb9).cell 0; have y1 : w9.cell? ⟨bx, 1, none⟩ = some (.int .i64 x5.a) := (BX.out.keep hb9).cell 1; have y2 : w9.cell? ⟨bx, 2, none⟩ = some (.int .i64 x5.e) := (BX.out.keep hb9).cell 2)
    | (go_at_call 98; refine (HDb.out _ (by first | assumption | exact hd0)).mono ?_; rintro e w10 ⟨rfl, hb10⟩; have z0 : w10.cell? ⟨bx, 0, none⟩ = some (.string x5.s) := (BX.out.keep hb10).cell 0; have z1 : w10.cell? ⟨bx, 1, none⟩ = some (.int .i64 x5.a) := (BX.out.keep hb10).cell 1; have z2 : w10.cell? ⟨bx, 2, none⟩ = some (.int .i64 x5.e) := (BX.out.keep hb10).cell 2; have f0 := (BX.out.keep hb10).frozen 0; have f1 := (BX.out.keep hb10).frozen 1; have f2 := (BX.out.keep hb10).frozen 2))
  all_goals
    have BX1 : Blk (((w10.setCell ⟨bx, 0, none⟩ (.string z.s)).setCell ⟨bx, 1, none⟩ (.int .i64 z.a)).setCell ⟨bx, 2, none⟩ (.int .i64 z.e)) bx #[.string z.s, .int .i64 z.a, .int .i64 z.e] 53 := (((BX.out.keep hb10).set 0 _).set 1 _).set 2 _
    have BC1 : Blk (((w10.setCell ⟨bx, 0, none⟩ (.string z.s)).setCell ⟨bx, 1, none⟩ (.int .i64 z.a)).setCell ⟨bx, 2, none⟩ (.int .i64 z.e)) bc #[.int .i64 mA, .int .i64 mB, .int .i64 mC, .int .i64 mD, .int .i64 mX, .int .i64 mY] 25 := (((BC.out.keep hb10).other _ ncx).other _ ncx).other _ ncx
    have BA1 : Blk (((w10.setCell ⟨bx, 0, none⟩ (.string z.s)).setCell ⟨bx, 1, none⟩ (.int .i64 z.a)).setCell ⟨bx, 2, none⟩ (.int .i64 z.e)) ba (iA [0, 0, 0, 0, 0, 0]) 25 := (((BA.out.keep hb10).other _ nax).other _ nax).other _ nax
    have BO1 : Blk (((w10.setCell ⟨bx, 0, none⟩ (.string z.s)).setCell ⟨bx, 1, none⟩ (.int .i64 z.a)).setCell ⟨bx, 2, none⟩ (.int .i64 z.e)) bo #[.string ⟨#[]⟩, .int .i64 0, .int .i64 0] 53 := (((BO.out.keep hb10).other _ nox).other _ nox).other _ nox
    have HB1 : Below w.heap.size w (((w10.setCell ⟨bx, 0, none⟩ (.string z.s)).setCell ⟨bx, 1, none⟩ (.int .i64 z.a)).setCell ⟨bx, 2, none⟩ (.int .i64 z.e)) := bq_set (bq_set (bq_set (bq_trans HB.out hb10) _ gx _) _ gx _) _ gx _
    generalize ((w10.setCell ⟨bx, 0, none⟩ (.string z.s)).setCell ⟨bx, 1, none⟩ (.int .i64 z.a)).setCell ⟨bx, 2, none⟩ (.int .i64 z.e) = W11 at BX1 BC1 BA1 BO1 HB1 ⊢
    clear HRb HDb BX BC BA BO HB x0c x1c x2c c0c c1c c2c c3c c4c c5c hd0 hb10
    have noa : bo ≠ ba := Ne.symm nao
    have ne1 : ¬ ba = bo := nao
    have ne2 : ¬ bo = ba := noa
    have xe : W11.cell? ⟨bx, 2, none⟩ = some (.int .i64 z.e) := BX1.cell 2
    cases hz : (z.e != 0)
    · have EV := Lib.hid (E1.out hz)
      go_wp2_with fail
      have BX2 := BX1
      have BC2 := BC1
      have BA2 := BA1
      have BO2 := BO1
      have HB2 := HB1
      clear BX1 BC1 BA1 BO1 HB1
      have HC : Hid (∀ w', But ba bo W11 w' → w'.cell? ⟨bx, 0, none⟩ = some (.string z.s) ∧ w'.cell? ⟨bx, 1, none⟩ = some (.int .i64 z.a) ∧ w'.cell? ⟨bx, 2, none⟩ = some (.int .i64 z.e) ∧ w'.cell? ⟨bc, 0, none⟩ = some (.int .i64 mA) ∧ w'.cell? ⟨bc, 1, none⟩ = some (.int .i64 mB) ∧ w'.cell? ⟨bc, 2, none⟩ = some (.int .i64 mC) ∧ w'.cell? ⟨bc, 3, none⟩ = some (.int .i64 mD) ∧ w'.cell? ⟨bc, 4, none⟩ = some (.int .i64 mX) ∧ w'.cell? ⟨bc, 5, none⟩ = some (.int .i64 mY)) := Lib.hid fun w' hw' => ⟨(BX2.but hw' (Ne.symm nax) (Ne.symm nox)).cell 0, (BX2.but hw' (Ne.symm nax) (Ne.symm nox)).cell 1, (BX2.but hw' (Ne.symm nax) (Ne.symm nox)).cell 2, (BC2.but hw' (Ne.symm nac) (Ne.symm noc)).cell 0, (BC2.but hw' (Ne.symm nac) (Ne.symm noc)).cell 1, (BC2.but hw' (Ne.symm nac) (Ne.symm noc)).cell 2, (BC2.but hw' (Ne.symm nac) (Ne.symm noc)).cell 3, (BC2.but hw' (Ne.symm nac) (Ne.symm noc)).cell 4, (BC2.but hw' (Ne.symm nac) (Ne.symm noc)).cell 5⟩
      have HA := Lib.hid BA2
      have HO := Lib.hid BO2
      have HB3 := Lib.hid HB2
      have hd0 : Below W11.heap.size W11 W11.drew := bq_drew (bq_refl W11)
      have da0 : W11.cell? ⟨ba, 0, none⟩ = some (.int .i64 0) := BA2.cell 0
      have fa0 := BA2.frozen 0
      have da1 : W11.cell? ⟨ba, 1, none⟩ = some (.int .i64 0) := BA2.cell 1
      have fa1 := BA2.frozen 1
      have da2 : W11.cell? ⟨ba, 2, none⟩ = some (.int .i64 0) := BA2.cell 2
      have fa2 := BA2.frozen 2
      have da3 : W11.cell? ⟨ba, 3, none⟩ = some (.int .i64 0) := BA2.cell 3
      have fa3 := BA2.frozen 3
      have da4 : W11.cell? ⟨ba, 4, none⟩ = some (.int .i64 0) := BA2.cell 4
      have fa4 := BA2.frozen 4
      have da5 : W11.cell? ⟨ba, 5, none⟩ = some (.int .i64 0) := BA2.cell 5
      have fa5 := BA2.frozen 5
      have o0 : W11.cell? ⟨bo, 0, none⟩ = some (.string ⟨#[]⟩) := BO2.cell 0
      have p0 := BO2.frozen 0
      have o1 : W11.cell? ⟨bo, 1, none⟩ = some (.int .i64 0) := BO2.cell 1
      have p1 := BO2.frozen 1
      have o2 : W11.cell? ⟨bo, 2, none⟩ = some (.int .i64 0) := BO2.cell 2
      have p2 := BO2.frozen 2
      clear BX2 BC2 BA2 BO2 HB2
      go_region_held3 (fun w' => w'.cell? ⟨bx, 0, none⟩ = some (.string z.s) ∧ w'.cell? ⟨bx, 1, none⟩ = some (.int .i64 z.a) ∧ w'.cell? ⟨bx, 2, none⟩ = some (.int .i64 z.e) ∧ w'.cell? ⟨bc, 0, none⟩ = some (.int .i64 mA) ∧ w'.cell? ⟨bc, 1, none⟩ = some (.int .i64 mB) ∧ w'.cell? ⟨bc, 2, none⟩ = some (.int .i64 mC) ∧ w'.cell? ⟨bc, 3, none⟩ = some (.int .i64 mD) ∧ w'.cell? ⟨bc, 4, none⟩ = some (.int .i64 mX) ∧ w'.cell? ⟨bc, 5, none⟩ = some (.int .i64 mY))
        ((refine HC.out _ ?_; repeat' (first | (with_reducible refine But.setp _ _ ?_) | (with_reducible refine But.setq _ _ ?_) | (with_reducible refine But.drw ?_) | (with_reducible exact But.of (by assumption)) | (with_reducible exact But.of (bq_refl _)))))
        (fail)
      have R9 : Blk (((((((((W11.setCell ⟨ba, 0, none⟩ (.int .i64 mA)).setCell ⟨ba, 1, none⟩ (.int .i64 mB)).setCell ⟨ba, 2, none⟩ (.int .i64 mC)).setCell ⟨ba, 3, none⟩ (.int .i64 mD)).setCell ⟨ba, 4, none⟩ (.int .i64 mX)).setCell ⟨ba, 5, none⟩ (.int .i64 mY)).setCell ⟨bo, 0, none⟩ (.string z.s)).setCell ⟨bo, 1, none⟩ (.int .i64 z.a)).setCell ⟨bo, 2, none⟩ (.int .i64 z.e)).drew ba (iA [mA, mB, mC, mD, mX, mY]) 25 := by rw [← sets6]; exact (((((((((HA.out.set 0 _).set 1 _).set 2 _).set 3 _).set 4 _).set 5 _).other _ nao).other _ nao).other _ nao).drew
      have O9 : Blk (((((((((W11.setCell ⟨ba, 0, none⟩ (.int .i64 mA)).setCell ⟨ba, 1, none⟩ (.int .i64 mB)).setCell ⟨ba, 2, none⟩ (.int .i64 mC)).setCell ⟨ba, 3, none⟩ (.int .i64 mD)).setCell ⟨ba, 4, none⟩ (.int .i64 mX)).setCell ⟨ba, 5, none⟩ (.int .i64 mY)).setCell ⟨bo, 0, none⟩ (.string z.s)).setCell ⟨bo, 1, none⟩ (.int .i64 z.a)).setCell ⟨bo, 2, none⟩ (.int .i64 z.e)).drew bo #[.string z.s, .int .i64 z.a, .int .i64 z.e] 53 := (((((((((HO.out.other _ noa).other _ noa).other _ noa).other _ noa).other _ noa).other _ noa).set 0 _).set 1 _).set 2 _).drew
      go_wp2
      exact post_cell2 Try.underlying25 rfl size27e Try.underlying53 rfl size62 Try.results83 R9 rfl O9 rfl rfl rfl rfl ⟨by rw [EV.out]; rfl, bq_drew (bq_set (bq_set (bq_set (bq_set (bq_set (bq_set (bq_set (bq_set (bq_set (HB3.out) _ ga _) _ ga _) _ ga _) _ ga _) _ ga _) _ ga _) _ go _) _ go _) _ go _)⟩
    · have EV := Lib.hid (E0.out hz)
      go_wp2_with (refine wl_store 25 6 size27e _ _ rfl rfl _ rfl #[.int .i64 0, .int .i64 0, .int .i64 0, .int .i64 0, .int .i64 0, .int .i64 0] rfl _ _ BC1 rfl rfl (by kernel_rfl) ?_; intro W12 BC2 T12)
      have BX2 := T12.blk BX1 (Ne.symm ncx)
      have BA2 := T12.blk BA1 nac
      have BO2 := T12.blk BO1 noc
      have HB2 := T12.below HB1 gc
      clear BX1 BC1 BA1 BO1 HB1 T12
      have HC : Hid (∀ w', But ba bo W12 w' → w'.cell? ⟨bx, 0, none⟩ = some (.string z.s) ∧ w'.cell? ⟨bx, 1, none⟩ = some (.int .i64 z.a) ∧ w'.cell? ⟨bx, 2, none⟩ = some (.int .i64 z.e) ∧ w'.cell? ⟨bc, 0, none⟩ = some (.int .i64 0) ∧ w'.cell? ⟨bc, 1, none⟩ = some (.int .i64 0) ∧ w'.cell? ⟨bc, 2, none⟩ = some (.int .i64 0) ∧ w'.cell? ⟨bc, 3, none⟩ = some (.int .i64 0) ∧ w'.cell? ⟨bc, 4, none⟩ = some (.int .i64 0) ∧ w'.cell? ⟨bc, 5, none⟩ = some (.int .i64 0)) := Lib.hid fun w' hw' => ⟨(BX2.but hw' (Ne.symm nax) (Ne.symm nox)).cell 0, (BX2.but hw' (Ne.symm nax) (Ne.symm nox)).cell 1, (BX2.but hw' (Ne.symm nax) (Ne.symm nox)).cell 2, (BC2.but hw' (Ne.symm nac) (Ne.symm noc)).cell 0, (BC2.but hw' (Ne.symm nac) (Ne.symm noc)).cell 1, (BC2.but hw' (Ne.symm nac) (Ne.symm noc)).cell 2, (BC2.but hw' (Ne.symm nac) (Ne.symm noc)).cell 3, (BC2.but hw' (Ne.symm nac) (Ne.symm noc)).cell 4, (BC2.but hw' (Ne.symm nac) (Ne.symm noc)).cell 5⟩
      have HA := Lib.hid BA2
      have HO := Lib.hid BO2
      have HB3 := Lib.hid HB2
      have hd0 : Below W12.heap.size W12 W12.drew := bq_drew (bq_refl W12)
      have da0 : W12.cell? ⟨ba, 0, none⟩ = some (.int .i64 0) := BA2.cell 0
      have fa0 := BA2.frozen 0
      have da1 : W12.cell? ⟨ba, 1, none⟩ = some (.int .i64 0) := BA2.cell 1
      have fa1 := BA2.frozen 1
      have da2 : W12.cell? ⟨ba, 2, none⟩ = some (.int .i64 0) := BA2.cell 2
      have fa2 := BA2.frozen 2
      have da3 : W12.cell? ⟨ba, 3, none⟩ = some (.int .i64 0) := BA2.cell 3
      have fa3 := BA2.frozen 3
      have da4 : W12.cell? ⟨ba, 4, none⟩ = some (.int .i64 0) := BA2.cell 4
      have fa4 := BA2.frozen 4
      have da5 : W12.cell? ⟨ba, 5, none⟩ = some (.int .i64 0) := BA2.cell 5
      have fa5 := BA2.frozen 5
      have o0 : W12.cell? ⟨bo, 0, none⟩ = some (.string ⟨#[]⟩) := BO2.cell 0
      have p0 := BO2.frozen 0
      have o1 : W12.cell? ⟨bo, 1, none⟩ = some (.int .i64 0) := BO2.cell 1
      have p1 := BO2.frozen 1
      have o2 : W12.cell? ⟨bo, 2, none⟩ = some (.int .i64 0) := BO2.cell 2
      have p2 := BO2.frozen 2
      clear BX2 BC2 BA2 BO2 HB2
      go_region_held3 (fun w' => w'.cell? ⟨bx, 0, none⟩ = some (.string z.s) ∧ w'.cell? ⟨bx, 1, none⟩ = some (.int .i64 z.a) ∧ w'.cell? ⟨bx, 2, none⟩ = some (.int .i64 z.e) ∧ w'.cell? ⟨bc, 0, none⟩ = some (.int .i64 0) ∧ w'.cell? ⟨bc, 1, none⟩ = some (.int .i64 0) ∧ w'.cell? ⟨bc, 2, none⟩ = some (.int .i64 0) ∧ w'.cell? ⟨bc, 3, none⟩ = some (.int .i64 0) ∧ w'.cell? ⟨bc, 4, none⟩ = some (.int .i64 0) ∧ w'.cell? ⟨bc, 5, none⟩ = some (.int .i64 0))
        ((refine HC.out _ ?_; repeat' (first | (with_reducible refine But.setp _ _ ?_) | (with_reducible refine But.setq _ _ ?_) | (with_reducible refine But.drw ?_) | (with_reducible exact But.of (by assumption)) | (with_reducible exact But.of (bq_refl _)))))
        (fail)
      have R9 : Blk (((((((((W12.setCell ⟨ba, 0, none⟩ (.int .i64 0)).setCell ⟨ba, 1, none⟩ (.int .i64 0)).setCell ⟨ba, 2, none⟩ (.int .i64 0)).setCell ⟨ba, 3, none⟩ (.int .i64 0)).setCell ⟨ba, 4, none⟩ (.int .i64 0)).setCell ⟨ba, 5, none⟩ (.int .i64 0)).setCell ⟨bo, 0, none⟩ (.string z.s)).setCell ⟨bo, 1, none⟩ (.int .i64 z.a)).setCell ⟨bo, 2, none⟩ (.int .i64 z.e)).drew ba (iA [0, 0, 0, 0, 0, 0]) 25 := by rw [← sets6]; exact (((((((((HA.out.set 0 _).set 1 _).set 2 _).set 3 _).set 4 _).set 5 _).other _ nao).other _ nao).other _ nao).drew
      have O9 : Blk (((((((((W12.setCell ⟨ba, 0, none⟩ (.int .i64 0)).setCell ⟨ba, 1, none⟩ (.int .i64 0)).setCell ⟨ba, 2, none⟩ (.int .i64 0)).setCell ⟨ba, 3, none⟩ (.int .i64 0)).setCell ⟨ba, 4, none⟩ (.int .i64 0)).setCell ⟨ba, 5, none⟩ (.int .i64 0)).setCell ⟨bo, 0, none⟩ (.string z.s)).setCell ⟨bo, 1, none⟩ (.int .i64 z.a)).setCell ⟨bo, 2, none⟩ (.int .i64 z.e)).drew bo #[.string z.s, .int .i64 z.a, .int .i64 z.e] 53 := (((((((((HO.out.other _ noa).other _ noa).other _ noa).other _ noa).other _ noa).other _ noa).set 0 _).set 1 _).set 2 _).drew
      go_wp2
      exact post_cell2 Try.underlying25 rfl size27e Try.underlying53 rfl size62 Try.results83 R9 rfl O9 rfl rfl rfl rfl ⟨by rw [EV.out]; rfl, bq_drew (bq_set (bq_set (bq_set (bq_set (bq_set (bq_set (bq_set (bq_set (bq_set (HB3.out) _ ga _) _ ga _) _ ga _) _ ga _) _ ga _) _ ga _) _ go _) _ go _) _ go _)⟩
end Go.Proofs.Ythlnjipefeglpaa
