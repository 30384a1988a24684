import Derived.Test.YthlnjipefeglpaaZU29
import Derived.Test.YthlnjipefeglpaaZU13
import Derived.Test.YthlnjipefeglpaaZU7
import Derived.Test.YthlnjipefeglpaaZU30
import Derived.Test.YthlnjipefeglpaaZU31
namespace Go.Proofs.Ythlnjipefeglpaa
open Go.RowKit
set_option linter.unusedVariables false
theorem size3_11 : (Try.prog.info? 3).map (·.size) = some 1 := by kernel_rfl
set_option maxHeartbeats 2000000 in
theorem takematrix_11 (s zs : ByteArray) (a mA mD mB mC mX mY e0 e1 e2 e3 e4 e5 za ze : Int) (x0 x1 x2 x3 x4 x5 : RS) (q : Bool) (w : World)
    (H1 : Hid (∀ W bt, Tk W bt x0 → Calls Try.prog 78 #[.pointer (some ⟨bt, 0, none⟩)] W fun e w' => e = .returned (.bool true) ∧ Tk w' bt x1 ∧ But bt bt W w'))
    (P1 : Hid (∀ W bt, Tk W bt x1 → Calls Try.prog 79 #[.pointer (some ⟨bt, 0, none⟩)] W fun e w' => e = .returned (.tuple #[.int .i64 mA, .int .i64 mD]) ∧ Tk w' bt x2 ∧ But bt bt W w'))
    (H2 : Hid (∀ W bt, Tk W bt x2 → Calls Try.prog 78 #[.pointer (some ⟨bt, 0, none⟩)] W fun e w' => e = .returned (.bool true) ∧ Tk w' bt x3 ∧ But bt bt W w'))
    (P2 : Hid (∀ W bt, Tk W bt x3 → Calls Try.prog 79 #[.pointer (some ⟨bt, 0, none⟩)] W fun e w' => e = .returned (.tuple #[.int .i64 mB, .int .i64 mC]) ∧ Tk w' bt x4 ∧ But bt bt W w'))
    (P3 : Hid (∀ W bt, Tk W bt x4 → Calls Try.prog 79 #[.pointer (some ⟨bt, 0, none⟩)] W fun e w' => e = .returned (.tuple #[.int .i64 mX, .int .i64 mY]) ∧ Tk w' bt x5 ∧ But bt bt W w'))
    (HG : Hid (∀ W, Calls Try.prog 77 #[.agg #[.string s, .int .i64 a]] W fun e w' => ∃ b, e = .returned (.pointer (some ⟨b, 0, none⟩)) ∧ Tk w' b x0 ∧ W.heap.size ≤ b ∧ Below W.heap.size W w'))
    (HR : Hid (∀ W, Calls Try.prog 25 #[.agg #[.int .i64 mA, .int .i64 mB, .int .i64 mC, .int .i64 mD, .int .i64 mX, .int .i64 mY]] W fun e w' => e = .returned (.bool q) ∧ Below W.heap.size W w'))
    (HE : Hid (∀ W bt, Tk W bt x5 → Calls Try.prog 80 #[.pointer (some ⟨bt, 0, none⟩), .agg #[.int .i64 mA, .int .i64 mB, .int .i64 mC, .int .i64 mD, .int .i64 mX, .int .i64 mY], .bool q] W fun e w' => e = .returned (.tuple #[.agg #[.int .i64 e0, .int .i64 e1, .int .i64 e2, .int .i64 e3, .int .i64 e4, .int .i64 e5], .agg #[.string zs, .int .i64 za], .int .i64 ze]) ∧ Below W.heap.size W w')) :
    Calls Try.prog 60 #[.agg #[.string s, .int .i64 a]] w fun e w' => e = .returned (.tuple #[.agg (iA [e0, e1, e2, e3, e4, e5]), .agg #[.string zs, .int .i64 za], .int .i64 ze]) ∧ Below w.heap.size w w' := by
  go_enter Try.func60, Try.ntmps60
  go_wp2_with (first
    | (refine wl_box 46 _ _ rfl rfl (show _ = Value.agg #[.string s, .int .i64 a] from rfl) ?_; intro W1 br Br_1 l1 k1; have gr : w.heap.size ≤ br := l1; have Hw1 := k1; clear l1 k1)
    | (refine wl_alloc 25 _ zero27e rfl rfl ?_; intro W2 ba Ba_2 l2 k2; have ga : w.heap.size ≤ ba := Nat.le_trans Hw1.size l2; have nra : br ≠ ba := Nat.ne_of_lt (Nat.lt_of_lt_of_le Br_1.lt l2); have Br_2 := Br_1.keep k2; have Hw2 := bq_trans Hw1 k2; clear l2 k2 Br_1 Hw1)
    | (refine wl_alloc 46 _ zero51 rfl rfl ?_; intro W3 bo Bo_3 l3 k3; have go : w.heap.size ≤ bo := Nat.le_trans Hw2.size l3; have nro : br ≠ bo := Nat.ne_of_lt (Nat.lt_of_lt_of_le Br_2.lt l3); have nao : ba ≠ bo := Nat.ne_of_lt (Nat.lt_of_lt_of_le Ba_2.lt l3); have Br_3 := Br_2.keep k3; have Ba_3 := Ba_2.keep k3; have Hw3 := bq_trans Hw2 k3; clear l3 k3 Br_2 Ba_2 Hw2)
    | (refine wl_load 46 2 _ Try.underlying46 rfl size51 _ rfl rfl _ rfl _ _ Br_3 rfl ?_)
    | (go_at_call 77; (with_reducible refine (HG.out _).mono ?_); rintro e W4 ⟨bt, rfl, Bt_4, l4, k4⟩; have gt : w.heap.size ≤ bt := Nat.le_trans Hw3.size l4; have nrt : br ≠ bt := Nat.ne_of_lt (Nat.lt_of_lt_of_le Br_3.lt l4); have nat : ba ≠ bt := Nat.ne_of_lt (Nat.lt_of_lt_of_le Ba_3.lt l4); have not : bo ≠ bt := Nat.ne_of_lt (Nat.lt_of_lt_of_le Bo_3.lt l4); have Br_4 := Br_3.keep k4; have Ba_4 := Ba_3.keep k4; have Bo_4 := Bo_3.keep k4; have Hw4 := bq_trans Hw3 k4; clear l4 k4 Br_3 Ba_3 Bo_3 Hw3)
    | (go_at_call 66; (with_reducible refine (same_any _).mono ?_); rintro e W5 ⟨rfl, k5⟩; have Br_5 := Br_4.keep k5; have Ba_5 := Ba_4.keep k5; have Bo_5 := Bo_4.keep k5; have Bt_5 := Bt_4.keep k5; have Hw5 := bq_trans Hw4 k5; clear k5 Br_4 Ba_4 Bo_4 Bt_4 Hw4)
    | (refine wl_alloc 25 _ zero27e rfl rfl ?_; intro W6 bc Bc_6 l6 k6; have gc : w.heap.size ≤ bc := Nat.le_trans Hw5.size l6; have nrc : br ≠ bc := Nat.ne_of_lt (Nat.lt_of_lt_of_le Br_5.lt l6); have nac : ba ≠ bc := Nat.ne_of_lt (Nat.lt_of_lt_of_le Ba_5.lt l6); have noc : bo ≠ bc := Nat.ne_of_lt (Nat.lt_of_lt_of_le Bo_5.lt l6); have ntc : bt ≠ bc := Nat.ne_of_lt (Nat.lt_of_lt_of_le Bt_5.lt l6); have Br_6 := Br_5.keep k6; have Ba_6 := Ba_5.keep k6; have Bo_6 := Bo_5.keep k6; have Bt_6 := Bt_5.keep k6; have Hw6 := bq_trans Hw5 k6; clear l6 k6 Br_5 Ba_5 Bo_5 Bt_5 Hw5)
    | (refine wl_store 25 6 size27e _ _ rfl rfl _ rfl #[.int .i64 65536, .int .i64 0, .int .i64 0, .int .i64 65536, .int .i64 0, .int .i64 0] rfl _ _ Bc_6 rfl rfl (by kernel_rfl) ?_; intro W7 Bc_7 T7; have Br_7 := T7.blk Br_6 nrc; have Ba_7 := T7.blk Ba_6 nac; have Bo_7 := T7.blk Bo_6 noc; have Bt_7 := T7.tk Bt_6 ntc; have Hw7 := T7.below Hw6 gc; clear T7 Br_6 Ba_6 Bo_6 Bt_6 Bc_6 Hw6)
    | (go_at_call 78; (with_reducible refine (H1.out _ _ Bt_7).mono ?_); rintro e W8 ⟨rfl, Bt_8, k8⟩; have Br_8 := Br_7.but k8 nrt nrt; have Ba_8 := Ba_7.but k8 nat nat; have Bo_8 := Bo_7.but k8 not not; have Bc_8 := Bc_7.but k8 (Ne.symm ntc) (Ne.symm ntc); have Hw8 := k8.below Hw7 gt gt; clear k8 Br_7 Ba_7 Bo_7 Bc_7 Bt_7 Hw7)
    | (go_at_call 79; (with_reducible refine (P1.out _ _ Bt_8).mono ?_); rintro e W9 ⟨rfl, Bt_9, k9⟩; have Br_9 := Br_8.but k9 nrt nrt; have Ba_9 := Ba_8.but k9 nat nat; have Bo_9 := Bo_8.but k9 not not; have Bc_9 := Bc_8.but k9 (Ne.symm ntc) (Ne.symm ntc); have Hw9 := k9.below Hw8 gt gt; clear k9 Br_8 Ba_8 Bo_8 Bc_8 Bt_8 Hw8)
    | (refine wl_set 3 _ _ rfl rfl bc 0 rfl (.int .i64 mA) rfl rfl size3_11 _ _ Bc_9 (by decide : 0 < 6) ?_; intro W10 Bc_10 T10; have Br_10 := T10.blk Br_9 nrc; have Ba_10 := T10.blk Ba_9 nac; have Bo_10 := T10.blk Bo_9 noc; have Bt_10 := T10.tk Bt_9 ntc; have Hw10 := T10.below Hw9 gc; clear T10 Br_9 Ba_9 Bo_9 Bt_9 Bc_9 Hw9)
    | (refine wl_set 3 _ _ rfl rfl bc 3 rfl (.int .i64 mD) rfl rfl size3_11 _ _ Bc_10 (by decide : 3 < 6) ?_; intro W11 Bc_11 T11; have Br_11 := T11.blk Br_10 nrc; have Ba_11 := T11.blk Ba_10 nac; have Bo_11 := T11.blk Bo_10 noc; have Bt_11 := T11.tk Bt_10 ntc; have Hw11 := T11.below Hw10 gc; clear T11 Br_10 Ba_10 Bo_10 Bt_10 Bc_10 Hw10)
    | (go_at_call 78; (with_reducible refine (H2.out _ _ Bt_11).mono ?_); rintro e W12 ⟨rfl, Bt_12, k12⟩; have Br_12 := Br_11.but k12 nrt nrt; have Ba_12 := Ba_11.but k12 nat nat; have Bo_12 := Bo_11.but k12 not not; have Bc_12 := Bc_11.but k12 (Ne.symm ntc) (Ne.symm ntc); have Hw12 := k12.below Hw11 gt gt; clear k12 Br_11 Ba_11 Bo_11 Bc_11 Bt_11 Hw11)
    | (go_at_call 79; (with_reducible refine (P2.out _ _ Bt_12).mono ?_); rintro e W13 ⟨rfl, Bt_13, k13⟩; have Br_13 := Br_12.but k13 nrt nrt; have Ba_13 := Ba_12.but k13 nat nat; have Bo_13 := Bo_12.but k13 not not; have Bc_13 := Bc_12.but k13 (Ne.symm ntc) (Ne.symm ntc); have Hw13 := k13.below Hw12 gt gt; clear k13 Br_12 Ba_12 Bo_12 Bc_12 Bt_12 Hw12)
    | (refine wl_set 3 _ _ rfl rfl bc 1 rfl (.int .i64 mB) rfl rfl size3_11 _ _ Bc_13 (by decide : 1 < 6) ?_; intro W14 Bc_14 T14; have Br_14 := T14.blk Br_13 nrc; have Ba_14 := T14.blk Ba_13 nac; have Bo_14 := T14.blk Bo_13 noc; have Bt_14 := T14.tk Bt_13 ntc; have Hw14 := T14.below Hw13 gc; clear T14 Br_13 Ba_13 Bo_13 Bt_13 Bc_13 Hw13)
    | (refine wl_set 3 _ _ rfl rfl bc 2 rfl (.int .i64 mC) rfl rfl size3_11 _ _ Bc_14 (by decide : 2 < 6) ?_; intro W15 Bc_15 T15; have Br_15 := T15.blk Br_14 nrc; have Ba_15 := T15.blk Ba_14 nac; have Bo_15 := T15.blk Bo_14 noc; have Bt_15 := T15.tk Bt_14 ntc; have Hw15 := T15.below Hw14 gc; clear T15 Br_14 Ba_14 Bo_14 Bt_14 Bc_14 Hw14)
    | (go_at_call 79; (with_reducible refine (P3.out _ _ Bt_15).mono ?_); rintro e W16 ⟨rfl, Bt_16, k16⟩; have Br_16 := Br_15.but k16 nrt nrt; have Ba_16 := Ba_15.but k16 nat nat; have Bo_16 := Bo_15.but k16 not not; have Bc_16 := Bc_15.but k16 (Ne.symm ntc) (Ne.symm ntc); have Hw16 := k16.below Hw15 gt gt; clear k16 Br_15 Ba_15 Bo_15 Bc_15 Bt_15 Hw15)
    | (refine wl_set 3 _ _ rfl rfl bc 4 rfl (.int .i64 mX) rfl rfl size3_11 _ _ Bc_16 (by decide : 4 < 6) ?_; intro W17 Bc_17 T17; have Br_17 := T17.blk Br_16 nrc; have Ba_17 := T17.blk Ba_16 nac; have Bo_17 := T17.blk Bo_16 noc; have Bt_17 := T17.tk Bt_16 ntc; have Hw17 := T17.below Hw16 gc; clear T17 Br_16 Ba_16 Bo_16 Bt_16 Bc_16 Hw16)
    | (refine wl_set 3 _ _ rfl rfl bc 5 rfl (.int .i64 mY) rfl rfl size3_11 _ _ Bc_17 (by decide : 5 < 6) ?_; intro W18 Bc_18 T18; have Br_18 := T18.blk Br_17 nrc; have Ba_18 := T18.blk Ba_17 nac; have Bo_18 := T18.blk Bo_17 noc; have Bt_18 := T18.tk Bt_17 ntc; have Hw18 := T18.below Hw17 gc; clear T18 Br_17 Ba_17 Bo_17 Bt_17 Bc_17 Hw17))
  have BA := Lib.hid Ba_18
  have BO := Lib.hid Bo_18
  have HB := Lib.hid Hw18
  have noa := Ne.symm nao
  have ne1 : ¬ ba = bo := nao
  have ne2 : ¬ bo = ba := noa
  have HC : Hid (∀ w', But ba bo W18 w' → w'.cell? ⟨bc, 0, none⟩ = some (.int .i64 mA) ∧ w'.cell? ⟨bc, 1, none⟩ = some (.int .i64 mB) ∧ w'.cell? ⟨bc, 2, none⟩ = some (.int .i64 mC) ∧ w'.cell? ⟨bc, 3, none⟩ = some (.int .i64 mD) ∧ w'.cell? ⟨bc, 4, none⟩ = some (.int .i64 mX) ∧ w'.cell? ⟨bc, 5, none⟩ = some (.int .i64 mY)) := Lib.hid fun w' hw' => ⟨(Bc_18.but hw' (Ne.symm nac) (Ne.symm noc)).cell 0, (Bc_18.but hw' (Ne.symm nac) (Ne.symm noc)).cell 1, (Bc_18.but hw' (Ne.symm nac) (Ne.symm noc)).cell 2, (Bc_18.but hw' (Ne.symm nac) (Ne.symm noc)).cell 3, (Bc_18.but hw' (Ne.symm nac) (Ne.symm noc)).cell 4, (Bc_18.but hw' (Ne.symm nac) (Ne.symm noc)).cell 5⟩
  have HE2 : Hid (∀ W, Below W18.heap.size W18 W → Calls Try.prog 80 #[.pointer (some ⟨bt, 0, none⟩), .agg #[.int .i64 mA, .int .i64 mB, .int .i64 mC, .int .i64 mD, .int .i64 mX, .int .i64 mY], .bool q] W fun e w' => e = .returned (.tuple #[.agg #[.int .i64 e0, .int .i64 e1, .int .i64 e2, .int .i64 e3, .int .i64 e4, .int .i64 e5], .agg #[.string zs, .int .i64 za], .int .i64 ze]) ∧ Below W18.heap.size W18 w') := Lib.hid fun W h => (HE.out W bt (Bt_18.keep h)).mono fun e w' ⟨h1, h2⟩ => ⟨h1, bq_trans h h2⟩
  have HR2 : Hid (∀ W, Below W18.heap.size W18 W → Calls Try.prog 25 #[.agg #[.int .i64 mA, .int .i64 mB, .int .i64 mC, .int .i64 mD, .int .i64 mX, .int .i64 mY]] W fun e w' => e = .returned (.bool q) ∧ Below W18.heap.size W18 w') := Lib.hid fun W h => (HR.out W).mono fun e w' ⟨h1, h2⟩ => ⟨h1, bq_trans h h2⟩
  have hd0 : Below W18.heap.size W18 W18.drew := bq_drew (bq_refl W18)
  clear HE HR Br_18 Ba_18 Bo_18 Bt_18 Bc_18 Hw18 
  go_region_held3 (fun w' => w'.cell? ⟨bc, 0, none⟩ = some (.int .i64 mA) ∧ w'.cell? ⟨bc, 1, none⟩ = some (.int .i64 mB) ∧ w'.cell? ⟨bc, 2, none⟩ = some (.int .i64 mC) ∧ w'.cell? ⟨bc, 3, none⟩ = some (.int .i64 mD) ∧ w'.cell? ⟨bc, 4, none⟩ = some (.int .i64 mX) ∧ w'.cell? ⟨bc, 5, none⟩ = some (.int .i64 mY))
    ((refine HC.out _ ?_; repeat' (first | (with_reducible refine But.setp _ _ ?_) | (with_reducible refine But.setq _ _ ?_) | (with_reducible exact But.of (by assumption)) | (with_reducible exact But.of (bq_drew (bq_refl _))))))
    (first
      | (go_at_call 25; refine (HR2.out _ (by first | assumption | exact bq_refl _)).mono ?_; rintro e w9 ⟨rfl, hb9⟩)
      | (go_at_call 80; refine (HE2.out _ (by first | assumption | exact bq_refl _)).mono ?_; rintro e w10 ⟨rfl, hb10⟩; have d0 : w10.cell? ⟨ba, 0, none⟩ = some (.int .i64 0) := (BA.out.keep hb10).cell 0; have f0 := (BA.out.keep hb10).frozen 0; have d1 : w10.cell? ⟨ba, 1, none⟩ = some (.int .i64 0) := (BA.out.keep hb10).cell 1; have f1 := (BA.out.keep hb10).frozen 1; have d2 : w10.cell? ⟨ba, 2, none⟩ = some (.int .i64 0) := (BA.out.keep hb10).cell 2; have f2 := (BA.out.keep hb10).frozen 2; have d3 : w10.cell? ⟨ba, 3, none⟩ = some (.int .i64 0) := (BA.out.keep hb10).cell 3; have f3 := (BA.out.keep hb10).frozen 3; have d4 : w10.cell? ⟨ba, 4, none⟩ = some (.int .i64 0) := (BA.out.keep hb10).cell 4; have f4 := (BA.out.keep hb10).frozen 4; have d5 : w10.cell? ⟨ba, 5, none⟩ = some (.int .i64 0) := (BA.out.keep hb10).cell 5; have f5 := (BA.out.keep hb10).frozen 5; have p0 : w10.cell? ⟨bo, 0, none⟩ = some (.string ⟨#[]⟩) := (BO.out.keep hb10).cell 0; have p1 : w10.cell? ⟨bo, 1, none⟩ = some (.int .i64 0) := (BO.out.keep hb10).cell 1; have q0 := (BO.out.keep hb10).frozen 0; have q1 := (BO.out.keep hb10).frozen 1))
  have R9 : Blk ((((((((w10.setCell ⟨ba, 0, none⟩ (.int .i64 e0)).setCell ⟨ba, 1, none⟩ (.int .i64 e1)).setCell ⟨ba, 2, none⟩ (.int .i64 e2)).setCell ⟨ba, 3, none⟩ (.int .i64 e3)).setCell ⟨ba, 4, none⟩ (.int .i64 e4)).setCell ⟨ba, 5, none⟩ (.int .i64 e5)).setCell ⟨bo, 0, none⟩ (.string zs)).setCell ⟨bo, 1, none⟩ (.int .i64 za)) ba (iA [e0, e1, e2, e3, e4, e5]) 25 := by rw [← sets6]; exact (((((((((BA.out.keep hb10).set 0 _).set 1 _).set 2 _).set 3 _).set 4 _).set 5 _).other _ nao).other _ nao)
  have O9 : Blk ((((((((w10.setCell ⟨ba, 0, none⟩ (.int .i64 e0)).setCell ⟨ba, 1, none⟩ (.int .i64 e1)).setCell ⟨ba, 2, none⟩ (.int .i64 e2)).setCell ⟨ba, 3, none⟩ (.int .i64 e3)).setCell ⟨ba, 4, none⟩ (.int .i64 e4)).setCell ⟨ba, 5, none⟩ (.int .i64 e5)).setCell ⟨bo, 0, none⟩ (.string zs)).setCell ⟨bo, 1, none⟩ (.int .i64 za)) bo #[.string zs, .int .i64 za] 46 := (((((((((BO.out.keep hb10).other _ noa).other _ noa).other _ noa).other _ noa).other _ noa).other _ noa).set 0 _).set 1 _)
  go_wp2
  exact post_cell2_tmp (v := .int .i64 ze) Try.underlying25 rfl size27e Try.underlying46 rfl size51 Try.results60 R9 rfl O9 rfl rfl rfl rfl rfl ⟨rfl, bq_set (bq_set (bq_set (bq_set (bq_set (bq_set (bq_set (bq_set (bq_trans HB.out hb10) _ ga _) _ ga _) _ ga _) _ ga _) _ ga _) _ ga _) _ go _) _ go _⟩
end Go.Proofs.Ythlnjipefeglpaa
namespace Go.Proofs.Ythlnjipefeglpaa
open Go.RowKit
set_option linter.unusedVariables false
end Go.Proofs.Ythlnjipefeglpaa
namespace Go.Proofs.Ythlnjipefeglpaa
open Go.RowKit
set_option linter.unusedVariables false
end Go.Proofs.Ythlnjipefeglpaa
namespace Go.Proofs.Ythlnjipefeglpaa
open Go.RowKit
set_option linter.unusedVariables false
end Go.Proofs.Ythlnjipefeglpaa
namespace Go.Proofs.Ythlnjipefeglpaa
open Go.RowKit
set_option linter.unusedVariables false
end Go.Proofs.Ythlnjipefeglpaa
namespace Go.Proofs.Ythlnjipefeglpaa
open Go.RowKit
set_option linter.unusedVariables false
theorem endmat (x : RS) (hx : x.s.size ≤ 1000000) (v0 v1 v2 v3 v4 v5 e0 e1 e2 e3 e4 e5 : Int) (hl : matL x = [v0, v1, v2, v3, v4, v5]) (hv : matV x = [e0, e1, e2, e3, e4, e5]) : ∀ W bt, Tk W bt (mx5 x) → Calls Try.prog 80 #[.pointer (some ⟨bt, 0, none⟩), .agg #[.int .i64 v0, .int .i64 v1, .int .i64 v2, .int .i64 v3, .int .i64 v4, .int .i64 v5], .bool (matOk v0 v1 v2 v3 v4 v5)] W fun e w' => e = .returned (.tuple #[.agg #[.int .i64 e0, .int .i64 e1, .int .i64 e2, .int .i64 e3, .int .i64 e4, .int .i64 e5], .agg #[.string (matS x).s, .int .i64 (matS x).a], .int .i64 (matS x).e]) ∧ Below W.heap.size W w' := by
  intro W bt h
  have := endmatrix_any (mx5 x) v0 v1 v2 v3 v4 v5 (matOk v0 v1 v2 v3 v4 v5) W bt (sevS_size _ 5 2 (mx2_size _ (mx2_size _ hx))) h
  have er : matS x = (mx5 x).fin (matOk v0 v1 v2 v3 v4 v5) := by unfold matS; rw [hl]; rfl
  have ev : (if ((mx5 x).fin (matOk v0 v1 v2 v3 v4 v5)).e = 0 then [v0, v1, v2, v3, v4, v5] else [0, 0, 0, 0, 0, 0]) = [e0, e1, e2, e3, e4, e5] := by rw [← hv, ← er, ← hl]; rfl
  rw [ev] at this
  rw [er]
  exact this
theorem takematrix_any (s : ByteArray) (a : Int) (w : World) (hs : s.size ≤ 1000000) :
    Calls Try.prog 60 #[.agg #[.string s, .int .i64 a]] w fun e w' => e = .returned (.tuple #[.agg (iA (matV (RS.begP s a))), .agg #[.string (matS (RS.begP s a)).s, .int .i64 (matS (RS.begP s a)).a], .int .i64 (matS (RS.begP s a)).e]) ∧ Below w.heap.size w w' := by
  have HG := Lib.hid (fun W => begin_any s a W hs)
  have hx : (RS.begP s a).s.size ≤ 1000000 := hs
  generalize RS.begP s a = x at *
  obtain ⟨e0, e1, e2, e3, e4, e5, hv⟩ := list6 _ (matV_len x)
  have hx1 := RS.go_size x 1 hx
  have hx2 := mx2_size x hx
  have hx3 := RS.go_size (mx2 x) 1 hx2
  have hx4 := mx2_size (mx2 x) hx2
  have H1 := fun W b (h : Tk W b x) => tbit_any h hx
  have H2 := fun W b (h : Tk W b (mx2 x)) => tbit_any h hx2
  have P1 := Lib.hid (fun W b (h : Tk W b (x.go 1)) => tpair_any h hx1)
  have P2 := Lib.hid (fun W b (h : Tk W b ((mx2 x).go 1)) => tpair_any h hx3)
  have P3 := Lib.hid (fun W b (h : Tk W b (mx2 (mx2 x))) => tpair_any h hx4)
  have fA := mAD_fit x
  have fB := mBC_fit (mx2 x)
  rw [hv]
  cases q1 : mB1 x <;> cases q2 : mB1 (mx2 x)
  · have EA : mAD x = [65536, 65536] := if_neg (by rw [q1]; decide)
    have EX : mx2 x = x.go 1 := if_neg (by rw [q1]; decide)
    have EB : mBC (mx2 x) = [0, 0] := if_neg (by rw [q2]; decide)
    have EY : mx2 (mx2 x) = (mx2 x).go 1 := if_neg (by rw [q2]; decide)
    have hl : matL x = [65536, 0, 0, 65536, ((mx2 (mx2 x)).go 5).sg ((mx2 (mx2 x)).pl 5), (((mx2 (mx2 x)).go 5).go ((mx2 (mx2 x)).pl 5)).sg ((mx2 (mx2 x)).pl 5)] := by unfold matL; rw [EA, EB]; rfl
    have HR := Lib.hid (fun W => rightmatrix_any (65536) (0) (0) (65536) (((mx2 (mx2 x)).go 5).sg ((mx2 (mx2 x)).pl 5)) ((((mx2 (mx2 x)).go 5).go ((mx2 (mx2 x)).pl 5)).sg ((mx2 (mx2 x)).pl 5)) W (by have := fA.1; rw [EA] at this; exact this) (by have := fB.1; rw [EB] at this; exact this) (by have := fB.2; rw [EB] at this; exact this) (by have := fA.2; rw [EA] at this; exact this) (sg_fit _ _) (sg_fit _ _))
    have HE := Lib.hid (endmat x hx _ _ _ _ _ _ e0 e1 e2 e3 e4 e5 hl hv)
    have H1b : Hid (∀ W bt, Tk W bt x → Calls Try.prog 78 #[.pointer (some ⟨bt, 0, none⟩)] W fun e w' => e = .returned (.bool false) ∧ Tk w' bt (x.go 1) ∧ But bt bt W w') := Lib.hid fun W bt h => by
      have := H1 W bt h
      rw [show (x.pl 1 == 1) = false from q1] at this
      exact this
    have H2b : Hid (∀ W bt, Tk W bt (mx2 x) → Calls Try.prog 78 #[.pointer (some ⟨bt, 0, none⟩)] W fun e w' => e = .returned (.bool false) ∧ Tk w' bt ((mx2 x).go 1) ∧ But bt bt W w') := Lib.hid fun W bt h => by
      have := H2 W bt h
      rw [show ((mx2 x).pl 1 == 1) = false from q2] at this
      exact this
    have X2 : Hid (x.go 1 = mx2 x) := Lib.hid EX.symm
    have X4 : Hid ((mx2 x).go 1 = mx2 (mx2 x)) := Lib.hid EY.symm
    clear hl EA EB EX EY fA fB H1 H2
    rw [X2.out] at H1b
    rw [X4.out] at H2b
    exact takematrix_00 s _ a _ _ e0 e1 e2 e3 e4 e5 _ _ x _ _ (mx5 x) _ w H1b H2b P3 HG HR HE
  · have EA : mAD x = [65536, 65536] := if_neg (by rw [q1]; decide)
    have EX : mx2 x = x.go 1 := if_neg (by rw [q1]; decide)
    have EB : mBC (mx2 x) = ((mx2 x).go 1).sevL 5 2 := if_pos q2
    have EY : mx2 (mx2 x) = ((mx2 x).go 1).sevS 5 2 := if_pos q2
    have hl : matL x = [65536, (((mx2 x).go 1).go 5).sg (((mx2 x).go 1).pl 5), ((((mx2 x).go 1).go 5).go (((mx2 x).go 1).pl 5)).sg (((mx2 x).go 1).pl 5), 65536, ((mx2 (mx2 x)).go 5).sg ((mx2 (mx2 x)).pl 5), (((mx2 (mx2 x)).go 5).go ((mx2 (mx2 x)).pl 5)).sg ((mx2 (mx2 x)).pl 5)] := by unfold matL; rw [EA, EB]; rfl
    have HR := Lib.hid (fun W => rightmatrix_any (65536) ((((mx2 x).go 1).go 5).sg (((mx2 x).go 1).pl 5)) (((((mx2 x).go 1).go 5).go (((mx2 x).go 1).pl 5)).sg (((mx2 x).go 1).pl 5)) (65536) (((mx2 (mx2 x)).go 5).sg ((mx2 (mx2 x)).pl 5)) ((((mx2 (mx2 x)).go 5).go ((mx2 (mx2 x)).pl 5)).sg ((mx2 (mx2 x)).pl 5)) W (by have := fA.1; rw [EA] at this; exact this) (by have := fB.1; rw [EB] at this; exact this) (by have := fB.2; rw [EB] at this; exact this) (by have := fA.2; rw [EA] at this; exact this) (sg_fit _ _) (sg_fit _ _))
    have HE := Lib.hid (endmat x hx _ _ _ _ _ _ e0 e1 e2 e3 e4 e5 hl hv)
    have H1b : Hid (∀ W bt, Tk W bt x → Calls Try.prog 78 #[.pointer (some ⟨bt, 0, none⟩)] W fun e w' => e = .returned (.bool false) ∧ Tk w' bt (x.go 1) ∧ But bt bt W w') := Lib.hid fun W bt h => by
      have := H1 W bt h
      rw [show (x.pl 1 == 1) = false from q1] at this
      exact this
    have H2b : Hid (∀ W bt, Tk W bt (mx2 x) → Calls Try.prog 78 #[.pointer (some ⟨bt, 0, none⟩)] W fun e w' => e = .returned (.bool true) ∧ Tk w' bt ((mx2 x).go 1) ∧ But bt bt W w') := Lib.hid fun W bt h => by
      have := H2 W bt h
      rw [show ((mx2 x).pl 1 == 1) = true from q2] at this
      exact this
    have X2 : Hid (x.go 1 = mx2 x) := Lib.hid EX.symm
    have X4 : Hid (((mx2 x).go 1).sevS 5 2 = mx2 (mx2 x)) := Lib.hid EY.symm
    clear hl EA EB EX EY fA fB H1 H2
    rw [X2.out] at H1b
    rw [X4.out] at P2
    exact takematrix_01 s _ a _ _ _ _ e0 e1 e2 e3 e4 e5 _ _ x _ _ (mx2 (mx2 x)) (mx5 x) _ w H1b H2b P2 P3 HG HR HE
  · have EA : mAD x = (x.go 1).sevL 5 2 := if_pos q1
    have EX : mx2 x = (x.go 1).sevS 5 2 := if_pos q1
    have EB : mBC (mx2 x) = [0, 0] := if_neg (by rw [q2]; decide)
    have EY : mx2 (mx2 x) = (mx2 x).go 1 := if_neg (by rw [q2]; decide)
    have hl : matL x = [((x.go 1).go 5).sg ((x.go 1).pl 5), 0, 0, (((x.go 1).go 5).go ((x.go 1).pl 5)).sg ((x.go 1).pl 5), ((mx2 (mx2 x)).go 5).sg ((mx2 (mx2 x)).pl 5), (((mx2 (mx2 x)).go 5).go ((mx2 (mx2 x)).pl 5)).sg ((mx2 (mx2 x)).pl 5)] := by unfold matL; rw [EA, EB]; rfl
    have HR := Lib.hid (fun W => rightmatrix_any (((x.go 1).go 5).sg ((x.go 1).pl 5)) (0) (0) ((((x.go 1).go 5).go ((x.go 1).pl 5)).sg ((x.go 1).pl 5)) (((mx2 (mx2 x)).go 5).sg ((mx2 (mx2 x)).pl 5)) ((((mx2 (mx2 x)).go 5).go ((mx2 (mx2 x)).pl 5)).sg ((mx2 (mx2 x)).pl 5)) W (by have := fA.1; rw [EA] at this; exact this) (by have := fB.1; rw [EB] at this; exact this) (by have := fB.2; rw [EB] at this; exact this) (by have := fA.2; rw [EA] at this; exact this) (sg_fit _ _) (sg_fit _ _))
    have HE := Lib.hid (endmat x hx _ _ _ _ _ _ e0 e1 e2 e3 e4 e5 hl hv)
    have H1b : Hid (∀ W bt, Tk W bt x → Calls Try.prog 78 #[.pointer (some ⟨bt, 0, none⟩)] W fun e w' => e = .returned (.bool true) ∧ Tk w' bt (x.go 1) ∧ But bt bt W w') := Lib.hid fun W bt h => by
      have := H1 W bt h
      rw [show (x.pl 1 == 1) = true from q1] at this
      exact this
    have H2b : Hid (∀ W bt, Tk W bt (mx2 x) → Calls Try.prog 78 #[.pointer (some ⟨bt, 0, none⟩)] W fun e w' => e = .returned (.bool false) ∧ Tk w' bt ((mx2 x).go 1) ∧ But bt bt W w') := Lib.hid fun W bt h => by
      have := H2 W bt h
      rw [show ((mx2 x).pl 1 == 1) = false from q2] at this
      exact this
    have X2 : Hid ((x.go 1).sevS 5 2 = mx2 x) := Lib.hid EX.symm
    have X4 : Hid ((mx2 x).go 1 = mx2 (mx2 x)) := Lib.hid EY.symm
    clear hl EA EB EX EY fA fB H1 H2
    rw [X2.out] at P1
    rw [X4.out] at H2b
    exact takematrix_10 s _ a _ _ _ _ e0 e1 e2 e3 e4 e5 _ _ x _ (mx2 x) _ (mx5 x) _ w H1b P1 H2b P3 HG HR HE
  · have EA : mAD x = (x.go 1).sevL 5 2 := if_pos q1
    have EX : mx2 x = (x.go 1).sevS 5 2 := if_pos q1
    have EB : mBC (mx2 x) = ((mx2 x).go 1).sevL 5 2 := if_pos q2
    have EY : mx2 (mx2 x) = ((mx2 x).go 1).sevS 5 2 := if_pos q2
    have hl : matL x = [((x.go 1).go 5).sg ((x.go 1).pl 5), (((mx2 x).go 1).go 5).sg (((mx2 x).go 1).pl 5), ((((mx2 x).go 1).go 5).go (((mx2 x).go 1).pl 5)).sg (((mx2 x).go 1).pl 5), (((x.go 1).go 5).go ((x.go 1).pl 5)).sg ((x.go 1).pl 5), ((mx2 (mx2 x)).go 5).sg ((mx2 (mx2 x)).pl 5), (((mx2 (mx2 x)).go 5).go ((mx2 (mx2 x)).pl 5)).sg ((mx2 (mx2 x)).pl 5)] := by unfold matL; rw [EA, EB]; rfl
    have HR := Lib.hid (fun W => rightmatrix_any (((x.go 1).go 5).sg ((x.go 1).pl 5)) ((((mx2 x).go 1).go 5).sg (((mx2 x).go 1).pl 5)) (((((mx2 x).go 1).go 5).go (((mx2 x).go 1).pl 5)).sg (((mx2 x).go 1).pl 5)) ((((x.go 1).go 5).go ((x.go 1).pl 5)).sg ((x.go 1).pl 5)) (((mx2 (mx2 x)).go 5).sg ((mx2 (mx2 x)).pl 5)) ((((mx2 (mx2 x)).go 5).go ((mx2 (mx2 x)).pl 5)).sg ((mx2 (mx2 x)).pl 5)) W (by have := fA.1; rw [EA] at this; exact this) (by have := fB.1; rw [EB] at this; exact this) (by have := fB.2; rw [EB] at this; exact this) (by have := fA.2; rw [EA] at this; exact this) (sg_fit _ _) (sg_fit _ _))
    have HE := Lib.hid (endmat x hx _ _ _ _ _ _ e0 e1 e2 e3 e4 e5 hl hv)
    have H1b : Hid (∀ W bt, Tk W bt x → Calls Try.prog 78 #[.pointer (some ⟨bt, 0, none⟩)] W fun e w' => e = .returned (.bool true) ∧ Tk w' bt (x.go 1) ∧ But bt bt W w') := Lib.hid fun W bt h => by
      have := H1 W bt h
      rw [show (x.pl 1 == 1) = true from q1] at this
      exact this
    have H2b : Hid (∀ W bt, Tk W bt (mx2 x) → Calls Try.prog 78 #[.pointer (some ⟨bt, 0, none⟩)] W fun e w' => e = .returned (.bool true) ∧ Tk w' bt ((mx2 x).go 1) ∧ But bt bt W w') := Lib.hid fun W bt h => by
      have := H2 W bt h
      rw [show ((mx2 x).pl 1 == 1) = true from q2] at this
      exact this
    have X2 : Hid ((x.go 1).sevS 5 2 = mx2 x) := Lib.hid EX.symm
    have X4 : Hid (((mx2 x).go 1).sevS 5 2 = mx2 (mx2 x)) := Lib.hid EY.symm
    clear hl EA EB EX EY fA fB H1 H2
    rw [X2.out] at P1
    rw [X4.out] at P2
    exact takematrix_11 s _ a _ _ _ _ _ _ e0 e1 e2 e3 e4 e5 _ _ x _ (mx2 x) _ (mx2 (mx2 x)) (mx5 x) _ w H1b P1 H2b P2 P3 HG HR HE
end Go.Proofs.Ythlnjipefeglpaa
