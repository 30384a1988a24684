import Derived.Test.YthlnjipefeglpaaZT13
namespace Go.Proofs.Ythlnjipefeglpaa
open Go.RowKit
set_option linter.unusedVariables false
def mixL (g d : List Int) (k : Nat) : List Int := g.take k ++ d.drop k
end Go.Proofs.Ythlnjipefeglpaa
namespace Go.Proofs.Ythlnjipefeglpaa
open Go.RowKit
set_option linter.unusedVariables false
end Go.Proofs.Ythlnjipefeglpaa
namespace Go.Proofs.Ythlnjipefeglpaa
open Go.RowKit
set_option linter.unusedVariables false
end Go.Proofs.Ythlnjipefeglpaa
namespace Go.Proofs.Ythlnjipefeglpaa
open Go.RowKit
set_option linter.unusedVariables false
end Go.Proofs.Ythlnjipefeglpaa
namespace Go.Proofs.Ythlnjipefeglpaa
open Go.RowKit
set_option linter.unusedVariables false
end Go.Proofs.Ythlnjipefeglpaa
namespace Go.Proofs.Ythlnjipefeglpaa
open Go.RowKit
set_option linter.unusedVariables false
set_option maxRecDepth 100000
theorem size32z : (Try.prog.info? 23).map (·.size) = some 4 := by kernel_rfl
theorem zero32 (w : World) : (zeroValue 23).run Try.prog w = .ok (.agg (iA [0, 0, 0, 0])) w := Try.zeroValue23 w
def rgV (s : ByteArray) (a : Int) : List Int := if byE s.size a 4 = 0 then (byB s a 4).data.toList.map (fun c => (c.toNat : Int)) else [0, 0, 0, 0]
set_option maxHeartbeats 1000000 in
theorem takergba_err (s t ys : ByteArray) (a ya ye : Int) (w : World) (q : (ye != 0) = true) (HP : Hid (∀ W, Calls Try.prog 76 #[.agg #[.string s, .int .i64 a], .int .i64 4] W fun e w' => e = .returned (.tuple #[.string t, .agg #[.string ys, .int .i64 ya], .int .i64 ye]) ∧ Below W.heap.size W w')) :
    Calls Try.prog 58 #[.agg #[.string s, .int .i64 a]] w fun e w' => e = .returned (.tuple #[.agg (iA [0, 0, 0, 0]), .agg #[.string ⟨#[]⟩, .int .i64 0], .int .i64 ye]) ∧ Below w.heap.size w w' := by
  go_enter Try.func58, Try.ntmps58
  go_wp2_with (first
    | (refine wl_box 46 _ _ rfl rfl (show _ = Value.agg #[.string s, .int .i64 a] from rfl) ?_; intro W1 br Br_1 l1 k1; have gr : w.heap.size ≤ br := l1; have Hw1 := k1; clear l1 k1)
    | (refine wl_alloc 23 _ zero32 rfl rfl ?_; intro W2 ba Ba_2 l2 k2; have ga : w.heap.size ≤ ba := Nat.le_trans Hw1.size l2; have nra : br ≠ ba := Nat.ne_of_lt (Nat.lt_of_lt_of_le Br_1.lt l2); have Br_2 := Br_1.keep k2; have Hw2 := bq_trans Hw1 k2; clear l2 k2 Br_1 Hw1)
    | (refine wl_alloc 46 _ zero51 rfl rfl ?_; intro W3 bo Bo_3 l3 k3; have go : w.heap.size ≤ bo := Nat.le_trans Hw2.size l3; have nro : br ≠ bo := Nat.ne_of_lt (Nat.lt_of_lt_of_le Br_2.lt l3); have nao : ba ≠ bo := Nat.ne_of_lt (Nat.lt_of_lt_of_le Ba_2.lt l3); have Br_3 := Br_2.keep k3; have Ba_3 := Ba_2.keep k3; have Hw3 := bq_trans Hw2 k3; clear l3 k3 Br_2 Ba_2 Hw2)
    | (refine wl_load 46 2 _ Try.underlying46 rfl size51 _ rfl rfl _ rfl _ _ Br_3 rfl ?_)
    | (go_at_call 76; (with_reducible refine (HP.out _).mono ?_); rintro e W4 ⟨rfl, k4⟩; have Br_4 := Br_3.keep k4; have Ba_4 := Ba_3.keep k4; have Bo_4 := Bo_3.keep k4; have Hw4 := bq_trans Hw3 k4; clear k4 Br_3 Ba_3 Bo_3 Hw3)
    | (refine wl_alloc 46 _ zero51 rfl rfl ?_; intro W5 bj Bj_5 l5 k5; have gj : w.heap.size ≤ bj := Nat.le_trans Hw4.size l5; have nrj : br ≠ bj := Nat.ne_of_lt (Nat.lt_of_lt_of_le Br_4.lt l5); have naj : ba ≠ bj := Nat.ne_of_lt (Nat.lt_of_lt_of_le Ba_4.lt l5); have noj : bo ≠ bj := Nat.ne_of_lt (Nat.lt_of_lt_of_le Bo_4.lt l5); have Br_5 := Br_4.keep k5; have Ba_5 := Ba_4.keep k5; have Bo_5 := Bo_4.keep k5; have Hw5 := bq_trans Hw4 k5; clear l5 k5 Br_4 Ba_4 Bo_4 Hw4)
    | (refine wl_store 46 2 size51 _ _ rfl rfl _ rfl _ rfl _ _ Bj_5 rfl rfl (by kernel_rfl) ?_; intro W6 Bj_6 T6; have Br_6 := T6.blk Br_5 nrj; have Ba_6 := T6.blk Ba_5 naj; have Bo_6 := T6.blk Bo_5 noj; have Hw6 := T6.below Hw5 gj; clear T6 Br_5 Ba_5 Bo_5 Bj_5 Hw5)
    | (refine wl_store 23 4 size32z _ _ rfl rfl _ rfl #[.int .i64 0, .int .i64 0, .int .i64 0, .int .i64 0] rfl _ _ Ba_6 rfl rfl (by kernel_rfl) ?_; intro W7 Ba_7 T7; have Br_7 := T7.blk Br_6 nra; have Bo_7 := T7.blk Bo_6 (Ne.symm nao); have Bj_7 := T7.blk Bj_6 (Ne.symm naj); have Hw7 := T7.below Hw6 ga; clear T7 Br_6 Bo_6 Bj_6 Ba_6 Hw6)
    | (refine wl_store 46 2 size51 _ _ rfl rfl _ rfl _ rfl _ _ Bo_7 rfl rfl (by kernel_rfl) ?_; intro W8 Bo_8 T8; have Br_8 := T8.blk Br_7 nro; have Ba_8 := T8.blk Ba_7 nao; have Bj_8 := T8.blk Bj_7 (Ne.symm noj); have Hw8 := T8.below Hw7 go; clear T8 Br_7 Ba_7 Bj_7 Bo_7 Hw7))
  exact post_cell2_tmp (v := .int .i64 ye) Try.underlying23 rfl size32z Try.underlying46 rfl size51 Try.results58 Ba_8 rfl Bo_8 rfl rfl rfl rfl rfl ⟨rfl, Hw8⟩
set_option maxHeartbeats 4000000 in
theorem takergba_ok (s t ys : ByteArray) (a ya v0 v1 v2 v3 : Int) (w : World) (b0 : 0 ≤ v0 ∧ v0 ≤ 255) (b1 : 0 ≤ v1 ∧ v1 ≤ 255) (b2 : 0 ≤ v2 ∧ v2 ≤ 255) (b3 : 0 ≤ v3 ∧ v3 ≤ 255)
    (hi0 : ∀ W : World, (Instr.index 9 (.string t) (.int .i64 0)).run Try.prog W = .ok (.int .u8 v0) W) (hi1 : ∀ W : World, (Instr.index 9 (.string t) (.int .i64 1)).run Try.prog W = .ok (.int .u8 v1) W) (hi2 : ∀ W : World, (Instr.index 9 (.string t) (.int .i64 2)).run Try.prog W = .ok (.int .u8 v2) W) (hi3 : ∀ W : World, (Instr.index 9 (.string t) (.int .i64 3)).run Try.prog W = .ok (.int .u8 v3) W) (HP : Hid (∀ W, Calls Try.prog 76 #[.agg #[.string s, .int .i64 a], .int .i64 4] W fun e w' => e = .returned (.tuple #[.string t, .agg #[.string ys, .int .i64 ya], .int .i64 0]) ∧ Below W.heap.size W w')) :
    Calls Try.prog 58 #[.agg #[.string s, .int .i64 a]] w fun e w' => e = .returned (.tuple #[.agg (iA [v0, v1, v2, v3]), .agg #[.string ys, .int .i64 ya], .int .i64 0]) ∧ Below w.heap.size w w' := by
  obtain ⟨b00, b01⟩ := b0
  obtain ⟨b10, b11⟩ := b1
  obtain ⟨b20, b21⟩ := b2
  obtain ⟨b30, b31⟩ := b3
  go_enter Try.func58, Try.ntmps58
  go_wp2_with (first
    | (refine wl_box 46 _ _ rfl rfl (show _ = Value.agg #[.string s, .int .i64 a] from rfl) ?_; intro W1 br Br_1 l1 k1; have gr : w.heap.size ≤ br := l1; have Hw1 := k1; clear l1 k1)
    | (refine wl_alloc 23 _ zero32 rfl rfl ?_; intro W2 ba Ba_2 l2 k2; have ga : w.heap.size ≤ ba := Nat.le_trans Hw1.size l2; have nra : br ≠ ba := Nat.ne_of_lt (Nat.lt_of_lt_of_le Br_1.lt l2); have Br_2 := Br_1.keep k2; have Hw2 := bq_trans Hw1 k2; clear l2 k2 Br_1 Hw1)
    | (refine wl_alloc 46 _ zero51 rfl rfl ?_; intro W3 bo Bo_3 l3 k3; have go : w.heap.size ≤ bo := Nat.le_trans Hw2.size l3; have nro : br ≠ bo := Nat.ne_of_lt (Nat.lt_of_lt_of_le Br_2.lt l3); have nao : ba ≠ bo := Nat.ne_of_lt (Nat.lt_of_lt_of_le Ba_2.lt l3); have Br_3 := Br_2.keep k3; have Ba_3 := Ba_2.keep k3; have Hw3 := bq_trans Hw2 k3; clear l3 k3 Br_2 Ba_2 Hw2)
    | (refine wl_load 46 2 _ Try.underlying46 rfl size51 _ rfl rfl _ rfl _ _ Br_3 rfl ?_)
    | (go_at_call 76; (with_reducible refine (HP.out _).mono ?_); rintro e W4 ⟨rfl, k4⟩; have Br_4 := Br_3.keep k4; have Ba_4 := Ba_3.keep k4; have Bo_4 := Bo_3.keep k4; have Hw4 := bq_trans Hw3 k4; clear k4 Br_3 Ba_3 Bo_3 Hw3)
    | (refine wl_alloc 46 _ zero51 rfl rfl ?_; intro W5 bj Bj_5 l5 k5; have gj : w.heap.size ≤ bj := Nat.le_trans Hw4.size l5; have nrj : br ≠ bj := Nat.ne_of_lt (Nat.lt_of_lt_of_le Br_4.lt l5); have naj : ba ≠ bj := Nat.ne_of_lt (Nat.lt_of_lt_of_le Ba_4.lt l5); have noj : bo ≠ bj := Nat.ne_of_lt (Nat.lt_of_lt_of_le Bo_4.lt l5); have Br_5 := Br_4.keep k5; have Ba_5 := Ba_4.keep k5; have Bo_5 := Bo_4.keep k5; have Hw5 := bq_trans Hw4 k5; clear l5 k5 Br_4 Ba_4 Bo_4 Hw4)
    | (refine wl_store 46 2 size51 _ _ rfl rfl _ rfl _ rfl _ _ Bj_5 rfl rfl (by kernel_rfl) ?_; intro W6 Bj_6 T6; have Br_6 := T6.blk Br_5 nrj; have Ba_6 := T6.blk Ba_5 naj; have Bo_6 := T6.blk Bo_5 noj; have Hw6 := T6.below Hw5 gj; clear T6 Br_5 Ba_5 Bo_5 Bj_5 Hw5))
  clear HP
  have HC7 : Hid (∀ w', But ba bo W6 w' → w'.cell? ⟨bj, 0, none⟩ = some (.string ys) ∧ w'.cell? ⟨bj, 1, none⟩ = some (.int .i64 ya)) := Lib.hid fun w' hw' => ⟨(Bj_6.but hw' (Ne.symm naj) (Ne.symm noj)).cell 0, (Bj_6.but hw' (Ne.symm naj) (Ne.symm noj)).cell 1⟩
  have hd7 : Below W6.heap.size W6 W6.drew := bq_drew (bq_refl W6)
  have da0 : W6.cell? ⟨ba, 0, none⟩ = some (.int .i64 0) := Ba_6.cell 0
  have fa0 := Ba_6.frozen 0
  have da1 : W6.cell? ⟨ba, 1, none⟩ = some (.int .i64 0) := Ba_6.cell 1
  have fa1 := Ba_6.frozen 1
  have da2 : W6.cell? ⟨ba, 2, none⟩ = some (.int .i64 0) := Ba_6.cell 2
  have fa2 := Ba_6.frozen 2
  have da3 : W6.cell? ⟨ba, 3, none⟩ = some (.int .i64 0) := Ba_6.cell 3
  have fa3 := Ba_6.frozen 3
  have do0 : W6.cell? ⟨bo, 0, none⟩ = some (.string ⟨#[]⟩) := Bo_6.cell 0
  have fo0 := Bo_6.frozen 0
  have do1 : W6.cell? ⟨bo, 1, none⟩ = some (.int .i64 0) := Bo_6.cell 1
  have fo1 := Bo_6.frozen 1
  have na7 : ¬ ba = bo := nao
  have nb7 : ¬ bo = ba := Ne.symm nao
  have rj0 : W6.cell? ⟨bj, 0, none⟩ = some (.string ys) := Bj_6.cell 0
  have rj1 : W6.cell? ⟨bj, 1, none⟩ = some (.int .i64 ya) := Bj_6.cell 1
  go_region
  have Br_7 := ((((((Br_6.other (a := ⟨ba, 0, none⟩) (.int .i64 v0) nra).other (a := ⟨ba, 1, none⟩) (.int .i64 v1) nra).other (a := ⟨ba, 2, none⟩) (.int .i64 v2) nra).other (a := ⟨ba, 3, none⟩) (.int .i64 v3) nra).other (a := ⟨bo, 0, none⟩) (.string ys) nro).other (a := ⟨bo, 1, none⟩) (.int .i64 ya) nro).drew
  have Ba_7 : Blk ((((((W6.setCell ⟨ba, 0, none⟩ (.int .i64 v0)).setCell ⟨ba, 1, none⟩ (.int .i64 v1)).setCell ⟨ba, 2, none⟩ (.int .i64 v2)).setCell ⟨ba, 3, none⟩ (.int .i64 v3)).setCell ⟨bo, 0, none⟩ (.string ys)).setCell ⟨bo, 1, none⟩ (.int .i64 ya)).drew ba (iA [v0, v1, v2, v3]) 23 := ((((((Ba_6.set 0 (.int .i64 v0)).set 1 (.int .i64 v1)).set 2 (.int .i64 v2)).set 3 (.int .i64 v3)).other (a := ⟨bo, 0, none⟩) (.string ys) nao).other (a := ⟨bo, 1, none⟩) (.int .i64 ya) nao).drew
  have Bo_7 : Blk ((((((W6.setCell ⟨ba, 0, none⟩ (.int .i64 v0)).setCell ⟨ba, 1, none⟩ (.int .i64 v1)).setCell ⟨ba, 2, none⟩ (.int .i64 v2)).setCell ⟨ba, 3, none⟩ (.int .i64 v3)).setCell ⟨bo, 0, none⟩ (.string ys)).setCell ⟨bo, 1, none⟩ (.int .i64 ya)).drew bo #[.string ys, .int .i64 ya] 46 := ((((((Bo_6.other (a := ⟨ba, 0, none⟩) (.int .i64 v0) (Ne.symm nao)).other (a := ⟨ba, 1, none⟩) (.int .i64 v1) (Ne.symm nao)).other (a := ⟨ba, 2, none⟩) (.int .i64 v2) (Ne.symm nao)).other (a := ⟨ba, 3, none⟩) (.int .i64 v3) (Ne.symm nao)).set 0 (.string ys)).set 1 (.int .i64 ya)).drew
  have Bj_7 := ((((((Bj_6.other (a := ⟨ba, 0, none⟩) (.int .i64 v0) (Ne.symm naj)).other (a := ⟨ba, 1, none⟩) (.int .i64 v1) (Ne.symm naj)).other (a := ⟨ba, 2, none⟩) (.int .i64 v2) (Ne.symm naj)).other (a := ⟨ba, 3, none⟩) (.int .i64 v3) (Ne.symm naj)).other (a := ⟨bo, 0, none⟩) (.string ys) (Ne.symm noj)).other (a := ⟨bo, 1, none⟩) (.int .i64 ya) (Ne.symm noj)).drew
  have Hw7 : Below w.heap.size w ((((((W6.setCell ⟨ba, 0, none⟩ (.int .i64 v0)).setCell ⟨ba, 1, none⟩ (.int .i64 v1)).setCell ⟨ba, 2, none⟩ (.int .i64 v2)).setCell ⟨ba, 3, none⟩ (.int .i64 v3)).setCell ⟨bo, 0, none⟩ (.string ys)).setCell ⟨bo, 1, none⟩ (.int .i64 ya)).drew := bq_drew (bq_set (bq_set (bq_set (bq_set (bq_set (bq_set Hw6 ⟨ba, 0, none⟩ ga (.int .i64 v0)) ⟨ba, 1, none⟩ ga (.int .i64 v1)) ⟨ba, 2, none⟩ ga (.int .i64 v2)) ⟨ba, 3, none⟩ ga (.int .i64 v3)) ⟨bo, 0, none⟩ go (.string ys)) ⟨bo, 1, none⟩ go (.int .i64 ya))
  clear HC7 hd7 da0 fa0 da1 fa1 da2 fa2 da3 fa3 do0 fo0 do1 fo1 na7 nb7 rj0 rj1 Br_6 Ba_6 Bo_6 Bj_6 Hw6 
  generalize ((((((W6.setCell ⟨ba, 0, none⟩ (.int .i64 v0)).setCell ⟨ba, 1, none⟩ (.int .i64 v1)).setCell ⟨ba, 2, none⟩ (.int .i64 v2)).setCell ⟨ba, 3, none⟩ (.int .i64 v3)).setCell ⟨bo, 0, none⟩ (.string ys)).setCell ⟨bo, 1, none⟩ (.int .i64 ya)).drew = W7 at Br_7 Ba_7 Bo_7 Bj_7 Hw7  ⊢
  go_wp2
  exact post_cell2_tmp (v := .int .i64 0) Try.underlying23 rfl size32z Try.underlying46 rfl size51 Try.results58 Ba_7 rfl Bo_7 rfl rfl rfl rfl rfl ⟨rfl, Hw7⟩
set_option maxHeartbeats 1000000 in
theorem rtakergba_err (s t ys : ByteArray) (a ya ye : Int) (w : World) (q : (ye != 0) = true) (HP : Hid (∀ W, Calls Try.prog 81 #[.agg #[.string s, .int .i64 a], .int .i64 4] W fun e w' => e = .returned (.tuple #[.string t, .agg #[.string ys, .int .i64 ya], .int .i64 ye]) ∧ Below W.heap.size W w')) :
    Calls Try.prog 64 #[.agg #[.string s, .int .i64 a]] w fun e w' => e = .returned (.tuple #[.agg (iA [0, 0, 0, 0]), .agg #[.string ⟨#[]⟩, .int .i64 0, .int .i64 ye]]) ∧ Below w.heap.size w w' := by
  go_enter Try.func64, Try.ntmps64
  go_wp2_with (first
    | (refine wl_box 51 _ _ rfl rfl (show _ = Value.agg #[.string s, .int .i64 a] from rfl) ?_; intro W1 br Br_1 l1 k1; have gr : w.heap.size ≤ br := l1; have Hw1 := k1; clear l1 k1)
    | (refine wl_alloc 23 _ zero32 rfl rfl ?_; intro W2 ba Ba_2 l2 k2; have ga : w.heap.size ≤ ba := Nat.le_trans Hw1.size l2; have nra : br ≠ ba := Nat.ne_of_lt (Nat.lt_of_lt_of_le Br_1.lt l2); have Br_2 := Br_1.keep k2; have Hw2 := bq_trans Hw1 k2; clear l2 k2 Br_1 Hw1)
    | (refine wl_alloc 53 _ zero62 rfl rfl ?_; intro W3 bo Bo_3 l3 k3; have go : w.heap.size ≤ bo := Nat.le_trans Hw2.size l3; have nro : br ≠ bo := Nat.ne_of_lt (Nat.lt_of_lt_of_le Br_2.lt l3); have nao : ba ≠ bo := Nat.ne_of_lt (Nat.lt_of_lt_of_le Ba_2.lt l3); have Br_3 := Br_2.keep k3; have Ba_3 := Ba_2.keep k3; have Hw3 := bq_trans Hw2 k3; clear l3 k3 Br_2 Ba_2 Hw2)
    | (refine wl_load 51 2 _ Try.underlying51 rfl size60 _ rfl rfl _ rfl _ _ Br_3 rfl ?_)
    | (go_at_call 81; (with_reducible refine (HP.out _).mono ?_); rintro e W4 ⟨rfl, k4⟩; have Br_4 := Br_3.keep k4; have Ba_4 := Ba_3.keep k4; have Bo_4 := Bo_3.keep k4; have Hw4 := bq_trans Hw3 k4; clear k4 Br_3 Ba_3 Bo_3 Hw3)
    | (refine wl_alloc 51 _ zero60 rfl rfl ?_; intro W5 bj Bj_5 l5 k5; have gj : w.heap.size ≤ bj := Nat.le_trans Hw4.size l5; have nrj : br ≠ bj := Nat.ne_of_lt (Nat.lt_of_lt_of_le Br_4.lt l5); have naj : ba ≠ bj := Nat.ne_of_lt (Nat.lt_of_lt_of_le Ba_4.lt l5); have noj : bo ≠ bj := Nat.ne_of_lt (Nat.lt_of_lt_of_le Bo_4.lt l5); have Br_5 := Br_4.keep k5; have Ba_5 := Ba_4.keep k5; have Bo_5 := Bo_4.keep k5; have Hw5 := bq_trans Hw4 k5; clear l5 k5 Br_4 Ba_4 Bo_4 Hw4)
    | (refine wl_store 51 2 size60 _ _ rfl rfl _ rfl _ rfl _ _ Bj_5 rfl rfl (by kernel_rfl) ?_; intro W6 Bj_6 T6; have Br_6 := T6.blk Br_5 nrj; have Ba_6 := T6.blk Ba_5 naj; have Bo_6 := T6.blk Bo_5 noj; have Hw6 := T6.below Hw5 gj; clear T6 Br_5 Ba_5 Bo_5 Bj_5 Hw5)
    | (refine wl_store 23 4 size32z _ _ rfl rfl _ rfl #[.int .i64 0, .int .i64 0, .int .i64 0, .int .i64 0] rfl _ _ Ba_6 rfl rfl (by kernel_rfl) ?_; intro W7 Ba_7 T7; have Br_7 := T7.blk Br_6 nra; have Bo_7 := T7.blk Bo_6 (Ne.symm nao); have Bj_7 := T7.blk Bj_6 (Ne.symm naj); have Hw7 := T7.below Hw6 ga; clear T7 Br_6 Bo_6 Bj_6 Ba_6 Hw6)
    | (refine wl_store 53 3 size62 _ _ rfl rfl _ rfl _ rfl _ _ Bo_7 rfl rfl (by kernel_rfl) ?_; intro W8 Bo_8 T8; have Br_8 := T8.blk Br_7 nro; have Ba_8 := T8.blk Ba_7 nao; have Bj_8 := T8.blk Bj_7 (Ne.symm noj); have Hw8 := T8.below Hw7 go; clear T8 Br_7 Ba_7 Bj_7 Bo_7 Hw7))
  exact post_cell2 Try.underlying23 rfl size32z Try.underlying53 rfl size62 Try.results64 Ba_8 rfl Bo_8 rfl rfl rfl rfl ⟨rfl, Hw8⟩
set_option maxHeartbeats 4000000 in
theorem rtakergba_ok (s t ys : ByteArray) (a ya v0 v1 v2 v3 : Int) (w : World) (b0 : 0 ≤ v0 ∧ v0 ≤ 255) (b1 : 0 ≤ v1 ∧ v1 ≤ 255) (b2 : 0 ≤ v2 ∧ v2 ≤ 255) (b3 : 0 ≤ v3 ∧ v3 ≤ 255)
    (hi0 : ∀ W : World, (Instr.index 9 (.string t) (.int .i64 0)).run Try.prog W = .ok (.int .u8 v0) W) (hi1 : ∀ W : World, (Instr.index 9 (.string t) (.int .i64 1)).run Try.prog W = .ok (.int .u8 v1) W) (hi2 : ∀ W : World, (Instr.index 9 (.string t) (.int .i64 2)).run Try.prog W = .ok (.int .u8 v2) W) (hi3 : ∀ W : World, (Instr.index 9 (.string t) (.int .i64 3)).run Try.prog W = .ok (.int .u8 v3) W) (HP : Hid (∀ W, Calls Try.prog 81 #[.agg #[.string s, .int .i64 a], .int .i64 4] W fun e w' => e = .returned (.tuple #[.string t, .agg #[.string ys, .int .i64 ya], .int .i64 0]) ∧ Below W.heap.size W w')) :
    Calls Try.prog 64 #[.agg #[.string s, .int .i64 a]] w fun e w' => e = .returned (.tuple #[.agg (iA [v0, v1, v2, v3]), .agg #[.string ys, .int .i64 ya, .int .i64 0]]) ∧ Below w.heap.size w w' := by
  obtain ⟨b00, b01⟩ := b0
  obtain ⟨b10, b11⟩ := b1
  obtain ⟨b20, b21⟩ := b2
  obtain ⟨b30, b31⟩ := b3
  go_enter Try.func64, Try.ntmps64
  go_wp2_with (first
    | (refine wl_box 51 _ _ rfl rfl (show _ = Value.agg #[.string s, .int .i64 a] from rfl) ?_; intro W1 br Br_1 l1 k1; have gr : w.heap.size ≤ br := l1; have Hw1 := k1; clear l1 k1)
    | (refine wl_alloc 23 _ zero32 rfl rfl ?_; intro W2 ba Ba_2 l2 k2; have ga : w.heap.size ≤ ba := Nat.le_trans Hw1.size l2; have nra : br ≠ ba := Nat.ne_of_lt (Nat.lt_of_lt_of_le Br_1.lt l2); have Br_2 := Br_1.keep k2; have Hw2 := bq_trans Hw1 k2; clear l2 k2 Br_1 Hw1)
    | (refine wl_alloc 53 _ zero62 rfl rfl ?_; intro W3 bo Bo_3 l3 k3; have go : w.heap.size ≤ bo := Nat.le_trans Hw2.size l3; have nro : br ≠ bo := Nat.ne_of_lt (Nat.lt_of_lt_of_le Br_2.lt l3); have nao : ba ≠ bo := Nat.ne_of_lt (Nat.lt_of_lt_of_le Ba_2.lt l3); have Br_3 := Br_2.keep k3; have Ba_3 := Ba_2.keep k3; have Hw3 := bq_trans Hw2 k3; clear l3 k3 Br_2 Ba_2 Hw2)
    | (refine wl_load 51 2 _ Try.underlying51 rfl size60 _ rfl rfl _ rfl _ _ Br_3 rfl ?_)
    | (go_at_call 81; (with_reducible refine (HP.out _).mono ?_); rintro e W4 ⟨rfl, k4⟩; have Br_4 := Br_3.keep k4; have Ba_4 := Ba_3.keep k4; have Bo_4 := Bo_3.keep k4; have Hw4 := bq_trans Hw3 k4; clear k4 Br_3 Ba_3 Bo_3 Hw3)
    | (refine wl_alloc 51 _ zero60 rfl rfl ?_; intro W5 bj Bj_5 l5 k5; have gj : w.heap.size ≤ bj := Nat.le_trans Hw4.size l5; have nrj : br ≠ bj := Nat.ne_of_lt (Nat.lt_of_lt_of_le Br_4.lt l5); have naj : ba ≠ bj := Nat.ne_of_lt (Nat.lt_of_lt_of_le Ba_4.lt l5); have noj : bo ≠ bj := Nat.ne_of_lt (Nat.lt_of_lt_of_le Bo_4.lt l5); have Br_5 := Br_4.keep k5; have Ba_5 := Ba_4.keep k5; have Bo_5 := Bo_4.keep k5; have Hw5 := bq_trans Hw4 k5; clear l5 k5 Br_4 Ba_4 Bo_4 Hw4)
    | (refine wl_store 51 2 size60 _ _ rfl rfl _ rfl _ rfl _ _ Bj_5 rfl rfl (by kernel_rfl) ?_; intro W6 Bj_6 T6; have Br_6 := T6.blk Br_5 nrj; have Ba_6 := T6.blk Ba_5 naj; have Bo_6 := T6.blk Bo_5 noj; have Hw6 := T6.below Hw5 gj; clear T6 Br_5 Ba_5 Bo_5 Bj_5 Hw5))
  clear HP
  have HC7 : Hid (∀ w', But ba bo W6 w' → w'.cell? ⟨bj, 0, none⟩ = some (.string ys) ∧ w'.cell? ⟨bj, 1, none⟩ = some (.int .i64 ya)) := Lib.hid fun w' hw' => ⟨(Bj_6.but hw' (Ne.symm naj) (Ne.symm noj)).cell 0, (Bj_6.but hw' (Ne.symm naj) (Ne.symm noj)).cell 1⟩
  have hd7 : Below W6.heap.size W6 W6.drew := bq_drew (bq_refl W6)
  have da0 : W6.cell? ⟨ba, 0, none⟩ = some (.int .i64 0) := Ba_6.cell 0
  have fa0 := Ba_6.frozen 0
  have da1 : W6.cell? ⟨ba, 1, none⟩ = some (.int .i64 0) := Ba_6.cell 1
  have fa1 := Ba_6.frozen 1
  have da2 : W6.cell? ⟨ba, 2, none⟩ = some (.int .i64 0) := Ba_6.cell 2
  have fa2 := Ba_6.frozen 2
  have da3 : W6.cell? ⟨ba, 3, none⟩ = some (.int .i64 0) := Ba_6.cell 3
  have fa3 := Ba_6.frozen 3
  have do0 : W6.cell? ⟨bo, 0, none⟩ = some (.string ⟨#[]⟩) := Bo_6.cell 0
  have fo0 := Bo_6.frozen 0
  have do1 : W6.cell? ⟨bo, 1, none⟩ = some (.int .i64 0) := Bo_6.cell 1
  have fo1 := Bo_6.frozen 1
  have do2 : W6.cell? ⟨bo, 2, none⟩ = some (.int .i64 0) := Bo_6.cell 2
  have fo2 := Bo_6.frozen 2
  have na7 : ¬ ba = bo := nao
  have nb7 : ¬ bo = ba := Ne.symm nao
  have rj0 : W6.cell? ⟨bj, 0, none⟩ = some (.string ys) := Bj_6.cell 0
  have rj1 : W6.cell? ⟨bj, 1, none⟩ = some (.int .i64 ya) := Bj_6.cell 1
  go_region
  have Br_7 := (((((((Br_6.other (a := ⟨ba, 0, none⟩) (.int .i64 v0) nra).other (a := ⟨ba, 1, none⟩) (.int .i64 v1) nra).other (a := ⟨ba, 2, none⟩) (.int .i64 v2) nra).other (a := ⟨ba, 3, none⟩) (.int .i64 v3) nra).other (a := ⟨bo, 0, none⟩) (.string ys) nro).other (a := ⟨bo, 1, none⟩) (.int .i64 ya) nro).other (a := ⟨bo, 2, none⟩) (.int .i64 0) nro).drew
  have Ba_7 : Blk (((((((W6.setCell ⟨ba, 0, none⟩ (.int .i64 v0)).setCell ⟨ba, 1, none⟩ (.int .i64 v1)).setCell ⟨ba, 2, none⟩ (.int .i64 v2)).setCell ⟨ba, 3, none⟩ (.int .i64 v3)).setCell ⟨bo, 0, none⟩ (.string ys)).setCell ⟨bo, 1, none⟩ (.int .i64 ya)).setCell ⟨bo, 2, none⟩ (.int .i64 0)).drew ba (iA [v0, v1, v2, v3]) 23 := (((((((Ba_6.set 0 (.int .i64 v0)).set 1 (.int .i64 v1)).set 2 (.int .i64 v2)).set 3 (.int .i64 v3)).other (a := ⟨bo, 0, none⟩) (.string ys) nao).other (a := ⟨bo, 1, none⟩) (.int .i64 ya) nao).other (a := ⟨bo, 2, none⟩) (.int .i64 0) nao).drew
  have Bo_7 : Blk (((((((W6.setCell ⟨ba, 0, none⟩ (.int .i64 v0)).setCell ⟨ba, 1, none⟩ (.int .i64 v1)).setCell ⟨ba, 2, none⟩ (.int .i64 v2)).setCell ⟨ba, 3, none⟩ (.int .i64 v3)).setCell ⟨bo, 0, none⟩ (.string ys)).setCell ⟨bo, 1, none⟩ (.int .i64 ya)).setCell ⟨bo, 2, none⟩ (.int .i64 0)).drew bo #[.string ys, .int .i64 ya, .int .i64 0] 53 := (((((((Bo_6.other (a := ⟨ba, 0, none⟩) (.int .i64 v0) (Ne.symm nao)).other (a := ⟨ba, 1, none⟩) (.int .i64 v1) (Ne.symm nao)).other (a := ⟨ba, 2, none⟩) (.int .i64 v2) (Ne.symm nao)).other (a := ⟨ba, 3, none⟩) (.int .i64 v3) (Ne.symm nao)).set 0 (.string ys)).set 1 (.int .i64 ya)).set 2 (.int .i64 0)).drew
  have Bj_7 := (((((((Bj_6.other (a := ⟨ba, 0, none⟩) (.int .i64 v0) (Ne.symm naj)).other (a := ⟨ba, 1, none⟩) (.int .i64 v1) (Ne.symm naj)).other (a := ⟨ba, 2, none⟩) (.int .i64 v2) (Ne.symm naj)).other (a := ⟨ba, 3, none⟩) (.int .i64 v3) (Ne.symm naj)).other (a := ⟨bo, 0, none⟩) (.string ys) (Ne.symm noj)).other (a := ⟨bo, 1, none⟩) (.int .i64 ya) (Ne.symm noj)).other (a := ⟨bo, 2, none⟩) (.int .i64 0) (Ne.symm noj)).drew
  have Hw7 : Below w.heap.size w (((((((W6.setCell ⟨ba, 0, none⟩ (.int .i64 v0)).setCell ⟨ba, 1, none⟩ (.int .i64 v1)).setCell ⟨ba, 2, none⟩ (.int .i64 v2)).setCell ⟨ba, 3, none⟩ (.int .i64 v3)).setCell ⟨bo, 0, none⟩ (.string ys)).setCell ⟨bo, 1, none⟩ (.int .i64 ya)).setCell ⟨bo, 2, none⟩ (.int .i64 0)).drew := bq_drew (bq_set (bq_set (bq_set (bq_set (bq_set (bq_set (bq_set Hw6 ⟨ba, 0, none⟩ ga (.int .i64 v0)) ⟨ba, 1, none⟩ ga (.int .i64 v1)) ⟨ba, 2, none⟩ ga (.int .i64 v2)) ⟨ba, 3, none⟩ ga (.int .i64 v3)) ⟨bo, 0, none⟩ go (.string ys)) ⟨bo, 1, none⟩ go (.int .i64 ya)) ⟨bo, 2, none⟩ go (.int .i64 0))
  clear HC7 hd7 da0 fa0 da1 fa1 da2 fa2 da3 fa3 do0 fo0 do1 fo1 do2 fo2 na7 nb7 rj0 rj1 Br_6 Ba_6 Bo_6 Bj_6 Hw6 
  generalize (((((((W6.setCell ⟨ba, 0, none⟩ (.int .i64 v0)).setCell ⟨ba, 1, none⟩ (.int .i64 v1)).setCell ⟨ba, 2, none⟩ (.int .i64 v2)).setCell ⟨ba, 3, none⟩ (.int .i64 v3)).setCell ⟨bo, 0, none⟩ (.string ys)).setCell ⟨bo, 1, none⟩ (.int .i64 ya)).setCell ⟨bo, 2, none⟩ (.int .i64 0)).drew = W7 at Br_7 Ba_7 Bo_7 Bj_7 Hw7  ⊢
  go_wp2
  exact post_cell2 Try.underlying23 rfl size32z Try.underlying53 rfl size62 Try.results64 Ba_7 rfl Bo_7 rfl rfl rfl rfl ⟨rfl, Hw7⟩
end Go.Proofs.Ythlnjipefeglpaa
