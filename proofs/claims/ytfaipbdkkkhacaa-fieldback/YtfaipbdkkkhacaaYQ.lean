import Derived.Test.YtfaipbdkkkhacaaYN
import Derived.Test.YtfaipbdkkkhacaaYO
import Derived.Test.YtfaipbdkkkhacaaYO2
import Derived.Test.YtfaipbdkkkhacaaYP
import Derived.Test.YtfaipbdkkkhacaaYP2
/- Layer 7: a colour is taken, both. -/
namespace Go.Proofs.Ytfaipbdkkkhacaa
open Go.RowKit
set_option linter.unusedVariables false
set_option maxRecDepth 100000

theorem size32z : (Try.prog.info? 32).map (·.size) = some 4 := by kernel_rfl
theorem zero32 (w : World) : (zeroValue 32).run Try.prog w = .ok (.agg (iA [0, 0, 0, 0])) w := Try.zeroValue32 w
/-- the parts of a colour -/
def rgV (s : ByteArray) (a : Int) : List Int := if byE s.size a 4 = 0 then (byB s a 4).data.toList.map (fun c => (c.toNat : Int)) else [0, 0, 0, 0]
set_option maxHeartbeats 1000000 in
theorem takergba_err (s t ys : ByteArray) (a ya ye : Int) (w : World) (q : (ye != 0) = true) (HP : Hid (∀ W, Calls Try.prog 54 #[.agg #[.string s, .int .i64 a], .int .i64 4] W fun e w' => e = .returned (.tuple #[.string t, .agg #[.string ys, .int .i64 ya], .int .i64 ye]) ∧ Below W.heap.size W w')) :
    Calls Try.prog 29 #[.agg #[.string s, .int .i64 a]] w fun e w' => e = .returned (.tuple #[.agg (iA [0, 0, 0, 0]), .agg #[.string ⟨#[]⟩, .int .i64 0], .int .i64 ye]) ∧ Below w.heap.size w w' := by
  go_enter Try.func29, Try.ntmps29
  go_wp2_with (first
    | (refine wl_box 51 _ _ rfl rfl (show _ = Value.agg #[.string s, .int .i64 a] from rfl) ?_; intro W1 br Br_1 l1 k1; have gr : w.heap.size ≤ br := l1; have Hw1 := k1; clear l1 k1)
    | (refine wl_alloc 32 _ zero32 rfl rfl ?_; intro W2 ba Ba_2 l2 k2; have ga : w.heap.size ≤ ba := Nat.le_trans Hw1.size l2; have nra : br ≠ ba := Nat.ne_of_lt (Nat.lt_of_lt_of_le Br_1.lt l2); have Br_2 := Br_1.keep k2; have Hw2 := bq_trans Hw1 k2; clear l2 k2 Br_1 Hw1)
    | (refine wl_alloc 51 _ zero51 rfl rfl ?_; intro W3 bo Bo_3 l3 k3; have go : w.heap.size ≤ bo := Nat.le_trans Hw2.size l3; have nro : br ≠ bo := Nat.ne_of_lt (Nat.lt_of_lt_of_le Br_2.lt l3); have nao : ba ≠ bo := Nat.ne_of_lt (Nat.lt_of_lt_of_le Ba_2.lt l3); have Br_3 := Br_2.keep k3; have Ba_3 := Ba_2.keep k3; have Hw3 := bq_trans Hw2 k3; clear l3 k3 Br_2 Ba_2 Hw2)
    | (refine wl_load 51 2 _ Try.underlying51 rfl size51 _ rfl rfl _ rfl _ _ Br_3 rfl ?_)
    | (go_at_call 54; (with_reducible refine (HP.out _).mono ?_); rintro e W4 ⟨rfl, k4⟩; have Br_4 := Br_3.keep k4; have Ba_4 := Ba_3.keep k4; have Bo_4 := Bo_3.keep k4; have Hw4 := bq_trans Hw3 k4; clear k4 Br_3 Ba_3 Bo_3 Hw3)
    | (refine wl_alloc 51 _ zero51 rfl rfl ?_; intro W5 bj Bj_5 l5 k5; have gj : w.heap.size ≤ bj := Nat.le_trans Hw4.size l5; have nrj : br ≠ bj := Nat.ne_of_lt (Nat.lt_of_lt_of_le Br_4.lt l5); have naj : ba ≠ bj := Nat.ne_of_lt (Nat.lt_of_lt_of_le Ba_4.lt l5); have noj : bo ≠ bj := Nat.ne_of_lt (Nat.lt_of_lt_of_le Bo_4.lt l5); have Br_5 := Br_4.keep k5; have Ba_5 := Ba_4.keep k5; have Bo_5 := Bo_4.keep k5; have Hw5 := bq_trans Hw4 k5; clear l5 k5 Br_4 Ba_4 Bo_4 Hw4)
    | (refine wl_store 51 2 size51 _ _ rfl rfl _ rfl _ rfl _ _ Bj_5 rfl rfl (by kernel_rfl) ?_; intro W6 Bj_6 T6; have Br_6 := T6.blk Br_5 nrj; have Ba_6 := T6.blk Ba_5 naj; have Bo_6 := T6.blk Bo_5 noj; have Hw6 := T6.below Hw5 gj; clear T6 Br_5 Ba_5 Bo_5 Bj_5 Hw5)
    | (refine wl_store 32 4 size32z _ _ rfl rfl _ rfl #[.int .i64 0, .int .i64 0, .int .i64 0, .int .i64 0] rfl _ _ Ba_6 rfl rfl (by kernel_rfl) ?_; intro W7 Ba_7 T7; have Br_7 := T7.blk Br_6 nra; have Bo_7 := T7.blk Bo_6 (Ne.symm nao); have Bj_7 := T7.blk Bj_6 (Ne.symm naj); have Hw7 := T7.below Hw6 ga; clear T7 Br_6 Bo_6 Bj_6 Ba_6 Hw6)
    | (refine wl_store 51 2 size51 _ _ rfl rfl _ rfl _ rfl _ _ Bo_7 rfl rfl (by kernel_rfl) ?_; intro W8 Bo_8 T8; have Br_8 := T8.blk Br_7 nro; have Ba_8 := T8.blk Ba_7 nao; have Bj_8 := T8.blk Bj_7 (Ne.symm noj); have Hw8 := T8.below Hw7 go; clear T8 Br_7 Ba_7 Bj_7 Bo_7 Hw7))
  exact post_cell2_tmp (v := .int .i64 ye) Try.underlying32 rfl size32z Try.underlying51 rfl size51 Try.results29 Ba_8 rfl Bo_8 rfl rfl rfl rfl rfl ⟨rfl, Hw8⟩
set_option maxHeartbeats 4000000 in
theorem takergba_ok (s t ys : ByteArray) (a ya v0 v1 v2 v3 : Int) (w : World) (b0 : 0 ≤ v0 ∧ v0 ≤ 255) (b1 : 0 ≤ v1 ∧ v1 ≤ 255) (b2 : 0 ≤ v2 ∧ v2 ≤ 255) (b3 : 0 ≤ v3 ∧ v3 ≤ 255)
    (hi0 : ∀ W : World, (Instr.index 9 (.string t) (.int .i64 0)).run Try.prog W = .ok (.int .u8 v0) W) (hi1 : ∀ W : World, (Instr.index 9 (.string t) (.int .i64 1)).run Try.prog W = .ok (.int .u8 v1) W) (hi2 : ∀ W : World, (Instr.index 9 (.string t) (.int .i64 2)).run Try.prog W = .ok (.int .u8 v2) W) (hi3 : ∀ W : World, (Instr.index 9 (.string t) (.int .i64 3)).run Try.prog W = .ok (.int .u8 v3) W) (HP : Hid (∀ W, Calls Try.prog 54 #[.agg #[.string s, .int .i64 a], .int .i64 4] W fun e w' => e = .returned (.tuple #[.string t, .agg #[.string ys, .int .i64 ya], .int .i64 0]) ∧ Below W.heap.size W w')) :
    Calls Try.prog 29 #[.agg #[.string s, .int .i64 a]] w fun e w' => e = .returned (.tuple #[.agg (iA [v0, v1, v2, v3]), .agg #[.string ys, .int .i64 ya], .int .i64 0]) ∧ Below w.heap.size w w' := by
  obtain ⟨b00, b01⟩ := b0
  obtain ⟨b10, b11⟩ := b1
  obtain ⟨b20, b21⟩ := b2
  obtain ⟨b30, b31⟩ := b3
  go_enter Try.func29, Try.ntmps29
  go_wp2_with (first
    | (refine wl_box 51 _ _ rfl rfl (show _ = Value.agg #[.string s, .int .i64 a] from rfl) ?_; intro W1 br Br_1 l1 k1; have gr : w.heap.size ≤ br := l1; have Hw1 := k1; clear l1 k1)
    | (refine wl_alloc 32 _ zero32 rfl rfl ?_; intro W2 ba Ba_2 l2 k2; have ga : w.heap.size ≤ ba := Nat.le_trans Hw1.size l2; have nra : br ≠ ba := Nat.ne_of_lt (Nat.lt_of_lt_of_le Br_1.lt l2); have Br_2 := Br_1.keep k2; have Hw2 := bq_trans Hw1 k2; clear l2 k2 Br_1 Hw1)
    | (refine wl_alloc 51 _ zero51 rfl rfl ?_; intro W3 bo Bo_3 l3 k3; have go : w.heap.size ≤ bo := Nat.le_trans Hw2.size l3; have nro : br ≠ bo := Nat.ne_of_lt (Nat.lt_of_lt_of_le Br_2.lt l3); have nao : ba ≠ bo := Nat.ne_of_lt (Nat.lt_of_lt_of_le Ba_2.lt l3); have Br_3 := Br_2.keep k3; have Ba_3 := Ba_2.keep k3; have Hw3 := bq_trans Hw2 k3; clear l3 k3 Br_2 Ba_2 Hw2)
    | (refine wl_load 51 2 _ Try.underlying51 rfl size51 _ rfl rfl _ rfl _ _ Br_3 rfl ?_)
    | (go_at_call 54; (with_reducible refine (HP.out _).mono ?_); rintro e W4 ⟨rfl, k4⟩; have Br_4 := Br_3.keep k4; have Ba_4 := Ba_3.keep k4; have Bo_4 := Bo_3.keep k4; have Hw4 := bq_trans Hw3 k4; clear k4 Br_3 Ba_3 Bo_3 Hw3)
    | (refine wl_alloc 51 _ zero51 rfl rfl ?_; intro W5 bj Bj_5 l5 k5; have gj : w.heap.size ≤ bj := Nat.le_trans Hw4.size l5; have nrj : br ≠ bj := Nat.ne_of_lt (Nat.lt_of_lt_of_le Br_4.lt l5); have naj : ba ≠ bj := Nat.ne_of_lt (Nat.lt_of_lt_of_le Ba_4.lt l5); have noj : bo ≠ bj := Nat.ne_of_lt (Nat.lt_of_lt_of_le Bo_4.lt l5); have Br_5 := Br_4.keep k5; have Ba_5 := Ba_4.keep k5; have Bo_5 := Bo_4.keep k5; have Hw5 := bq_trans Hw4 k5; clear l5 k5 Br_4 Ba_4 Bo_4 Hw4)
    | (refine wl_store 51 2 size51 _ _ rfl rfl _ rfl _ rfl _ _ Bj_5 rfl rfl (by kernel_rfl) ?_; intro W6 Bj_6 T6; have Br_6 := T6.blk Br_5 nrj; have Ba_6 := T6.blk Ba_5 naj; have Bo_6 := T6.blk Bo_5 noj; have Hw6 := T6.below Hw5 gj; clear T6 Br_5 Ba_5 Bo_5 Bj_5 Hw5))
  clear HP
  have HC7 : Hid (∀ w', But ba bo W6 w' → w'.cell? ⟨bj, 0, none⟩ = some (.string ys) ∧ w'.cell? ⟨bj, 1, none⟩ = some (.int .i64 ya)) := Lib.hid fun w' hw' => ⟨(Bj_6.but hw' (Ne.symm naj) (Ne.symm noj)).cell 0, (Bj_6.but hw' (Ne.symm naj) (Ne.symm noj)).cell 1⟩
  have hd7 : Below W6.heap.size W6 W6.drew := bq_drew (bq_refl W6)
  have da0 : W6.cell? ⟨ba, 0, none⟩ = some (.int .i64 0) := Ba_6.cell 0
  have fa0 := Ba_6.frozen 0
  have da1 : W6.cell? ⟨ba, 1, none⟩ = some (.int .i64 0) := Ba_6.cell 1
  have fa1 := Ba_6.frozen 1
  have da2 : W6.cell? ⟨ba, 2, none⟩ = some (.int .i64 0) := Ba_6.cell 2
  have fa2 := Ba_6.frozen 2
  have da3 : W6.cell? ⟨ba, 3, none⟩ = some (.int .i64 0) := Ba_6.cell 3
  have fa3 := Ba_6.frozen 3
  have do0 : W6.cell? ⟨bo, 0, none⟩ = some (.string ⟨#[]⟩) := Bo_6.cell 0
  have fo0 := Bo_6.frozen 0
  have do1 : W6.cell? ⟨bo, 1, none⟩ = some (.int .i64 0) := Bo_6.cell 1
  have fo1 := Bo_6.frozen 1
  have na7 : ¬ ba = bo := nao
  have nb7 : ¬ bo = ba := Ne.symm nao
  have rj0 : W6.cell? ⟨bj, 0, none⟩ = some (.string ys) := Bj_6.cell 0
  have rj1 : W6.cell? ⟨bj, 1, none⟩ = some (.int .i64 ya) := Bj_6.cell 1
  go_region
  have Br_7 := ((((((Br_6.other (a := ⟨ba, 0, none⟩) (.int .i64 v0) nra).other (a := ⟨ba, 1, none⟩) (.int .i64 v1) nra).other (a := ⟨ba, 2, none⟩) (.int .i64 v2) nra).other (a := ⟨ba, 3, none⟩) (.int .i64 v3) nra).other (a := ⟨bo, 0, none⟩) (.string ys) nro).other (a := ⟨bo, 1, none⟩) (.int .i64 ya) nro).drew
  have Ba_7 : Blk ((((((W6.setCell ⟨ba, 0, none⟩ (.int .i64 v0)).setCell ⟨ba, 1, none⟩ (.int .i64 v1)).setCell ⟨ba, 2, none⟩ (.int .i64 v2)).setCell ⟨ba, 3, none⟩ (.int .i64 v3)).setCell ⟨bo, 0, none⟩ (.string ys)).setCell ⟨bo, 1, none⟩ (.int .i64 ya)).drew ba (iA [v0, v1, v2, v3]) 32 := ((((((Ba_6.set 0 (.int .i64 v0)).set 1 (.int .i64 v1)).set 2 (.int .i64 v2)).set 3 (.int .i64 v3)).other (a := ⟨bo, 0, none⟩) (.string ys) nao).other (a := ⟨bo, 1, none⟩) (.int .i64 ya) nao).drew
  have Bo_7 : Blk ((((((W6.setCell ⟨ba, 0, none⟩ (.int .i64 v0)).setCell ⟨ba, 1, none⟩ (.int .i64 v1)).setCell ⟨ba, 2, none⟩ (.int .i64 v2)).setCell ⟨ba, 3, none⟩ (.int .i64 v3)).setCell ⟨bo, 0, none⟩ (.string ys)).setCell ⟨bo, 1, none⟩ (.int .i64 ya)).drew bo #[.string ys, .int .i64 ya] 51 := ((((((Bo_6.other (a := ⟨ba, 0, none⟩) (.int .i64 v0) (Ne.symm nao)).other (a := ⟨ba, 1, none⟩) (.int .i64 v1) (Ne.symm nao)).other (a := ⟨ba, 2, none⟩) (.int .i64 v2) (Ne.symm nao)).other (a := ⟨ba, 3, none⟩) (.int .i64 v3) (Ne.symm nao)).set 0 (.string ys)).set 1 (.int .i64 ya)).drew
  have Bj_7 := ((((((Bj_6.other (a := ⟨ba, 0, none⟩) (.int .i64 v0) (Ne.symm naj)).other (a := ⟨ba, 1, none⟩) (.int .i64 v1) (Ne.symm naj)).other (a := ⟨ba, 2, none⟩) (.int .i64 v2) (Ne.symm naj)).other (a := ⟨ba, 3, none⟩) (.int .i64 v3) (Ne.symm naj)).other (a := ⟨bo, 0, none⟩) (.string ys) (Ne.symm noj)).other (a := ⟨bo, 1, none⟩) (.int .i64 ya) (Ne.symm noj)).drew
  have Hw7 : Below w.heap.size w ((((((W6.setCell ⟨ba, 0, none⟩ (.int .i64 v0)).setCell ⟨ba, 1, none⟩ (.int .i64 v1)).setCell ⟨ba, 2, none⟩ (.int .i64 v2)).setCell ⟨ba, 3, none⟩ (.int .i64 v3)).setCell ⟨bo, 0, none⟩ (.string ys)).setCell ⟨bo, 1, none⟩ (.int .i64 ya)).drew := bq_drew (bq_set (bq_set (bq_set (bq_set (bq_set (bq_set Hw6 ⟨ba, 0, none⟩ ga (.int .i64 v0)) ⟨ba, 1, none⟩ ga (.int .i64 v1)) ⟨ba, 2, none⟩ ga (.int .i64 v2)) ⟨ba, 3, none⟩ ga (.int .i64 v3)) ⟨bo, 0, none⟩ go (.string ys)) ⟨bo, 1, none⟩ go (.int .i64 ya))
  clear HC7 hd7 da0 fa0 da1 fa1 da2 fa2 da3 fa3 do0 fo0 do1 fo1 na7 nb7 rj0 rj1 Br_6 Ba_6 Bo_6 Bj_6 Hw6 
  generalize ((((((W6.setCell ⟨ba, 0, none⟩ (.int .i64 v0)).setCell ⟨ba, 1, none⟩ (.int .i64 v1)).setCell ⟨ba, 2, none⟩ (.int .i64 v2)).setCell ⟨ba, 3, none⟩ (.int .i64 v3)).setCell ⟨bo, 0, none⟩ (.string ys)).setCell ⟨bo, 1, none⟩ (.int .i64 ya)).drew = W7 at Br_7 Ba_7 Bo_7 Bj_7 Hw7  ⊢
  go_wp2
  exact post_cell2_tmp (v := .int .i64 0) Try.underlying32 rfl size32z Try.underlying51 rfl size51 Try.results29 Ba_7 rfl Bo_7 rfl rfl rfl rfl rfl ⟨rfl, Hw7⟩
set_option maxHeartbeats 1000000 in
theorem rtakergba_err (s t ys : ByteArray) (a ya ye : Int) (w : World) (q : (ye != 0) = true) (HP : Hid (∀ W, Calls Try.prog 59 #[.agg #[.string s, .int .i64 a], .int .i64 4] W fun e w' => e = .returned (.tuple #[.string t, .agg #[.string ys, .int .i64 ya], .int .i64 ye]) ∧ Below W.heap.size W w')) :
    Calls Try.prog 34 #[.agg #[.string s, .int .i64 a]] w fun e w' => e = .returned (.tuple #[.agg (iA [0, 0, 0, 0]), .agg #[.string ⟨#[]⟩, .int .i64 0, .int .i64 ye]]) ∧ Below w.heap.size w w' := by
  go_enter Try.func34, Try.ntmps34
  go_wp2_with (first
    | (refine wl_box 60 _ _ rfl rfl (show _ = Value.agg #[.string s, .int .i64 a] from rfl) ?_; intro W1 br Br_1 l1 k1; have gr : w.heap.size ≤ br := l1; have Hw1 := k1; clear l1 k1)
    | (refine wl_alloc 32 _ zero32 rfl rfl ?_; intro W2 ba Ba_2 l2 k2; have ga : w.heap.size ≤ ba := Nat.le_trans Hw1.size l2; have nra : br ≠ ba := Nat.ne_of_lt (Nat.lt_of_lt_of_le Br_1.lt l2); have Br_2 := Br_1.keep k2; have Hw2 := bq_trans Hw1 k2; clear l2 k2 Br_1 Hw1)
    | (refine wl_alloc 62 _ zero62 rfl rfl ?_; intro W3 bo Bo_3 l3 k3; have go : w.heap.size ≤ bo := Nat.le_trans Hw2.size l3; have nro : br ≠ bo := Nat.ne_of_lt (Nat.lt_of_lt_of_le Br_2.lt l3); have nao : ba ≠ bo := Nat.ne_of_lt (Nat.lt_of_lt_of_le Ba_2.lt l3); have Br_3 := Br_2.keep k3; have Ba_3 := Ba_2.keep k3; have Hw3 := bq_trans Hw2 k3; clear l3 k3 Br_2 Ba_2 Hw2)
    | (refine wl_load 60 2 _ Try.underlying60 rfl size60 _ rfl rfl _ rfl _ _ Br_3 rfl ?_)
    | (go_at_call 59; (with_reducible refine (HP.out _).mono ?_); rintro e W4 ⟨rfl, k4⟩; have Br_4 := Br_3.keep k4; have Ba_4 := Ba_3.keep k4; have Bo_4 := Bo_3.keep k4; have Hw4 := bq_trans Hw3 k4; clear k4 Br_3 Ba_3 Bo_3 Hw3)
    | (refine wl_alloc 60 _ zero60 rfl rfl ?_; intro W5 bj Bj_5 l5 k5; have gj : w.heap.size ≤ bj := Nat.le_trans Hw4.size l5; have nrj : br ≠ bj := Nat.ne_of_lt (Nat.lt_of_lt_of_le Br_4.lt l5); have naj : ba ≠ bj := Nat.ne_of_lt (Nat.lt_of_lt_of_le Ba_4.lt l5); have noj : bo ≠ bj := Nat.ne_of_lt (Nat.lt_of_lt_of_le Bo_4.lt l5); have Br_5 := Br_4.keep k5; have Ba_5 := Ba_4.keep k5; have Bo_5 := Bo_4.keep k5; have Hw5 := bq_trans Hw4 k5; clear l5 k5 Br_4 Ba_4 Bo_4 Hw4)
    | (refine wl_store 60 2 size60 _ _ rfl rfl _ rfl _ rfl _ _ Bj_5 rfl rfl (by kernel_rfl) ?_; intro W6 Bj_6 T6; have Br_6 := T6.blk Br_5 nrj; have Ba_6 := T6.blk Ba_5 naj; have Bo_6 := T6.blk Bo_5 noj; have Hw6 := T6.below Hw5 gj; clear T6 Br_5 Ba_5 Bo_5 Bj_5 Hw5)
    | (refine wl_store 32 4 size32z _ _ rfl rfl _ rfl #[.int .i64 0, .int .i64 0, .int .i64 0, .int .i64 0] rfl _ _ Ba_6 rfl rfl (by kernel_rfl) ?_; intro W7 Ba_7 T7; have Br_7 := T7.blk Br_6 nra; have Bo_7 := T7.blk Bo_6 (Ne.symm nao); have Bj_7 := T7.blk Bj_6 (Ne.symm naj); have Hw7 := T7.below Hw6 ga; clear T7 Br_6 Bo_6 Bj_6 Ba_6 Hw6)
    | (refine wl_store 62 3 size62 _ _ rfl rfl _ rfl _ rfl _ _ Bo_7 rfl rfl (by kernel_rfl) ?_; intro W8 Bo_8 T8; have Br_8 := T8.blk Br_7 nro; have Ba_8 := T8.blk Ba_7 nao; have Bj_8 := T8.blk Bj_7 (Ne.symm noj); have Hw8 := T8.below Hw7 go; clear T8 Br_7 Ba_7 Bj_7 Bo_7 Hw7))
  exact post_cell2 Try.underlying32 rfl size32z Try.underlying62 rfl size62 Try.results34 Ba_8 rfl Bo_8 rfl rfl rfl rfl ⟨rfl, Hw8⟩
set_option maxHeartbeats 4000000 in
theorem rtakergba_ok (s t ys : ByteArray) (a ya v0 v1 v2 v3 : Int) (w : World) (b0 : 0 ≤ v0 ∧ v0 ≤ 255) (b1 : 0 ≤ v1 ∧ v1 ≤ 255) (b2 : 0 ≤ v2 ∧ v2 ≤ 255) (b3 : 0 ≤ v3 ∧ v3 ≤ 255)
    (hi0 : ∀ W : World, (Instr.index 9 (.string t) (.int .i64 0)).run Try.prog W = .ok (.int .u8 v0) W) (hi1 : ∀ W : World, (Instr.index 9 (.string t) (.int .i64 1)).run Try.prog W = .ok (.int .u8 v1) W) (hi2 : ∀ W : World, (Instr.index 9 (.string t) (.int .i64 2)).run Try.prog W = .ok (.int .u8 v2) W) (hi3 : ∀ W : World, (Instr.index 9 (.string t) (.int .i64 3)).run Try.prog W = .ok (.int .u8 v3) W) (HP : Hid (∀ W, Calls Try.prog 59 #[.agg #[.string s, .int .i64 a], .int .i64 4] W fun e w' => e = .returned (.tuple #[.string t, .agg #[.string ys, .int .i64 ya], .int .i64 0]) ∧ Below W.heap.size W w')) :
    Calls Try.prog 34 #[.agg #[.string s, .int .i64 a]] w fun e w' => e = .returned (.tuple #[.agg (iA [v0, v1, v2, v3]), .agg #[.string ys, .int .i64 ya, .int .i64 0]]) ∧ Below w.heap.size w w' := by
  obtain ⟨b00, b01⟩ := b0
  obtain ⟨b10, b11⟩ := b1
  obtain ⟨b20, b21⟩ := b2
  obtain ⟨b30, b31⟩ := b3
  go_enter Try.func34, Try.ntmps34
  go_wp2_with (first
    | (refine wl_box 60 _ _ rfl rfl (show _ = Value.agg #[.string s, .int .i64 a] from rfl) ?_; intro W1 br Br_1 l1 k1; have gr : w.heap.size ≤ br := l1; have Hw1 := k1; clear l1 k1)
    | (refine wl_alloc 32 _ zero32 rfl rfl ?_; intro W2 ba Ba_2 l2 k2; have ga : w.heap.size ≤ ba := Nat.le_trans Hw1.size l2; have nra : br ≠ ba := Nat.ne_of_lt (Nat.lt_of_lt_of_le Br_1.lt l2); have Br_2 := Br_1.keep k2; have Hw2 := bq_trans Hw1 k2; clear l2 k2 Br_1 Hw1)
    | (refine wl_alloc 62 _ zero62 rfl rfl ?_; intro W3 bo Bo_3 l3 k3; have go : w.heap.size ≤ bo := Nat.le_trans Hw2.size l3; have nro : br ≠ bo := Nat.ne_of_lt (Nat.lt_of_lt_of_le Br_2.lt l3); have nao : ba ≠ bo := Nat.ne_of_lt (Nat.lt_of_lt_of_le Ba_2.lt l3); have Br_3 := Br_2.keep k3; have Ba_3 := Ba_2.keep k3; have Hw3 := bq_trans Hw2 k3; clear l3 k3 Br_2 Ba_2 Hw2)
    | (refine wl_load 60 2 _ Try.underlying60 rfl size60 _ rfl rfl _ rfl _ _ Br_3 rfl ?_)
    | (go_at_call 59; (with_reducible refine (HP.out _).mono ?_); rintro e W4 ⟨rfl, k4⟩; have Br_4 := Br_3.keep k4; have Ba_4 := Ba_3.keep k4; have Bo_4 := Bo_3.keep k4; have Hw4 := bq_trans Hw3 k4; clear k4 Br_3 Ba_3 Bo_3 Hw3)
    | (refine wl_alloc 60 _ zero60 rfl rfl ?_; intro W5 bj Bj_5 l5 k5; have gj : w.heap.size ≤ bj := Nat.le_trans Hw4.size l5; have nrj : br ≠ bj := Nat.ne_of_lt (Nat.lt_of_lt_of_le Br_4.lt l5); have naj : ba ≠ bj := Nat.ne_of_lt (Nat.lt_of_lt_of_le Ba_4.lt l5); have noj : bo ≠ bj := Nat.ne_of_lt (Nat.lt_of_lt_of_le Bo_4.lt l5); have Br_5 := Br_4.keep k5; have Ba_5 := Ba_4.keep k5; have Bo_5 := Bo_4.keep k5; have Hw5 := bq_trans Hw4 k5; clear l5 k5 Br_4 Ba_4 Bo_4 Hw4)
    | (refine wl_store 60 2 size60 _ _ rfl rfl _ rfl _ rfl _ _ Bj_5 rfl rfl (by kernel_rfl) ?_; intro W6 Bj_6 T6; have Br_6 := T6.blk Br_5 nrj; have Ba_6 := T6.blk Ba_5 naj; have Bo_6 := T6.blk Bo_5 noj; have Hw6 := T6.below Hw5 gj; clear T6 Br_5 Ba_5 Bo_5 Bj_5 Hw5))
  clear HP
  have HC7 : Hid (∀ w', But ba bo W6 w' → w'.cell? ⟨bj, 0, none⟩ = some (.string ys) ∧ w'.cell? ⟨bj, 1, none⟩ = some (.int .i64 ya)) := Lib.hid fun w' hw' => ⟨(Bj_6.but hw' (Ne.symm naj) (Ne.symm noj)).cell 0, (Bj_6.but hw' (Ne.symm naj) (Ne.symm noj)).cell 1⟩
  have hd7 : Below W6.heap.size W6 W6.drew := bq_drew (bq_refl W6)
  have da0 : W6.cell? ⟨ba, 0, none⟩ = some (.int .i64 0) := Ba_6.cell 0
  have fa0 := Ba_6.frozen 0
  have da1 : W6.cell? ⟨ba, 1, none⟩ = some (.int .i64 0) := Ba_6.cell 1
  have fa1 := Ba_6.frozen 1
  have da2 : W6.cell? ⟨ba, 2, none⟩ = some (.int .i64 0) := Ba_6.cell 2
  have fa2 := Ba_6.frozen 2
  have da3 : W6.cell? ⟨ba, 3, none⟩ = some (.int .i64 0) := Ba_6.cell 3
  have fa3 := Ba_6.frozen 3
  have do0 : W6.cell? ⟨bo, 0, none⟩ = some (.string ⟨#[]⟩) := Bo_6.cell 0
  have fo0 := Bo_6.frozen 0
  have do1 : W6.cell? ⟨bo, 1, none⟩ = some (.int .i64 0) := Bo_6.cell 1
  have fo1 := Bo_6.frozen 1
  have do2 : W6.cell? ⟨bo, 2, none⟩ = some (.int .i64 0) := Bo_6.cell 2
  have fo2 := Bo_6.frozen 2
  have na7 : ¬ ba = bo := nao
  have nb7 : ¬ bo = ba := Ne.symm nao
  have rj0 : W6.cell? ⟨bj, 0, none⟩ = some (.string ys) := Bj_6.cell 0
  have rj1 : W6.cell? ⟨bj, 1, none⟩ = some (.int .i64 ya) := Bj_6.cell 1
  go_region
  have Br_7 := (((((((Br_6.other (a := ⟨ba, 0, none⟩) (.int .i64 v0) nra).other (a := ⟨ba, 1, none⟩) (.int .i64 v1) nra).other (a := ⟨ba, 2, none⟩) (.int .i64 v2) nra).other (a := ⟨ba, 3, none⟩) (.int .i64 v3) nra).other (a := ⟨bo, 0, none⟩) (.string ys) nro).other (a := ⟨bo, 1, none⟩) (.int .i64 ya) nro).other (a := ⟨bo, 2, none⟩) (.int .i64 0) nro).drew
  have Ba_7 : Blk (((((((W6.setCell ⟨ba, 0, none⟩ (.int .i64 v0)).setCell ⟨ba, 1, none⟩ (.int .i64 v1)).setCell ⟨ba, 2, none⟩ (.int .i64 v2)).setCell ⟨ba, 3, none⟩ (.int .i64 v3)).setCell ⟨bo, 0, none⟩ (.string ys)).setCell ⟨bo, 1, none⟩ (.int .i64 ya)).setCell ⟨bo, 2, none⟩ (.int .i64 0)).drew ba (iA [v0, v1, v2, v3]) 32 := (((((((Ba_6.set 0 (.int .i64 v0)).set 1 (.int .i64 v1)).set 2 (.int .i64 v2)).set 3 (.int .i64 v3)).other (a := ⟨bo, 0, none⟩) (.string ys) nao).other (a := ⟨bo, 1, none⟩) (.int .i64 ya) nao).other (a := ⟨bo, 2, none⟩) (.int .i64 0) nao).drew
  have Bo_7 : Blk (((((((W6.setCell ⟨ba, 0, none⟩ (.int .i64 v0)).setCell ⟨ba, 1, none⟩ (.int .i64 v1)).setCell ⟨ba, 2, none⟩ (.int .i64 v2)).setCell ⟨ba, 3, none⟩ (.int .i64 v3)).setCell ⟨bo, 0, none⟩ (.string ys)).setCell ⟨bo, 1, none⟩ (.int .i64 ya)).setCell ⟨bo, 2, none⟩ (.int .i64 0)).drew bo #[.string ys, .int .i64 ya, .int .i64 0] 62 := (((((((Bo_6.other (a := ⟨ba, 0, none⟩) (.int .i64 v0) (Ne.symm nao)).other (a := ⟨ba, 1, none⟩) (.int .i64 v1) (Ne.symm nao)).other (a := ⟨ba, 2, none⟩) (.int .i64 v2) (Ne.symm nao)).other (a := ⟨ba, 3, none⟩) (.int .i64 v3) (Ne.symm nao)).set 0 (.string ys)).set 1 (.int .i64 ya)).set 2 (.int .i64 0)).drew
  have Bj_7 := (((((((Bj_6.other (a := ⟨ba, 0, none⟩) (.int .i64 v0) (Ne.symm naj)).other (a := ⟨ba, 1, none⟩) (.int .i64 v1) (Ne.symm naj)).other (a := ⟨ba, 2, none⟩) (.int .i64 v2) (Ne.symm naj)).other (a := ⟨ba, 3, none⟩) (.int .i64 v3) (Ne.symm naj)).other (a := ⟨bo, 0, none⟩) (.string ys) (Ne.symm noj)).other (a := ⟨bo, 1, none⟩) (.int .i64 ya) (Ne.symm noj)).other (a := ⟨bo, 2, none⟩) (.int .i64 0) (Ne.symm noj)).drew
  have Hw7 : Below w.heap.size w (((((((W6.setCell ⟨ba, 0, none⟩ (.int .i64 v0)).setCell ⟨ba, 1, none⟩ (.int .i64 v1)).setCell ⟨ba, 2, none⟩ (.int .i64 v2)).setCell ⟨ba, 3, none⟩ (.int .i64 v3)).setCell ⟨bo, 0, none⟩ (.string ys)).setCell ⟨bo, 1, none⟩ (.int .i64 ya)).setCell ⟨bo, 2, none⟩ (.int .i64 0)).drew := bq_drew (bq_set (bq_set (bq_set (bq_set (bq_set (bq_set (bq_set Hw6 ⟨ba, 0, none⟩ ga (.int .i64 v0)) ⟨ba, 1, none⟩ ga (.int .i64 v1)) ⟨ba, 2, none⟩ ga (.int .i64 v2)) ⟨ba, 3, none⟩ ga (.int .i64 v3)) ⟨bo, 0, none⟩ go (.string ys)) ⟨bo, 1, none⟩ go (.int .i64 ya)) ⟨bo, 2, none⟩ go (.int .i64 0))
  clear HC7 hd7 da0 fa0 da1 fa1 da2 fa2 da3 fa3 do0 fo0 do1 fo1 do2 fo2 na7 nb7 rj0 rj1 Br_6 Ba_6 Bo_6 Bj_6 Hw6 
  generalize (((((((W6.setCell ⟨ba, 0, none⟩ (.int .i64 v0)).setCell ⟨ba, 1, none⟩ (.int .i64 v1)).setCell ⟨ba, 2, none⟩ (.int .i64 v2)).setCell ⟨ba, 3, none⟩ (.int .i64 v3)).setCell ⟨bo, 0, none⟩ (.string ys)).setCell ⟨bo, 1, none⟩ (.int .i64 ya)).setCell ⟨bo, 2, none⟩ (.int .i64 0)).drew = W7 at Br_7 Ba_7 Bo_7 Bj_7 Hw7  ⊢
  go_wp2
  exact post_cell2 Try.underlying32 rfl size32z Try.underlying62 rfl size62 Try.results34 Ba_7 rfl Bo_7 rfl rfl rfl rfl ⟨rfl, Hw7⟩
end Go.Proofs.Ytfaipbdkkkhacaa
/- Layer 7: the document's takes. -/
namespace Go.Proofs.Ytfaipbdkkkhacaa
open Go.RowKit
set_option linter.unusedVariables false

theorem sev_beg (s : ByteArray) (a h : Int) (k : Nat) : (RS.begR s a).sevL h k = (RS.begP s a).sevL h k ∧ (RS.begR s a).sevS h k = (RS.begP s a).sevS h k := by
  unfold RS.sevL RS.sevS
  rw [(RS.beg_eq s a h).1, (RS.beg_eq s a h).2]
  exact ⟨rfl, rfl⟩
theorem begR_size (s : ByteArray) (a : Int) (hs : s.size ≤ 1000000) : (RS.begR s a).s.size ≤ 1000000 := by
  unfold RS.begR
  split
  · exact hs
  · exact Nat.zero_le _
theorem ne_zero_iff {e : Int} (h : (e != 0) = true) : ¬ e = 0 := by rw [bne_iff_ne] at h; exact h
theorem eq_zero_iff {e : Int} (h : (e != 0) = false) : e = 0 := by
  rw [bne_eq_false_iff_eq] at h; exact h
theorem rtakerect_any (s : ByteArray) (a : Int) (w : World) (hs : s.size ≤ 1000000) :
    Calls Try.prog 30 #[.agg #[.string s, .int .i64 a]] w fun e w' => e = .returned (.tuple #[.agg (iA (rectV (RS.begP s a))), .agg (rectS (RS.begP s a)).cells]) ∧ Below w.heap.size w w' := by
  have HG := Lib.hid (fun W => rbegin_any s a W hs)
  have hx : (RS.begP s a).s.size ≤ 1000000 := hs
  have HS0 := fun W => several_any (RS.begR s a) 5 4 W (begR_size s a hs) (by omega)
  rw [(sev_beg s a 5 4).1, (sev_beg s a 5 4).2] at HS0
  generalize RS.begP s a = x at *
  obtain ⟨l0, l1, l2, l3, hl⟩ := list4 _ (sevL_len x 5 4)
  obtain ⟨e0, e1, e2, e3, hv⟩ := list4 _ (rectV_len x)
  rw [hl] at HS0
  have HR := Lib.hid (fun W => refrect_any l0 l1 l2 l3 W)
  have er : rectS x = (x.sevS 5 4).fin (rectOk l0 l1 l2 l3) := by unfold rectS; rw [hl]; rfl
  have HD : Hid (∀ W, Calls Try.prog 57 #[.agg #[.string (x.sevS 5 4).s, .int .i64 (x.sevS 5 4).a, .int .i64 (x.sevS 5 4).e], .bool (rectOk l0 l1 l2 l3)] W fun e w' => e = .returned (.agg #[.string (rectS x).s, .int .i64 (rectS x).a, .int .i64 (rectS x).e]) ∧ Below W.heap.size W w') := Lib.hid fun W => by
    rw [er]
    exact rdone_any (x.sevS 5 4) (rectOk l0 l1 l2 l3) W (sevS_size x 5 4 hx)
  have E0 : Hid (((rectS x).e != 0) = true → [e0, e1, e2, e3] = [0, 0, 0, 0]) := Lib.hid fun h => by rw [← hv]; unfold rectV; rw [if_neg (ne_zero_iff h)]
  have E1 : Hid (((rectS x).e != 0) = false → [e0, e1, e2, e3] = [l0, l1, l2, l3]) := Lib.hid fun h => by rw [← hv, ← hl]; unfold rectV; rw [if_pos (eq_zero_iff h)]
  rw [hv]
  exact rtakerect_walk s a l0 l1 l2 l3 e0 e1 e2 e3 _ _ (rectS x) _ w HG (Lib.hid HS0) HR HD E0 E1
theorem bit_cases (x : RS) : x.pl 1 = 0 ∨ x.pl 1 = 1 := by
  have h := RS.pl_bd x 1
  have h2 := h.2.2 (by omega)
  have : B.P2 (1 : Int).toNat = 2 := rfl
  omega
theorem rtakematrix_any (s : ByteArray) (a : Int) (w : World) (hs : s.size ≤ 1000000) :
    Calls Try.prog 32 #[.agg #[.string s, .int .i64 a]] w fun e w' => e = .returned (.tuple #[.agg (iA (matV (RS.begP s a))), .agg (matS (RS.begP s a)).cells]) ∧ Below w.heap.size w w' := by
  have HG := Lib.hid (fun W => rbegin_any s a W hs)
  have hx : (RS.begP s a).s.size ≤ 1000000 := hs
  have HP0 := fun W => rplain_any (RS.begR s a) 1 W (begR_size s a hs)
  rw [(RS.beg_eq s a 1).1, (RS.beg_eq s a 1).2] at HP0
  have P1 := Lib.hid HP0
  generalize RS.begP s a = x at *
  obtain ⟨e0, e1, e2, e3, e4, e5, hv⟩ := list6 _ (matV_len x)
  have hx1 := RS.go_size x 1 hx
  have hx2 := mx2_size x hx
  have hx3 := RS.go_size (mx2 x) 1 hx2
  have hx4 := mx2_size (mx2 x) hx2
  have S1 := Lib.hid (fun W => several_any (x.go 1) 5 2 W hx1 (by omega))
  have P2 := Lib.hid (fun W => rplain_any (mx2 x) 1 W hx2)
  have S2 := Lib.hid (fun W => several_any ((mx2 x).go 1) 5 2 W hx3 (by omega))
  have S3 : Hid (∀ W, Calls Try.prog 55 #[.agg (mx2 (mx2 x)).cells, .int .i64 5, .int .i64 2] W fun e w' => ∃ g, e = .returned (.tuple #[.slice (some ⟨g, 0, none⟩) 2 2, .agg (mx5 x).cells]) ∧ Blk w' g (iA [((mx2 (mx2 x)).go 5).sg ((mx2 (mx2 x)).pl 5), (((mx2 (mx2 x)).go 5).go ((mx2 (mx2 x)).pl 5)).sg ((mx2 (mx2 x)).pl 5)]) 3 ∧ W.heap.size ≤ g ∧ Below W.heap.size W w') := Lib.hid fun W => several_any (mx2 (mx2 x)) 5 2 W hx4 (by omega)
  have hx5 : (mx5 x).s.size ≤ 1000000 := sevS_size _ 5 2 hx4
  have E0 : Hid (((matS x).e != 0) = true → [e0, e1, e2, e3, e4, e5] = [0, 0, 0, 0, 0, 0]) := Lib.hid fun h => by rw [← hv]; unfold matV; rw [if_neg (ne_zero_iff h)]
  have E1' : ((matS x).e != 0) = false → [e0, e1, e2, e3, e4, e5] = matL x := fun h => by rw [← hv]; unfold matV; rw [if_pos (eq_zero_iff h)]
  rw [hv]
  cases q1 : mB1 x <;> cases q2 : mB1 (mx2 x)
  · have EA : mAD x = [65536, 65536] := if_neg (by rw [q1]; decide)
    have EX : mx2 x = x.go 1 := if_neg (by rw [q1]; decide)
    have EB : mBC (mx2 x) = [0, 0] := if_neg (by rw [q2]; decide)
    have EY : mx2 (mx2 x) = (mx2 x).go 1 := if_neg (by rw [q2]; decide)
    have hl : matL x = [65536, 0, 0, 65536, ((mx2 (mx2 x)).go 5).sg ((mx2 (mx2 x)).pl 5), (((mx2 (mx2 x)).go 5).go ((mx2 (mx2 x)).pl 5)).sg ((mx2 (mx2 x)).pl 5)] := by unfold matL; rw [EA, EB]; rfl
    have HR := Lib.hid (fun W => refmatrix_any (65536) (0) (0) (65536) (((mx2 (mx2 x)).go 5).sg ((mx2 (mx2 x)).pl 5)) ((((mx2 (mx2 x)).go 5).go ((mx2 (mx2 x)).pl 5)).sg ((mx2 (mx2 x)).pl 5)) W)
    have er : matS x = (mx5 x).fin (matOk (65536) (0) (0) (65536) (((mx2 (mx2 x)).go 5).sg ((mx2 (mx2 x)).pl 5)) ((((mx2 (mx2 x)).go 5).go ((mx2 (mx2 x)).pl 5)).sg ((mx2 (mx2 x)).pl 5))) := by unfold matS; rw [hl]; rfl
    have HD : Hid (∀ W, Calls Try.prog 57 #[.agg #[.string (mx5 x).s, .int .i64 (mx5 x).a, .int .i64 (mx5 x).e], .bool (matOk (65536) (0) (0) (65536) (((mx2 (mx2 x)).go 5).sg ((mx2 (mx2 x)).pl 5)) ((((mx2 (mx2 x)).go 5).go ((mx2 (mx2 x)).pl 5)).sg ((mx2 (mx2 x)).pl 5)))] W fun e w' => e = .returned (.agg #[.string (matS x).s, .int .i64 (matS x).a, .int .i64 (matS x).e]) ∧ Below W.heap.size W w') := Lib.hid fun W => by
      rw [er]
      exact rdone_any (mx5 x) _ W hx5
    rw [← EX] at P1
    rw [← EY] at P2
    exact rtakematrix_00 s a _ _ _ _ e0 e1 e2 e3 e4 e5 _ _ _ (mx5 x) (matS x) _ w q1 q2 HG P1 P2 S3 HR HD E0 (Lib.hid fun h => (E1' h).trans hl)
  · have EA : mAD x = [65536, 65536] := if_neg (by rw [q1]; decide)
    have EX : mx2 x = x.go 1 := if_neg (by rw [q1]; decide)
    have EB : mBC (mx2 x) = ((mx2 x).go 1).sevL 5 2 := if_pos q2
    have EY : mx2 (mx2 x) = ((mx2 x).go 1).sevS 5 2 := if_pos q2
    have hl : matL x = [65536, (((mx2 x).go 1).go 5).sg (((mx2 x).go 1).pl 5), ((((mx2 x).go 1).go 5).go (((mx2 x).go 1).pl 5)).sg (((mx2 x).go 1).pl 5), 65536, ((mx2 (mx2 x)).go 5).sg ((mx2 (mx2 x)).pl 5), (((mx2 (mx2 x)).go 5).go ((mx2 (mx2 x)).pl 5)).sg ((mx2 (mx2 x)).pl 5)] := by unfold matL; rw [EA, EB]; rfl
    have HR := Lib.hid (fun W => refmatrix_any (65536) ((((mx2 x).go 1).go 5).sg (((mx2 x).go 1).pl 5)) (((((mx2 x).go 1).go 5).go (((mx2 x).go 1).pl 5)).sg (((mx2 x).go 1).pl 5)) (65536) (((mx2 (mx2 x)).go 5).sg ((mx2 (mx2 x)).pl 5)) ((((mx2 (mx2 x)).go 5).go ((mx2 (mx2 x)).pl 5)).sg ((mx2 (mx2 x)).pl 5)) W)
    have er : matS x = (mx5 x).fin (matOk (65536) ((((mx2 x).go 1).go 5).sg (((mx2 x).go 1).pl 5)) (((((mx2 x).go 1).go 5).go (((mx2 x).go 1).pl 5)).sg (((mx2 x).go 1).pl 5)) (65536) (((mx2 (mx2 x)).go 5).sg ((mx2 (mx2 x)).pl 5)) ((((mx2 (mx2 x)).go 5).go ((mx2 (mx2 x)).pl 5)).sg ((mx2 (mx2 x)).pl 5))) := by unfold matS; rw [hl]; rfl
    have HD : Hid (∀ W, Calls Try.prog 57 #[.agg #[.string (mx5 x).s, .int .i64 (mx5 x).a, .int .i64 (mx5 x).e], .bool (matOk (65536) ((((mx2 x).go 1).go 5).sg (((mx2 x).go 1).pl 5)) (((((mx2 x).go 1).go 5).go (((mx2 x).go 1).pl 5)).sg (((mx2 x).go 1).pl 5)) (65536) (((mx2 (mx2 x)).go 5).sg ((mx2 (mx2 x)).pl 5)) ((((mx2 (mx2 x)).go 5).go ((mx2 (mx2 x)).pl 5)).sg ((mx2 (mx2 x)).pl 5)))] W fun e w' => e = .returned (.agg #[.string (matS x).s, .int .i64 (matS x).a, .int .i64 (matS x).e]) ∧ Below W.heap.size W w') := Lib.hid fun W => by
      rw [er]
      exact rdone_any (mx5 x) _ W hx5
    rw [← EX] at P1
    rw [← EY] at S2
    exact rtakematrix_01 s a _ _ _ _ _ _ e0 e1 e2 e3 e4 e5 _ _ _ _ (mx5 x) (matS x) _ w q1 q2 HG P1 P2 S2 S3 HR HD E0 (Lib.hid fun h => (E1' h).trans hl)
  · have EA : mAD x = (x.go 1).sevL 5 2 := if_pos q1
    have EX : mx2 x = (x.go 1).sevS 5 2 := if_pos q1
    have EB : mBC (mx2 x) = [0, 0] := if_neg (by rw [q2]; decide)
    have EY : mx2 (mx2 x) = (mx2 x).go 1 := if_neg (by rw [q2]; decide)
    have hl : matL x = [((x.go 1).go 5).sg ((x.go 1).pl 5), 0, 0, (((x.go 1).go 5).go ((x.go 1).pl 5)).sg ((x.go 1).pl 5), ((mx2 (mx2 x)).go 5).sg ((mx2 (mx2 x)).pl 5), (((mx2 (mx2 x)).go 5).go ((mx2 (mx2 x)).pl 5)).sg ((mx2 (mx2 x)).pl 5)] := by unfold matL; rw [EA, EB]; rfl
    have HR := Lib.hid (fun W => refmatrix_any (((x.go 1).go 5).sg ((x.go 1).pl 5)) (0) (0) ((((x.go 1).go 5).go ((x.go 1).pl 5)).sg ((x.go 1).pl 5)) (((mx2 (mx2 x)).go 5).sg ((mx2 (mx2 x)).pl 5)) ((((mx2 (mx2 x)).go 5).go ((mx2 (mx2 x)).pl 5)).sg ((mx2 (mx2 x)).pl 5)) W)
    have er : matS x = (mx5 x).fin (matOk (((x.go 1).go 5).sg ((x.go 1).pl 5)) (0) (0) ((((x.go 1).go 5).go ((x.go 1).pl 5)).sg ((x.go 1).pl 5)) (((mx2 (mx2 x)).go 5).sg ((mx2 (mx2 x)).pl 5)) ((((mx2 (mx2 x)).go 5).go ((mx2 (mx2 x)).pl 5)).sg ((mx2 (mx2 x)).pl 5))) := by unfold matS; rw [hl]; rfl
    have HD : Hid (∀ W, Calls Try.prog 57 #[.agg #[.string (mx5 x).s, .int .i64 (mx5 x).a, .int .i64 (mx5 x).e], .bool (matOk (((x.go 1).go 5).sg ((x.go 1).pl 5)) (0) (0) ((((x.go 1).go 5).go ((x.go 1).pl 5)).sg ((x.go 1).pl 5)) (((mx2 (mx2 x)).go 5).sg ((mx2 (mx2 x)).pl 5)) ((((mx2 (mx2 x)).go 5).go ((mx2 (mx2 x)).pl 5)).sg ((mx2 (mx2 x)).pl 5)))] W fun e w' => e = .returned (.agg #[.string (matS x).s, .int .i64 (matS x).a, .int .i64 (matS x).e]) ∧ Below W.heap.size W w') := Lib.hid fun W => by
      rw [er]
      exact rdone_any (mx5 x) _ W hx5
    rw [← EX] at S1
    rw [← EY] at P2
    exact rtakematrix_10 s a _ _ _ _ _ _ e0 e1 e2 e3 e4 e5 _ _ _ _ (mx5 x) (matS x) _ w q1 q2 HG P1 S1 P2 S3 HR HD E0 (Lib.hid fun h => (E1' h).trans hl)
  · have EA : mAD x = (x.go 1).sevL 5 2 := if_pos q1
    have EX : mx2 x = (x.go 1).sevS 5 2 := if_pos q1
    have EB : mBC (mx2 x) = ((mx2 x).go 1).sevL 5 2 := if_pos q2
    have EY : mx2 (mx2 x) = ((mx2 x).go 1).sevS 5 2 := if_pos q2
    have hl : matL x = [((x.go 1).go 5).sg ((x.go 1).pl 5), (((mx2 x).go 1).go 5).sg (((mx2 x).go 1).pl 5), ((((mx2 x).go 1).go 5).go (((mx2 x).go 1).pl 5)).sg (((mx2 x).go 1).pl 5), (((x.go 1).go 5).go ((x.go 1).pl 5)).sg ((x.go 1).pl 5), ((mx2 (mx2 x)).go 5).sg ((mx2 (mx2 x)).pl 5), (((mx2 (mx2 x)).go 5).go ((mx2 (mx2 x)).pl 5)).sg ((mx2 (mx2 x)).pl 5)] := by unfold matL; rw [EA, EB]; rfl
    have HR := Lib.hid (fun W => refmatrix_any (((x.go 1).go 5).sg ((x.go 1).pl 5)) ((((mx2 x).go 1).go 5).sg (((mx2 x).go 1).pl 5)) (((((mx2 x).go 1).go 5).go (((mx2 x).go 1).pl 5)).sg (((mx2 x).go 1).pl 5)) ((((x.go 1).go 5).go ((x.go 1).pl 5)).sg ((x.go 1).pl 5)) (((mx2 (mx2 x)).go 5).sg ((mx2 (mx2 x)).pl 5)) ((((mx2 (mx2 x)).go 5).go ((mx2 (mx2 x)).pl 5)).sg ((mx2 (mx2 x)).pl 5)) W)
    have er : matS x = (mx5 x).fin (matOk (((x.go 1).go 5).sg ((x.go 1).pl 5)) ((((mx2 x).go 1).go 5).sg (((mx2 x).go 1).pl 5)) (((((mx2 x).go 1).go 5).go (((mx2 x).go 1).pl 5)).sg (((mx2 x).go 1).pl 5)) ((((x.go 1).go 5).go ((x.go 1).pl 5)).sg ((x.go 1).pl 5)) (((mx2 (mx2 x)).go 5).sg ((mx2 (mx2 x)).pl 5)) ((((mx2 (mx2 x)).go 5).go ((mx2 (mx2 x)).pl 5)).sg ((mx2 (mx2 x)).pl 5))) := by unfold matS; rw [hl]; rfl
    have HD : Hid (∀ W, Calls Try.prog 57 #[.agg #[.string (mx5 x).s, .int .i64 (mx5 x).a, .int .i64 (mx5 x).e], .bool (matOk (((x.go 1).go 5).sg ((x.go 1).pl 5)) ((((mx2 x).go 1).go 5).sg (((mx2 x).go 1).pl 5)) (((((mx2 x).go 1).go 5).go (((mx2 x).go 1).pl 5)).sg (((mx2 x).go 1).pl 5)) ((((x.go 1).go 5).go ((x.go 1).pl 5)).sg ((x.go 1).pl 5)) (((mx2 (mx2 x)).go 5).sg ((mx2 (mx2 x)).pl 5)) ((((mx2 (mx2 x)).go 5).go ((mx2 (mx2 x)).pl 5)).sg ((mx2 (mx2 x)).pl 5)))] W fun e w' => e = .returned (.agg #[.string (matS x).s, .int .i64 (matS x).a, .int .i64 (matS x).e]) ∧ Below W.heap.size W w') := Lib.hid fun W => by
      rw [er]
      exact rdone_any (mx5 x) _ W hx5
    rw [← EX] at S1
    rw [← EY] at S2
    exact rtakematrix_11 s a _ _ _ _ _ _ _ _ e0 e1 e2 e3 e4 e5 _ _ _ _ _ (mx5 x) (matS x) _ w q1 q2 HG P1 S1 P2 S2 S3 HR HD E0 (Lib.hid fun h => (E1' h).trans hl)
theorem rtakecx_any (s : ByteArray) (a : Int) (w : World) (hs : s.size ≤ 1000000) :
    Calls Try.prog 33 #[.agg #[.string s, .int .i64 a]] w fun e w' => e = .returned (.tuple #[.agg (iA (cxV (RS.begP s a))), .agg (cxS (RS.begP s a)).cells]) ∧ Below w.heap.size w w' := by
  have HG := Lib.hid (fun W => rbegin_any s a W hs)
  have hx : (RS.begP s a).s.size ≤ 1000000 := hs
  have HP0 := fun W => rplain_any (RS.begR s a) 1 W (begR_size s a hs)
  rw [(RS.beg_eq s a 1).1, (RS.beg_eq s a 1).2] at HP0
  generalize RS.begP s a = x at *
  obtain ⟨e0, e1, e2, e3, e4, e5, e6, e7, hv⟩ := list8 _ (cxV_len x)
  obtain ⟨m0, m1, m2, m3, hm⟩ := list4 _ (cMs_len x)
  obtain ⟨d0, d1, d2, d3, hd⟩ := list4 _ (cDs_len x)
  have hx1 := RS.go_size x 1 hx
  have hx2 := RS.go_size (x.go 1) 1 hx1
  have hx5 := cx5_size x hx
  have HP1 := fun W => rplain_any (x.go 1) 1 W hx1
  have HS0 := fun N hN W => several_any ((x.go 1).go 1) 4 N W hx2 hN
  have HR : Hid (∀ W, Calls Try.prog 15 #[.agg #[.int .i64 m0, .int .i64 m1, .int .i64 m2, .int .i64 m3, .int .i64 d0, .int .i64 d1, .int .i64 d2, .int .i64 d3]] W fun e w' => e = .returned (.bool (cxOk [m0, m1, m2, m3] [d0, d1, d2, d3])) ∧ Below W.heap.size W w') := Lib.hid fun W => refcx_any [m0, m1, m2, m3] [d0, d1, d2, d3] W rfl rfl
  have er : cxS x = (cx5 x).fin (cxOk [m0, m1, m2, m3] [d0, d1, d2, d3]) := by unfold cxS; rw [hm, hd]
  have HD : Hid (∀ W, Calls Try.prog 57 #[.agg #[.string (cx5 x).s, .int .i64 (cx5 x).a, .int .i64 (cx5 x).e], .bool (cxOk [m0, m1, m2, m3] [d0, d1, d2, d3])] W fun e w' => e = .returned (.agg #[.string (cxS x).s, .int .i64 (cxS x).a, .int .i64 (cxS x).e]) ∧ Below W.heap.size W w') := Lib.hid fun W => by
    rw [er]
    exact rdone_any (cx5 x) _ W hx5
  have E0 : Hid (((cxS x).e != 0) = true → [e0, e1, e2, e3, e4, e5, e6, e7] = [0, 0, 0, 0, 0, 0, 0, 0]) := Lib.hid fun h => by rw [← hv]; unfold cxV; rw [if_neg (ne_zero_iff h)]
  have E1 : Hid (((cxS x).e != 0) = false → [e0, e1, e2, e3, e4, e5, e6, e7] = [m0, m1, m2, m3, d0, d1, d2, d3]) := Lib.hid fun h => by rw [← hv]; unfold cxV; rw [if_pos (eq_zero_iff h), hm, hd]; rfl
  rw [hv]
  cases q1 : cMu x <;> cases q2 : cAd x
  · have EM : cMs x = [256, 256, 256, 256] := if_neg (by rw [q1]; decide)
    have EX : cx4 x = cx3 x := if_neg (by rw [q1]; decide)
    have ED : cDs x = [0, 0, 0, 0] := if_neg (by rw [q2]; decide)
    have EY : cx5 x = cx4 x := if_neg (by rw [q2]; decide)
    have B1 : (x.go 1).pl 1 = 0 := by
      have h : ((x.go 1).pl 1 == 1) = false := q1
      rcases bit_cases (x.go 1) with h2 | h2
      · exact h2
      · rw [h2] at h; cases h
    have B2 : x.pl 1 = 0 := by
      have h : (x.pl 1 == 1) = false := q2
      rcases bit_cases x with h2 | h2
      · exact h2
      · rw [h2] at h; cases h
    rw [B2] at HP0
    rw [B1] at HP1
    have ES : ((x.go 1).go 1).sevS 4 0 = cx5 x := by
      rw [EY, EX]
      rfl
    have EL : ((x.go 1).go 1).sevL 4 0 = ([] : List Int) := by
      rfl
    have HS1 := HS0 0 (by omega)
    rw [ES, EL] at HS1
    rw [EM] at hm
    rw [ED] at hd
    simp only [List.cons.injEq, and_true] at hm
    obtain ⟨rfl, rfl, rfl, rfl⟩ := hm
    simp only [List.cons.injEq, and_true] at hd
    obtain ⟨rfl, rfl, rfl, rfl⟩ := hd
    exact rtakecx_00 s a e0 e1 e2 e3 e4 e5 e6 e7 _ _ _ (cx5 x) (cxS x) _ w HG (Lib.hid HP0) (Lib.hid HP1) (Lib.hid HS1) HR HD E0 E1
  · have EM : cMs x = [256, 256, 256, 256] := if_neg (by rw [q1]; decide)
    have EX : cx4 x = cx3 x := if_neg (by rw [q1]; decide)
    have ED : cDs x = (cx4 x).l (cN x) 4 := if_pos q2
    have EY : cx5 x = (cx4 x).on (cN x) 4 := if_pos q2
    have B1 : (x.go 1).pl 1 = 0 := by
      have h : ((x.go 1).pl 1 == 1) = false := q1
      rcases bit_cases (x.go 1) with h2 | h2
      · exact h2
      · rw [h2] at h; cases h
    have B2 : x.pl 1 = 1 := by
      have h : (x.pl 1 == 1) = true := q2
      rcases bit_cases x with h2 | h2
      · rw [h2] at h; cases h
      · exact h2
    rw [B2] at HP0
    rw [B1] at HP1
    have ES : ((x.go 1).go 1).sevS 4 4 = cx5 x := by
      rw [EY, EX]
      rfl
    have EL : ((x.go 1).go 1).sevL 4 4 = [d0, d1, d2, d3] := by
      rw [← hd, ED, EX]; rfl
    have HS1 := HS0 4 (by omega)
    rw [ES, EL] at HS1
    rw [EM] at hm
    rw [ED] at hd
    simp only [List.cons.injEq, and_true] at hm
    obtain ⟨rfl, rfl, rfl, rfl⟩ := hm
    exact rtakecx_01 s a d0 d1 d2 d3 e0 e1 e2 e3 e4 e5 e6 e7 _ _ _ (cx5 x) (cxS x) _ w HG (Lib.hid HP0) (Lib.hid HP1) (Lib.hid HS1) HR HD E0 E1
  · have EM : cMs x = (cx3 x).l (cN x) 4 := if_pos q1
    have EX : cx4 x = (cx3 x).on (cN x) 4 := if_pos q1
    have ED : cDs x = [0, 0, 0, 0] := if_neg (by rw [q2]; decide)
    have EY : cx5 x = cx4 x := if_neg (by rw [q2]; decide)
    have B1 : (x.go 1).pl 1 = 1 := by
      have h : ((x.go 1).pl 1 == 1) = true := q1
      rcases bit_cases (x.go 1) with h2 | h2
      · rw [h2] at h; cases h
      · exact h2
    have B2 : x.pl 1 = 0 := by
      have h : (x.pl 1 == 1) = false := q2
      rcases bit_cases x with h2 | h2
      · exact h2
      · rw [h2] at h; cases h
    rw [B2] at HP0
    rw [B1] at HP1
    have ES : ((x.go 1).go 1).sevS 4 4 = cx5 x := by
      rw [EY, EX]
      rfl
    have EL : ((x.go 1).go 1).sevL 4 4 = [m0, m1, m2, m3] := by
      rw [← hm, EM]; rfl
    have HS1 := HS0 4 (by omega)
    rw [ES, EL] at HS1
    rw [EM] at hm
    rw [ED] at hd
    simp only [List.cons.injEq, and_true] at hd
    obtain ⟨rfl, rfl, rfl, rfl⟩ := hd
    exact rtakecx_10 s a m0 m1 m2 m3 e0 e1 e2 e3 e4 e5 e6 e7 _ _ _ (cx5 x) (cxS x) _ w HG (Lib.hid HP0) (Lib.hid HP1) (Lib.hid HS1) HR HD E0 E1
  · have EM : cMs x = (cx3 x).l (cN x) 4 := if_pos q1
    have EX : cx4 x = (cx3 x).on (cN x) 4 := if_pos q1
    have ED : cDs x = (cx4 x).l (cN x) 4 := if_pos q2
    have EY : cx5 x = (cx4 x).on (cN x) 4 := if_pos q2
    have B1 : (x.go 1).pl 1 = 1 := by
      have h : ((x.go 1).pl 1 == 1) = true := q1
      rcases bit_cases (x.go 1) with h2 | h2
      · rw [h2] at h; cases h
      · exact h2
    have B2 : x.pl 1 = 1 := by
      have h : (x.pl 1 == 1) = true := q2
      rcases bit_cases x with h2 | h2
      · rw [h2] at h; cases h
      · exact h2
    rw [B2] at HP0
    rw [B1] at HP1
    have ES : ((x.go 1).go 1).sevS 4 8 = cx5 x := by
      rw [EY, EX]
      exact RS.on_add (cx3 x) (cN x) 4 4
    have EL : ((x.go 1).go 1).sevL 4 8 = [m0, m1, m2, m3, d0, d1, d2, d3] := by
      rw [show ((x.go 1).go 1).sevL 4 8 = cMs x ++ cDs x from by rw [EM, ED, EX]; exact RS.l_add (cx3 x) (cN x) 4 4, hm, hd]; rfl
    have HS1 := HS0 8 (by omega)
    rw [ES, EL] at HS1
    rw [EM] at hm
    rw [ED] at hd
    exact rtakecx_11 s a m0 m1 m2 m3 d0 d1 d2 d3 e0 e1 e2 e3 e4 e5 e6 e7 _ _ _ (cx5 x) (cxS x) _ w HG (Lib.hid HP0) (Lib.hid HP1) (Lib.hid HS1) HR HD E0 E1
theorem bytes4 (t : ByteArray) (h : t.size = 4) : ∃ c0 c1 c2 c3 : UInt8, t = ⟨#[c0, c1, c2, c3]⟩ := by
  obtain ⟨d⟩ := t
  obtain ⟨l⟩ := d
  match l, h with
  | [c0, c1, c2, c3], _ => exact ⟨c0, c1, c2, c3, rfl⟩
theorem by4_size (s : ByteArray) (a : Int) (h : byE s.size a 4 = 0) : (byB s a 4).size = 4 := by
  unfold byB
  rw [if_pos h]
  unfold byE at h
  split at h
  · split at h
    · cases h
    · rw [ByteArray.size_extract]
      have : (4 : Int).toNat = 4 := rfl
      omega
  · cases h
theorem by_err (s : ByteArray) (a : Int) (h : ¬ byE s.size a 4 = 0) : byS s a 4 = ⟨#[]⟩ ∧ byA s a 4 = 0 := ⟨if_neg h, if_neg h⟩
theorem takergba_any (s : ByteArray) (a : Int) (w : World) (hs : s.size ≤ 1000000) :
    Calls Try.prog 29 #[.agg #[.string s, .int .i64 a]] w fun e w' => e = .returned (.tuple #[.agg (iA (rgV s a)), .agg #[.string (byS s a 4), .int .i64 (byA s a 4)], .int .i64 (byE s.size a 4)]) ∧ Below w.heap.size w w' := by
  have HP0 := fun W => bytes_any s a 4 W (by omega)
  unfold byR at HP0
  by_cases h : byE s.size a 4 = 0
  · obtain ⟨c0, c1, c2, c3, ht⟩ := bytes4 _ (by4_size s a h)
    have hv : rgV s a = [(c0.toNat : Int), (c1.toNat : Int), (c2.toNat : Int), (c3.toNat : Int)] := by unfold rgV; rw [if_pos h, ht]; rfl
    rw [ht, h] at HP0
    rw [hv, h]
    have b := fun c : UInt8 => (show 0 ≤ (c.toNat : Int) ∧ (c.toNat : Int) ≤ 255 by have := c.toNat_lt; omega)
    exact takergba_ok s _ _ a _ _ _ _ _ w (b c0) (b c1) (b c2) (b c3) (fun W => by kernel_rfl) (fun W => by kernel_rfl) (fun W => by kernel_rfl) (fun W => by kernel_rfl) (Lib.hid HP0)
  · have hv : rgV s a = [0, 0, 0, 0] := if_neg h
    rw [hv, (by_err s a h).1, (by_err s a h).2]
    exact takergba_err s _ _ a _ _ w (by rw [bne_iff_ne]; exact h) (Lib.hid HP0)
theorem rtakergba_any (s : ByteArray) (a : Int) (w : World) (hs : s.size ≤ 1000000) :
    Calls Try.prog 34 #[.agg #[.string s, .int .i64 a]] w fun e w' => e = .returned (.tuple #[.agg (iA (rgV s a)), .agg #[.string (byS s a 4), .int .i64 (byA s a 4), .int .i64 (byE s.size a 4)]]) ∧ Below w.heap.size w w' := by
  have HP0 := fun W => refbytes_any s a 4 W (by omega)
  unfold byR at HP0
  by_cases h : byE s.size a 4 = 0
  · obtain ⟨c0, c1, c2, c3, ht⟩ := bytes4 _ (by4_size s a h)
    have hv : rgV s a = [(c0.toNat : Int), (c1.toNat : Int), (c2.toNat : Int), (c3.toNat : Int)] := by unfold rgV; rw [if_pos h, ht]; rfl
    rw [ht, h] at HP0
    rw [hv, h]
    have b := fun c : UInt8 => (show 0 ≤ (c.toNat : Int) ∧ (c.toNat : Int) ≤ 255 by have := c.toNat_lt; omega)
    exact rtakergba_ok s _ _ a _ _ _ _ _ w (b c0) (b c1) (b c2) (b c3) (fun W => by kernel_rfl) (fun W => by kernel_rfl) (fun W => by kernel_rfl) (fun W => by kernel_rfl) (Lib.hid HP0)
  · have hv : rgV s a = [0, 0, 0, 0] := if_neg h
    rw [hv, (by_err s a h).1, (by_err s a h).2]
    exact rtakergba_err s _ _ a _ _ w (by rw [bne_iff_ne]; exact h) (Lib.hid HP0)
end Go.Proofs.Ytfaipbdkkkhacaa
