import Derived.Test.YthlnjipefeglpaaZU7
import Derived.Deep.RegionHeld3
import Derived.BigRegion
import Derived.Test.YthlnjipefeglpaaZU6
namespace Go.Proofs.Ythlnjipefeglpaa
open Go.RowKit
set_option linter.unusedVariables false
theorem size27e : (Try.prog.info? 25).map (·.size) = some 6 := by kernel_rfl
theorem zero27e (w : World) : (zeroValue 25).run Try.prog w = .ok (.agg (iA [0, 0, 0, 0, 0, 0])) w := Try.zeroValue25 w
theorem sets6 (v0 v1 v2 v3 v4 v5 : Int) : (((((((iA [0, 0, 0, 0, 0, 0]).setIfInBounds 0 (.int .i64 v0)).setIfInBounds 1 (.int .i64 v1)).setIfInBounds 2 (.int .i64 v2)).setIfInBounds 3 (.int .i64 v3)).setIfInBounds 4 (.int .i64 v4)).setIfInBounds 5 (.int .i64 v5)) = iA [v0, v1, v2, v3, v4, v5] := by kernel_rfl
set_option maxHeartbeats 1000000 in
theorem endmatrix_err (xs : ByteArray) (xa xe v0 v1 v2 v3 v4 v5 : Int) (q : Bool) (w : World) (bt : Nat) (he : (xe == 0) = false) (he2 : (xe != 0) = true) (Bt : Blk w bt #[.string xs, .int .i64 xa, .int .i64 xe] 141) :
    Calls Try.prog 80 #[.pointer (some ⟨bt, 0, none⟩), .agg (iA [v0, v1, v2, v3, v4, v5]), .bool q] w fun e w' => e = .returned (.tuple #[.agg (iA [0, 0, 0, 0, 0, 0]), .agg #[.string ⟨#[]⟩, .int .i64 0], .int .i64 xe]) ∧ Below w.heap.size w w' := by
  go_enter Try.func80, Try.ntmps80
  go_wp2_with (first
    | (refine wl_box 25 _ _ rfl rfl (show _ = Value.agg (iA [v0, v1, v2, v3, v4, v5]) from rfl) ?_; intro W1 bv Bv_1 l1 k1; have gv : w.heap.size ≤ bv := l1; have ntv : bt ≠ bv := Nat.ne_of_lt (Nat.lt_of_lt_of_le Bt.lt l1); have Bt_1 := Bt.keep k1; have Hw1 := k1; clear l1 k1 Bt)
    | (refine wl_alloc 25 _ zero27e rfl rfl ?_; intro W2 br Br_2 l2 k2; have gr : w.heap.size ≤ br := Nat.le_trans Hw1.size l2; have ntr : bt ≠ br := Nat.ne_of_lt (Nat.lt_of_lt_of_le Bt_1.lt l2); have nvr : bv ≠ br := Nat.ne_of_lt (Nat.lt_of_lt_of_le Bv_1.lt l2); have Bt_2 := Bt_1.keep k2; have Bv_2 := Bv_1.keep k2; have Hw2 := bq_trans Hw1 k2; clear l2 k2 Bt_1 Bv_1 Hw1)
    | (refine wl_alloc 46 _ zero51 rfl rfl ?_; intro W3 bo Bo_3 l3 k3; have go : w.heap.size ≤ bo := Nat.le_trans Hw2.size l3; have nto : bt ≠ bo := Nat.ne_of_lt (Nat.lt_of_lt_of_le Bt_2.lt l3); have nvo : bv ≠ bo := Nat.ne_of_lt (Nat.lt_of_lt_of_le Bv_2.lt l3); have nro : br ≠ bo := Nat.ne_of_lt (Nat.lt_of_lt_of_le Br_2.lt l3); have Bt_3 := Bt_2.keep k3; have Bv_3 := Bv_2.keep k3; have Br_3 := Br_2.keep k3; have Hw3 := bq_trans Hw2 k3; clear l3 k3 Bt_2 Bv_2 Br_2 Hw2; have ct_2_3 : W3.cell? ⟨bt, 2, none⟩ = some (.int .i64 xe) := Bt_3.cell 2)
    | (refine wl_alloc 25 _ zero27e rfl rfl ?_; intro W4 bn Bn_4 l4 k4; have gn : w.heap.size ≤ bn := Nat.le_trans Hw3.size l4; have ntn : bt ≠ bn := Nat.ne_of_lt (Nat.lt_of_lt_of_le Bt_3.lt l4); have nvn : bv ≠ bn := Nat.ne_of_lt (Nat.lt_of_lt_of_le Bv_3.lt l4); have nrn : br ≠ bn := Nat.ne_of_lt (Nat.lt_of_lt_of_le Br_3.lt l4); have non : bo ≠ bn := Nat.ne_of_lt (Nat.lt_of_lt_of_le Bo_3.lt l4); have Bt_4 := Bt_3.keep k4; have Bv_4 := Bv_3.keep k4; have Br_4 := Br_3.keep k4; have Bo_4 := Bo_3.keep k4; have Hw4 := bq_trans Hw3 k4; clear l4 k4 Bt_3 Bv_3 Br_3 Bo_3 ct_2_3 Hw3)
    | (refine wl_load 25 6 _ Try.underlying25 rfl size27e _ rfl rfl _ rfl _ _ Bn_4 rfl ?_)
    | (refine wl_store 25 6 size27e _ _ rfl rfl _ rfl _ rfl _ _ Br_4 rfl rfl (by kernel_rfl) ?_; intro W5 Br_5 T5; have Bt_5 := T5.blk Bt_4 ntr; have Bv_5 := T5.blk Bv_4 nvr; have Bo_5 := T5.blk Bo_4 (Ne.symm nro); have Bn_5 := T5.blk Bn_4 (Ne.symm nrn); have Hw5 := T5.below Hw4 gr; clear T5 Bt_4 Bv_4 Bo_4 Bn_4 Br_4 Hw4)
    | (refine wl_store 46 2 size51 _ _ rfl rfl _ rfl #[.string ⟨#[]⟩, .int .i64 0] rfl _ _ Bo_5 rfl rfl (by kernel_rfl) ?_; intro W6 Bo_6 T6; have Bt_6 := T6.blk Bt_5 nto; have Bv_6 := T6.blk Bv_5 nvo; have Br_6 := T6.blk Br_5 nro; have Bn_6 := T6.blk Bn_5 (Ne.symm non); have Hw6 := T6.below Hw5 go; clear T6 Bt_5 Bv_5 Br_5 Bn_5 Bo_5 Hw5))
  exact post_cell2_tmp (v := .int .i64 xe) Try.underlying25 rfl size27e Try.underlying46 rfl size51 Try.results80 Br_6 rfl Bo_6 rfl rfl rfl rfl rfl ⟨rfl, Hw6⟩
set_option maxHeartbeats 1000000 in
theorem endmatrix_not (xs : ByteArray) (xa v0 v1 v2 v3 v4 v5 : Int)  (w : World) (bt : Nat)  (Bt : Blk w bt #[.string xs, .int .i64 xa, .int .i64 0] 141) :
    Calls Try.prog 80 #[.pointer (some ⟨bt, 0, none⟩), .agg (iA [v0, v1, v2, v3, v4, v5]), .bool false] w fun e w' => e = .returned (.tuple #[.agg (iA [0, 0, 0, 0, 0, 0]), .agg #[.string ⟨#[]⟩, .int .i64 0], .int .i64 3]) ∧ Below w.heap.size w w' := by
  go_enter Try.func80, Try.ntmps80
  go_wp2_with (first
    | (refine wl_box 25 _ _ rfl rfl (show _ = Value.agg (iA [v0, v1, v2, v3, v4, v5]) from rfl) ?_; intro W1 bv Bv_1 l1 k1; have gv : w.heap.size ≤ bv := l1; have ntv : bt ≠ bv := Nat.ne_of_lt (Nat.lt_of_lt_of_le Bt.lt l1); have Bt_1 := Bt.keep k1; have Hw1 := k1; clear l1 k1 Bt)
    | (refine wl_alloc 25 _ zero27e rfl rfl ?_; intro W2 br Br_2 l2 k2; have gr : w.heap.size ≤ br := Nat.le_trans Hw1.size l2; have ntr : bt ≠ br := Nat.ne_of_lt (Nat.lt_of_lt_of_le Bt_1.lt l2); have nvr : bv ≠ br := Nat.ne_of_lt (Nat.lt_of_lt_of_le Bv_1.lt l2); have Bt_2 := Bt_1.keep k2; have Bv_2 := Bv_1.keep k2; have Hw2 := bq_trans Hw1 k2; clear l2 k2 Bt_1 Bv_1 Hw1)
    | (refine wl_alloc 46 _ zero51 rfl rfl ?_; intro W3 bo Bo_3 l3 k3; have go : w.heap.size ≤ bo := Nat.le_trans Hw2.size l3; have nto : bt ≠ bo := Nat.ne_of_lt (Nat.lt_of_lt_of_le Bt_2.lt l3); have nvo : bv ≠ bo := Nat.ne_of_lt (Nat.lt_of_lt_of_le Bv_2.lt l3); have nro : br ≠ bo := Nat.ne_of_lt (Nat.lt_of_lt_of_le Br_2.lt l3); have Bt_3 := Bt_2.keep k3; have Bv_3 := Bv_2.keep k3; have Br_3 := Br_2.keep k3; have Hw3 := bq_trans Hw2 k3; clear l3 k3 Bt_2 Bv_2 Br_2 Hw2; have ct_2_3 : W3.cell? ⟨bt, 2, none⟩ = some (.int .i64 0) := Bt_3.cell 2)
    | (refine wl_alloc 25 _ zero27e rfl rfl ?_; intro W4 bn Bn_4 l4 k4; have gn : w.heap.size ≤ bn := Nat.le_trans Hw3.size l4; have ntn : bt ≠ bn := Nat.ne_of_lt (Nat.lt_of_lt_of_le Bt_3.lt l4); have nvn : bv ≠ bn := Nat.ne_of_lt (Nat.lt_of_lt_of_le Bv_3.lt l4); have nrn : br ≠ bn := Nat.ne_of_lt (Nat.lt_of_lt_of_le Br_3.lt l4); have non : bo ≠ bn := Nat.ne_of_lt (Nat.lt_of_lt_of_le Bo_3.lt l4); have Bt_4 := Bt_3.keep k4; have Bv_4 := Bv_3.keep k4; have Br_4 := Br_3.keep k4; have Bo_4 := Bo_3.keep k4; have Hw4 := bq_trans Hw3 k4; clear l4 k4 Bt_3 Bv_3 Br_3 Bo_3 ct_2_3 Hw3)
    | (refine wl_load 25 6 _ Try.underlying25 rfl size27e _ rfl rfl _ rfl _ _ Bn_4 rfl ?_)
    | (refine wl_store 25 6 size27e _ _ rfl rfl _ rfl _ rfl _ _ Br_4 rfl rfl (by kernel_rfl) ?_; intro W5 Br_5 T5; have Bt_5 := T5.blk Bt_4 ntr; have Bv_5 := T5.blk Bv_4 nvr; have Bo_5 := T5.blk Bo_4 (Ne.symm nro); have Bn_5 := T5.blk Bn_4 (Ne.symm nrn); have Hw5 := T5.below Hw4 gr; clear T5 Bt_4 Bv_4 Bo_4 Bn_4 Br_4 Hw4)
    | (refine wl_store 46 2 size51 _ _ rfl rfl _ rfl #[.string ⟨#[]⟩, .int .i64 0] rfl _ _ Bo_5 rfl rfl (by kernel_rfl) ?_; intro W6 Bo_6 T6; have Bt_6 := T6.blk Bt_5 nto; have Bv_6 := T6.blk Bv_5 nvo; have Br_6 := T6.blk Br_5 nro; have Bn_6 := T6.blk Bn_5 (Ne.symm non); have Hw6 := T6.below Hw5 go; clear T6 Bt_5 Bv_5 Br_5 Bn_5 Bo_5 Hw5))
  exact post_cell2_tmp (v := .int .i64 3) Try.underlying25 rfl size27e Try.underlying46 rfl size51 Try.results80 Br_6 rfl Bo_6 rfl rfl rfl rfl rfl ⟨rfl, Hw6⟩
set_option maxHeartbeats 2000000 in
theorem endmatrix_ok (xs : ByteArray) (xa ya v0 v1 v2 v3 v4 v5 : Int) (w : World) (bt : Nat) (hs : xs.size ≤ 1000000) (hya : alA xs.size xa = ya) (Bt : Blk w bt #[.string xs, .int .i64 xa, .int .i64 0] 141) :
    Calls Try.prog 80 #[.pointer (some ⟨bt, 0, none⟩), .agg (iA [v0, v1, v2, v3, v4, v5]), .bool true] w fun e w' => e = .returned (.tuple #[.agg (iA [v0, v1, v2, v3, v4, v5]), .agg #[.string xs, .int .i64 ya], .int .i64 0]) ∧ Below w.heap.size w w' := by
  have HA : Hid (∀ W0 W, Below W0.heap.size W0 W → Calls Try.prog 90 #[.agg #[.string xs, .int .i64 xa]] W fun e w' => e = .returned (.agg #[.string xs, .int .i64 ya]) ∧ Below W0.heap.size W0 w') := Lib.hid fun W0 W hW => by
    rw [← hya]
    exact (align_any xs xa W (by omega)).mono fun e w' ⟨h1, h2⟩ => ⟨h1, bq_trans hW h2⟩
  clear hya hs
  go_enter Try.func80, Try.ntmps80
  go_wp2_with (first
    | (refine wl_box 25 _ _ rfl rfl (show _ = Value.agg (iA [v0, v1, v2, v3, v4, v5]) from rfl) ?_; intro W1 bv Bv_1 l1 k1; have gv : w.heap.size ≤ bv := l1; have ntv : bt ≠ bv := Nat.ne_of_lt (Nat.lt_of_lt_of_le Bt.lt l1); have Bt_1 := Bt.keep k1; have Hw1 := k1; clear l1 k1 Bt)
    | (refine wl_alloc 25 _ zero27e rfl rfl ?_; intro W2 br Br_2 l2 k2; have gr : w.heap.size ≤ br := Nat.le_trans Hw1.size l2; have ntr : bt ≠ br := Nat.ne_of_lt (Nat.lt_of_lt_of_le Bt_1.lt l2); have nvr : bv ≠ br := Nat.ne_of_lt (Nat.lt_of_lt_of_le Bv_1.lt l2); have Bt_2 := Bt_1.keep k2; have Bv_2 := Bv_1.keep k2; have Hw2 := bq_trans Hw1 k2; clear l2 k2 Bt_1 Bv_1 Hw1)
    | (refine wl_alloc 46 _ zero51 rfl rfl ?_; intro W3 bo Bo_3 l3 k3; have go : w.heap.size ≤ bo := Nat.le_trans Hw2.size l3; have nto : bt ≠ bo := Nat.ne_of_lt (Nat.lt_of_lt_of_le Bt_2.lt l3); have nvo : bv ≠ bo := Nat.ne_of_lt (Nat.lt_of_lt_of_le Bv_2.lt l3); have nro : br ≠ bo := Nat.ne_of_lt (Nat.lt_of_lt_of_le Br_2.lt l3); have Bt_3 := Bt_2.keep k3; have Bv_3 := Bv_2.keep k3; have Br_3 := Br_2.keep k3; have Hw3 := bq_trans Hw2 k3; clear l3 k3 Bt_2 Bv_2 Br_2 Hw2; have ct_2_3 : W3.cell? ⟨bt, 2, none⟩ = some (.int .i64 0) := Bt_3.cell 2))
  have BR := Lib.hid Br_3
  have BO := Lib.hid Bo_3
  have HB := Lib.hid Hw3
  have nor := Ne.symm nro
  have ne1 : ¬ br = bo := nro
  have ne2 : ¬ bo = br := nor
  have HC : Hid (∀ w', But br bo W3 w' → w'.cell? ⟨bt, 0, none⟩ = some (.string xs) ∧ w'.cell? ⟨bt, 1, none⟩ = some (.int .i64 xa) ∧ w'.cell? ⟨bv, 0, none⟩ = some (.int .i64 v0) ∧ w'.cell? ⟨bv, 1, none⟩ = some (.int .i64 v1) ∧ w'.cell? ⟨bv, 2, none⟩ = some (.int .i64 v2) ∧ w'.cell? ⟨bv, 3, none⟩ = some (.int .i64 v3) ∧ w'.cell? ⟨bv, 4, none⟩ = some (.int .i64 v4) ∧ w'.cell? ⟨bv, 5, none⟩ = some (.int .i64 v5)) := Lib.hid fun w' hw' => ⟨(Bt_3.but hw' ntr nto).cell 0, (Bt_3.but hw' ntr nto).cell 1, (Bv_3.but hw' nvr nvo).cell 0, (Bv_3.but hw' nvr nvo).cell 1, (Bv_3.but hw' nvr nvo).cell 2, (Bv_3.but hw' nvr nvo).cell 3, (Bv_3.but hw' nvr nvo).cell 4, (Bv_3.but hw' nvr nvo).cell 5⟩
  have hd0 : Below W3.heap.size W3 W3.drew := bq_drew (bq_refl W3)
  clear Bt_3 Bv_3 Br_3 Bo_3 Hw3 ct_2_3
  go_region_held3 (fun w' => w'.cell? ⟨bt, 0, none⟩ = some (.string xs) ∧ w'.cell? ⟨bt, 1, none⟩ = some (.int .i64 xa) ∧ w'.cell? ⟨bv, 0, none⟩ = some (.int .i64 v0) ∧ w'.cell? ⟨bv, 1, none⟩ = some (.int .i64 v1) ∧ w'.cell? ⟨bv, 2, none⟩ = some (.int .i64 v2) ∧ w'.cell? ⟨bv, 3, none⟩ = some (.int .i64 v3) ∧ w'.cell? ⟨bv, 4, none⟩ = some (.int .i64 v4) ∧ w'.cell? ⟨bv, 5, none⟩ = some (.int .i64 v5))
    ((refine HC.out _ ?_; repeat' (first | (with_reducible refine But.setp _ _ ?_) | (with_reducible refine But.setq _ _ ?_) | (with_reducible exact But.of (by assumption)) | (with_reducible exact But.of (bq_drew (bq_refl _))))))
    (first
      | (go_at_call 90; refine (HA.out W3 _ (by first | assumption | exact bq_refl _)).mono ?_; rintro e w10 ⟨rfl, hb10⟩; have d0 : w10.cell? ⟨br, 0, none⟩ = some (.int .i64 0) := (BR.out.keep hb10).cell 0; have f0 := (BR.out.keep hb10).frozen 0; have d1 : w10.cell? ⟨br, 1, none⟩ = some (.int .i64 0) := (BR.out.keep hb10).cell 1; have f1 := (BR.out.keep hb10).frozen 1; have d2 : w10.cell? ⟨br, 2, none⟩ = some (.int .i64 0) := (BR.out.keep hb10).cell 2; have f2 := (BR.out.keep hb10).frozen 2; have d3 : w10.cell? ⟨br, 3, none⟩ = some (.int .i64 0) := (BR.out.keep hb10).cell 3; have f3 := (BR.out.keep hb10).frozen 3; have d4 : w10.cell? ⟨br, 4, none⟩ = some (.int .i64 0) := (BR.out.keep hb10).cell 4; have f4 := (BR.out.keep hb10).frozen 4; have d5 : w10.cell? ⟨br, 5, none⟩ = some (.int .i64 0) := (BR.out.keep hb10).cell 5; have f5 := (BR.out.keep hb10).frozen 5; have p0 := (BO.out.keep hb10).cell 0; have p1 := (BO.out.keep hb10).cell 1; have q0 := (BO.out.keep hb10).frozen 0; have q1 := (BO.out.keep hb10).frozen 1))
  have R9 : Blk ((((((((w10.setCell ⟨br, 0, none⟩ (.int .i64 v0)).setCell ⟨br, 1, none⟩ (.int .i64 v1)).setCell ⟨br, 2, none⟩ (.int .i64 v2)).setCell ⟨br, 3, none⟩ (.int .i64 v3)).setCell ⟨br, 4, none⟩ (.int .i64 v4)).setCell ⟨br, 5, none⟩ (.int .i64 v5)).setCell ⟨bo, 0, none⟩ (.string xs)).setCell ⟨bo, 1, none⟩ (.int .i64 ya)) br (iA [v0, v1, v2, v3, v4, v5]) 25 := by rw [← sets6]; exact (((((((((BR.out.keep hb10).set 0 _).set 1 _).set 2 _).set 3 _).set 4 _).set 5 _).other _ nro).other _ nro)
  have O9 : Blk ((((((((w10.setCell ⟨br, 0, none⟩ (.int .i64 v0)).setCell ⟨br, 1, none⟩ (.int .i64 v1)).setCell ⟨br, 2, none⟩ (.int .i64 v2)).setCell ⟨br, 3, none⟩ (.int .i64 v3)).setCell ⟨br, 4, none⟩ (.int .i64 v4)).setCell ⟨br, 5, none⟩ (.int .i64 v5)).setCell ⟨bo, 0, none⟩ (.string xs)).setCell ⟨bo, 1, none⟩ (.int .i64 ya)) bo #[.string xs, .int .i64 ya] 46 := (((((((((BO.out.keep hb10).other _ nor).other _ nor).other _ nor).other _ nor).other _ nor).other _ nor).set 0 _).set 1 _)
  go_wp2
  exact post_cell2_tmp (v := .int .i64 0) Try.underlying25 rfl size27e Try.underlying46 rfl size51 Try.results80 R9 rfl O9 rfl rfl rfl rfl rfl ⟨rfl, bq_set (bq_set (bq_set (bq_set (bq_set (bq_set (bq_set (bq_set (bq_trans HB.out hb10) _ gr _) _ gr _) _ gr _) _ gr _) _ gr _) _ gr _) _ go _) _ go _⟩
theorem endmatrix_any (x : RS) (v0 v1 v2 v3 v4 v5 : Int) (q : Bool) (w : World) (bt : Nat) (hs : x.s.size ≤ 1000000) (hx : Tk w bt x) :
    Calls Try.prog 80 #[.pointer (some ⟨bt, 0, none⟩), .agg (iA [v0, v1, v2, v3, v4, v5]), .bool q] w fun e w' => e = .returned (.tuple #[.agg (iA (if (x.fin q).e = 0 then [v0, v1, v2, v3, v4, v5] else [0, 0, 0, 0, 0, 0])), .agg #[.string (x.fin q).s, .int .i64 (x.fin q).a], .int .i64 (x.fin q).e]) ∧ Below w.heap.size w w' := by
  by_cases he : x.e = 0
  · have hx' : Blk w bt #[.string x.s, .int .i64 x.a, .int .i64 0] 141 := by
      have := hx
      unfold Tk RS.cells at this
      rw [he] at this
      exact this
    cases q
    · have ef : x.fin false = ⟨⟨#[]⟩, 0, 3⟩ := by unfold RS.fin; rw [if_pos he]; rfl
      rw [ef, if_neg (by decide)]
      exact endmatrix_not x.s x.a v0 v1 v2 v3 v4 v5 w bt hx'
    · have ef : x.fin true = ⟨x.s, alA x.s.size x.a, 0⟩ := by unfold RS.fin; rw [if_pos he]; rfl
      rw [ef, if_pos rfl]
      exact endmatrix_ok x.s x.a _ v0 v1 v2 v3 v4 v5 w bt hs rfl hx'
  · have ef : x.fin q = ⟨⟨#[]⟩, 0, x.e⟩ := by unfold RS.fin; rw [if_neg he]
    rw [ef, if_neg he]
    exact endmatrix_err x.s x.a x.e v0 v1 v2 v3 v4 v5 q w bt (by rw [beq_eq_false_iff_ne]; exact he) (by rw [bne_iff_ne]; exact he) hx
end Go.Proofs.Ythlnjipefeglpaa
namespace Go.Proofs.Ythlnjipefeglpaa
open Go.RowKit
set_option linter.unusedVariables false
theorem in_is (z m : Int) (q : Bool) (hq : nr m z = q) (m0 : 0 ≤ m) (m1 : m ≤ 1000000000) (w : World) :
    Calls Try.prog 49 #[.int .i64 z, .int .i64 m] w fun e w' => e = .returned (.bool q) ∧ w = w' := hq ▸ in_any z m w m0 m1
set_option maxHeartbeats 1000000 in
theorem refmatrix_any (a b c d x y : Int) (w : World) :
    Calls Try.prog 28 #[.agg #[.int .i64 a, .int .i64 b, .int .i64 c, .int .i64 d, .int .i64 x, .int .i64 y]] w fun e w' => e = .returned (.bool (matOk a b c d x y)) ∧ Below w.heap.size w w' := by
  obtain ⟨q0, h0⟩ : ∃ q, nr 4194304 a = q := ⟨_, rfl⟩
  have H0 := Lib.hid (fun w => in_is a 4194304 q0 h0 (by omega) (by omega) w)
  obtain ⟨q1, h1⟩ : ∃ q, nr 4194304 b = q := ⟨_, rfl⟩
  have H1 := Lib.hid (fun w => in_is b 4194304 q1 h1 (by omega) (by omega) w)
  obtain ⟨q2, h2⟩ : ∃ q, nr 4194304 c = q := ⟨_, rfl⟩
  have H2 := Lib.hid (fun w => in_is c 4194304 q2 h2 (by omega) (by omega) w)
  obtain ⟨q3, h3⟩ : ∃ q, nr 4194304 d = q := ⟨_, rfl⟩
  have H3 := Lib.hid (fun w => in_is d 4194304 q3 h3 (by omega) (by omega) w)
  obtain ⟨q4, h4⟩ : ∃ q, nr 1048576 x = q := ⟨_, rfl⟩
  have H4 := Lib.hid (fun w => in_is x 1048576 q4 h4 (by omega) (by omega) w)
  obtain ⟨q5, h5⟩ : ∃ q, nr 1048576 y = q := ⟨_, rfl⟩
  have H5 := Lib.hid (fun w => in_is y 1048576 q5 h5 (by omega) (by omega) w)
  have HR : Hid (matOk a b c d x y = (q0 && q1 && q2 && q3 && q4 && q5)) := Lib.hid (by unfold matOk; simp only [List.all_cons, List.all_nil, h0, h1, h2, h3, h4, h5, Bool.and_true, Bool.and_assoc])
  rw [HR.out]
  clear HR h0 h1 h2 h3 h4 h5
  have hc : (q0 = false) ∨ (q0 = true ∧ q1 = false) ∨ (q0 = true ∧ q1 = true ∧ q2 = false) ∨ (q0 = true ∧ q1 = true ∧ q2 = true ∧ q3 = false) ∨ (q0 = true ∧ q1 = true ∧ q2 = true ∧ q3 = true ∧ q4 = false) ∨ (q0 = true ∧ q1 = true ∧ q2 = true ∧ q3 = true ∧ q4 = true ∧ q5 = false) ∨ (q0 = true ∧ q1 = true ∧ q2 = true ∧ q3 = true ∧ q4 = true ∧ q5 = true) := by
    cases q0 <;> cases q1 <;> cases q2 <;> cases q3 <;> cases q4 <;> cases q5 <;> simp
  rcases hc with rfl | ⟨rfl, rfl⟩ | ⟨rfl, rfl, rfl⟩ | ⟨rfl, rfl, rfl, rfl⟩ | ⟨rfl, rfl, rfl, rfl, rfl⟩ | ⟨rfl, rfl, rfl, rfl, rfl, rfl⟩ | ⟨rfl, rfl, rfl, rfl, rfl, rfl⟩
  all_goals
    go_enter Try.func28, Try.ntmps28
    go_wp2_with (first
      | (refine wl_box 25 _ _ rfl rfl rfl ?_; intro W0 b0 B0 l0 k0; have c0 : W0.cell? ⟨b0, 0, none⟩ = some (.int .i64 a) := B0.cell 0; have c1 : W0.cell? ⟨b0, 1, none⟩ = some (.int .i64 b) := B0.cell 1; have c2 : W0.cell? ⟨b0, 2, none⟩ = some (.int .i64 c) := B0.cell 2; have c3 : W0.cell? ⟨b0, 3, none⟩ = some (.int .i64 d) := B0.cell 3; have c4 : W0.cell? ⟨b0, 4, none⟩ = some (.int .i64 x) := B0.cell 4; have c5 : W0.cell? ⟨b0, 5, none⟩ = some (.int .i64 y) := B0.cell 5)
      | (go_at_call 49; with_reducible refine (H0.out _).mono ?_; rintro e w2 ⟨rfl, rfl⟩) | (go_at_call 49; with_reducible refine (H1.out _).mono ?_; rintro e w3 ⟨rfl, rfl⟩) | (go_at_call 49; with_reducible refine (H2.out _).mono ?_; rintro e w4 ⟨rfl, rfl⟩) | (go_at_call 49; with_reducible refine (H3.out _).mono ?_; rintro e w5 ⟨rfl, rfl⟩) | (go_at_call 49; with_reducible refine (H4.out _).mono ?_; rintro e w6 ⟨rfl, rfl⟩) | (go_at_call 49; with_reducible refine (H5.out _).mono ?_; rintro e w7 ⟨rfl, rfl⟩))
    all_goals (go_ret; exact ⟨ret_bool (by rw [Bool.eq_iff_iff]; simp; try omega), k0⟩)
def CxRel (m d : List Int) (i : Value) : Prop := ∃ k : Nat, k ≤ 4 ∧ i = .int .i64 k ∧ ((m.take k).all (nr 512) && (d.take k).all (nr 255)) = true
def byI (v : Int) : Bool := decide (0 ≤ v) && decide (v ≤ 255)
def byAll (zs : List Int) : Bool := zs.all byI
def RgRel (zs : List Int) (i : Value) : Prop := ∃ k : Nat, k ≤ 4 ∧ i = .int .i64 k ∧ (zs.take k).all byI = true
theorem rgba_all (r g b a : Int) : rgbaOk r g b a = byAll [r, g, b, a] := by
  rw [Bool.eq_iff_iff]
  simp [rgbaOk, byAll, byI, nr]
  omega
set_option maxHeartbeats 1000000 in
theorem refrgba_any (r g b a : Int) (w : World) (hr : I64 r) (hg : I64 g) (hb : I64 b) (ha : I64 a) :
    Calls Try.prog 23 #[.agg #[.int .i64 r, .int .i64 g, .int .i64 b, .int .i64 a]] w fun e w' => e = .returned (.bool (rgbaOk r g b a)) ∧ Below w.heap.size w w' := by
  rw [rgba_all]
  have HI := Lib.hid (i64_4 hr hg hb ha)
  clear hr hg hb ha
  go_enter Try.func23, Try.ntmps23
  go_wp2_with (first
    | (refine wl_box 23 _ _ rfl rfl rfl ?_; intro W0 b0 B0 l0 k0; have c0 : W0.cell? ⟨b0, 0, none⟩ = some (.int .i64 r) := B0.cell 0; have c1 : W0.cell? ⟨b0, 1, none⟩ = some (.int .i64 g) := B0.cell 1; have c2 : W0.cell? ⟨b0, 2, none⟩ = some (.int .i64 b) := B0.cell 2; have c3 : W0.cell? ⟨b0, 3, none⟩ = some (.int .i64 a) := B0.cell 3)
    | (refine wlg_slice 90 3 4 _ _ (ints4_run r g b a) _ rfl rfl rfl ?_; intro W1 b1 B1 l1 k1))
  have hl : [r, g, b, a].length = 4 := rfl
  have HS := Lib.hid (B1.ints HI.out)
  have HB := Lib.hid (bq_trans k0 k1)
  clear B0 c0 c1 c2 c3 B1 k0 k1 l0 l1 HI
  generalize hzs : [r, g, b, a] = zs at hl HS
  have HZ := Lib.hid hzs
  clear hzs
  go_loop [15] (fun i => RgRel zs i) (fun i => 4 - (intOf i).toNat)
  case atStart => exact ⟨0, by omega, rfl, rfl⟩
  case round =>
    obtain ⟨k, hk, rfl, hx⟩ := hrel
    have HX := Lib.hid hx
    clear hx
    by_cases hlt : k < 4
    · have hlt2 : k < zs.length := by omega
      obtain ⟨_, z0, z1, hcell⟩ := HS.out.at (bq_refl _) k hlt2
      rw [Nat.zero_add] at hcell
      have HY := Lib.hid (all_take byI zs k hlt2 HX.out)
      have HN := Lib.hid (all_not byI zs k hlt2)
      generalize zs[k] = z at *
      by_cases c1 : z < 0
      · have HF : Hid (byAll zs = false) := Lib.hid (HN.out (by simp [byI]; omega))
        clear HX HY HN
        go_wp2
        go_ret
        exact ⟨ret_bool (by rw [HZ.out]; exact HF.out.symm), HB.out⟩
      · by_cases c2 : 255 < z
        · have HF : Hid (byAll zs = false) := Lib.hid (HN.out (by simp [byI]; omega))
          clear HX HY HN
          go_wp2
          go_ret
          exact ⟨ret_bool (by rw [HZ.out]; exact HF.out.symm), HB.out⟩
        · have HF : Hid ((zs.take (k + 1)).all byI = true) := Lib.hid (HY.out (by simp [byI]; omega))
          clear HX HY HN
          go_wp2
          go_round
          case rel => exact ⟨k + 1, by omega, by go_num, HF.out⟩
          case measure => simp [intOf]; omega
    · obtain rfl : k = 4 := by omega
      have HL : Hid (byAll zs = true) := Lib.hid (by have := HX.out; rw [List.take_of_length_le (by omega)] at this; exact this)
      go_wp2
      go_ret
      exact ⟨ret_bool (by rw [HZ.out]; exact HL.out.symm), HB.out⟩
end Go.Proofs.Ythlnjipefeglpaa
