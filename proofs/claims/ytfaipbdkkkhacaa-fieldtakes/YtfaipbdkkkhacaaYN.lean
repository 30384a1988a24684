import Derived.Test.YtfaipbdkkkhacaaYD
import Derived.Test.YtfaipbdkkkhacaaYH
import Derived.Test.YtfaipbdkkkhacaaYK
/- Layer 7: the document's reader with an error. -/
namespace Go.Proofs.Ytfaipbdkkkhacaa
open Go.RowKit
set_option linter.unusedVariables false

theorem But.drw {p q : Nat} {w w' : World} (h : But p q w w') : But p q w w'.drew := ⟨h.os, h.tape, h.output, h.size, h.block⟩
theorem size60 : (Try.prog.info? 60).map (·.size) = some 2 := by kernel_rfl
theorem size62 : (Try.prog.info? 62).map (·.size) = some 3 := by kernel_rfl
theorem zero60 (w : World) : (zeroValue 60).run Try.prog w = .ok (.agg #[.string ⟨#[]⟩, .int .i64 0]) w := Try.zeroValue60 w
theorem zero62 (w : World) : (zeroValue 62).run Try.prog w = .ok (.agg #[.string ⟨#[]⟩, .int .i64 0, .int .i64 0]) w := Try.zeroValue62 w
set_option maxHeartbeats 1000000 in
theorem rbegin_any (s : ByteArray) (a : Int) (w : World) (hs : s.size ≤ 1000000) :
    Calls Try.prog 56 #[.agg #[.string s, .int .i64 a]] w fun e w' => e = .returned (.agg (RS.begR s a).cells) ∧ Below w.heap.size w w' := by
  by_cases h : 0 ≤ a ∧ a ≤ 8 * s.size
  · have HR := Lib.hid (fun W => refright_yes s a W (by omega) h.1 h.2)
    have HA := Lib.hid (fun W => refalign_any s a W (by omega))
    have e : RS.begR s a = ⟨s, alA s.size a, 0⟩ := if_pos h
    rw [e]
    clear h hs e
    generalize alA s.size a = b at *
    go_enter Try.func56, Try.ntmps56
    go_wp2_with (first
      | (refine wl_box 60 _ _ rfl rfl (show _ = Value.agg #[.string s, .int .i64 a] from rfl) ?_; intro W1 br Br_1 l1 k1; have gr : w.heap.size ≤ br := l1; have Hw1 := k1; clear l1 k1)
      | (refine wl_alloc 62 _ zero62 rfl rfl ?_; intro W2 bo Bo_2 l2 k2; have go : w.heap.size ≤ bo := Nat.le_trans Hw1.size l2; have nro : br ≠ bo := Nat.ne_of_lt (Nat.lt_of_lt_of_le Br_1.lt l2); have Br_2 := Br_1.keep k2; have Hw2 := bq_trans Hw1 k2; clear l2 k2 Br_1 Hw1)
      | (refine wl_load 60 2 _ Try.underlying60 rfl size60 _ rfl rfl _ rfl _ _ Br_2 rfl ?_)
      | (go_at_call 72; (with_reducible refine (HR.out _).mono ?_); rintro e W3 ⟨rfl, k3⟩; have Br_3 := Br_2.keep k3; have Bo_3 := Bo_2.keep k3; have Hw3 := bq_trans Hw2 k3; clear k3 Br_2 Bo_2 Hw2)
      | (refine wl_load 60 2 _ Try.underlying60 rfl size60 _ rfl rfl _ rfl _ _ Br_3 rfl ?_)
      | (go_at_call 73; (with_reducible refine (HA.out _).mono ?_); rintro e W4 ⟨rfl, k4⟩; have Br_4 := Br_3.keep k4; have Bo_4 := Bo_3.keep k4; have Hw4 := bq_trans Hw3 k4; clear k4 Br_3 Bo_3 Hw3)
      | (refine wl_store 62 3 size62 _ _ rfl rfl _ rfl _ rfl _ _ Bo_4 rfl rfl (by kernel_rfl) ?_; intro W5 Bo_5 T5; have Br_5 := T5.blk Br_4 nro; have Hw5 := T5.below Hw4 go; clear T5 Br_4 Bo_4 Hw4))
    exact post_cell Try.underlying62 rfl size62 Try.results56 Bo_5 rfl rfl rfl ⟨rfl, Hw5⟩
  · have HR := Lib.hid (fun W => refright_no s a W (by omega) (by omega))
    have e : RS.begR s a = ⟨⟨#[]⟩, 0, 1⟩ := if_neg h
    rw [e]
    clear h hs e
    go_enter Try.func56, Try.ntmps56
    go_wp2_with (first
      | (refine wl_box 60 _ _ rfl rfl (show _ = Value.agg #[.string s, .int .i64 a] from rfl) ?_; intro W1 br Br_1 l1 k1; have gr : w.heap.size ≤ br := l1; have Hw1 := k1; clear l1 k1)
      | (refine wl_alloc 62 _ zero62 rfl rfl ?_; intro W2 bo Bo_2 l2 k2; have go : w.heap.size ≤ bo := Nat.le_trans Hw1.size l2; have nro : br ≠ bo := Nat.ne_of_lt (Nat.lt_of_lt_of_le Br_1.lt l2); have Br_2 := Br_1.keep k2; have Hw2 := bq_trans Hw1 k2; clear l2 k2 Br_1 Hw1)
      | (refine wl_load 60 2 _ Try.underlying60 rfl size60 _ rfl rfl _ rfl _ _ Br_2 rfl ?_)
      | (go_at_call 72; (with_reducible refine (HR.out _).mono ?_); rintro e W3 ⟨rfl, k3⟩; have Br_3 := Br_2.keep k3; have Bo_3 := Bo_2.keep k3; have Hw3 := bq_trans Hw2 k3; clear k3 Br_2 Bo_2 Hw2)
      | (refine wl_store 62 3 size62 _ _ rfl rfl _ rfl _ rfl _ _ Bo_3 rfl rfl (by kernel_rfl) ?_; intro W4 Bo_4 T4; have Br_4 := T4.blk Br_3 nro; have Hw4 := T4.below Hw3 go; clear T4 Br_3 Bo_3 Hw3))
    exact post_cell Try.underlying62 rfl size62 Try.results56 Bo_4 rfl rfl rfl ⟨rfl, Hw4⟩
set_option maxHeartbeats 1000000 in
theorem rplain_err (xs : ByteArray) (xa xe n : Int) (w : World) (q : (xe != 0) = true) :
    Calls Try.prog 58 #[.agg #[.string xs, .int .i64 xa, .int .i64 xe], .int .i64 n] w fun e w' => e = .returned (.tuple #[.int .i64 0, .agg #[.string xs, .int .i64 xa, .int .i64 xe]]) ∧ Below w.heap.size w w' := by
  go_enter Try.func58, Try.ntmps58
  go_wp2_with (first
    | (refine wl_box 62 _ _ rfl rfl (show _ = Value.agg #[.string xs, .int .i64 xa, .int .i64 xe] from rfl) ?_; intro W1 bx Bx_1 l1 k1; have gx : w.heap.size ≤ bx := l1; have Hw1 := k1; clear l1 k1)
    | (refine wl_alloc 62 _ zero62 rfl rfl ?_; intro W2 bo Bo_2 l2 k2; have go : w.heap.size ≤ bo := Nat.le_trans Hw1.size l2; have nxo : bx ≠ bo := Nat.ne_of_lt (Nat.lt_of_lt_of_le Bx_1.lt l2); have Bx_2 := Bx_1.keep k2; have Hw2 := bq_trans Hw1 k2; clear l2 k2 Bx_1 Hw1; have cx_2_2 : W2.cell? ⟨bx, 2, none⟩ = some (.int .i64 xe) := Bx_2.cell 2))
  have BO := Lib.hid Bo_2
  have HB := Lib.hid Hw2
  have HC : Hid (∀ w', But bo bo W2 w' → w'.cell? ⟨bx, 0, none⟩ = some (.string xs) ∧ w'.cell? ⟨bx, 1, none⟩ = some (.int .i64 xa) ∧ w'.cell? ⟨bx, 2, none⟩ = some (.int .i64 xe)) := Lib.hid fun w' hw' => ⟨(Bx_2.but hw' nxo nxo).cell 0, (Bx_2.but hw' nxo nxo).cell 1, (Bx_2.but hw' nxo nxo).cell 2⟩
  have hd0 : Below W2.heap.size W2 W2.drew := bq_drew (bq_refl W2)
  have d0 := BO.out.cell 0
  have d1 := BO.out.cell 1
  have d2 := BO.out.cell 2
  have f0 := BO.out.frozen 0
  have f1 := BO.out.frozen 1
  have f2 := BO.out.frozen 2
  clear Bx_2 Bo_2 Hw2 cx_2_2
  go_region_held3 (fun w' => w'.cell? ⟨bx, 0, none⟩ = some (.string xs) ∧ w'.cell? ⟨bx, 1, none⟩ = some (.int .i64 xa) ∧ w'.cell? ⟨bx, 2, none⟩ = some (.int .i64 xe))
    ((refine HC.out _ ?_; repeat' (first | (with_reducible refine But.setp _ _ ?_) | (with_reducible refine But.setq _ _ ?_) | (with_reducible refine But.drw ?_) | (with_reducible exact But.of (by assumption)) | (with_reducible exact But.of (bq_refl _)))))
    (fail)
  have R9 : Blk (((W2.setCell ⟨bo, 0, none⟩ (.string xs)).setCell ⟨bo, 1, none⟩ (.int .i64 xa)).setCell ⟨bo, 2, none⟩ (.int .i64 xe)).drew bo #[.string xs, .int .i64 xa, .int .i64 xe] 62 := (((BO.out.set 0 _).set 1 _).set 2 _).drew
  go_wp2
  exact post_tmp_cell (v := .int .i64 0) Try.underlying62 rfl size62 Try.results58 R9 rfl rfl rfl rfl ⟨rfl, bq_drew (bq_set (bq_set (bq_set HB.out _ go _) _ go _) _ go _)⟩
set_option maxHeartbeats 1000000 in
theorem rplain_ok (xs ys : ByteArray) (xa n v ya ye : Int) (w : World) (HP : Hid (∀ W, Calls Try.prog 74 #[.agg #[.string xs, .int .i64 xa], .int .i64 n] W fun e w' => e = .returned (.tuple #[.int .i64 v, .agg #[.string ys, .int .i64 ya], .int .i64 ye]) ∧ Below W.heap.size W w')) :
    Calls Try.prog 58 #[.agg #[.string xs, .int .i64 xa, .int .i64 0], .int .i64 n] w fun e w' => e = .returned (.tuple #[.int .i64 v, .agg #[.string ys, .int .i64 ya, .int .i64 ye]]) ∧ Below w.heap.size w w' := by
  go_enter Try.func58, Try.ntmps58
  go_wp2_with (first
    | (refine wl_box 62 _ _ rfl rfl (show _ = Value.agg #[.string xs, .int .i64 xa, .int .i64 0] from rfl) ?_; intro W1 bx Bx_1 l1 k1; have gx : w.heap.size ≤ bx := l1; have Hw1 := k1; clear l1 k1)
    | (refine wl_alloc 62 _ zero62 rfl rfl ?_; intro W2 bo Bo_2 l2 k2; have go : w.heap.size ≤ bo := Nat.le_trans Hw1.size l2; have nxo : bx ≠ bo := Nat.ne_of_lt (Nat.lt_of_lt_of_le Bx_1.lt l2); have Bx_2 := Bx_1.keep k2; have Hw2 := bq_trans Hw1 k2; clear l2 k2 Bx_1 Hw1; have cx_0_2 : W2.cell? ⟨bx, 0, none⟩ = some (.string xs) := Bx_2.cell 0; have cx_1_2 : W2.cell? ⟨bx, 1, none⟩ = some (.int .i64 xa) := Bx_2.cell 1; have cx_2_2 : W2.cell? ⟨bx, 2, none⟩ = some (.int .i64 0) := Bx_2.cell 2)
    | (go_at_call 74; (with_reducible refine (HP.out _).mono ?_); rintro e W3 ⟨rfl, k3⟩; have Bx_3 := Bx_2.keep k3; have Bo_3 := Bo_2.keep k3; have Hw3 := bq_trans Hw2 k3; clear k3 Bx_2 Bo_2 cx_0_2 cx_1_2 cx_2_2 Hw2)
    | (refine wl_alloc 60 _ zero60 rfl rfl ?_; intro W4 bz Bz_4 l4 k4; have gz : w.heap.size ≤ bz := Nat.le_trans Hw3.size l4; have nxz : bx ≠ bz := Nat.ne_of_lt (Nat.lt_of_lt_of_le Bx_3.lt l4); have noz : bo ≠ bz := Nat.ne_of_lt (Nat.lt_of_lt_of_le Bo_3.lt l4); have Bx_4 := Bx_3.keep k4; have Bo_4 := Bo_3.keep k4; have Hw4 := bq_trans Hw3 k4; clear l4 k4 Bx_3 Bo_3 Hw3)
    | (refine wl_store 60 2 size60 _ _ rfl rfl _ rfl _ rfl _ _ Bz_4 rfl rfl (by kernel_rfl) ?_; intro W5 Bz_5 T5; have Bx_5 := T5.blk Bx_4 nxz; have Bo_5 := T5.blk Bo_4 noz; have Hw5 := T5.below Hw4 gz; clear T5 Bx_4 Bo_4 Bz_4 Hw4))
  have BO := Lib.hid Bo_5
  have HB := Lib.hid Hw5
  have HC : Hid (∀ w', But bo bo W5 w' → w'.cell? ⟨bz, 0, none⟩ = some (.string ys) ∧ w'.cell? ⟨bz, 1, none⟩ = some (.int .i64 ya)) := Lib.hid fun w' hw' => ⟨(Bz_5.but hw' (Ne.symm noz) (Ne.symm noz)).cell 0, (Bz_5.but hw' (Ne.symm noz) (Ne.symm noz)).cell 1⟩
  have hd0 : Below W5.heap.size W5 W5.drew := bq_drew (bq_refl W5)
  have d0 := BO.out.cell 0
  have d1 := BO.out.cell 1
  have d2 := BO.out.cell 2
  have f0 := BO.out.frozen 0
  have f1 := BO.out.frozen 1
  have f2 := BO.out.frozen 2
  clear Bx_5 Bo_5 Bz_5 Hw5 
  go_region_held3 (fun w' => w'.cell? ⟨bz, 0, none⟩ = some (.string ys) ∧ w'.cell? ⟨bz, 1, none⟩ = some (.int .i64 ya))
    ((refine HC.out _ ?_; repeat' (first | (with_reducible refine But.setp _ _ ?_) | (with_reducible refine But.setq _ _ ?_) | (with_reducible refine But.drw ?_) | (with_reducible exact But.of (by assumption)) | (with_reducible exact But.of (bq_refl _)))))
    (fail)
  have R9 : Blk (((W5.setCell ⟨bo, 0, none⟩ (.string ys)).setCell ⟨bo, 1, none⟩ (.int .i64 ya)).setCell ⟨bo, 2, none⟩ (.int .i64 ye)).drew bo #[.string ys, .int .i64 ya, .int .i64 ye] 62 := (((BO.out.set 0 _).set 1 _).set 2 _).drew
  go_wp2
  exact post_tmp_cell (v := .int .i64 v) Try.underlying62 rfl size62 Try.results58 R9 rfl rfl rfl rfl ⟨rfl, bq_drew (bq_set (bq_set (bq_set HB.out _ go _) _ go _) _ go _)⟩
theorem rplain_any (x : RS) (n : Int) (w : World) (hs : x.s.size ≤ 1000000) :
    Calls Try.prog 58 #[.agg x.cells, .int .i64 n] w fun e w' => e = .returned (.tuple #[.int .i64 (x.pl n), .agg (x.go n).cells]) ∧ Below w.heap.size w w' := by
  by_cases he : x.e = 0
  · obtain ⟨e1, e2, e3⟩ := RS.fine he n
    rw [e1, e3]
    obtain ⟨xs, xa, xe⟩ := x
    dsimp only at he hs
    subst he
    exact rplain_ok xs _ xa n _ _ _ w (Lib.hid fun W => refplain_any xs xa n W (by omega))
  · obtain ⟨e1, e2, e3⟩ := RS.err he n
    rw [e1, e3]
    exact rplain_err x.s x.a x.e n w (by rw [bne_iff_ne]; exact he)
set_option maxHeartbeats 1000000 in
theorem rsigned_err (xs : ByteArray) (xa xe n : Int) (w : World) (q : (xe != 0) = true) :
    Calls Try.prog 71 #[.agg #[.string xs, .int .i64 xa, .int .i64 xe], .int .i64 n] w fun e w' => e = .returned (.tuple #[.int .i64 0, .agg #[.string xs, .int .i64 xa, .int .i64 xe]]) ∧ Below w.heap.size w w' := by
  go_enter Try.func71, Try.ntmps71
  go_wp2_with (first
    | (refine wl_box 62 _ _ rfl rfl (show _ = Value.agg #[.string xs, .int .i64 xa, .int .i64 xe] from rfl) ?_; intro W1 bx Bx_1 l1 k1; have gx : w.heap.size ≤ bx := l1; have Hw1 := k1; clear l1 k1)
    | (refine wl_alloc 62 _ zero62 rfl rfl ?_; intro W2 bo Bo_2 l2 k2; have go : w.heap.size ≤ bo := Nat.le_trans Hw1.size l2; have nxo : bx ≠ bo := Nat.ne_of_lt (Nat.lt_of_lt_of_le Bx_1.lt l2); have Bx_2 := Bx_1.keep k2; have Hw2 := bq_trans Hw1 k2; clear l2 k2 Bx_1 Hw1; have cx_2_2 : W2.cell? ⟨bx, 2, none⟩ = some (.int .i64 xe) := Bx_2.cell 2))
  have BO := Lib.hid Bo_2
  have HB := Lib.hid Hw2
  have HC : Hid (∀ w', But bo bo W2 w' → w'.cell? ⟨bx, 0, none⟩ = some (.string xs) ∧ w'.cell? ⟨bx, 1, none⟩ = some (.int .i64 xa) ∧ w'.cell? ⟨bx, 2, none⟩ = some (.int .i64 xe)) := Lib.hid fun w' hw' => ⟨(Bx_2.but hw' nxo nxo).cell 0, (Bx_2.but hw' nxo nxo).cell 1, (Bx_2.but hw' nxo nxo).cell 2⟩
  have hd0 : Below W2.heap.size W2 W2.drew := bq_drew (bq_refl W2)
  have d0 := BO.out.cell 0
  have d1 := BO.out.cell 1
  have d2 := BO.out.cell 2
  have f0 := BO.out.frozen 0
  have f1 := BO.out.frozen 1
  have f2 := BO.out.frozen 2
  clear Bx_2 Bo_2 Hw2 cx_2_2
  go_region_held3 (fun w' => w'.cell? ⟨bx, 0, none⟩ = some (.string xs) ∧ w'.cell? ⟨bx, 1, none⟩ = some (.int .i64 xa) ∧ w'.cell? ⟨bx, 2, none⟩ = some (.int .i64 xe))
    ((refine HC.out _ ?_; repeat' (first | (with_reducible refine But.setp _ _ ?_) | (with_reducible refine But.setq _ _ ?_) | (with_reducible refine But.drw ?_) | (with_reducible exact But.of (by assumption)) | (with_reducible exact But.of (bq_refl _)))))
    (fail)
  have R9 : Blk (((W2.setCell ⟨bo, 0, none⟩ (.string xs)).setCell ⟨bo, 1, none⟩ (.int .i64 xa)).setCell ⟨bo, 2, none⟩ (.int .i64 xe)).drew bo #[.string xs, .int .i64 xa, .int .i64 xe] 62 := (((BO.out.set 0 _).set 1 _).set 2 _).drew
  go_wp2
  exact post_tmp_cell (v := .int .i64 0) Try.underlying62 rfl size62 Try.results71 R9 rfl rfl rfl rfl ⟨rfl, bq_drew (bq_set (bq_set (bq_set HB.out _ go _) _ go _) _ go _)⟩
set_option maxHeartbeats 1000000 in
theorem rsigned_ok (xs ys : ByteArray) (xa n v ya ye : Int) (w : World) (HP : Hid (∀ W, Calls Try.prog 83 #[.agg #[.string xs, .int .i64 xa], .int .i64 n] W fun e w' => e = .returned (.tuple #[.int .i64 v, .agg #[.string ys, .int .i64 ya], .int .i64 ye]) ∧ Below W.heap.size W w')) :
    Calls Try.prog 71 #[.agg #[.string xs, .int .i64 xa, .int .i64 0], .int .i64 n] w fun e w' => e = .returned (.tuple #[.int .i64 v, .agg #[.string ys, .int .i64 ya, .int .i64 ye]]) ∧ Below w.heap.size w w' := by
  go_enter Try.func71, Try.ntmps71
  go_wp2_with (first
    | (refine wl_box 62 _ _ rfl rfl (show _ = Value.agg #[.string xs, .int .i64 xa, .int .i64 0] from rfl) ?_; intro W1 bx Bx_1 l1 k1; have gx : w.heap.size ≤ bx := l1; have Hw1 := k1; clear l1 k1)
    | (refine wl_alloc 62 _ zero62 rfl rfl ?_; intro W2 bo Bo_2 l2 k2; have go : w.heap.size ≤ bo := Nat.le_trans Hw1.size l2; have nxo : bx ≠ bo := Nat.ne_of_lt (Nat.lt_of_lt_of_le Bx_1.lt l2); have Bx_2 := Bx_1.keep k2; have Hw2 := bq_trans Hw1 k2; clear l2 k2 Bx_1 Hw1; have cx_0_2 : W2.cell? ⟨bx, 0, none⟩ = some (.string xs) := Bx_2.cell 0; have cx_1_2 : W2.cell? ⟨bx, 1, none⟩ = some (.int .i64 xa) := Bx_2.cell 1; have cx_2_2 : W2.cell? ⟨bx, 2, none⟩ = some (.int .i64 0) := Bx_2.cell 2)
    | (go_at_call 83; (with_reducible refine (HP.out _).mono ?_); rintro e W3 ⟨rfl, k3⟩; have Bx_3 := Bx_2.keep k3; have Bo_3 := Bo_2.keep k3; have Hw3 := bq_trans Hw2 k3; clear k3 Bx_2 Bo_2 cx_0_2 cx_1_2 cx_2_2 Hw2)
    | (refine wl_alloc 60 _ zero60 rfl rfl ?_; intro W4 bz Bz_4 l4 k4; have gz : w.heap.size ≤ bz := Nat.le_trans Hw3.size l4; have nxz : bx ≠ bz := Nat.ne_of_lt (Nat.lt_of_lt_of_le Bx_3.lt l4); have noz : bo ≠ bz := Nat.ne_of_lt (Nat.lt_of_lt_of_le Bo_3.lt l4); have Bx_4 := Bx_3.keep k4; have Bo_4 := Bo_3.keep k4; have Hw4 := bq_trans Hw3 k4; clear l4 k4 Bx_3 Bo_3 Hw3)
    | (refine wl_store 60 2 size60 _ _ rfl rfl _ rfl _ rfl _ _ Bz_4 rfl rfl (by kernel_rfl) ?_; intro W5 Bz_5 T5; have Bx_5 := T5.blk Bx_4 nxz; have Bo_5 := T5.blk Bo_4 noz; have Hw5 := T5.below Hw4 gz; clear T5 Bx_4 Bo_4 Bz_4 Hw4))
  have BO := Lib.hid Bo_5
  have HB := Lib.hid Hw5
  have HC : Hid (∀ w', But bo bo W5 w' → w'.cell? ⟨bz, 0, none⟩ = some (.string ys) ∧ w'.cell? ⟨bz, 1, none⟩ = some (.int .i64 ya)) := Lib.hid fun w' hw' => ⟨(Bz_5.but hw' (Ne.symm noz) (Ne.symm noz)).cell 0, (Bz_5.but hw' (Ne.symm noz) (Ne.symm noz)).cell 1⟩
  have hd0 : Below W5.heap.size W5 W5.drew := bq_drew (bq_refl W5)
  have d0 := BO.out.cell 0
  have d1 := BO.out.cell 1
  have d2 := BO.out.cell 2
  have f0 := BO.out.frozen 0
  have f1 := BO.out.frozen 1
  have f2 := BO.out.frozen 2
  clear Bx_5 Bo_5 Bz_5 Hw5 
  go_region_held3 (fun w' => w'.cell? ⟨bz, 0, none⟩ = some (.string ys) ∧ w'.cell? ⟨bz, 1, none⟩ = some (.int .i64 ya))
    ((refine HC.out _ ?_; repeat' (first | (with_reducible refine But.setp _ _ ?_) | (with_reducible refine But.setq _ _ ?_) | (with_reducible refine But.drw ?_) | (with_reducible exact But.of (by assumption)) | (with_reducible exact But.of (bq_refl _)))))
    (fail)
  have R9 : Blk (((W5.setCell ⟨bo, 0, none⟩ (.string ys)).setCell ⟨bo, 1, none⟩ (.int .i64 ya)).setCell ⟨bo, 2, none⟩ (.int .i64 ye)).drew bo #[.string ys, .int .i64 ya, .int .i64 ye] 62 := (((BO.out.set 0 _).set 1 _).set 2 _).drew
  go_wp2
  exact post_tmp_cell (v := .int .i64 v) Try.underlying62 rfl size62 Try.results71 R9 rfl rfl rfl rfl ⟨rfl, bq_drew (bq_set (bq_set (bq_set HB.out _ go _) _ go _) _ go _)⟩
theorem rsigned_any (x : RS) (n : Int) (w : World) (hs : x.s.size ≤ 1000000) :
    Calls Try.prog 71 #[.agg x.cells, .int .i64 n] w fun e w' => e = .returned (.tuple #[.int .i64 (x.sg n), .agg (x.go n).cells]) ∧ Below w.heap.size w w' := by
  by_cases he : x.e = 0
  · obtain ⟨e1, e2, e3⟩ := RS.fine he n
    rw [e2, e3]
    obtain ⟨xs, xa, xe⟩ := x
    dsimp only at he hs
    subst he
    exact rsigned_ok xs _ xa n _ _ _ w (Lib.hid fun W => refsigned_any xs xa n W (by omega))
  · obtain ⟨e1, e2, e3⟩ := RS.err he n
    rw [e2, e3]
    exact rsigned_err x.s x.a x.e n w (by rw [bne_iff_ne]; exact he)
set_option maxHeartbeats 1000000 in
theorem rdone_any (x : RS) (b : Bool) (w : World) (hs : x.s.size ≤ 1000000) :
    Calls Try.prog 57 #[.agg x.cells, .bool b] w fun e w' => e = .returned (.agg (x.fin b).cells) ∧ Below w.heap.size w w' := by
  by_cases he : x.e = 0
  · cases b
    · have ef : x.fin false = ⟨⟨#[]⟩, 0, 3⟩ := by unfold RS.fin; rw [if_pos he]; rfl
      rw [ef]
      obtain ⟨xs, xa, xe⟩ := x
      dsimp only at he
      subst he
      clear ef hs
      go_enter Try.func57, Try.ntmps57
      go_wp2_with (first
        | (refine wl_box 62 _ _ rfl rfl (show _ = Value.agg #[.string xs, .int .i64 xa, .int .i64 0] from rfl) ?_; intro W1 bx Bx_1 l1 k1; have gx : w.heap.size ≤ bx := l1; have Hw1 := k1; clear l1 k1)
        | (refine wl_alloc 62 _ zero62 rfl rfl ?_; intro W2 bo Bo_2 l2 k2; have go : w.heap.size ≤ bo := Nat.le_trans Hw1.size l2; have nxo : bx ≠ bo := Nat.ne_of_lt (Nat.lt_of_lt_of_le Bx_1.lt l2); have Bx_2 := Bx_1.keep k2; have Hw2 := bq_trans Hw1 k2; clear l2 k2 Bx_1 Hw1; have cx_2_2 : W2.cell? ⟨bx, 2, none⟩ = some (.int .i64 0) := Bx_2.cell 2)
        | (refine wl_store 62 3 size62 _ _ rfl rfl _ rfl _ rfl _ _ Bo_2 rfl rfl (by kernel_rfl) ?_; intro W3 Bo_3 T3; have Bx_3 := T3.blk Bx_2 nxo; have Hw3 := T3.below Hw2 go; clear T3 Bx_2 cx_2_2 Bo_2 Hw2))
      exact post_cell Try.underlying62 rfl size62 Try.results57 Bo_3 rfl rfl rfl ⟨rfl, Hw3⟩
    · have ef : x.fin true = ⟨x.s, alA x.s.size x.a, 0⟩ := by unfold RS.fin; rw [if_pos he]; rfl
      rw [ef]
      obtain ⟨xs, xa, xe⟩ := x
      dsimp only at he hs
      subst he
      have HA := Lib.hid (fun W => refalign_any xs xa W (by omega))
      dsimp only
      generalize alA xs.size xa = ya at *
      clear ef hs
      go_enter Try.func57, Try.ntmps57
      go_wp2_with (first
        | (refine wl_box 62 _ _ rfl rfl (show _ = Value.agg #[.string xs, .int .i64 xa, .int .i64 0] from rfl) ?_; intro W1 bx Bx_1 l1 k1; have gx : w.heap.size ≤ bx := l1; have Hw1 := k1; clear l1 k1)
        | (refine wl_alloc 62 _ zero62 rfl rfl ?_; intro W2 bo Bo_2 l2 k2; have go : w.heap.size ≤ bo := Nat.le_trans Hw1.size l2; have nxo : bx ≠ bo := Nat.ne_of_lt (Nat.lt_of_lt_of_le Bx_1.lt l2); have Bx_2 := Bx_1.keep k2; have Hw2 := bq_trans Hw1 k2; clear l2 k2 Bx_1 Hw1; have cx_0_2 : W2.cell? ⟨bx, 0, none⟩ = some (.string xs) := Bx_2.cell 0; have cx_1_2 : W2.cell? ⟨bx, 1, none⟩ = some (.int .i64 xa) := Bx_2.cell 1; have cx_2_2 : W2.cell? ⟨bx, 2, none⟩ = some (.int .i64 0) := Bx_2.cell 2)
        | (go_at_call 73; (with_reducible refine (HA.out _).mono ?_); rintro e W3 ⟨rfl, k3⟩; have Bx_3 := Bx_2.keep k3; have Bo_3 := Bo_2.keep k3; have Hw3 := bq_trans Hw2 k3; clear k3 Bx_2 Bo_2 cx_0_2 cx_1_2 cx_2_2 Hw2)
        | (refine wl_store 62 3 size62 _ _ rfl rfl _ rfl _ rfl _ _ Bo_3 rfl rfl (by kernel_rfl) ?_; intro W4 Bo_4 T4; have Bx_4 := T4.blk Bx_3 nxo; have Hw4 := T4.below Hw3 go; clear T4 Bx_3 Bo_3 Hw3))
      exact post_cell Try.underlying62 rfl size62 Try.results57 Bo_4 rfl rfl rfl ⟨rfl, Hw4⟩
  · have ef : x.fin b = ⟨⟨#[]⟩, 0, x.e⟩ := by unfold RS.fin; rw [if_neg he]
    rw [ef]
    have q : (x.e != 0) = true := by rw [bne_iff_ne]; exact he
    obtain ⟨xs, xa, xe⟩ := x
    dsimp only at q
    dsimp only
    clear ef hs he
    go_enter Try.func57, Try.ntmps57
    go_wp2_with (first
      | (refine wl_box 62 _ _ rfl rfl (show _ = Value.agg #[.string xs, .int .i64 xa, .int .i64 xe] from rfl) ?_; intro W1 bx Bx_1 l1 k1; have gx : w.heap.size ≤ bx := l1; have Hw1 := k1; clear l1 k1)
      | (refine wl_alloc 62 _ zero62 rfl rfl ?_; intro W2 bo Bo_2 l2 k2; have go : w.heap.size ≤ bo := Nat.le_trans Hw1.size l2; have nxo : bx ≠ bo := Nat.ne_of_lt (Nat.lt_of_lt_of_le Bx_1.lt l2); have Bx_2 := Bx_1.keep k2; have Hw2 := bq_trans Hw1 k2; clear l2 k2 Bx_1 Hw1; have cx_2_2 : W2.cell? ⟨bx, 2, none⟩ = some (.int .i64 xe) := Bx_2.cell 2)
      | (refine wl_store 62 3 size62 _ _ rfl rfl _ rfl _ rfl _ _ Bo_2 rfl rfl (by kernel_rfl) ?_; intro W3 Bo_3 T3; have Bx_3 := T3.blk Bx_2 nxo; have Hw3 := T3.below Hw2 go; clear T3 Bx_2 cx_2_2 Bo_2 Hw2))
    exact post_cell Try.underlying62 rfl size62 Try.results57 Bo_3 rfl rfl rfl ⟨rfl, Hw3⟩
end Go.Proofs.Ytfaipbdkkkhacaa
/- Layer 7: the document's numbers behind their width, read. -/
namespace Go.Proofs.Ytfaipbdkkkhacaa
open Go.RowKit
set_option linter.unusedVariables false

section
variable {ops : Array Oper} {rest : List Oper} {o : Oper} {a : Act} {w : World} {Q : Exit → Act → World → Prop}
theorem wl_mkI (l c : Operand) (ho : o.op = .makeSlice 82 l c) (hgd : o.guard = none) (n : Nat) (hl : a.eval l = .int .i64 (n : Int)) (hcc : a.eval c = .int .i64 (n : Int)) (hn : n ≤ 1000000)
    (h : ∀ W b, Blk W b (iA (List.replicate n 0)) 3 → w.heap.size ≤ b → Below w.heap.size w W → wpList Try.prog ops Q rest (a.put o.dst (.slice (some ⟨b, 0, none⟩) n n)) W) : wpList Try.prog ops Q (o :: rest) a w := by
  obtain ⟨i0, hi, h2⟩ := Option.map_eq_some_iff.1 int_info
  have e : Array.replicate n (Value.int .i64 0) = iA (List.replicate n 0) := by
    apply Array.ext'
    simp [iA]
  refine wl_make 82 3 i0 (.int .i64 0) Try.underlying82 hi (congrArg (·.1) h2) (congrArg (·.2.1) h2) (by have := congrArg (·.2.2) h2; simp at this; omega) rfl l c ho hgd n hl hcc hn ?_
  rw [e]
  exact h
end
def fillN (N : Nat) (l : List Int) : List Int := l ++ List.replicate (N - l.length) 0
theorem fillN_len (N : Nat) (l : List Int) (h : l.length ≤ N) : (fillN N l).length = N := by simp [fillN]; omega
theorem fillN_all (N : Nat) (l : List Int) (h : l.length = N) : fillN N l = l := by simp [fillN, h]
theorem fillN_set (N : Nat) (l : List Int) (v : Int) (h : l.length < N) : (iA (fillN N l)).setIfInBounds l.length (.int .i64 v) = iA (fillN N (l ++ [v])) := by
  apply Array.ext'
  rw [Array.toList_setIfInBounds]
  simp only [iA, fillN]
  obtain ⟨k, hk⟩ : ∃ k, N - l.length = k + 1 := ⟨N - l.length - 1, by omega⟩
  have e : N - (l ++ [v]).length = k := by simp; omega
  rw [hk, e, List.replicate_succ]
  simp
def SvRel (w : World) (y : RS) (n : Int) (N bx bo bg : Nat) (i : Value) (wr : World) : Prop :=
  ∃ k : Nat, k ≤ N ∧ i = .int .i64 k ∧ Blk wr bx (y.on n k).cells 62 ∧ Blk wr bg (iA (fillN N (y.l n k))) 3 ∧ Blk wr bo #[.string ⟨#[]⟩, .int .i64 0, .int .i64 0] 62 ∧ Below w.heap.size w wr
theorem size3s : (Try.prog.info? 3).map (·.size) = some 1 := by kernel_rfl
set_option maxHeartbeats 2000000 in
theorem several_any (x : RS) (h : Int) (N : Nat) (w : World) (hs : x.s.size ≤ 1000000) (hN : N ≤ 1000000) :
    Calls Try.prog 55 #[.agg x.cells, .int .i64 h, .int .i64 N] w fun e w' => ∃ g, e = .returned (.tuple #[.slice (some ⟨g, 0, none⟩) N N, .agg (x.sevS h N).cells]) ∧ Blk w' g (iA (x.sevL h N)) 3 ∧ w.heap.size ≤ g ∧ Below w.heap.size w w' := by
  have HP := Lib.hid (fun W => rplain_any x h W hs)
  have HS := Lib.hid (fun k W => rsigned_any ((x.go h).on (x.pl h) k) (x.pl h) W (RS.on_size _ _ _ (RS.go_size _ _ hs)))
  unfold RS.sevS RS.sevL
  clear hs
  generalize x.pl h = n at *
  generalize x.go h = y at *
  go_enter Try.func55, Try.ntmps55
  go_wp2_with (first
    | (refine wl_box 62 _ _ rfl rfl (show _ = Value.agg x.cells from rfl) ?_; intro W1 bx Bx_1 l1 k1; have gx : w.heap.size ≤ bx := l1; have Hw1 := k1; clear l1 k1)
    | (refine wl_alloc 62 _ zero62 rfl rfl ?_; intro W2 bo Bo_2 l2 k2; have go : w.heap.size ≤ bo := Nat.le_trans Hw1.size l2; have nxo : bx ≠ bo := Nat.ne_of_lt (Nat.lt_of_lt_of_le Bx_1.lt l2); have Bx_2 := Bx_1.keep k2; have Hw2 := bq_trans Hw1 k2; clear l2 k2 Bx_1 Hw1)
    | (refine wl_load 62 3 _ Try.underlying62 rfl size62 _ rfl rfl _ rfl _ _ Bx_2 rfl ?_)
    | (go_at_call 58; (with_reducible refine (HP.out _).mono ?_); rintro e W3 ⟨rfl, k3⟩; have Bx_3 := Bx_2.keep k3; have Bo_3 := Bo_2.keep k3; have Hw3 := bq_trans Hw2 k3; clear k3 Bx_2 Bo_2 Hw2)
    | (refine wl_store 62 3 size62 _ _ rfl rfl _ rfl _ rfl _ _ Bx_3 rfl rfl (by kernel_rfl) ?_; intro W4 Bx_4 T4; have Bo_4 := T4.blk Bo_3 (Ne.symm nxo); have Hw4 := T4.below Hw3 gx; clear T4 Bo_3 Bx_3 Hw3)
    | (refine wl_mkI _ _ rfl rfl N rfl rfl hN ?_; intro W5 bg Bg_5 l5 k5; have gg : w.heap.size ≤ bg := Nat.le_trans Hw4.size l5; have nxg : bx ≠ bg := Nat.ne_of_lt (Nat.lt_of_lt_of_le Bx_4.lt l5); have nog : bo ≠ bg := Nat.ne_of_lt (Nat.lt_of_lt_of_le Bo_4.lt l5); have Bx_5 := Bx_4.keep k5; have Bo_5 := Bo_4.keep k5; have Hw5 := bq_trans Hw4 k5; clear l5 k5 Bx_4 Bo_4 Hw4))
  have HB := Lib.hid Hw5
  have C0 : Blk W5 bg (iA (fillN N (y.l n 0))) 3 := by unfold fillN; exact Bg_5
  have CX := Bx_5
  have CO := Bo_5
  clear Hw5 Bx_5 Bo_5 Bg_5
  go_loopw [10] (fun i wr => SvRel w y n N bx bo bg i wr) (fun i _ => N - (intOf i).toNat)
  case atStart => exact ⟨0, by omega, rfl, CX, C0, CO, HB.out⟩
  case round =>
    obtain ⟨k, hk, rfl, X, G, O, hbel⟩ := hrel
    have HB2 := Lib.hid hbel
    clear hbel CX C0 CO HB HP
    by_cases hlt : k < N
    · have HF : Hid ((iA (fillN N (y.l n k))).setIfInBounds k (.int .i64 ((y.on n k).sg n)) = iA (fillN N (y.l n (k + 1)))) := Lib.hid (by
        have := fillN_set N (y.l n k) ((y.on n k).sg n) (by rw [RS.l_len]; omega)
        rw [RS.l_len] at this
        exact this)
      have HS2 : Hid (∀ W, Calls Try.prog 71 #[.agg (y.on n k).cells, .int .i64 n] W fun e w' => e = .returned (.tuple #[.int .i64 ((y.on n k).sg n), .agg (y.on n (k + 1)).cells]) ∧ Below W.heap.size W w') := Lib.hid fun W => HS.out k W
      have hsz : k < (iA (fillN N (y.l n k))).size := by rw [iA_size, fillN_len _ _ (by rw [RS.l_len]; omega)]; omega
      generalize (y.on n k).sg n = v at *
      go_wp2_with (first
        | (refine wl_load 62 3 _ Try.underlying62 rfl size62 _ rfl rfl _ rfl _ _ X rfl ?_)
        | (go_at_call 71; (with_reducible refine (HS2.out _).mono ?_); rintro e w2 ⟨rfl, k2⟩; have X2 := X.keep k2; have G2 := G.keep k2; have O2 := O.keep k2)
        | (refine wl_set 3 _ _ rfl rfl bg k rfl (.int .i64 v) rfl rfl size3s _ _ G2 hsz ?_; intro W3 G3 T3; have X3 := T3.blk X2 nxg; have O3 := T3.blk O2 nog)
        | (refine wl_store 62 3 size62 _ _ rfl rfl _ rfl _ rfl _ _ X3 rfl rfl (by kernel_rfl) ?_; intro W4 X4 T4; have G4 := T4.blk G3 (Ne.symm nxg); have O4 := T4.blk O3 (Ne.symm nxo)))
      rw [HF.out] at G4
      have HB3 := Lib.hid (T4.below (T3.below (bq_trans HB2.out k2) gg) gx)
      go_roundw
      case rel => exact ⟨k + 1, by omega, by go_num, X4, G4, O4, HB3.out⟩
      case measure => simp [intOf]; omega
    · obtain rfl : k = N := by omega
      rw [fillN_all _ _ (RS.l_len y n k)] at G
      have HG := Lib.hid G
      have BO := Lib.hid O
      have nox := Ne.symm nxo
      have X' : Blk wr bx #[.string (y.on n k).s, .int .i64 (y.on n k).a, .int .i64 (y.on n k).e] 62 := X
      have HC : Hid (∀ w', But bo bo wr w' → w'.cell? ⟨bx, 0, none⟩ = some (.string (y.on n k).s) ∧ w'.cell? ⟨bx, 1, none⟩ = some (.int .i64 (y.on n k).a) ∧ w'.cell? ⟨bx, 2, none⟩ = some (.int .i64 (y.on n k).e)) := Lib.hid fun w' hw' => ⟨(X'.but hw' nxo nxo).cell 0, (X'.but hw' nxo nxo).cell 1, (X'.but hw' nxo nxo).cell 2⟩
      have hd0 : Below wr.heap.size wr wr.drew := bq_drew (bq_refl wr)
      have d0 := BO.out.cell 0
      have d1 := BO.out.cell 1
      have d2 := BO.out.cell 2
      have f0 := BO.out.frozen 0
      have f1 := BO.out.frozen 1
      have f2 := BO.out.frozen 2
      obtain ⟨zs, hzs⟩ : ∃ z, z = (y.on n k).s := ⟨_, rfl⟩
      obtain ⟨za, hza⟩ : ∃ z, z = (y.on n k).a := ⟨_, rfl⟩
      obtain ⟨ze, hze⟩ : ∃ z, z = (y.on n k).e := ⟨_, rfl⟩
      have HZ : Hid ((y.on n k).cells = #[.string zs, .int .i64 za, .int .i64 ze]) := Lib.hid (by rw [hzs, hza, hze]; rfl)
      rw [← hzs, ← hza, ← hze] at HC
      clear X X' O G hzs hza hze
      go_wp2_with fail
      go_region_held3 (fun w' => w'.cell? ⟨bx, 0, none⟩ = some (.string zs) ∧ w'.cell? ⟨bx, 1, none⟩ = some (.int .i64 za) ∧ w'.cell? ⟨bx, 2, none⟩ = some (.int .i64 ze))
        ((refine HC.out _ ?_; repeat' (first | (with_reducible refine But.setp _ _ ?_) | (with_reducible refine But.setq _ _ ?_) | (with_reducible refine But.drw ?_) | (with_reducible exact But.of (by assumption)) | (with_reducible exact But.of (bq_refl _)))))
        (fail)
      have R9 : Blk (((wr.setCell ⟨bo, 0, none⟩ (.string zs)).setCell ⟨bo, 1, none⟩ (.int .i64 za)).setCell ⟨bo, 2, none⟩ (.int .i64 ze)).drew bo #[.string zs, .int .i64 za, .int .i64 ze] 62 := (((BO.out.set 0 _).set 1 _).set 2 _).drew
      have G9 : Blk (((wr.setCell ⟨bo, 0, none⟩ (.string zs)).setCell ⟨bo, 1, none⟩ (.int .i64 za)).setCell ⟨bo, 2, none⟩ (.int .i64 ze)).drew bg (iA (y.l n k)) 3 := (((HG.out.other _ (Ne.symm nog)).other _ (Ne.symm nog)).other _ (Ne.symm nog)).drew
      go_wp2
      exact post_tmp_cell (v := .slice (some ⟨bg, 0, none⟩) k k) Try.underlying62 rfl size62 Try.results55 R9 rfl rfl rfl rfl ⟨bg, by rw [HZ.out], G9, gg, bq_drew (bq_set (bq_set (bq_set HB2.out _ go _) _ go _) _ go _)⟩
end Go.Proofs.Ytfaipbdkkkhacaa
