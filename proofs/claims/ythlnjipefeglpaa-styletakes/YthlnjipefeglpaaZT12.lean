import Derived.Test.YthlnjipefeglpaaZT8
import Derived.Test.YthlnjipefeglpaaZT9
import Derived.Test.YthlnjipefeglpaaZT11
namespace Go.Proofs.Ythlnjipefeglpaa
open Go.RowKit
set_option linter.unusedVariables false
theorem But.drw {p q : Nat} {w w' : World} (h : But p q w w') : But p q w w'.drew := ⟨h.os, h.tape, h.output, h.size, h.block⟩
theorem size60 : (Try.prog.info? 51).map (·.size) = some 2 := by kernel_rfl
theorem size62 : (Try.prog.info? 53).map (·.size) = some 3 := by kernel_rfl
theorem zero60 (w : World) : (zeroValue 51).run Try.prog w = .ok (.agg #[.string ⟨#[]⟩, .int .i64 0]) w := Try.zeroValue51 w
theorem zero62 (w : World) : (zeroValue 53).run Try.prog w = .ok (.agg #[.string ⟨#[]⟩, .int .i64 0, .int .i64 0]) w := Try.zeroValue53 w
set_option maxHeartbeats 1000000 in
theorem rbegin_any (s : ByteArray) (a : Int) (w : World) (hs : s.size ≤ 1000000) :
    Calls Try.prog 96 #[.agg #[.string s, .int .i64 a]] w fun e w' => e = .returned (.agg (RS.begR s a).cells) ∧ Below w.heap.size w w' := by
  by_cases h : 0 ≤ a ∧ a ≤ 8 * s.size
  · have HR := Lib.hid (fun W => refright_yes s a W (by omega) h.1 h.2)
    have HA := Lib.hid (fun W => refalign_any s a W (by omega))
    have e : RS.begR s a = ⟨s, alA s.size a, 0⟩ := if_pos h
    rw [e]
    clear h hs e
    generalize alA s.size a = b at *
    go_enter Try.func96, Try.ntmps96
    go_wp2_with (first
      | (refine wl_box 51 _ _ rfl rfl (show _ = Value.agg #[.string s, .int .i64 a] from rfl) ?_; intro W1 br Br_1 l1 k1; have gr : w.heap.size ≤ br := l1; have Hw1 := k1; clear l1 k1)
      | (refine wl_alloc 53 _ zero62 rfl rfl ?_; intro W2 bo Bo_2 l2 k2; have go : w.heap.size ≤ bo := Nat.le_trans Hw1.size l2; have nro : br ≠ bo := Nat.ne_of_lt (Nat.lt_of_lt_of_le Br_1.lt l2); have Br_2 := Br_1.keep k2; have Hw2 := bq_trans Hw1 k2; clear l2 k2 Br_1 Hw1)
      | (refine wl_load 51 2 _ Try.underlying51 rfl size60 _ rfl rfl _ rfl _ _ Br_2 rfl ?_)
      | (go_at_call 93; (with_reducible refine (HR.out _).mono ?_); rintro e W3 ⟨rfl, k3⟩; have Br_3 := Br_2.keep k3; have Bo_3 := Bo_2.keep k3; have Hw3 := bq_trans Hw2 k3; clear k3 Br_2 Bo_2 Hw2)
      | (refine wl_load 51 2 _ Try.underlying51 rfl size60 _ rfl rfl _ rfl _ _ Br_3 rfl ?_)
      | (go_at_call 94; (with_reducible refine (HA.out _).mono ?_); rintro e W4 ⟨rfl, k4⟩; have Br_4 := Br_3.keep k4; have Bo_4 := Bo_3.keep k4; have Hw4 := bq_trans Hw3 k4; clear k4 Br_3 Bo_3 Hw3)
      | (refine wl_store 53 3 size62 _ _ rfl rfl _ rfl _ rfl _ _ Bo_4 rfl rfl (by kernel_rfl) ?_; intro W5 Bo_5 T5; have Br_5 := T5.blk Br_4 nro; have Hw5 := T5.below Hw4 go; clear T5 Br_4 Bo_4 Hw4))
    exact post_cell Try.underlying53 rfl size62 Try.results96 Bo_5 rfl rfl rfl ⟨rfl, Hw5⟩
  · have HR := Lib.hid (fun W => refright_no s a W (by omega) (by omega))
    have e : RS.begR s a = ⟨⟨#[]⟩, 0, 1⟩ := if_neg h
    rw [e]
    clear h hs e
    go_enter Try.func96, Try.ntmps96
    go_wp2_with (first
      | (refine wl_box 51 _ _ rfl rfl (show _ = Value.agg #[.string s, .int .i64 a] from rfl) ?_; intro W1 br Br_1 l1 k1; have gr : w.heap.size ≤ br := l1; have Hw1 := k1; clear l1 k1)
      | (refine wl_alloc 53 _ zero62 rfl rfl ?_; intro W2 bo Bo_2 l2 k2; have go : w.heap.size ≤ bo := Nat.le_trans Hw1.size l2; have nro : br ≠ bo := Nat.ne_of_lt (Nat.lt_of_lt_of_le Br_1.lt l2); have Br_2 := Br_1.keep k2; have Hw2 := bq_trans Hw1 k2; clear l2 k2 Br_1 Hw1)
      | (refine wl_load 51 2 _ Try.underlying51 rfl size60 _ rfl rfl _ rfl _ _ Br_2 rfl ?_)
      | (go_at_call 93; (with_reducible refine (HR.out _).mono ?_); rintro e W3 ⟨rfl, k3⟩; have Br_3 := Br_2.keep k3; have Bo_3 := Bo_2.keep k3; have Hw3 := bq_trans Hw2 k3; clear k3 Br_2 Bo_2 Hw2)
      | (refine wl_store 53 3 size62 _ _ rfl rfl _ rfl _ rfl _ _ Bo_3 rfl rfl (by kernel_rfl) ?_; intro W4 Bo_4 T4; have Br_4 := T4.blk Br_3 nro; have Hw4 := T4.below Hw3 go; clear T4 Br_3 Bo_3 Hw3))
    exact post_cell Try.underlying53 rfl size62 Try.results96 Bo_4 rfl rfl rfl ⟨rfl, Hw4⟩
set_option maxHeartbeats 1000000 in
theorem rplain_err (xs : ByteArray) (xa xe n : Int) (w : World) (q : (xe != 0) = true) :
    Calls Try.prog 95 #[.agg #[.string xs, .int .i64 xa, .int .i64 xe], .int .i64 n] w fun e w' => e = .returned (.tuple #[.int .i64 0, .agg #[.string xs, .int .i64 xa, .int .i64 xe]]) ∧ Below w.heap.size w w' := by
  go_enter Try.func95, Try.ntmps95
  go_wp2_with (first
    | (refine wl_box 53 _ _ rfl rfl (show _ = Value.agg #[.string xs, .int .i64 xa, .int .i64 xe] from rfl) ?_; intro W1 bx Bx_1 l1 k1; have gx : w.heap.size ≤ bx := l1; have Hw1 := k1; clear l1 k1)
    | (refine wl_alloc 53 _ zero62 rfl rfl ?_; intro W2 bo Bo_2 l2 k2; have go : w.heap.size ≤ bo := Nat.le_trans Hw1.size l2; have nxo : bx ≠ bo := Nat.ne_of_lt (Nat.lt_of_lt_of_le Bx_1.lt l2); have Bx_2 := Bx_1.keep k2; have Hw2 := bq_trans Hw1 k2; clear l2 k2 Bx_1 Hw1; have cx_2_2 : W2.cell? ⟨bx, 2, none⟩ = some (.int .i64 xe) := Bx_2.cell 2))
  have BO := Lib.hid Bo_2
  have HB := Lib.hid Hw2
  have HC : Hid (∀ w', But bo bo W2 w' → w'.cell? ⟨bx, 0, none⟩ = some (.string xs) ∧ w'.cell? ⟨bx, 1, none⟩ = some (.int .i64 xa) ∧ w'.cell? ⟨bx, 2, none⟩ = some (.int .i64 xe)) := Lib.hid fun w' hw' => ⟨(Bx_2.but hw' nxo nxo).cell 0, (Bx_2.but hw' nxo nxo).cell 1, (Bx_2.but hw' nxo nxo).cell 2⟩
  have hd0 : Below W2.heap.size W2 W2.drew := bq_drew (bq_refl W2)
  have d0 := BO.out.cell 0
  have d1 := BO.out.cell 1
  have d2 := BO.out.cell 2
  have f0 := BO.out.frozen 0
  have f1 := BO.out.frozen 1
  have f2 := BO.out.frozen 2
  clear Bx_2 Bo_2 Hw2 cx_2_2
  go_region_held3 (fun w' => w'.cell? ⟨bx, 0, none⟩ = some (.string xs) ∧ w'.cell? ⟨bx, 1, none⟩ = some (.int .i64 xa) ∧ w'.cell? ⟨bx, 2, none⟩ = some (.int .i64 xe))
    ((refine HC.out _ ?_; repeat' (first | (with_reducible refine But.setp _ _ ?_) | (with_reducible refine But.setq _ _ ?_) | (with_reducible refine But.drw ?_) | (with_reducible exact But.of (by assumption)) | (with_reducible exact But.of (bq_refl _)))))
    (fail)
  have R9 : Blk (((W2.setCell ⟨bo, 0, none⟩ (.string xs)).setCell ⟨bo, 1, none⟩ (.int .i64 xa)).setCell ⟨bo, 2, none⟩ (.int .i64 xe)).drew bo #[.string xs, .int .i64 xa, .int .i64 xe] 53 := (((BO.out.set 0 _).set 1 _).set 2 _).drew
  go_wp2
  exact post_tmp_cell (v := .int .i64 0) Try.underlying53 rfl size62 Try.results95 R9 rfl rfl rfl rfl ⟨rfl, bq_drew (bq_set (bq_set (bq_set HB.out _ go _) _ go _) _ go _)⟩
set_option maxHeartbeats 1000000 in
theorem rplain_ok (xs ys : ByteArray) (xa n v ya ye : Int) (w : World) (HP : Hid (∀ W, Calls Try.prog 105 #[.agg #[.string xs, .int .i64 xa], .int .i64 n] W fun e w' => e = .returned (.tuple #[.int .i64 v, .agg #[.string ys, .int .i64 ya], .int .i64 ye]) ∧ Below W.heap.size W w')) :
    Calls Try.prog 95 #[.agg #[.string xs, .int .i64 xa, .int .i64 0], .int .i64 n] w fun e w' => e = .returned (.tuple #[.int .i64 v, .agg #[.string ys, .int .i64 ya, .int .i64 ye]]) ∧ Below w.heap.size w w' := by
  go_enter Try.func95, Try.ntmps95
  go_wp2_with (first
    | (refine wl_box 53 _ _ rfl rfl (show _ = Value.agg #[.string xs, .int .i64 xa, .int .i64 0] from rfl) ?_; intro W1 bx Bx_1 l1 k1; have gx : w.heap.size ≤ bx := l1; have Hw1 := k1; clear l1 k1)
    | (refine wl_alloc 53 _ zero62 rfl rfl ?_; intro W2 bo Bo_2 l2 k2; have go : w.heap.size ≤ bo := Nat.le_trans Hw1.size l2; have nxo : bx ≠ bo := Nat.ne_of_lt (Nat.lt_of_lt_of_le Bx_1.lt l2); have Bx_2 := Bx_1.keep k2; have Hw2 := bq_trans Hw1 k2; clear l2 k2 Bx_1 Hw1; have cx_0_2 : W2.cell? ⟨bx, 0, none⟩ = some (.string xs) := Bx_2.cell 0; have cx_1_2 : W2.cell? ⟨bx, 1, none⟩ = some (.int .i64 xa) := Bx_2.cell 1; have cx_2_2 : W2.cell? ⟨bx, 2, none⟩ = some (.int .i64 0) := Bx_2.cell 2)
    | (go_at_call 105; (with_reducible refine (HP.out _).mono ?_); rintro e W3 ⟨rfl, k3⟩; have Bx_3 := Bx_2.keep k3; have Bo_3 := Bo_2.keep k3; have Hw3 := bq_trans Hw2 k3; clear k3 Bx_2 Bo_2 cx_0_2 cx_1_2 cx_2_2 Hw2)
    | (refine wl_alloc 51 _ zero60 rfl rfl ?_; intro W4 bz Bz_4 l4 k4; have gz : w.heap.size ≤ bz := Nat.le_trans Hw3.size l4; have nxz : bx ≠ bz := Nat.ne_of_lt (Nat.lt_of_lt_of_le Bx_3.lt l4); have noz : bo ≠ bz := Nat.ne_of_lt (Nat.lt_of_lt_of_le Bo_3.lt l4); have Bx_4 := Bx_3.keep k4; have Bo_4 := Bo_3.keep k4; have Hw4 := bq_trans Hw3 k4; clear l4 k4 Bx_3 Bo_3 Hw3)
    | (refine wl_store 51 2 size60 _ _ rfl rfl _ rfl _ rfl _ _ Bz_4 rfl rfl (by kernel_rfl) ?_; intro W5 Bz_5 T5; have Bx_5 := T5.blk Bx_4 nxz; have Bo_5 := T5.blk Bo_4 noz; have Hw5 := T5.below Hw4 gz; clear T5 Bx_4 Bo_4 Bz_4 Hw4))
  have BO := Lib.hid Bo_5
  have HB := Lib.hid Hw5
  have HC : Hid (∀ w', But bo bo W5 w' → w'.cell? ⟨bz, 0, none⟩ = some (.string ys) ∧ w'.cell? ⟨bz, 1, none⟩ = some (.int .i64 ya)) := Lib.hid fun w' hw' => ⟨(Bz_5.but hw' (Ne.symm noz) (Ne.symm noz)).cell 0, (Bz_5.but hw' (Ne.symm noz) (Ne.symm noz)).cell 1⟩
  have hd0 : Below W5.heap.size W5 W5.drew := bq_drew (bq_refl W5)
  have d0 := BO.out.cell 0
  have d1 := BO.out.cell 1
  have d2 := BO.out.cell 2
  have f0 := BO.out.frozen 0
  have f1 := BO.out.frozen 1
  have f2 := BO.out.frozen 2
  clear Bx_5 Bo_5 Bz_5 Hw5 
  go_region_held3 (fun w' => w'.cell? ⟨bz, 0, none⟩ = some (.string ys) ∧ w'.cell? ⟨bz, 1, none⟩ = some (.int .i64 ya))
    ((refine HC.out _ ?_; repeat' (first | (with_reducible refine But.setp _ _ ?_) | (with_reducible refine But.setq _ _ ?_) | (with_reducible refine But.drw ?_) | (with_reducible exact But.of (by assumption)) | (with_reducible exact But.of (bq_refl _)))))
    (fail)
  have R9 : Blk (((W5.setCell ⟨bo, 0, none⟩ (.string ys)).setCell ⟨bo, 1, none⟩ (.int .i64 ya)).setCell ⟨bo, 2, none⟩ (.int .i64 ye)).drew bo #[.string ys, .int .i64 ya, .int .i64 ye] 53 := (((BO.out.set 0 _).set 1 _).set 2 _).drew
  go_wp2
  exact post_tmp_cell (v := .int .i64 v) Try.underlying53 rfl size62 Try.results95 R9 rfl rfl rfl rfl ⟨rfl, bq_drew (bq_set (bq_set (bq_set HB.out _ go _) _ go _) _ go _)⟩
theorem rplain_any (x : RS) (n : Int) (w : World) (hs : x.s.size ≤ 1000000) :
    Calls Try.prog 95 #[.agg x.cells, .int .i64 n] w fun e w' => e = .returned (.tuple #[.int .i64 (x.pl n), .agg (x.go n).cells]) ∧ Below w.heap.size w w' := by
  by_cases he : x.e = 0
  · obtain ⟨e1, e2, e3⟩ := RS.fine he n
    rw [e1, e3]
    obtain ⟨xs, xa, xe⟩ := x
    dsimp only at he hs
    subst he
    exact rplain_ok xs _ xa n _ _ _ w (Lib.hid fun W => refplain_any xs xa n W (by omega))
  · obtain ⟨e1, e2, e3⟩ := RS.err he n
    rw [e1, e3]
    exact rplain_err x.s x.a x.e n w (by rw [bne_iff_ne]; exact he)
set_option maxHeartbeats 1000000 in
theorem rsigned_err (xs : ByteArray) (xa xe n : Int) (w : World) (q : (xe != 0) = true) :
    Calls Try.prog 106 #[.agg #[.string xs, .int .i64 xa, .int .i64 xe], .int .i64 n] w fun e w' => e = .returned (.tuple #[.int .i64 0, .agg #[.string xs, .int .i64 xa, .int .i64 xe]]) ∧ Below w.heap.size w w' := by
  go_enter Try.func106, Try.ntmps106
  go_wp2_with (first
    | (refine wl_box 53 _ _ rfl rfl (show _ = Value.agg #[.string xs, .int .i64 xa, .int .i64 xe] from rfl) ?_; intro W1 bx Bx_1 l1 k1; have gx : w.heap.size ≤ bx := l1; have Hw1 := k1; clear l1 k1)
    | (refine wl_alloc 53 _ zero62 rfl rfl ?_; intro W2 bo Bo_2 l2 k2; have go : w.heap.size ≤ bo := Nat.le_trans Hw1.size l2; have nxo : bx ≠ bo := Nat.ne_of_lt (Nat.lt_of_lt_of_le Bx_1.lt l2); have Bx_2 := Bx_1.keep k2; have Hw2 := bq_trans Hw1 k2; clear l2 k2 Bx_1 Hw1; have cx_2_2 : W2.cell? ⟨bx, 2, none⟩ = some (.int .i64 xe) := Bx_2.cell 2))
  have BO := Lib.hid Bo_2
  have HB := Lib.hid Hw2
  have HC : Hid (∀ w', But bo bo W2 w' → w'.cell? ⟨bx, 0, none⟩ = some (.string xs) ∧ w'.cell? ⟨bx, 1, none⟩ = some (.int .i64 xa) ∧ w'.cell? ⟨bx, 2, none⟩ = some (.int .i64 xe)) := Lib.hid fun w' hw' => ⟨(Bx_2.but hw' nxo nxo).cell 0, (Bx_2.but hw' nxo nxo).cell 1, (Bx_2.but hw' nxo nxo).cell 2⟩
  have hd0 : Below W2.heap.size W2 W2.drew := bq_drew (bq_refl W2)
  have d0 := BO.out.cell 0
  have d1 := BO.out.cell 1
  have d2 := BO.out.cell 2
  have f0 := BO.out.frozen 0
  have f1 := BO.out.frozen 1
  have f2 := BO.out.frozen 2
  clear Bx_2 Bo_2 Hw2 cx_2_2
  go_region_held3 (fun w' => w'.cell? ⟨bx, 0, none⟩ = some (.string xs) ∧ w'.cell? ⟨bx, 1, none⟩ = some (.int .i64 xa) ∧ w'.cell? ⟨bx, 2, none⟩ = some (.int .i64 xe))
    ((refine HC.out _ ?_; repeat' (first | (with_reducible refine But.setp _ _ ?_) | (with_reducible refine But.setq _ _ ?_) | (with_reducible refine But.drw ?_) | (with_reducible exact But.of (by assumption)) | (with_reducible exact But.of (bq_refl _)))))
    (fail)
  have R9 : Blk (((W2.setCell ⟨bo, 0, none⟩ (.string xs)).setCell ⟨bo, 1, none⟩ (.int .i64 xa)).setCell ⟨bo, 2, none⟩ (.int .i64 xe)).drew bo #[.string xs, .int .i64 xa, .int .i64 xe] 53 := (((BO.out.set 0 _).set 1 _).set 2 _).drew
  go_wp2
  exact post_tmp_cell (v := .int .i64 0) Try.underlying53 rfl size62 Try.results106 R9 rfl rfl rfl rfl ⟨rfl, bq_drew (bq_set (bq_set (bq_set HB.out _ go _) _ go _) _ go _)⟩
set_option maxHeartbeats 1000000 in
theorem rsigned_ok (xs ys : ByteArray) (xa n v ya ye : Int) (w : World) (HP : Hid (∀ W, Calls Try.prog 111 #[.agg #[.string xs, .int .i64 xa], .int .i64 n] W fun e w' => e = .returned (.tuple #[.int .i64 v, .agg #[.string ys, .int .i64 ya], .int .i64 ye]) ∧ Below W.heap.size W w')) :
    Calls Try.prog 106 #[.agg #[.string xs, .int .i64 xa, .int .i64 0], .int .i64 n] w fun e w' => e = .returned (.tuple #[.int .i64 v, .agg #[.string ys, .int .i64 ya, .int .i64 ye]]) ∧ Below w.heap.size w w' := by
  go_enter Try.func106, Try.ntmps106
  go_wp2_with (first
    | (refine wl_box 53 _ _ rfl rfl (show _ = Value.agg #[.string xs, .int .i64 xa, .int .i64 0] from rfl) ?_; intro W1 bx Bx_1 l1 k1; have gx : w.heap.size ≤ bx := l1; have Hw1 := k1; clear l1 k1)
    | (refine wl_alloc 53 _ zero62 rfl rfl ?_; intro W2 bo Bo_2 l2 k2; have go : w.heap.size ≤ bo := Nat.le_trans Hw1.size l2; have nxo : bx ≠ bo := Nat.ne_of_lt (Nat.lt_of_lt_of_le Bx_1.lt l2); have Bx_2 := Bx_1.keep k2; have Hw2 := bq_trans Hw1 k2; clear l2 k2 Bx_1 Hw1; have cx_0_2 : W2.cell? ⟨bx, 0, none⟩ = some (.string xs) := Bx_2.cell 0; have cx_1_2 : W2.cell? ⟨bx, 1, none⟩ = some (.int .i64 xa) := Bx_2.cell 1; have cx_2_2 : W2.cell? ⟨bx, 2, none⟩ = some (.int .i64 0) := Bx_2.cell 2)
    | (go_at_call 111; (with_reducible refine (HP.out _).mono ?_); rintro e W3 ⟨rfl, k3⟩; have Bx_3 := Bx_2.keep k3; have Bo_3 := Bo_2.keep k3; have Hw3 := bq_trans Hw2 k3; clear k3 Bx_2 Bo_2 cx_0_2 cx_1_2 cx_2_2 Hw2)
    | (refine wl_alloc 51 _ zero60 rfl rfl ?_; intro W4 bz Bz_4 l4 k4; have gz : w.heap.size ≤ bz := Nat.le_trans Hw3.size l4; have nxz : bx ≠ bz := Nat.ne_of_lt (Nat.lt_of_lt_of_le Bx_3.lt l4); have noz : bo ≠ bz := Nat.ne_of_lt (Nat.lt_of_lt_of_le Bo_3.lt l4); have Bx_4 := Bx_3.keep k4; have Bo_4 := Bo_3.keep k4; have Hw4 := bq_trans Hw3 k4; clear l4 k4 Bx_3 Bo_3 Hw3)
    | (refine wl_store 51 2 size60 _ _ rfl rfl _ rfl _ rfl _ _ Bz_4 rfl rfl (by kernel_rfl) ?_; intro W5 Bz_5 T5; have Bx_5 := T5.blk Bx_4 nxz; have Bo_5 := T5.blk Bo_4 noz; have Hw5 := T5.below Hw4 gz; clear T5 Bx_4 Bo_4 Bz_4 Hw4))
  have BO := Lib.hid Bo_5
  have HB := Lib.hid Hw5
  have HC : Hid (∀ w', But bo bo W5 w' → w'.cell? ⟨bz, 0, none⟩ = some (.string ys) ∧ w'.cell? ⟨bz, 1, none⟩ = some (.int .i64 ya)) := Lib.hid fun w' hw' => ⟨(Bz_5.but hw' (Ne.symm noz) (Ne.symm noz)).cell 0, (Bz_5.but hw' (Ne.symm noz) (Ne.symm noz)).cell 1⟩
  have hd0 : Below W5.heap.size W5 W5.drew := bq_drew (bq_refl W5)
  have d0 := BO.out.cell 0
  have d1 := BO.out.cell 1
  have d2 := BO.out.cell 2
  have f0 := BO.out.frozen 0
  have f1 := BO.out.frozen 1
  have f2 := BO.out.frozen 2
  clear Bx_5 Bo_5 Bz_5 Hw5 
  go_region_held3 (fun w' => w'.cell? ⟨bz, 0, none⟩ = some (.string ys) ∧ w'.cell? ⟨bz, 1, none⟩ = some (.int .i64 ya))
    ((refine HC.out _ ?_; repeat' (first | (with_reducible refine But.setp _ _ ?_) | (with_reducible refine But.setq _ _ ?_) | (with_reducible refine But.drw ?_) | (with_reducible exact But.of (by assumption)) | (with_reducible exact But.of (bq_refl _)))))
    (fail)
  have R9 : Blk (((W5.setCell ⟨bo, 0, none⟩ (.string ys)).setCell ⟨bo, 1, none⟩ (.int .i64 ya)).setCell ⟨bo, 2, none⟩ (.int .i64 ye)).drew bo #[.string ys, .int .i64 ya, .int .i64 ye] 53 := (((BO.out.set 0 _).set 1 _).set 2 _).drew
  go_wp2
  exact post_tmp_cell (v := .int .i64 v) Try.underlying53 rfl size62 Try.results106 R9 rfl rfl rfl rfl ⟨rfl, bq_drew (bq_set (bq_set (bq_set HB.out _ go _) _ go _) _ go _)⟩
theorem rsigned_any (x : RS) (n : Int) (w : World) (hs : x.s.size ≤ 1000000) :
    Calls Try.prog 106 #[.agg x.cells, .int .i64 n] w fun e w' => e = .returned (.tuple #[.int .i64 (x.sg n), .agg (x.go n).cells]) ∧ Below w.heap.size w w' := by
  by_cases he : x.e = 0
  · obtain ⟨e1, e2, e3⟩ := RS.fine he n
    rw [e2, e3]
    obtain ⟨xs, xa, xe⟩ := x
    dsimp only at he hs
    subst he
    exact rsigned_ok xs _ xa n _ _ _ w (Lib.hid fun W => refsigned_any xs xa n W (by omega))
  · obtain ⟨e1, e2, e3⟩ := RS.err he n
    rw [e2, e3]
    exact rsigned_err x.s x.a x.e n w (by rw [bne_iff_ne]; exact he)
set_option maxHeartbeats 1000000 in
theorem rdone_any (x : RS) (b : Bool) (w : World) (hs : x.s.size ≤ 1000000) :
    Calls Try.prog 98 #[.agg x.cells, .bool b] w fun e w' => e = .returned (.agg (x.fin b).cells) ∧ Below w.heap.size w w' := by
  by_cases he : x.e = 0
  · cases b
    · have ef : x.fin false = ⟨⟨#[]⟩, 0, 3⟩ := by unfold RS.fin; rw [if_pos he]; rfl
      rw [ef]
      obtain ⟨xs, xa, xe⟩ := x
      dsimp only at he
      subst he
      clear ef hs
      go_enter Try.func98, Try.ntmps98
      go_wp2_with (first
        | (refine wl_box 53 _ _ rfl rfl (show _ = Value.agg #[.string xs, .int .i64 xa, .int .i64 0] from rfl) ?_; intro W1 bx Bx_1 l1 k1; have gx : w.heap.size ≤ bx := l1; have Hw1 := k1; clear l1 k1)
        | (refine wl_alloc 53 _ zero62 rfl rfl ?_; intro W2 bo Bo_2 l2 k2; have go : w.heap.size ≤ bo := Nat.le_trans Hw1.size l2; have nxo : bx ≠ bo := Nat.ne_of_lt (Nat.lt_of_lt_of_le Bx_1.lt l2); have Bx_2 := Bx_1.keep k2; have Hw2 := bq_trans Hw1 k2; clear l2 k2 Bx_1 Hw1; have cx_2_2 : W2.cell? ⟨bx, 2, none⟩ = some (.int .i64 0) := Bx_2.cell 2)
        | (refine wl_store 53 3 size62 _ _ rfl rfl _ rfl _ rfl _ _ Bo_2 rfl rfl (by kernel_rfl) ?_; intro W3 Bo_3 T3; have Bx_3 := T3.blk Bx_2 nxo; have Hw3 := T3.below Hw2 go; clear T3 Bx_2 cx_2_2 Bo_2 Hw2))
      exact post_cell Try.underlying53 rfl size62 Try.results98 Bo_3 rfl rfl rfl ⟨rfl, Hw3⟩
    · have ef : x.fin true = ⟨x.s, alA x.s.size x.a, 0⟩ := by unfold RS.fin; rw [if_pos he]; rfl
      rw [ef]
      obtain ⟨xs, xa, xe⟩ := x
      dsimp only at he hs
      subst he
      have HA := Lib.hid (fun W => refalign_any xs xa W (by omega))
      dsimp only
      generalize alA xs.size xa = ya at *
      clear ef hs
      go_enter Try.func98, Try.ntmps98
      go_wp2_with (first
        | (refine wl_box 53 _ _ rfl rfl (show _ = Value.agg #[.string xs, .int .i64 xa, .int .i64 0] from rfl) ?_; intro W1 bx Bx_1 l1 k1; have gx : w.heap.size ≤ bx := l1; have Hw1 := k1; clear l1 k1)
        | (refine wl_alloc 53 _ zero62 rfl rfl ?_; intro W2 bo Bo_2 l2 k2; have go : w.heap.size ≤ bo := Nat.le_trans Hw1.size l2; have nxo : bx ≠ bo := Nat.ne_of_lt (Nat.lt_of_lt_of_le Bx_1.lt l2); have Bx_2 := Bx_1.keep k2; have Hw2 := bq_trans Hw1 k2; clear l2 k2 Bx_1 Hw1; have cx_0_2 : W2.cell? ⟨bx, 0, none⟩ = some (.string xs) := Bx_2.cell 0; have cx_1_2 : W2.cell? ⟨bx, 1, none⟩ = some (.int .i64 xa) := Bx_2.cell 1; have cx_2_2 : W2.cell? ⟨bx, 2, none⟩ = some (.int .i64 0) := Bx_2.cell 2)
        | (go_at_call 94; (with_reducible refine (HA.out _).mono ?_); rintro e W3 ⟨rfl, k3⟩; have Bx_3 := Bx_2.keep k3; have Bo_3 := Bo_2.keep k3; have Hw3 := bq_trans Hw2 k3; clear k3 Bx_2 Bo_2 cx_0_2 cx_1_2 cx_2_2 Hw2)
        | (refine wl_store 53 3 size62 _ _ rfl rfl _ rfl _ rfl _ _ Bo_3 rfl rfl (by kernel_rfl) ?_; intro W4 Bo_4 T4; have Bx_4 := T4.blk Bx_3 nxo; have Hw4 := T4.below Hw3 go; clear T4 Bx_3 Bo_3 Hw3))
      exact post_cell Try.underlying53 rfl size62 Try.results98 Bo_4 rfl rfl rfl ⟨rfl, Hw4⟩
  · have ef : x.fin b = ⟨⟨#[]⟩, 0, x.e⟩ := by unfold RS.fin; rw [if_neg he]
    rw [ef]
    have q : (x.e != 0) = true := by rw [bne_iff_ne]; exact he
    obtain ⟨xs, xa, xe⟩ := x
    dsimp only at q
    dsimp only
    clear ef hs he
    go_enter Try.func98, Try.ntmps98
    go_wp2_with (first
      | (refine wl_box 53 _ _ rfl rfl (show _ = Value.agg #[.string xs, .int .i64 xa, .int .i64 xe] from rfl) ?_; intro W1 bx Bx_1 l1 k1; have gx : w.heap.size ≤ bx := l1; have Hw1 := k1; clear l1 k1)
      | (refine wl_alloc 53 _ zero62 rfl rfl ?_; intro W2 bo Bo_2 l2 k2; have go : w.heap.size ≤ bo := Nat.le_trans Hw1.size l2; have nxo : bx ≠ bo := Nat.ne_of_lt (Nat.lt_of_lt_of_le Bx_1.lt l2); have Bx_2 := Bx_1.keep k2; have Hw2 := bq_trans Hw1 k2; clear l2 k2 Bx_1 Hw1; have cx_2_2 : W2.cell? ⟨bx, 2, none⟩ = some (.int .i64 xe) := Bx_2.cell 2)
      | (refine wl_store 53 3 size62 _ _ rfl rfl _ rfl _ rfl _ _ Bo_2 rfl rfl (by kernel_rfl) ?_; intro W3 Bo_3 T3; have Bx_3 := T3.blk Bx_2 nxo; have Hw3 := T3.below Hw2 go; clear T3 Bx_2 cx_2_2 Bo_2 Hw2))
    exact post_cell Try.underlying53 rfl size62 Try.results98 Bo_3 rfl rfl rfl ⟨rfl, Hw3⟩
end Go.Proofs.Ythlnjipefeglpaa
