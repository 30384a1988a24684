import Derived.Test.YthlnjipefeglpaaZT7
import Derived.Test.YthlnjipefeglpaaZT19
import Derived.Test.YthlnjipefeglpaaZT22
import Derived.Test.YthlnjipefeglpaaZT11
import Derived.Laws.StructEq
namespace Go.Proofs.Ythlnjipefeglpaa
open Go.RowKit
set_option linter.unusedVariables false
set_option maxRecDepth 100000
theorem size25r : (Try.prog.info? 23).map (·.size) = some 4 := by kernel_rfl
theorem size25m : (Try.prog.info? 25).map (·.size) = some 6 := by kernel_rfl
theorem zero25r (w : World) : (zeroValue 23).run Try.prog w = .ok (.agg (iA [0, 0, 0, 0])) w := Try.zeroValue23 w
theorem zero25m (w : World) : (zeroValue 25).run Try.prog w = .ok (.agg (iA [0, 0, 0, 0, 0, 0])) w := Try.zeroValue25 w
theorem qRG (a0 a1 a2 a3 b0 b1 b2 b3 : Int) (w : World) : (Op.equalIn 10000 23 (.agg #[.int .i64 a0, .int .i64 a1, .int .i64 a2, .int .i64 a3]) (.agg #[.int .i64 b0, .int .i64 b1, .int .i64 b2, .int .i64 b3])).run Try.prog w = .ok (decide ([a0, a1, a2, a3] = [b0, b1, b2, b3])) w := by
  go_simp
  repeat' split
  all_goals simp_all
theorem qMT (a0 a1 a2 a3 a4 a5 b0 b1 b2 b3 b4 b5 : Int) (w : World) : (Op.equalIn 10000 25 (.agg #[.int .i64 a0, .int .i64 a1, .int .i64 a2, .int .i64 a3, .int .i64 a4, .int .i64 a5]) (.agg #[.int .i64 b0, .int .i64 b1, .int .i64 b2, .int .i64 b3, .int .i64 b4, .int .i64 b5])).run Try.prog w = .ok (decide ([a0, a1, a2, a3, a4, a5] = [b0, b1, b2, b3, b4, b5])) w := by
  go_simp
  repeat' split
  all_goals simp_all
theorem qSP (a0 a1 a2 a3 a4 b0 b1 b2 b3 b4 : Int) (w : World) : (Op.equalIn 10000 65 (.agg #[.int .i64 a0, .int .i64 a1, .int .i64 a2, .int .i64 a3, .int .i64 a4]) (.agg #[.int .i64 b0, .int .i64 b1, .int .i64 b2, .int .i64 b3, .int .i64 b4])).run Try.prog w = .ok (decide ([a0, a1, a2, a3, a4] = [b0, b1, b2, b3, b4])) w := by
  go_simp
  repeat' split
  all_goals simp_all
theorem qSK (a0 a1 a2 a3 a4 b0 b1 b2 b3 b4 : Int) (w : World) : (Op.equalIn 10000 30 (.agg #[.int .i64 a0, .int .i64 a1, .int .i64 a2, .int .i64 a3, .int .i64 a4]) (.agg #[.int .i64 b0, .int .i64 b1, .int .i64 b2, .int .i64 b3, .int .i64 b4])).run Try.prog w = .ok (decide ([a0, a1, a2, a3, a4] = [b0, b1, b2, b3, b4])) w := by
  go_simp
  repeat' split
  all_goals simp_all
def strokeOk (x r g b a : Int) : Bool := decide (0 ≤ x) && decide (x < 65536) && rgbaOk r g b a
def by1 (n : Nat) : List UInt8 := [UInt8.ofNat n]
def by2 (n : Nat) : List UInt8 := [UInt8.ofNat (n % 256), UInt8.ofNat (n / 256)]
def liV (s : ByteArray) (a n : Int) : Int := (B.lv (byB s a n).data.toList : Int)
def RS.li (x : RS) (n : Int) : Int := if x.e = 0 then liV x.s x.a n else 0
def RS.liS (x : RS) (n : Int) : RS := if x.e = 0 then ⟨byS x.s x.a n, byA x.s x.a n, byE x.s.size x.a n⟩ else x
theorem RS.liS_size (x : RS) (n : Int) {m : Nat} (h : x.s.size ≤ m) : (x.liS n).s.size ≤ m := by
  unfold RS.liS
  split
  · show (byS _ _ _).size ≤ m
    unfold byS
    split
    · exact h
    · exact Nat.zero_le _
  · exact h
set_option maxHeartbeats 1000000 in
theorem rlittle_err (xs : ByteArray) (xa xe n : Int) (w : World) (q : (xe != 0) = true) :
    Calls Try.prog 45 #[.agg #[.string xs, .int .i64 xa, .int .i64 xe], .int .i64 n] w fun e w' => e = .returned (.tuple #[.int .i64 0, .agg #[.string xs, .int .i64 xa, .int .i64 xe]]) ∧ Below w.heap.size w w' := by
  go_enter Try.func45, Try.ntmps45
  go_wp2_with (first
    | (refine wl_box 53 _ _ rfl rfl (show _ = Value.agg #[.string xs, .int .i64 xa, .int .i64 xe] from rfl) ?_; intro W1 bx Bx_1 l1 k1; have gx : w.heap.size ≤ bx := l1; have Hw1 := k1; clear l1 k1)
    | (refine wl_alloc 53 _ zero62 rfl rfl ?_; intro W2 bo Bo_2 l2 k2; have go : w.heap.size ≤ bo := Nat.le_trans Hw1.size l2; have nxo : bx ≠ bo := Nat.ne_of_lt (Nat.lt_of_lt_of_le Bx_1.lt l2); have Bx_2 := Bx_1.keep k2; have Hw2 := bq_trans Hw1 k2; clear l2 k2 Bx_1 Hw1; have cx_2_2 : W2.cell? ⟨bx, 2, none⟩ = some (.int .i64 xe) := Bx_2.cell 2))
  have BO := Lib.hid Bo_2
  have HB := Lib.hid Hw2
  have HC : Hid (∀ w', But bo bo W2 w' → w'.cell? ⟨bx, 0, none⟩ = some (.string xs) ∧ w'.cell? ⟨bx, 1, none⟩ = some (.int .i64 xa) ∧ w'.cell? ⟨bx, 2, none⟩ = some (.int .i64 xe)) := Lib.hid fun w' hw' => ⟨(Bx_2.but hw' nxo nxo).cell 0, (Bx_2.but hw' nxo nxo).cell 1, (Bx_2.but hw' nxo nxo).cell 2⟩
  have hd0 : Below W2.heap.size W2 W2.drew := bq_drew (bq_refl W2)
  have d0 := BO.out.cell 0
  have d1 := BO.out.cell 1
  have d2 := BO.out.cell 2
  have f0 := BO.out.frozen 0
  have f1 := BO.out.frozen 1
  have f2 := BO.out.frozen 2
  clear Bx_2 Bo_2 Hw2 cx_2_2
  go_region_held3 (fun w' => w'.cell? ⟨bx, 0, none⟩ = some (.string xs) ∧ w'.cell? ⟨bx, 1, none⟩ = some (.int .i64 xa) ∧ w'.cell? ⟨bx, 2, none⟩ = some (.int .i64 xe))
    ((refine HC.out _ ?_; repeat' (first | (with_reducible refine But.setp _ _ ?_) | (with_reducible refine But.setq _ _ ?_) | (with_reducible refine But.drw ?_) | (with_reducible exact But.of (by assumption)) | (with_reducible exact But.of (bq_refl _)))))
    (fail)
  have R9 : Blk (((W2.setCell ⟨bo, 0, none⟩ (.string xs)).setCell ⟨bo, 1, none⟩ (.int .i64 xa)).setCell ⟨bo, 2, none⟩ (.int .i64 xe)).drew bo #[.string xs, .int .i64 xa, .int .i64 xe] 53 := (((BO.out.set 0 _).set 1 _).set 2 _).drew
  go_wp2
  exact post_tmp_cell (v := .int .i64 0) Try.underlying53 rfl size62 Try.results45 R9 rfl rfl rfl rfl ⟨rfl, bq_drew (bq_set (bq_set (bq_set HB.out _ go _) _ go _) _ go _)⟩
set_option maxHeartbeats 1000000 in
theorem rlittle_ok (xs ys : ByteArray) (xa n v ya ye : Int) (w : World) (HP : Hid (∀ W, Calls Try.prog 62 #[.agg #[.string xs, .int .i64 xa], .int .i64 n] W fun e w' => e = .returned (.tuple #[.int .i64 v, .agg #[.string ys, .int .i64 ya], .int .i64 ye]) ∧ Below W.heap.size W w')) :
    Calls Try.prog 45 #[.agg #[.string xs, .int .i64 xa, .int .i64 0], .int .i64 n] w fun e w' => e = .returned (.tuple #[.int .i64 v, .agg #[.string ys, .int .i64 ya, .int .i64 ye]]) ∧ Below w.heap.size w w' := by
  go_enter Try.func45, Try.ntmps45
  go_wp2_with (first
    | (refine wl_box 53 _ _ rfl rfl (show _ = Value.agg #[.string xs, .int .i64 xa, .int .i64 0] from rfl) ?_; intro W1 bx Bx_1 l1 k1; have gx : w.heap.size ≤ bx := l1; have Hw1 := k1; clear l1 k1)
    | (refine wl_alloc 53 _ zero62 rfl rfl ?_; intro W2 bo Bo_2 l2 k2; have go : w.heap.size ≤ bo := Nat.le_trans Hw1.size l2; have nxo : bx ≠ bo := Nat.ne_of_lt (Nat.lt_of_lt_of_le Bx_1.lt l2); have Bx_2 := Bx_1.keep k2; have Hw2 := bq_trans Hw1 k2; clear l2 k2 Bx_1 Hw1; have cx_0_2 : W2.cell? ⟨bx, 0, none⟩ = some (.string xs) := Bx_2.cell 0; have cx_1_2 : W2.cell? ⟨bx, 1, none⟩ = some (.int .i64 xa) := Bx_2.cell 1; have cx_2_2 : W2.cell? ⟨bx, 2, none⟩ = some (.int .i64 0) := Bx_2.cell 2)
    | (go_at_call 62; (with_reducible refine (HP.out _).mono ?_); rintro e W3 ⟨rfl, k3⟩; have Bx_3 := Bx_2.keep k3; have Bo_3 := Bo_2.keep k3; have Hw3 := bq_trans Hw2 k3; clear k3 Bx_2 Bo_2 cx_0_2 cx_1_2 cx_2_2 Hw2)
    | (refine wl_alloc 51 _ zero60 rfl rfl ?_; intro W4 bz Bz_4 l4 k4; have gz : w.heap.size ≤ bz := Nat.le_trans Hw3.size l4; have nxz : bx ≠ bz := Nat.ne_of_lt (Nat.lt_of_lt_of_le Bx_3.lt l4); have noz : bo ≠ bz := Nat.ne_of_lt (Nat.lt_of_lt_of_le Bo_3.lt l4); have Bx_4 := Bx_3.keep k4; have Bo_4 := Bo_3.keep k4; have Hw4 := bq_trans Hw3 k4; clear l4 k4 Bx_3 Bo_3 Hw3)
    | (refine wl_store 51 2 size60 _ _ rfl rfl _ rfl _ rfl _ _ Bz_4 rfl rfl (by kernel_rfl) ?_; intro W5 Bz_5 T5; have Bx_5 := T5.blk Bx_4 nxz; have Bo_5 := T5.blk Bo_4 noz; have Hw5 := T5.below Hw4 gz; clear T5 Bx_4 Bo_4 Bz_4 Hw4))
  have BO := Lib.hid Bo_5
  have HB := Lib.hid Hw5
  have HC : Hid (∀ w', But bo bo W5 w' → w'.cell? ⟨bz, 0, none⟩ = some (.string ys) ∧ w'.cell? ⟨bz, 1, none⟩ = some (.int .i64 ya)) := Lib.hid fun w' hw' => ⟨(Bz_5.but hw' (Ne.symm noz) (Ne.symm noz)).cell 0, (Bz_5.but hw' (Ne.symm noz) (Ne.symm noz)).cell 1⟩
  have hd0 : Below W5.heap.size W5 W5.drew := bq_drew (bq_refl W5)
  have d0 := BO.out.cell 0
  have d1 := BO.out.cell 1
  have d2 := BO.out.cell 2
  have f0 := BO.out.frozen 0
  have f1 := BO.out.frozen 1
  have f2 := BO.out.frozen 2
  clear Bx_5 Bo_5 Bz_5 Hw5 
  go_region_held3 (fun w' => w'.cell? ⟨bz, 0, none⟩ = some (.string ys) ∧ w'.cell? ⟨bz, 1, none⟩ = some (.int .i64 ya))
    ((refine HC.out _ ?_; repeat' (first | (with_reducible refine But.setp _ _ ?_) | (with_reducible refine But.setq _ _ ?_) | (with_reducible refine But.drw ?_) | (with_reducible exact But.of (by assumption)) | (with_reducible exact But.of (bq_refl _)))))
    (fail)
  have R9 : Blk (((W5.setCell ⟨bo, 0, none⟩ (.string ys)).setCell ⟨bo, 1, none⟩ (.int .i64 ya)).setCell ⟨bo, 2, none⟩ (.int .i64 ye)).drew bo #[.string ys, .int .i64 ya, .int .i64 ye] 53 := (((BO.out.set 0 _).set 1 _).set 2 _).drew
  go_wp2
  exact post_tmp_cell (v := .int .i64 v) Try.underlying53 rfl size62 Try.results45 R9 rfl rfl rfl rfl ⟨rfl, bq_drew (bq_set (bq_set (bq_set HB.out _ go _) _ go _) _ go _)⟩
theorem rlittle8_any (x : RS) (n : Int) (w : World) (hs : x.s.size ≤ 1000000) (h1 : 1 ≤ n) (h4 : n ≤ 4) :
    Calls Try.prog 45 #[.agg x.cells, .int .i64 n] w fun e w' => e = .returned (.tuple #[.int .i64 (x.li n), .agg (x.liS n).cells]) ∧ Below w.heap.size w w' := by
  by_cases he : x.e = 0
  · have e1 : x.li n = liV x.s x.a n := if_pos he
    have e2 : x.liS n = ⟨byS x.s x.a n, byA x.s x.a n, byE x.s.size x.a n⟩ := if_pos he
    rw [e1, e2]
    obtain ⟨xs, xa, xe⟩ := x
    dsimp only at he hs
    subst he
    have HP := Lib.hid (fun W => reflittle_any xs xa n W (by omega))
    unfold liR at HP
    rw [if_pos ⟨h1, h4⟩] at HP
    exact rlittle_ok xs _ xa n _ _ _ w HP
  · have e1 : x.li n = 0 := if_neg he
    have e2 : x.liS n = x := if_neg he
    rw [e1, e2]
    exact rlittle_err x.s x.a x.e n w (by rw [bne_iff_ne]; exact he)
theorem rgV_len8 (s : ByteArray) (a : Int) : (rgV s a).length = 4 := by
  unfold rgV
  split
  · rename_i h
    rw [List.length_map]
    have hb : byE s.size a 4 = 0 → (0 ≤ a ∧ a ≤ 8 * s.size ∧ (0 : Int) ≤ 4) ∧ ¬ ((s.size : Int) - (a + 7) / 8 < 4) := fun h => by
      unfold byE at h
      split at h
      · rename_i hh
        split at h
        · cases h
        · rename_i h2; exact ⟨hh, h2⟩
      · cases h
    obtain ⟨⟨h0, h1, _⟩, h2⟩ := hb h
    have : (byB s a 4).data.toList.length = (byB s a 4).size := by rw [Array.length_toList]; rfl
    rw [this]
    unfold byB
    rw [if_pos h, ByteArray.size_extract]
    have e4 : (4 : Int).toNat = 4 := rfl
    rw [e4]
    omega
  · rfl
def RS.cv (x : RS) : List Int := if x.e = 0 then rgV x.s x.a else [0, 0, 0, 0]
def RS.cvS (x : RS) : RS := if x.e = 0 then ⟨byS x.s x.a 4, byA x.s x.a 4, byE x.s.size x.a 4⟩ else x
def RS.mv (x : RS) : List Int := if x.e = 0 then matV (RS.begP x.s x.a) else [0, 0, 0, 0, 0, 0]
def RS.mvS (x : RS) : RS := if x.e = 0 then matS (RS.begP x.s x.a) else x
set_option maxHeartbeats 2000000 in
theorem rcolor_err (xs : ByteArray) (xa xe : Int) (w : World) (q : (xe != 0) = true) :
    Calls Try.prog 47 #[.agg #[.string xs, .int .i64 xa, .int .i64 xe]] w fun e w' => e = .returned (.tuple #[.agg (iA [0, 0, 0, 0]), .agg #[.string xs, .int .i64 xa, .int .i64 xe]]) ∧ Below w.heap.size w w' := by
  go_enter Try.func47, Try.ntmps47
  go_upto_region 2 with (go_big_may; first
    | (refine wl_box 53 _ _ rfl rfl (show _ = Value.agg #[.string xs, .int .i64 xa, .int .i64 xe] from rfl) ?_; intro W1 bx Bx_1 l1 k1; have gx : w.heap.size ≤ bx := l1; have Hw1 := k1; clear l1 k1)
    | (refine wl_alloc 23 _ zero25r rfl rfl ?_; intro W2 bv Bv_2 l2 k2; have gv : w.heap.size ≤ bv := Nat.le_trans Hw1.size l2; have nxv : bx ≠ bv := Nat.ne_of_lt (Nat.lt_of_lt_of_le Bx_1.lt l2); have Bx_2 := Bx_1.keep k2; have Hw2 := bq_trans Hw1 k2; clear l2 k2 Bx_1 Hw1)
    | (refine wl_alloc 53 _ zero62 rfl rfl ?_; intro W3 bo Bo_3 l3 k3; have go : w.heap.size ≤ bo := Nat.le_trans Hw2.size l3; have nxo : bx ≠ bo := Nat.ne_of_lt (Nat.lt_of_lt_of_le Bx_2.lt l3); have nvo : bv ≠ bo := Nat.ne_of_lt (Nat.lt_of_lt_of_le Bv_2.lt l3); have Bx_3 := Bx_2.keep k3; have Bv_3 := Bv_2.keep k3; have Hw3 := bq_trans Hw2 k3; clear l3 k3 Bx_2 Bv_2 Hw2; have cx_2_3 : W3.cell? ⟨bx, 2, none⟩ = some (.int .i64 xe) := Bx_3.cell 2))
  have HC4 : Hid (∀ w', But bv bo W3 w' → w'.cell? ⟨bx, 0, none⟩ = some (.string xs) ∧ w'.cell? ⟨bx, 1, none⟩ = some (.int .i64 xa) ∧ w'.cell? ⟨bx, 2, none⟩ = some (.int .i64 xe)) := Lib.hid fun w' hw' => ⟨(Bx_3.but hw' nxv nxo).cell 0, (Bx_3.but hw' nxv nxo).cell 1, (Bx_3.but hw' nxv nxo).cell 2⟩
  have hd4 : Below W3.heap.size W3 W3.drew := bq_drew (bq_refl W3)
  have dv0 : W3.cell? ⟨bv, 0, none⟩ = some (.int .i64 0) := Bv_3.cell 0
  have fv0 := Bv_3.frozen 0
  have dv1 : W3.cell? ⟨bv, 1, none⟩ = some (.int .i64 0) := Bv_3.cell 1
  have fv1 := Bv_3.frozen 1
  have dv2 : W3.cell? ⟨bv, 2, none⟩ = some (.int .i64 0) := Bv_3.cell 2
  have fv2 := Bv_3.frozen 2
  have dv3 : W3.cell? ⟨bv, 3, none⟩ = some (.int .i64 0) := Bv_3.cell 3
  have fv3 := Bv_3.frozen 3
  have do0 : W3.cell? ⟨bo, 0, none⟩ = some (.string ⟨#[]⟩) := Bo_3.cell 0
  have fo0 := Bo_3.frozen 0
  have do1 : W3.cell? ⟨bo, 1, none⟩ = some (.int .i64 0) := Bo_3.cell 1
  have fo1 := Bo_3.frozen 1
  have do2 : W3.cell? ⟨bo, 2, none⟩ = some (.int .i64 0) := Bo_3.cell 2
  have fo2 := Bo_3.frozen 2
  have na4 : ¬ bv = bo := nvo
  have nb4 : ¬ bo = bv := Ne.symm nvo
  go_region_held3 (fun w' => w'.cell? ⟨bx, 0, none⟩ = some (.string xs) ∧ w'.cell? ⟨bx, 1, none⟩ = some (.int .i64 xa) ∧ w'.cell? ⟨bx, 2, none⟩ = some (.int .i64 xe))
    ((refine HC4.out _ ?_; repeat' (first | (with_reducible refine But.setp _ _ ?_) | (with_reducible refine But.setq _ _ ?_) | (with_reducible refine But.drw ?_) | (with_reducible exact But.of (by assumption)) | (with_reducible exact But.of (bq_refl _)))))
    (fail)
  have Bx_4 := (((((((Bx_3.other (a := ⟨bv, 0, none⟩) (.int .i64 0) nxv).other (a := ⟨bv, 1, none⟩) (.int .i64 0) nxv).other (a := ⟨bv, 2, none⟩) (.int .i64 0) nxv).other (a := ⟨bv, 3, none⟩) (.int .i64 0) nxv).other (a := ⟨bo, 0, none⟩) (.string xs) nxo).other (a := ⟨bo, 1, none⟩) (.int .i64 xa) nxo).other (a := ⟨bo, 2, none⟩) (.int .i64 xe) nxo).drew
  have Bv_4 : Blk (((((((W3.setCell ⟨bv, 0, none⟩ (.int .i64 0)).setCell ⟨bv, 1, none⟩ (.int .i64 0)).setCell ⟨bv, 2, none⟩ (.int .i64 0)).setCell ⟨bv, 3, none⟩ (.int .i64 0)).setCell ⟨bo, 0, none⟩ (.string xs)).setCell ⟨bo, 1, none⟩ (.int .i64 xa)).setCell ⟨bo, 2, none⟩ (.int .i64 xe)).drew bv #[.int .i64 0, .int .i64 0, .int .i64 0, .int .i64 0] 23 := (((((((Bv_3.set 0 (.int .i64 0)).set 1 (.int .i64 0)).set 2 (.int .i64 0)).set 3 (.int .i64 0)).other (a := ⟨bo, 0, none⟩) (.string xs) nvo).other (a := ⟨bo, 1, none⟩) (.int .i64 xa) nvo).other (a := ⟨bo, 2, none⟩) (.int .i64 xe) nvo).drew
  have Bo_4 : Blk (((((((W3.setCell ⟨bv, 0, none⟩ (.int .i64 0)).setCell ⟨bv, 1, none⟩ (.int .i64 0)).setCell ⟨bv, 2, none⟩ (.int .i64 0)).setCell ⟨bv, 3, none⟩ (.int .i64 0)).setCell ⟨bo, 0, none⟩ (.string xs)).setCell ⟨bo, 1, none⟩ (.int .i64 xa)).setCell ⟨bo, 2, none⟩ (.int .i64 xe)).drew bo #[.string xs, .int .i64 xa, .int .i64 xe] 53 := (((((((Bo_3.other (a := ⟨bv, 0, none⟩) (.int .i64 0) (Ne.symm nvo)).other (a := ⟨bv, 1, none⟩) (.int .i64 0) (Ne.symm nvo)).other (a := ⟨bv, 2, none⟩) (.int .i64 0) (Ne.symm nvo)).other (a := ⟨bv, 3, none⟩) (.int .i64 0) (Ne.symm nvo)).set 0 (.string xs)).set 1 (.int .i64 xa)).set 2 (.int .i64 xe)).drew
  have Hw4 : Below w.heap.size w (((((((W3.setCell ⟨bv, 0, none⟩ (.int .i64 0)).setCell ⟨bv, 1, none⟩ (.int .i64 0)).setCell ⟨bv, 2, none⟩ (.int .i64 0)).setCell ⟨bv, 3, none⟩ (.int .i64 0)).setCell ⟨bo, 0, none⟩ (.string xs)).setCell ⟨bo, 1, none⟩ (.int .i64 xa)).setCell ⟨bo, 2, none⟩ (.int .i64 xe)).drew := bq_drew (bq_set (bq_set (bq_set (bq_set (bq_set (bq_set (bq_set Hw3 ⟨bv, 0, none⟩ gv (.int .i64 0)) ⟨bv, 1, none⟩ gv (.int .i64 0)) ⟨bv, 2, none⟩ gv (.int .i64 0)) ⟨bv, 3, none⟩ gv (.int .i64 0)) ⟨bo, 0, none⟩ go (.string xs)) ⟨bo, 1, none⟩ go (.int .i64 xa)) ⟨bo, 2, none⟩ go (.int .i64 xe))
  clear HC4 hd4 dv0 fv0 dv1 fv1 dv2 fv2 dv3 fv3 do0 fo0 do1 fo1 do2 fo2 na4 nb4 Bx_3 Bv_3 Bo_3 Hw3 cx_2_3
  generalize (((((((W3.setCell ⟨bv, 0, none⟩ (.int .i64 0)).setCell ⟨bv, 1, none⟩ (.int .i64 0)).setCell ⟨bv, 2, none⟩ (.int .i64 0)).setCell ⟨bv, 3, none⟩ (.int .i64 0)).setCell ⟨bo, 0, none⟩ (.string xs)).setCell ⟨bo, 1, none⟩ (.int .i64 xa)).setCell ⟨bo, 2, none⟩ (.int .i64 xe)).drew = W4 at Bx_4 Bv_4 Bo_4 Hw4  ⊢
  go_wp2
  exact post_cell2 Try.underlying23 rfl size25r Try.underlying53 rfl size62 Try.results47 Bv_4 rfl Bo_4 rfl rfl rfl rfl ⟨rfl, Hw4⟩
set_option maxHeartbeats 2000000 in
theorem rcolor_ok (xs ys : ByteArray) (xa v0 v1 v2 v3 ya ye : Int) (w : World) (HP : Hid (∀ W, Calls Try.prog 64 #[.agg #[.string xs, .int .i64 xa]] W fun e w' => e = .returned (.tuple #[.agg #[.int .i64 v0, .int .i64 v1, .int .i64 v2, .int .i64 v3], .agg #[.string ys, .int .i64 ya, .int .i64 ye]]) ∧ Below W.heap.size W w')) :
    Calls Try.prog 47 #[.agg #[.string xs, .int .i64 xa, .int .i64 0]] w fun e w' => e = .returned (.tuple #[.agg #[.int .i64 v0, .int .i64 v1, .int .i64 v2, .int .i64 v3], .agg #[.string ys, .int .i64 ya, .int .i64 ye]]) ∧ Below w.heap.size w w' := by
  go_enter Try.func47, Try.ntmps47
  go_wp2_with (first
    | (refine wl_box 53 _ _ rfl rfl (show _ = Value.agg #[.string xs, .int .i64 xa, .int .i64 0] from rfl) ?_; intro W1 bx Bx_1 l1 k1; have gx : w.heap.size ≤ bx := l1; have Hw1 := k1; clear l1 k1)
    | (refine wl_alloc 23 _ zero25r rfl rfl ?_; intro W2 bv Bv_2 l2 k2; have gv : w.heap.size ≤ bv := Nat.le_trans Hw1.size l2; have nxv : bx ≠ bv := Nat.ne_of_lt (Nat.lt_of_lt_of_le Bx_1.lt l2); have Bx_2 := Bx_1.keep k2; have Hw2 := bq_trans Hw1 k2; clear l2 k2 Bx_1 Hw1)
    | (refine wl_alloc 53 _ zero62 rfl rfl ?_; intro W3 bo Bo_3 l3 k3; have go : w.heap.size ≤ bo := Nat.le_trans Hw2.size l3; have nxo : bx ≠ bo := Nat.ne_of_lt (Nat.lt_of_lt_of_le Bx_2.lt l3); have nvo : bv ≠ bo := Nat.ne_of_lt (Nat.lt_of_lt_of_le Bv_2.lt l3); have Bx_3 := Bx_2.keep k3; have Bv_3 := Bv_2.keep k3; have Hw3 := bq_trans Hw2 k3; clear l3 k3 Bx_2 Bv_2 Hw2; have cx_0_3 : W3.cell? ⟨bx, 0, none⟩ = some (.string xs) := Bx_3.cell 0; have cx_1_3 : W3.cell? ⟨bx, 1, none⟩ = some (.int .i64 xa) := Bx_3.cell 1; have cx_2_3 : W3.cell? ⟨bx, 2, none⟩ = some (.int .i64 0) := Bx_3.cell 2)
    | (go_at_call 64; (with_reducible refine (HP.out _).mono ?_); rintro e W4 ⟨rfl, k4⟩; have Bx_4 := Bx_3.keep k4; have Bv_4 := Bv_3.keep k4; have Bo_4 := Bo_3.keep k4; have Hw4 := bq_trans Hw3 k4; clear k4 Bx_3 Bv_3 Bo_3 cx_0_3 cx_1_3 cx_2_3 Hw3)
    | (refine wl_store 23 4 size25r _ _ rfl rfl _ rfl _ rfl _ _ Bv_4 rfl rfl (by kernel_rfl) ?_; intro W5 Bv_5 T5; have Bx_5 := T5.blk Bx_4 nxv; have Bo_5 := T5.blk Bo_4 (Ne.symm nvo); have Hw5 := T5.below Hw4 gv; clear T5 Bx_4 Bo_4 Bv_4 Hw4)
    | (refine wl_store 53 3 size62 _ _ rfl rfl _ rfl _ rfl _ _ Bo_5 rfl rfl (by kernel_rfl) ?_; intro W6 Bo_6 T6; have Bx_6 := T6.blk Bx_5 nxo; have Bv_6 := T6.blk Bv_5 nvo; have Hw6 := T6.below Hw5 go; clear T6 Bx_5 Bv_5 Bo_5 Hw5))
  exact post_cell2 Try.underlying23 rfl size25r Try.underlying53 rfl size62 Try.results47 Bv_6 rfl Bo_6 rfl rfl rfl rfl ⟨rfl, Hw6⟩
theorem rcolor8_any (x : RS) (w : World) (hs : x.s.size ≤ 1000000) :
    Calls Try.prog 47 #[.agg x.cells] w fun e w' => e = .returned (.tuple #[.agg (iA (RS.cv x)), .agg (RS.cvS x).cells]) ∧ Below w.heap.size w w' := by
  by_cases he : x.e = 0
  · obtain ⟨v0, v1, v2, v3, hv⟩ := list4 _ (rgV_len8 x.s x.a)
    have e1 : RS.cv x = [v0, v1, v2, v3] := (if_pos he).trans hv
    have e2 : RS.cvS x = _ := if_pos he
    rw [e1, e2]
    have HP := Lib.hid (fun W => rtakergba_any x.s x.a W hs)
    rw [hv] at HP
    obtain ⟨xs, xa, xe⟩ := x
    dsimp only at he hs hv HP
    subst he
    exact rcolor_ok xs _ xa _ _ _ _ _ _ w HP
  · have e1 : RS.cv x = [0, 0, 0, 0] := if_neg he
    have e2 : RS.cvS x = x := if_neg he
    rw [e1, e2]
    exact rcolor_err x.s x.a x.e w (by rw [bne_iff_ne]; exact he)
set_option maxHeartbeats 2000000 in
theorem rmatrix_err (xs : ByteArray) (xa xe : Int) (w : World) (q : (xe != 0) = true) :
    Calls Try.prog 63 #[.agg #[.string xs, .int .i64 xa, .int .i64 xe]] w fun e w' => e = .returned (.tuple #[.agg (iA [0, 0, 0, 0, 0, 0]), .agg #[.string xs, .int .i64 xa, .int .i64 xe]]) ∧ Below w.heap.size w w' := by
  go_enter Try.func63, Try.ntmps63
  go_upto_region 2 with (go_big_may; first
    | (refine wl_box 53 _ _ rfl rfl (show _ = Value.agg #[.string xs, .int .i64 xa, .int .i64 xe] from rfl) ?_; intro W1 bx Bx_1 l1 k1; have gx : w.heap.size ≤ bx := l1; have Hw1 := k1; clear l1 k1)
    | (refine wl_alloc 25 _ zero25m rfl rfl ?_; intro W2 bv Bv_2 l2 k2; have gv : w.heap.size ≤ bv := Nat.le_trans Hw1.size l2; have nxv : bx ≠ bv := Nat.ne_of_lt (Nat.lt_of_lt_of_le Bx_1.lt l2); have Bx_2 := Bx_1.keep k2; have Hw2 := bq_trans Hw1 k2; clear l2 k2 Bx_1 Hw1)
    | (refine wl_alloc 53 _ zero62 rfl rfl ?_; intro W3 bo Bo_3 l3 k3; have go : w.heap.size ≤ bo := Nat.le_trans Hw2.size l3; have nxo : bx ≠ bo := Nat.ne_of_lt (Nat.lt_of_lt_of_le Bx_2.lt l3); have nvo : bv ≠ bo := Nat.ne_of_lt (Nat.lt_of_lt_of_le Bv_2.lt l3); have Bx_3 := Bx_2.keep k3; have Bv_3 := Bv_2.keep k3; have Hw3 := bq_trans Hw2 k3; clear l3 k3 Bx_2 Bv_2 Hw2; have cx_2_3 : W3.cell? ⟨bx, 2, none⟩ = some (.int .i64 xe) := Bx_3.cell 2))
  have HC4 : Hid (∀ w', But bv bo W3 w' → w'.cell? ⟨bx, 0, none⟩ = some (.string xs) ∧ w'.cell? ⟨bx, 1, none⟩ = some (.int .i64 xa) ∧ w'.cell? ⟨bx, 2, none⟩ = some (.int .i64 xe)) := Lib.hid fun w' hw' => ⟨(Bx_3.but hw' nxv nxo).cell 0, (Bx_3.but hw' nxv nxo).cell 1, (Bx_3.but hw' nxv nxo).cell 2⟩
  have hd4 : Below W3.heap.size W3 W3.drew := bq_drew (bq_refl W3)
  have dv0 : W3.cell? ⟨bv, 0, none⟩ = some (.int .i64 0) := Bv_3.cell 0
  have fv0 := Bv_3.frozen 0
  have dv1 : W3.cell? ⟨bv, 1, none⟩ = some (.int .i64 0) := Bv_3.cell 1
  have fv1 := Bv_3.frozen 1
  have dv2 : W3.cell? ⟨bv, 2, none⟩ = some (.int .i64 0) := Bv_3.cell 2
  have fv2 := Bv_3.frozen 2
  have dv3 : W3.cell? ⟨bv, 3, none⟩ = some (.int .i64 0) := Bv_3.cell 3
  have fv3 := Bv_3.frozen 3
  have dv4 : W3.cell? ⟨bv, 4, none⟩ = some (.int .i64 0) := Bv_3.cell 4
  have fv4 := Bv_3.frozen 4
  have dv5 : W3.cell? ⟨bv, 5, none⟩ = some (.int .i64 0) := Bv_3.cell 5
  have fv5 := Bv_3.frozen 5
  have do0 : W3.cell? ⟨bo, 0, none⟩ = some (.string ⟨#[]⟩) := Bo_3.cell 0
  have fo0 := Bo_3.frozen 0
  have do1 : W3.cell? ⟨bo, 1, none⟩ = some (.int .i64 0) := Bo_3.cell 1
  have fo1 := Bo_3.frozen 1
  have do2 : W3.cell? ⟨bo, 2, none⟩ = some (.int .i64 0) := Bo_3.cell 2
  have fo2 := Bo_3.frozen 2
  have na4 : ¬ bv = bo := nvo
  have nb4 : ¬ bo = bv := Ne.symm nvo
  go_region_held3 (fun w' => w'.cell? ⟨bx, 0, none⟩ = some (.string xs) ∧ w'.cell? ⟨bx, 1, none⟩ = some (.int .i64 xa) ∧ w'.cell? ⟨bx, 2, none⟩ = some (.int .i64 xe))
    ((refine HC4.out _ ?_; repeat' (first | (with_reducible refine But.setp _ _ ?_) | (with_reducible refine But.setq _ _ ?_) | (with_reducible refine But.drw ?_) | (with_reducible exact But.of (by assumption)) | (with_reducible exact But.of (bq_refl _)))))
    (fail)
  have Bx_4 := (((((((((Bx_3.other (a := ⟨bv, 0, none⟩) (.int .i64 0) nxv).other (a := ⟨bv, 1, none⟩) (.int .i64 0) nxv).other (a := ⟨bv, 2, none⟩) (.int .i64 0) nxv).other (a := ⟨bv, 3, none⟩) (.int .i64 0) nxv).other (a := ⟨bv, 4, none⟩) (.int .i64 0) nxv).other (a := ⟨bv, 5, none⟩) (.int .i64 0) nxv).other (a := ⟨bo, 0, none⟩) (.string xs) nxo).other (a := ⟨bo, 1, none⟩) (.int .i64 xa) nxo).other (a := ⟨bo, 2, none⟩) (.int .i64 xe) nxo).drew
  have Bv_4 : Blk (((((((((W3.setCell ⟨bv, 0, none⟩ (.int .i64 0)).setCell ⟨bv, 1, none⟩ (.int .i64 0)).setCell ⟨bv, 2, none⟩ (.int .i64 0)).setCell ⟨bv, 3, none⟩ (.int .i64 0)).setCell ⟨bv, 4, none⟩ (.int .i64 0)).setCell ⟨bv, 5, none⟩ (.int .i64 0)).setCell ⟨bo, 0, none⟩ (.string xs)).setCell ⟨bo, 1, none⟩ (.int .i64 xa)).setCell ⟨bo, 2, none⟩ (.int .i64 xe)).drew bv #[.int .i64 0, .int .i64 0, .int .i64 0, .int .i64 0, .int .i64 0, .int .i64 0] 25 := (((((((((Bv_3.set 0 (.int .i64 0)).set 1 (.int .i64 0)).set 2 (.int .i64 0)).set 3 (.int .i64 0)).set 4 (.int .i64 0)).set 5 (.int .i64 0)).other (a := ⟨bo, 0, none⟩) (.string xs) nvo).other (a := ⟨bo, 1, none⟩) (.int .i64 xa) nvo).other (a := ⟨bo, 2, none⟩) (.int .i64 xe) nvo).drew
  have Bo_4 : Blk (((((((((W3.setCell ⟨bv, 0, none⟩ (.int .i64 0)).setCell ⟨bv, 1, none⟩ (.int .i64 0)).setCell ⟨bv, 2, none⟩ (.int .i64 0)).setCell ⟨bv, 3, none⟩ (.int .i64 0)).setCell ⟨bv, 4, none⟩ (.int .i64 0)).setCell ⟨bv, 5, none⟩ (.int .i64 0)).setCell ⟨bo, 0, none⟩ (.string xs)).setCell ⟨bo, 1, none⟩ (.int .i64 xa)).setCell ⟨bo, 2, none⟩ (.int .i64 xe)).drew bo #[.string xs, .int .i64 xa, .int .i64 xe] 53 := (((((((((Bo_3.other (a := ⟨bv, 0, none⟩) (.int .i64 0) (Ne.symm nvo)).other (a := ⟨bv, 1, none⟩) (.int .i64 0) (Ne.symm nvo)).other (a := ⟨bv, 2, none⟩) (.int .i64 0) (Ne.symm nvo)).other (a := ⟨bv, 3, none⟩) (.int .i64 0) (Ne.symm nvo)).other (a := ⟨bv, 4, none⟩) (.int .i64 0) (Ne.symm nvo)).other (a := ⟨bv, 5, none⟩) (.int .i64 0) (Ne.symm nvo)).set 0 (.string xs)).set 1 (.int .i64 xa)).set 2 (.int .i64 xe)).drew
  have Hw4 : Below w.heap.size w (((((((((W3.setCell ⟨bv, 0, none⟩ (.int .i64 0)).setCell ⟨bv, 1, none⟩ (.int .i64 0)).setCell ⟨bv, 2, none⟩ (.int .i64 0)).setCell ⟨bv, 3, none⟩ (.int .i64 0)).setCell ⟨bv, 4, none⟩ (.int .i64 0)).setCell ⟨bv, 5, none⟩ (.int .i64 0)).setCell ⟨bo, 0, none⟩ (.string xs)).setCell ⟨bo, 1, none⟩ (.int .i64 xa)).setCell ⟨bo, 2, none⟩ (.int .i64 xe)).drew := bq_drew (bq_set (bq_set (bq_set (bq_set (bq_set (bq_set (bq_set (bq_set (bq_set Hw3 ⟨bv, 0, none⟩ gv (.int .i64 0)) ⟨bv, 1, none⟩ gv (.int .i64 0)) ⟨bv, 2, none⟩ gv (.int .i64 0)) ⟨bv, 3, none⟩ gv (.int .i64 0)) ⟨bv, 4, none⟩ gv (.int .i64 0)) ⟨bv, 5, none⟩ gv (.int .i64 0)) ⟨bo, 0, none⟩ go (.string xs)) ⟨bo, 1, none⟩ go (.int .i64 xa)) ⟨bo, 2, none⟩ go (.int .i64 xe))
  clear HC4 hd4 dv0 fv0 dv1 fv1 dv2 fv2 dv3 fv3 dv4 fv4 dv5 fv5 do0 fo0 do1 fo1 do2 fo2 na4 nb4 Bx_3 Bv_3 Bo_3 Hw3 cx_2_3
  generalize (((((((((W3.setCell ⟨bv, 0, none⟩ (.int .i64 0)).setCell ⟨bv, 1, none⟩ (.int .i64 0)).setCell ⟨bv, 2, none⟩ (.int .i64 0)).setCell ⟨bv, 3, none⟩ (.int .i64 0)).setCell ⟨bv, 4, none⟩ (.int .i64 0)).setCell ⟨bv, 5, none⟩ (.int .i64 0)).setCell ⟨bo, 0, none⟩ (.string xs)).setCell ⟨bo, 1, none⟩ (.int .i64 xa)).setCell ⟨bo, 2, none⟩ (.int .i64 xe)).drew = W4 at Bx_4 Bv_4 Bo_4 Hw4  ⊢
  go_wp2
  exact post_cell2 Try.underlying25 rfl size25m Try.underlying53 rfl size62 Try.results63 Bv_4 rfl Bo_4 rfl rfl rfl rfl ⟨rfl, Hw4⟩
set_option maxHeartbeats 2000000 in
theorem rmatrix_ok (xs ys : ByteArray) (xa v0 v1 v2 v3 v4 v5 ya ye : Int) (w : World) (HP : Hid (∀ W, Calls Try.prog 83 #[.agg #[.string xs, .int .i64 xa]] W fun e w' => e = .returned (.tuple #[.agg #[.int .i64 v0, .int .i64 v1, .int .i64 v2, .int .i64 v3, .int .i64 v4, .int .i64 v5], .agg #[.string ys, .int .i64 ya, .int .i64 ye]]) ∧ Below W.heap.size W w')) :
    Calls Try.prog 63 #[.agg #[.string xs, .int .i64 xa, .int .i64 0]] w fun e w' => e = .returned (.tuple #[.agg #[.int .i64 v0, .int .i64 v1, .int .i64 v2, .int .i64 v3, .int .i64 v4, .int .i64 v5], .agg #[.string ys, .int .i64 ya, .int .i64 ye]]) ∧ Below w.heap.size w w' := by
  go_enter Try.func63, Try.ntmps63
  go_wp2_with (first
    | (refine wl_box 53 _ _ rfl rfl (show _ = Value.agg #[.string xs, .int .i64 xa, .int .i64 0] from rfl) ?_; intro W1 bx Bx_1 l1 k1; have gx : w.heap.size ≤ bx := l1; have Hw1 := k1; clear l1 k1)
    | (refine wl_alloc 25 _ zero25m rfl rfl ?_; intro W2 bv Bv_2 l2 k2; have gv : w.heap.size ≤ bv := Nat.le_trans Hw1.size l2; have nxv : bx ≠ bv := Nat.ne_of_lt (Nat.lt_of_lt_of_le Bx_1.lt l2); have Bx_2 := Bx_1.keep k2; have Hw2 := bq_trans Hw1 k2; clear l2 k2 Bx_1 Hw1)
    | (refine wl_alloc 53 _ zero62 rfl rfl ?_; intro W3 bo Bo_3 l3 k3; have go : w.heap.size ≤ bo := Nat.le_trans Hw2.size l3; have nxo : bx ≠ bo := Nat.ne_of_lt (Nat.lt_of_lt_of_le Bx_2.lt l3); have nvo : bv ≠ bo := Nat.ne_of_lt (Nat.lt_of_lt_of_le Bv_2.lt l3); have Bx_3 := Bx_2.keep k3; have Bv_3 := Bv_2.keep k3; have Hw3 := bq_trans Hw2 k3; clear l3 k3 Bx_2 Bv_2 Hw2; have cx_0_3 : W3.cell? ⟨bx, 0, none⟩ = some (.string xs) := Bx_3.cell 0; have cx_1_3 : W3.cell? ⟨bx, 1, none⟩ = some (.int .i64 xa) := Bx_3.cell 1; have cx_2_3 : W3.cell? ⟨bx, 2, none⟩ = some (.int .i64 0) := Bx_3.cell 2)
    | (go_at_call 83; (with_reducible refine (HP.out _).mono ?_); rintro e W4 ⟨rfl, k4⟩; have Bx_4 := Bx_3.keep k4; have Bv_4 := Bv_3.keep k4; have Bo_4 := Bo_3.keep k4; have Hw4 := bq_trans Hw3 k4; clear k4 Bx_3 Bv_3 Bo_3 cx_0_3 cx_1_3 cx_2_3 Hw3)
    | (refine wl_store 25 6 size25m _ _ rfl rfl _ rfl _ rfl _ _ Bv_4 rfl rfl (by kernel_rfl) ?_; intro W5 Bv_5 T5; have Bx_5 := T5.blk Bx_4 nxv; have Bo_5 := T5.blk Bo_4 (Ne.symm nvo); have Hw5 := T5.below Hw4 gv; clear T5 Bx_4 Bo_4 Bv_4 Hw4)
    | (refine wl_store 53 3 size62 _ _ rfl rfl _ rfl _ rfl _ _ Bo_5 rfl rfl (by kernel_rfl) ?_; intro W6 Bo_6 T6; have Bx_6 := T6.blk Bx_5 nxo; have Bv_6 := T6.blk Bv_5 nvo; have Hw6 := T6.below Hw5 go; clear T6 Bx_5 Bv_5 Bo_5 Hw5))
  exact post_cell2 Try.underlying25 rfl size25m Try.underlying53 rfl size62 Try.results63 Bv_6 rfl Bo_6 rfl rfl rfl rfl ⟨rfl, Hw6⟩
theorem rmatrix8_any (x : RS) (w : World) (hs : x.s.size ≤ 1000000) :
    Calls Try.prog 63 #[.agg x.cells] w fun e w' => e = .returned (.tuple #[.agg (iA (RS.mv x)), .agg (RS.mvS x).cells]) ∧ Below w.heap.size w w' := by
  by_cases he : x.e = 0
  · obtain ⟨v0, v1, v2, v3, v4, v5, hv⟩ := list6 _ (matV_len (RS.begP x.s x.a))
    have e1 : RS.mv x = [v0, v1, v2, v3, v4, v5] := (if_pos he).trans hv
    have e2 : RS.mvS x = _ := if_pos he
    rw [e1, e2]
    have HP := Lib.hid (fun W => rtakematrix_any x.s x.a W hs)
    rw [hv] at HP
    obtain ⟨xs, xa, xe⟩ := x
    dsimp only at he hs hv HP
    subst he
    exact rmatrix_ok xs _ xa _ _ _ _ _ _ _ _ w HP
  · have e1 : RS.mv x = [0, 0, 0, 0, 0, 0] := if_neg he
    have e2 : RS.mvS x = x := if_neg he
    rw [e1, e2]
    exact rmatrix_err x.s x.a x.e w (by rw [bne_iff_ne]; exact he)
end Go.Proofs.Ythlnjipefeglpaa
