import Derived.Test.YthcejmbjagpjcabN3
/- Layer 14: Compose, both sides. -/
namespace Go.Proofs.Ythcejmbjagpjcab
open Go.RowKit
set_option linter.unusedVariables false
set_option linter.unusedSimpArgs false
set_option maxRecDepth 100000

theorem wE (x : Int) : IntKind.i64.wrap x = wrap64 x := by rw [IntKind.wrap_i64]; unfold wrap64; omega
def dt (p q x y : Int) : Int := (p * x + q * y) / 65536
theorem dt_bd {p q x y : Int} (hp : -4194304 ≤ p ∧ p ≤ 4194304) (hq : -4194304 ≤ q ∧ q ≤ 4194304) (hx : -4194304 ≤ x ∧ x ≤ 4194304) (hy : -4194304 ≤ y ∧ y ≤ 4194304) : -1000000000 ≤ dt p q x y ∧ dt p q x y ≤ 1000000000 := by
  have c1 := mul_bd _ _ hp hx
  have c2 := mul_bd _ _ hq hy
  unfold dt
  omega
theorem floors14_at (x y : Int) (w : World) (hx : -9223372036854775808 < x ∧ x ≤ 9223372036854775807) (hy : -9223372036854775808 < y ∧ y ≤ 9223372036854775807) :
    Calls Try.prog 9 #[.agg #[.int .i64 x, .int .i64 y], .int .i64 65536] w fun e w' => e = .returned (.tuple #[.int .i64 (x / 65536), .int .i64 (y / 65536)]) ∧ Below w.heap.size w w' := by
  have := floors14_any x y 65536 w hx hy (by omega) (by omega)
  rw [fdiv_pos _ _ (by decide), fdiv_pos _ _ (by decide)] at this
  exact this
/-- two matrices, one behind the other -/
def cmpV (A B C D X Y ia ib ic id ix iy : Int) : Value := if matOk A B C D X Y && matOk ia ib ic id ix iy then (if matOk (dt A C ia ib) (dt B D ia ib) (dt A C ic id) (dt B D ic id) (dt A C ix iy + X) (dt B D ix iy + Y) then .tuple #[.agg #[.int .i64 (dt A C ia ib), .int .i64 (dt B D ia ib), .int .i64 (dt A C ic id), .int .i64 (dt B D ic id), .int .i64 (dt A C ix iy + X), .int .i64 (dt B D ix iy + Y)], .int .i64 0] else .tuple #[.agg #[.int .i64 0, .int .i64 0, .int .i64 0, .int .i64 0, .int .i64 0, .int .i64 0], .int .i64 8]) else .tuple #[.agg #[.int .i64 0, .int .i64 0, .int .i64 0, .int .i64 0, .int .i64 0, .int .i64 0], .int .i64 1]
theorem cmpV_no {A B C D X Y ia ib ic id ix iy : Int} (h : (matOk A B C D X Y && matOk ia ib ic id ix iy) = false) : cmpV A B C D X Y ia ib ic id ix iy = .tuple #[.agg #[.int .i64 0, .int .i64 0, .int .i64 0, .int .i64 0, .int .i64 0, .int .i64 0], .int .i64 1] := by unfold cmpV; rw [h]; rfl
theorem cmpV_far {A B C D X Y ia ib ic id ix iy : Int} (h : matOk A B C D X Y = true) (h2 : matOk ia ib ic id ix iy = true) (h3 : matOk (dt A C ia ib) (dt B D ia ib) (dt A C ic id) (dt B D ic id) (dt A C ix iy + X) (dt B D ix iy + Y) = false) : cmpV A B C D X Y ia ib ic id ix iy = .tuple #[.agg #[.int .i64 0, .int .i64 0, .int .i64 0, .int .i64 0, .int .i64 0, .int .i64 0], .int .i64 8] := by unfold cmpV; rw [h, h2, h3]; rfl
theorem cmpV_yes {A B C D X Y ia ib ic id ix iy : Int} (h : matOk A B C D X Y = true) (h2 : matOk ia ib ic id ix iy = true) (h3 : matOk (dt A C ia ib) (dt B D ia ib) (dt A C ic id) (dt B D ic id) (dt A C ix iy + X) (dt B D ix iy + Y) = true) : cmpV A B C D X Y ia ib ic id ix iy = .tuple #[.agg #[.int .i64 (dt A C ia ib), .int .i64 (dt B D ia ib), .int .i64 (dt A C ic id), .int .i64 (dt B D ic id), .int .i64 (dt A C ix iy + X), .int .i64 (dt B D ix iy + Y)], .int .i64 0] := by unfold cmpV; rw [h, h2, h3]; rfl
theorem cmpV_form (A B C D X Y ia ib ic id ix iy : Int) : ∃ r0 r1 r2 r3 r4 r5 e : Int, cmpV A B C D X Y ia ib ic id ix iy = .tuple #[.agg #[.int .i64 r0, .int .i64 r1, .int .i64 r2, .int .i64 r3, .int .i64 r4, .int .i64 r5], .int .i64 e] := by
  unfold cmpV
  split
  · split
    · exact ⟨_, _, _, _, _, _, _, rfl⟩
    · exact ⟨_, _, _, _, _, _, _, rfl⟩
  · exact ⟨_, _, _, _, _, _, _, rfl⟩
set_option maxHeartbeats 1000000 in
theorem comp14_no (A B C D X Y ia ib ic id ix iy : Int) (q1 q2 : Bool) (w : World) (hq : q1 = false ∨ q1 = true ∧ q2 = false) (H1 : Hid (∀ W, Calls Try.prog 8 #[.agg #[.int .i64 A, .int .i64 B, .int .i64 C, .int .i64 D, .int .i64 X, .int .i64 Y]] W fun e w' => e = .returned (.bool q1) ∧ Below W.heap.size W w')) (H2 : Hid (∀ W, Calls Try.prog 8 #[.agg #[.int .i64 ia, .int .i64 ib, .int .i64 ic, .int .i64 id, .int .i64 ix, .int .i64 iy]] W fun e w' => e = .returned (.bool q2) ∧ Below W.heap.size W w')) :
    Calls Try.prog 5 #[.agg #[.int .i64 A, .int .i64 B, .int .i64 C, .int .i64 D, .int .i64 X, .int .i64 Y], .agg #[.int .i64 ia, .int .i64 ib, .int .i64 ic, .int .i64 id, .int .i64 ix, .int .i64 iy]] w fun e w' => e = .returned (.tuple #[.agg #[.int .i64 0, .int .i64 0, .int .i64 0, .int .i64 0, .int .i64 0, .int .i64 0], .int .i64 1]) ∧ Below w.heap.size w w' := by
  rcases hq with rfl | ⟨rfl, rfl⟩
  · go_enter Try.func5, Try.ntmps5
    go_wp2_with (first
      | (refine wl_box 25 _ _ rfl rfl (show _ = Value.agg #[.int .i64 A, .int .i64 B, .int .i64 C, .int .i64 D, .int .i64 X, .int .i64 Y] from rfl) ?_; intro W1 bm Bm_1 l1 k1; have gm : w.heap.size ≤ bm := l1; have Hw1 := k1; clear l1 k1)
      | (refine wl_box 25 _ _ rfl rfl (show _ = Value.agg #[.int .i64 ia, .int .i64 ib, .int .i64 ic, .int .i64 id, .int .i64 ix, .int .i64 iy] from rfl) ?_; intro W2 bi Bi_2 l2 k2; have gi : w.heap.size ≤ bi := Nat.le_trans Hw1.size l2; have nmi : bm ≠ bi := Nat.ne_of_lt (Nat.lt_of_lt_of_le Bm_1.lt l2); have Bm_2 := Bm_1.keep k2; have Hw2 := bq_trans Hw1 k2; clear l2 k2 Bm_1 Hw1)
      | (refine wl_alloc 25 _ zeMt rfl rfl ?_; intro W3 bo Bo_3 l3 k3; have go : w.heap.size ≤ bo := Nat.le_trans Hw2.size l3; have nmo : bm ≠ bo := Nat.ne_of_lt (Nat.lt_of_lt_of_le Bm_2.lt l3); have nio : bi ≠ bo := Nat.ne_of_lt (Nat.lt_of_lt_of_le Bi_2.lt l3); have Bm_3 := Bm_2.keep k3; have Bi_3 := Bi_2.keep k3; have Hw3 := bq_trans Hw2 k3; clear l3 k3 Bm_2 Bi_2 Hw2)
      | (refine wl_load 25 6 _ Try.underlying25 rfl szMt _ rfl rfl _ rfl _ _ Bm_3 rfl ?_)
      | (go_at_call 8; (with_reducible refine (H1.out _).mono ?_); rintro e W4 ⟨rfl, k4⟩; have Bm_4 := Bm_3.keep k4; have Bi_4 := Bi_3.keep k4; have Bo_4 := Bo_3.keep k4; have Hw4 := bq_trans Hw3 k4; clear k4 Bm_3 Bi_3 Bo_3 Hw3)
      | (refine wl_store 25 6 szMt _ _ rfl rfl _ rfl #[.int .i64 0, .int .i64 0, .int .i64 0, .int .i64 0, .int .i64 0, .int .i64 0] rfl _ _ Bo_4 rfl rfl (by kernel_rfl) ?_; intro W5 Bo_5 T5; have Bm_5 := T5.blk Bm_4 nmo; have Bi_5 := T5.blk Bi_4 nio; have Hw5 := T5.below Hw4 go; clear T5 Bm_4 Bi_4 Bo_4 Hw4))
    exact post_cell_tmp (v := .int .i64 1) Try.underlying25 rfl szMt Try.results5 Bo_5 rfl rfl rfl rfl ⟨rfl, Hw5⟩
  · go_enter Try.func5, Try.ntmps5
    go_wp2_with (first
      | (refine wl_box 25 _ _ rfl rfl (show _ = Value.agg #[.int .i64 A, .int .i64 B, .int .i64 C, .int .i64 D, .int .i64 X, .int .i64 Y] from rfl) ?_; intro W1 bm Bm_1 l1 k1; have gm : w.heap.size ≤ bm := l1; have Hw1 := k1; clear l1 k1)
      | (refine wl_box 25 _ _ rfl rfl (show _ = Value.agg #[.int .i64 ia, .int .i64 ib, .int .i64 ic, .int .i64 id, .int .i64 ix, .int .i64 iy] from rfl) ?_; intro W2 bi Bi_2 l2 k2; have gi : w.heap.size ≤ bi := Nat.le_trans Hw1.size l2; have nmi : bm ≠ bi := Nat.ne_of_lt (Nat.lt_of_lt_of_le Bm_1.lt l2); have Bm_2 := Bm_1.keep k2; have Hw2 := bq_trans Hw1 k2; clear l2 k2 Bm_1 Hw1)
      | (refine wl_alloc 25 _ zeMt rfl rfl ?_; intro W3 bo Bo_3 l3 k3; have go : w.heap.size ≤ bo := Nat.le_trans Hw2.size l3; have nmo : bm ≠ bo := Nat.ne_of_lt (Nat.lt_of_lt_of_le Bm_2.lt l3); have nio : bi ≠ bo := Nat.ne_of_lt (Nat.lt_of_lt_of_le Bi_2.lt l3); have Bm_3 := Bm_2.keep k3; have Bi_3 := Bi_2.keep k3; have Hw3 := bq_trans Hw2 k3; clear l3 k3 Bm_2 Bi_2 Hw2)
      | (refine wl_load 25 6 _ Try.underlying25 rfl szMt _ rfl rfl _ rfl _ _ Bm_3 rfl ?_)
      | (go_at_call 8; (with_reducible refine (H1.out _).mono ?_); rintro e W4 ⟨rfl, k4⟩; have Bm_4 := Bm_3.keep k4; have Bi_4 := Bi_3.keep k4; have Bo_4 := Bo_3.keep k4; have Hw4 := bq_trans Hw3 k4; clear k4 Bm_3 Bi_3 Bo_3 Hw3)
      | (refine wlg_load 25 6 _ Try.underlying25 rfl szMt _ rfl rfl _ rfl _ _ Bi_4 rfl ?_)
      | (go_at_call 8; (with_reducible refine (H2.out _).mono ?_); rintro e W5 ⟨rfl, k5⟩; have Bm_5 := Bm_4.keep k5; have Bi_5 := Bi_4.keep k5; have Bo_5 := Bo_4.keep k5; have Hw5 := bq_trans Hw4 k5; clear k5 Bm_4 Bi_4 Bo_4 Hw4)
      | (refine wl_store 25 6 szMt _ _ rfl rfl _ rfl #[.int .i64 0, .int .i64 0, .int .i64 0, .int .i64 0, .int .i64 0, .int .i64 0] rfl _ _ Bo_5 rfl rfl (by kernel_rfl) ?_; intro W6 Bo_6 T6; have Bm_6 := T6.blk Bm_5 nmo; have Bi_6 := T6.blk Bi_5 nio; have Hw6 := T6.below Hw5 go; clear T6 Bm_5 Bi_5 Bo_5 Hw5))
    exact post_cell_tmp (v := .int .i64 1) Try.underlying25 rfl szMt Try.results5 Bo_6 rfl rfl rfl rfl ⟨rfl, Hw6⟩
set_option maxHeartbeats 2000000 in
theorem comp14_yes (A B C D X Y ia ib ic id ix iy p0 p1 p2 p3 p4 p5 r0 r1 r2 r3 r4 r5 : Int) (w : World) (x0 : -1048576 ≤ X) (x1 : X ≤ 1048576) (y0 : -1048576 ≤ Y) (y1 : Y ≤ 1048576) (r4l : -1000000000 ≤ r4) (r4g : r4 ≤ 1000000000) (r5l : -1000000000 ≤ r5) (r5g : r5 ≤ 1000000000)
    (H1 : Hid (∀ W, Calls Try.prog 8 #[.agg #[.int .i64 A, .int .i64 B, .int .i64 C, .int .i64 D, .int .i64 X, .int .i64 Y]] W fun e w' => e = .returned (.bool true) ∧ Below W.heap.size W w')) (H2 : Hid (∀ W, Calls Try.prog 8 #[.agg #[.int .i64 ia, .int .i64 ib, .int .i64 ic, .int .i64 id, .int .i64 ix, .int .i64 iy]] W fun e w' => e = .returned (.bool true) ∧ Below W.heap.size W w'))
    (T0 : Hid (∀ W, Calls Try.prog 10 #[.agg #[.int .i64 A, .int .i64 B, .int .i64 C, .int .i64 D, .int .i64 X, .int .i64 Y], .int .i64 ia, .int .i64 ib] W fun e w' => e = .returned (.agg #[.int .i64 p0, .int .i64 p1]) ∧ Below W.heap.size W w'))
    (F0 : Hid (∀ W, Calls Try.prog 9 #[.agg #[.int .i64 p0, .int .i64 p1], .int .i64 65536] W fun e w' => e = .returned (.tuple #[.int .i64 r0, .int .i64 r1]) ∧ Below W.heap.size W w'))
    (T1 : Hid (∀ W, Calls Try.prog 10 #[.agg #[.int .i64 A, .int .i64 B, .int .i64 C, .int .i64 D, .int .i64 X, .int .i64 Y], .int .i64 ic, .int .i64 id] W fun e w' => e = .returned (.agg #[.int .i64 p2, .int .i64 p3]) ∧ Below W.heap.size W w'))
    (F1 : Hid (∀ W, Calls Try.prog 9 #[.agg #[.int .i64 p2, .int .i64 p3], .int .i64 65536] W fun e w' => e = .returned (.tuple #[.int .i64 r2, .int .i64 r3]) ∧ Below W.heap.size W w'))
    (T2 : Hid (∀ W, Calls Try.prog 10 #[.agg #[.int .i64 A, .int .i64 B, .int .i64 C, .int .i64 D, .int .i64 X, .int .i64 Y], .int .i64 ix, .int .i64 iy] W fun e w' => e = .returned (.agg #[.int .i64 p4, .int .i64 p5]) ∧ Below W.heap.size W w'))
    (F2 : Hid (∀ W, Calls Try.prog 9 #[.agg #[.int .i64 p4, .int .i64 p5], .int .i64 65536] W fun e w' => e = .returned (.tuple #[.int .i64 r4, .int .i64 r5]) ∧ Below W.heap.size W w'))
    (H3 : Hid (∀ W, Calls Try.prog 8 #[.agg #[.int .i64 r0, .int .i64 r1, .int .i64 r2, .int .i64 r3, .int .i64 (r4 + X), .int .i64 (r5 + Y)]] W fun e w' => e = .returned (.bool true) ∧ Below W.heap.size W w')) :
    Calls Try.prog 5 #[.agg #[.int .i64 A, .int .i64 B, .int .i64 C, .int .i64 D, .int .i64 X, .int .i64 Y], .agg #[.int .i64 ia, .int .i64 ib, .int .i64 ic, .int .i64 id, .int .i64 ix, .int .i64 iy]] w fun e w' => e = .returned (.tuple #[.agg #[.int .i64 r0, .int .i64 r1, .int .i64 r2, .int .i64 r3, .int .i64 (r4 + X), .int .i64 (r5 + Y)], .int .i64 0]) ∧ Below w.heap.size w w' := by
  go_enter Try.func5, Try.ntmps5
  go_upto_region 4 with (go_big_may; first
    | (refine wl_box 25 _ _ rfl rfl (show _ = Value.agg #[.int .i64 A, .int .i64 B, .int .i64 C, .int .i64 D, .int .i64 X, .int .i64 Y] from rfl) ?_; intro W1 bm Bm_1 l1 k1; have gm : w.heap.size ≤ bm := l1; have Hw1 := k1; clear l1 k1)
    | (refine wl_box 25 _ _ rfl rfl (show _ = Value.agg #[.int .i64 ia, .int .i64 ib, .int .i64 ic, .int .i64 id, .int .i64 ix, .int .i64 iy] from rfl) ?_; intro W2 bi Bi_2 l2 k2; have gi : w.heap.size ≤ bi := Nat.le_trans Hw1.size l2; have nmi : bm ≠ bi := Nat.ne_of_lt (Nat.lt_of_lt_of_le Bm_1.lt l2); have Bm_2 := Bm_1.keep k2; have Hw2 := bq_trans Hw1 k2; clear l2 k2 Bm_1 Hw1)
    | (refine wl_alloc 25 _ zeMt rfl rfl ?_; intro W3 bo Bo_3 l3 k3; have go : w.heap.size ≤ bo := Nat.le_trans Hw2.size l3; have nmo : bm ≠ bo := Nat.ne_of_lt (Nat.lt_of_lt_of_le Bm_2.lt l3); have nio : bi ≠ bo := Nat.ne_of_lt (Nat.lt_of_lt_of_le Bi_2.lt l3); have Bm_3 := Bm_2.keep k3; have Bi_3 := Bi_2.keep k3; have Hw3 := bq_trans Hw2 k3; clear l3 k3 Bm_2 Bi_2 Hw2)
    | (refine wl_load 25 6 _ Try.underlying25 rfl szMt _ rfl rfl _ rfl _ _ Bm_3 rfl ?_)
    | (go_at_call 8; (with_reducible refine (H1.out _).mono ?_); rintro e W4 ⟨rfl, k4⟩; have Bm_4 := Bm_3.keep k4; have Bi_4 := Bi_3.keep k4; have Bo_4 := Bo_3.keep k4; have Hw4 := bq_trans Hw3 k4; clear k4 Bm_3 Bi_3 Bo_3 Hw3)
    | (refine wlg_load 25 6 _ Try.underlying25 rfl szMt _ rfl rfl _ rfl _ _ Bi_4 rfl ?_)
    | (go_at_call 8; (with_reducible refine (H2.out _).mono ?_); rintro e W5 ⟨rfl, k5⟩; have Bm_5 := Bm_4.keep k5; have Bi_5 := Bi_4.keep k5; have Bo_5 := Bo_4.keep k5; have Hw5 := bq_trans Hw4 k5; clear k5 Bm_4 Bi_4 Bo_4 Hw4)
    | (refine wl_alloc 25 _ zeMt rfl rfl ?_; intro W6 bt Bt_6 l6 k6; have gt : w.heap.size ≤ bt := Nat.le_trans Hw5.size l6; have nmt : bm ≠ bt := Nat.ne_of_lt (Nat.lt_of_lt_of_le Bm_5.lt l6); have nit : bi ≠ bt := Nat.ne_of_lt (Nat.lt_of_lt_of_le Bi_5.lt l6); have not : bo ≠ bt := Nat.ne_of_lt (Nat.lt_of_lt_of_le Bo_5.lt l6); have Bm_6 := Bm_5.keep k6; have Bi_6 := Bi_5.keep k6; have Bo_6 := Bo_5.keep k6; have Hw6 := bq_trans Hw5 k6; clear l6 k6 Bm_5 Bi_5 Bo_5 Hw5))
  have cu0 : W6.cell? ⟨bi, 0, none⟩ = some (.int .i64 ia) := Bi_6.cell 0
  have cv0 : W6.cell? ⟨bi, 1, none⟩ = some (.int .i64 ib) := Bi_6.cell 1
  go_upto_region 5 with (go_big_may; first
    | (refine wl_load 25 6 _ Try.underlying25 rfl szMt _ rfl rfl _ rfl _ _ Bm_6 rfl ?_)
    | (go_at_call 10; (with_reducible refine (T0.out _).mono ?_); rintro e W7 ⟨rfl, k7⟩; have Bm_7 := Bm_6.keep k7; have Bi_7 := Bi_6.keep k7; have Bo_7 := Bo_6.keep k7; have Bt_7 := Bt_6.keep k7; have Hw7 := bq_trans Hw6 k7; clear cu0 cv0; clear k7 Bm_6 Bi_6 Bo_6 Bt_6 Hw6)
    | (go_at_call 9; (with_reducible refine (F0.out _).mono ?_); rintro e W8 ⟨rfl, k8⟩; have Bm_8 := Bm_7.keep k8; have Bi_8 := Bi_7.keep k8; have Bo_8 := Bo_7.keep k8; have Bt_8 := Bt_7.keep k8; have Hw8 := bq_trans Hw7 k8; clear k8 Bm_7 Bi_7 Bo_7 Bt_7 Hw7)
    | (refine wl_set 3 _ _ rfl rfl bt 0 rfl (.int .i64 r0) rfl rfl szI _ _ Bt_8 (by decide : 0 < 6) ?_; intro W9 Bt_9 T9; have Bm_9 := T9.blk Bm_8 nmt; have Bi_9 := T9.blk Bi_8 nit; have Bo_9 := T9.blk Bo_8 not; have Hw9 := T9.below Hw8 gt; clear T9 Bm_8 Bi_8 Bo_8 Bt_8 Hw8; have Bt_9L : Blk W9 bt #[.int .i64 r0, .int .i64 0, .int .i64 0, .int .i64 0, .int .i64 0, .int .i64 0] 25 := Bt_9; clear Bt_9)
    | (refine wl_set 3 _ _ rfl rfl bt 1 rfl (.int .i64 r1) rfl rfl szI _ _ Bt_9L (by decide : 1 < 6) ?_; intro W10 Bt_10 T10; have Bm_10 := T10.blk Bm_9 nmt; have Bi_10 := T10.blk Bi_9 nit; have Bo_10 := T10.blk Bo_9 not; have Hw10 := T10.below Hw9 gt; clear T10 Bm_9 Bi_9 Bo_9 Bt_9L Hw9; have Bt_10L : Blk W10 bt #[.int .i64 r0, .int .i64 r1, .int .i64 0, .int .i64 0, .int .i64 0, .int .i64 0] 25 := Bt_10; clear Bt_10))
  have cu1 : W10.cell? ⟨bi, 2, none⟩ = some (.int .i64 ic) := Bi_10.cell 2
  have cv1 : W10.cell? ⟨bi, 3, none⟩ = some (.int .i64 id) := Bi_10.cell 3
  go_upto_region 6 with (go_big_may; first
    | (refine wl_load 25 6 _ Try.underlying25 rfl szMt _ rfl rfl _ rfl _ _ Bm_10 rfl ?_)
    | (go_at_call 10; (with_reducible refine (T1.out _).mono ?_); rintro e W11 ⟨rfl, k11⟩; have Bm_11 := Bm_10.keep k11; have Bi_11 := Bi_10.keep k11; have Bo_11 := Bo_10.keep k11; have Bt_11 := Bt_10L.keep k11; have Hw11 := bq_trans Hw10 k11; clear cu1 cv1; clear k11 Bm_10 Bi_10 Bo_10 Bt_10L Hw10)
    | (go_at_call 9; (with_reducible refine (F1.out _).mono ?_); rintro e W12 ⟨rfl, k12⟩; have Bm_12 := Bm_11.keep k12; have Bi_12 := Bi_11.keep k12; have Bo_12 := Bo_11.keep k12; have Bt_12 := Bt_11.keep k12; have Hw12 := bq_trans Hw11 k12; clear k12 Bm_11 Bi_11 Bo_11 Bt_11 Hw11)
    | (refine wl_set 3 _ _ rfl rfl bt 2 rfl (.int .i64 r2) rfl rfl szI _ _ Bt_12 (by decide : 2 < 6) ?_; intro W13 Bt_13 T13; have Bm_13 := T13.blk Bm_12 nmt; have Bi_13 := T13.blk Bi_12 nit; have Bo_13 := T13.blk Bo_12 not; have Hw13 := T13.below Hw12 gt; clear T13 Bm_12 Bi_12 Bo_12 Bt_12 Hw12; have Bt_13L : Blk W13 bt #[.int .i64 r0, .int .i64 r1, .int .i64 r2, .int .i64 0, .int .i64 0, .int .i64 0] 25 := Bt_13; clear Bt_13)
    | (refine wl_set 3 _ _ rfl rfl bt 3 rfl (.int .i64 r3) rfl rfl szI _ _ Bt_13L (by decide : 3 < 6) ?_; intro W14 Bt_14 T14; have Bm_14 := T14.blk Bm_13 nmt; have Bi_14 := T14.blk Bi_13 nit; have Bo_14 := T14.blk Bo_13 not; have Hw14 := T14.below Hw13 gt; clear T14 Bm_13 Bi_13 Bo_13 Bt_13L Hw13; have Bt_14L : Blk W14 bt #[.int .i64 r0, .int .i64 r1, .int .i64 r2, .int .i64 r3, .int .i64 0, .int .i64 0] 25 := Bt_14; clear Bt_14))
  have cu2 : W14.cell? ⟨bi, 4, none⟩ = some (.int .i64 ix) := Bi_14.cell 4
  have cv2 : W14.cell? ⟨bi, 5, none⟩ = some (.int .i64 iy) := Bi_14.cell 5
  go_upto_region 7 with (go_big_may; first
    | (refine wl_load 25 6 _ Try.underlying25 rfl szMt _ rfl rfl _ rfl _ _ Bm_14 rfl ?_)
    | (go_at_call 10; (with_reducible refine (T2.out _).mono ?_); rintro e W15 ⟨rfl, k15⟩; have Bm_15 := Bm_14.keep k15; have Bi_15 := Bi_14.keep k15; have Bo_15 := Bo_14.keep k15; have Bt_15 := Bt_14L.keep k15; have Hw15 := bq_trans Hw14 k15; clear cu2 cv2; clear k15 Bm_14 Bi_14 Bo_14 Bt_14L Hw14)
    | (go_at_call 9; (with_reducible refine (F2.out _).mono ?_); rintro e W16 ⟨rfl, k16⟩; have Bm_16 := Bm_15.keep k16; have Bi_16 := Bi_15.keep k16; have Bo_16 := Bo_15.keep k16; have Bt_16 := Bt_15.keep k16; have Hw16 := bq_trans Hw15 k16; clear k16 Bm_15 Bi_15 Bo_15 Bt_15 Hw15)
    | (refine wl_set 3 _ _ rfl rfl bt 4 rfl (.int .i64 r4) rfl rfl szI _ _ Bt_16 (by decide : 4 < 6) ?_; intro W17 Bt_17 T17; have Bm_17 := T17.blk Bm_16 nmt; have Bi_17 := T17.blk Bi_16 nit; have Bo_17 := T17.blk Bo_16 not; have Hw17 := T17.below Hw16 gt; clear T17 Bm_16 Bi_16 Bo_16 Bt_16 Hw16; have Bt_17L : Blk W17 bt #[.int .i64 r0, .int .i64 r1, .int .i64 r2, .int .i64 r3, .int .i64 r4, .int .i64 0] 25 := Bt_17; clear Bt_17)
    | (refine wl_set 3 _ _ rfl rfl bt 5 rfl (.int .i64 r5) rfl rfl szI _ _ Bt_17L (by decide : 5 < 6) ?_; intro W18 Bt_18 T18; have Bm_18 := T18.blk Bm_17 nmt; have Bi_18 := T18.blk Bi_17 nit; have Bo_18 := T18.blk Bo_17 not; have Hw18 := T18.below Hw17 gt; clear T18 Bm_17 Bi_17 Bo_17 Bt_17L Hw17; have Bt_18L : Blk W18 bt #[.int .i64 r0, .int .i64 r1, .int .i64 r2, .int .i64 r3, .int .i64 r4, .int .i64 r5] 25 := Bt_18; clear Bt_18))
  have cu : W18.cell? ⟨bt, 4, none⟩ = some (.int .i64 r4) := Bt_18L.cell 4
  have cv : W18.cell? ⟨bm, 4, none⟩ = some (.int .i64 X) := Bm_18.cell 4
  go_upto_region 8 with (go_big_may; first
    | (refine wl_set 3 _ _ rfl rfl bt 4 rfl (.int .i64 (r4 + X)) rfl rfl szI _ _ Bt_18L (by decide : 4 < 6) ?_; intro W19 Bt_19 T19; have Bm_19 := T19.blk Bm_18 nmt; have Bi_19 := T19.blk Bi_18 nit; have Bo_19 := T19.blk Bo_18 not; have Hw19 := T19.below Hw18 gt; clear T19 Bm_18 Bi_18 Bo_18 Bt_18L Hw18; have Bt_19L : Blk W19 bt #[.int .i64 r0, .int .i64 r1, .int .i64 r2, .int .i64 r3, .int .i64 (r4 + X), .int .i64 r5] 25 := Bt_19; clear Bt_19))
  clear cu cv
  have cu : W19.cell? ⟨bt, 5, none⟩ = some (.int .i64 r5) := Bt_19L.cell 5
  have cv : W19.cell? ⟨bm, 5, none⟩ = some (.int .i64 Y) := Bm_19.cell 5
  go_upto_region 9 with (go_big_may; first
    | (refine wl_set 3 _ _ rfl rfl bt 5 rfl (.int .i64 (r5 + Y)) rfl rfl szI _ _ Bt_19L (by decide : 5 < 6) ?_; intro W20 Bt_20 T20; have Bm_20 := T20.blk Bm_19 nmt; have Bi_20 := T20.blk Bi_19 nit; have Bo_20 := T20.blk Bo_19 not; have Hw20 := T20.below Hw19 gt; clear T20 Bm_19 Bi_19 Bo_19 Bt_19L Hw19; have Bt_20L : Blk W20 bt #[.int .i64 r0, .int .i64 r1, .int .i64 r2, .int .i64 r3, .int .i64 (r4 + X), .int .i64 (r5 + Y)] 25 := Bt_20; clear Bt_20))
  clear cu cv
  go_wp2_with (first
    | (refine wl_load 25 6 _ Try.underlying25 rfl szMt _ rfl rfl _ rfl _ _ Bt_20L rfl ?_)
    | (go_at_call 8; (with_reducible refine (H3.out _).mono ?_); rintro e W21 ⟨rfl, k21⟩; have Bm_21 := Bm_20.keep k21; have Bi_21 := Bi_20.keep k21; have Bo_21 := Bo_20.keep k21; have Bt_21 := Bt_20L.keep k21; have Hw21 := bq_trans Hw20 k21; clear k21 Bm_20 Bi_20 Bo_20 Bt_20L Hw20)
    | (refine wl_load 25 6 _ Try.underlying25 rfl szMt _ rfl rfl _ rfl _ _ Bt_21 rfl ?_)
    | (refine wl_store 25 6 szMt _ _ rfl rfl _ rfl #[.int .i64 r0, .int .i64 r1, .int .i64 r2, .int .i64 r3, .int .i64 (r4 + X), .int .i64 (r5 + Y)] rfl _ _ Bo_21 rfl rfl (by kernel_rfl) ?_; intro W22 Bo_22 T22; have Bm_22 := T22.blk Bm_21 nmo; have Bi_22 := T22.blk Bi_21 nio; have Bt_22 := T22.blk Bt_21 (Ne.symm not); have Hw22 := T22.below Hw21 go; clear T22 Bm_21 Bi_21 Bt_21 Bo_21 Hw21))
  exact post_cell_tmp (v := .int .i64 0) Try.underlying25 rfl szMt Try.results5 Bo_22 rfl rfl rfl rfl ⟨rfl, Hw22⟩
set_option maxHeartbeats 2000000 in
theorem comp14_far (A B C D X Y ia ib ic id ix iy p0 p1 p2 p3 p4 p5 r0 r1 r2 r3 r4 r5 : Int) (w : World) (x0 : -1048576 ≤ X) (x1 : X ≤ 1048576) (y0 : -1048576 ≤ Y) (y1 : Y ≤ 1048576) (r4l : -1000000000 ≤ r4) (r4g : r4 ≤ 1000000000) (r5l : -1000000000 ≤ r5) (r5g : r5 ≤ 1000000000)
    (H1 : Hid (∀ W, Calls Try.prog 8 #[.agg #[.int .i64 A, .int .i64 B, .int .i64 C, .int .i64 D, .int .i64 X, .int .i64 Y]] W fun e w' => e = .returned (.bool true) ∧ Below W.heap.size W w')) (H2 : Hid (∀ W, Calls Try.prog 8 #[.agg #[.int .i64 ia, .int .i64 ib, .int .i64 ic, .int .i64 id, .int .i64 ix, .int .i64 iy]] W fun e w' => e = .returned (.bool true) ∧ Below W.heap.size W w'))
    (T0 : Hid (∀ W, Calls Try.prog 10 #[.agg #[.int .i64 A, .int .i64 B, .int .i64 C, .int .i64 D, .int .i64 X, .int .i64 Y], .int .i64 ia, .int .i64 ib] W fun e w' => e = .returned (.agg #[.int .i64 p0, .int .i64 p1]) ∧ Below W.heap.size W w'))
    (F0 : Hid (∀ W, Calls Try.prog 9 #[.agg #[.int .i64 p0, .int .i64 p1], .int .i64 65536] W fun e w' => e = .returned (.tuple #[.int .i64 r0, .int .i64 r1]) ∧ Below W.heap.size W w'))
    (T1 : Hid (∀ W, Calls Try.prog 10 #[.agg #[.int .i64 A, .int .i64 B, .int .i64 C, .int .i64 D, .int .i64 X, .int .i64 Y], .int .i64 ic, .int .i64 id] W fun e w' => e = .returned (.agg #[.int .i64 p2, .int .i64 p3]) ∧ Below W.heap.size W w'))
    (F1 : Hid (∀ W, Calls Try.prog 9 #[.agg #[.int .i64 p2, .int .i64 p3], .int .i64 65536] W fun e w' => e = .returned (.tuple #[.int .i64 r2, .int .i64 r3]) ∧ Below W.heap.size W w'))
    (T2 : Hid (∀ W, Calls Try.prog 10 #[.agg #[.int .i64 A, .int .i64 B, .int .i64 C, .int .i64 D, .int .i64 X, .int .i64 Y], .int .i64 ix, .int .i64 iy] W fun e w' => e = .returned (.agg #[.int .i64 p4, .int .i64 p5]) ∧ Below W.heap.size W w'))
    (F2 : Hid (∀ W, Calls Try.prog 9 #[.agg #[.int .i64 p4, .int .i64 p5], .int .i64 65536] W fun e w' => e = .returned (.tuple #[.int .i64 r4, .int .i64 r5]) ∧ Below W.heap.size W w'))
    (H3 : Hid (∀ W, Calls Try.prog 8 #[.agg #[.int .i64 r0, .int .i64 r1, .int .i64 r2, .int .i64 r3, .int .i64 (r4 + X), .int .i64 (r5 + Y)]] W fun e w' => e = .returned (.bool false) ∧ Below W.heap.size W w')) :
    Calls Try.prog 5 #[.agg #[.int .i64 A, .int .i64 B, .int .i64 C, .int .i64 D, .int .i64 X, .int .i64 Y], .agg #[.int .i64 ia, .int .i64 ib, .int .i64 ic, .int .i64 id, .int .i64 ix, .int .i64 iy]] w fun e w' => e = .returned (.tuple #[.agg #[.int .i64 0, .int .i64 0, .int .i64 0, .int .i64 0, .int .i64 0, .int .i64 0], .int .i64 8]) ∧ Below w.heap.size w w' := by
  go_enter Try.func5, Try.ntmps5
  go_upto_region 4 with (go_big_may; first
    | (refine wl_box 25 _ _ rfl rfl (show _ = Value.agg #[.int .i64 A, .int .i64 B, .int .i64 C, .int .i64 D, .int .i64 X, .int .i64 Y] from rfl) ?_; intro W1 bm Bm_1 l1 k1; have gm : w.heap.size ≤ bm := l1; have Hw1 := k1; clear l1 k1)
    | (refine wl_box 25 _ _ rfl rfl (show _ = Value.agg #[.int .i64 ia, .int .i64 ib, .int .i64 ic, .int .i64 id, .int .i64 ix, .int .i64 iy] from rfl) ?_; intro W2 bi Bi_2 l2 k2; have gi : w.heap.size ≤ bi := Nat.le_trans Hw1.size l2; have nmi : bm ≠ bi := Nat.ne_of_lt (Nat.lt_of_lt_of_le Bm_1.lt l2); have Bm_2 := Bm_1.keep k2; have Hw2 := bq_trans Hw1 k2; clear l2 k2 Bm_1 Hw1)
    | (refine wl_alloc 25 _ zeMt rfl rfl ?_; intro W3 bo Bo_3 l3 k3; have go : w.heap.size ≤ bo := Nat.le_trans Hw2.size l3; have nmo : bm ≠ bo := Nat.ne_of_lt (Nat.lt_of_lt_of_le Bm_2.lt l3); have nio : bi ≠ bo := Nat.ne_of_lt (Nat.lt_of_lt_of_le Bi_2.lt l3); have Bm_3 := Bm_2.keep k3; have Bi_3 := Bi_2.keep k3; have Hw3 := bq_trans Hw2 k3; clear l3 k3 Bm_2 Bi_2 Hw2)
    | (refine wl_load 25 6 _ Try.underlying25 rfl szMt _ rfl rfl _ rfl _ _ Bm_3 rfl ?_)
    | (go_at_call 8; (with_reducible refine (H1.out _).mono ?_); rintro e W4 ⟨rfl, k4⟩; have Bm_4 := Bm_3.keep k4; have Bi_4 := Bi_3.keep k4; have Bo_4 := Bo_3.keep k4; have Hw4 := bq_trans Hw3 k4; clear k4 Bm_3 Bi_3 Bo_3 Hw3)
    | (refine wlg_load 25 6 _ Try.underlying25 rfl szMt _ rfl rfl _ rfl _ _ Bi_4 rfl ?_)
    | (go_at_call 8; (with_reducible refine (H2.out _).mono ?_); rintro e W5 ⟨rfl, k5⟩; have Bm_5 := Bm_4.keep k5; have Bi_5 := Bi_4.keep k5; have Bo_5 := Bo_4.keep k5; have Hw5 := bq_trans Hw4 k5; clear k5 Bm_4 Bi_4 Bo_4 Hw4)
    | (refine wl_alloc 25 _ zeMt rfl rfl ?_; intro W6 bt Bt_6 l6 k6; have gt : w.heap.size ≤ bt := Nat.le_trans Hw5.size l6; have nmt : bm ≠ bt := Nat.ne_of_lt (Nat.lt_of_lt_of_le Bm_5.lt l6); have nit : bi ≠ bt := Nat.ne_of_lt (Nat.lt_of_lt_of_le Bi_5.lt l6); have not : bo ≠ bt := Nat.ne_of_lt (Nat.lt_of_lt_of_le Bo_5.lt l6); have Bm_6 := Bm_5.keep k6; have Bi_6 := Bi_5.keep k6; have Bo_6 := Bo_5.keep k6; have Hw6 := bq_trans Hw5 k6; clear l6 k6 Bm_5 Bi_5 Bo_5 Hw5))
  have cu0 : W6.cell? ⟨bi, 0, none⟩ = some (.int .i64 ia) := Bi_6.cell 0
  have cv0 : W6.cell? ⟨bi, 1, none⟩ = some (.int .i64 ib) := Bi_6.cell 1
  go_upto_region 5 with (go_big_may; first
    | (refine wl_load 25 6 _ Try.underlying25 rfl szMt _ rfl rfl _ rfl _ _ Bm_6 rfl ?_)
    | (go_at_call 10; (with_reducible refine (T0.out _).mono ?_); rintro e W7 ⟨rfl, k7⟩; have Bm_7 := Bm_6.keep k7; have Bi_7 := Bi_6.keep k7; have Bo_7 := Bo_6.keep k7; have Bt_7 := Bt_6.keep k7; have Hw7 := bq_trans Hw6 k7; clear cu0 cv0; clear k7 Bm_6 Bi_6 Bo_6 Bt_6 Hw6)
    | (go_at_call 9; (with_reducible refine (F0.out _).mono ?_); rintro e W8 ⟨rfl, k8⟩; have Bm_8 := Bm_7.keep k8; have Bi_8 := Bi_7.keep k8; have Bo_8 := Bo_7.keep k8; have Bt_8 := Bt_7.keep k8; have Hw8 := bq_trans Hw7 k8; clear k8 Bm_7 Bi_7 Bo_7 Bt_7 Hw7)
    | (refine wl_set 3 _ _ rfl rfl bt 0 rfl (.int .i64 r0) rfl rfl szI _ _ Bt_8 (by decide : 0 < 6) ?_; intro W9 Bt_9 T9; have Bm_9 := T9.blk Bm_8 nmt; have Bi_9 := T9.blk Bi_8 nit; have Bo_9 := T9.blk Bo_8 not; have Hw9 := T9.below Hw8 gt; clear T9 Bm_8 Bi_8 Bo_8 Bt_8 Hw8; have Bt_9L : Blk W9 bt #[.int .i64 r0, .int .i64 0, .int .i64 0, .int .i64 0, .int .i64 0, .int .i64 0] 25 := Bt_9; clear Bt_9)
    | (refine wl_set 3 _ _ rfl rfl bt 1 rfl (.int .i64 r1) rfl rfl szI _ _ Bt_9L (by decide : 1 < 6) ?_; intro W10 Bt_10 T10; have Bm_10 := T10.blk Bm_9 nmt; have Bi_10 := T10.blk Bi_9 nit; have Bo_10 := T10.blk Bo_9 not; have Hw10 := T10.below Hw9 gt; clear T10 Bm_9 Bi_9 Bo_9 Bt_9L Hw9; have Bt_10L : Blk W10 bt #[.int .i64 r0, .int .i64 r1, .int .i64 0, .int .i64 0, .int .i64 0, .int .i64 0] 25 := Bt_10; clear Bt_10))
  have cu1 : W10.cell? ⟨bi, 2, none⟩ = some (.int .i64 ic) := Bi_10.cell 2
  have cv1 : W10.cell? ⟨bi, 3, none⟩ = some (.int .i64 id) := Bi_10.cell 3
  go_upto_region 6 with (go_big_may; first
    | (refine wl_load 25 6 _ Try.underlying25 rfl szMt _ rfl rfl _ rfl _ _ Bm_10 rfl ?_)
    | (go_at_call 10; (with_reducible refine (T1.out _).mono ?_); rintro e W11 ⟨rfl, k11⟩; have Bm_11 := Bm_10.keep k11; have Bi_11 := Bi_10.keep k11; have Bo_11 := Bo_10.keep k11; have Bt_11 := Bt_10L.keep k11; have Hw11 := bq_trans Hw10 k11; clear cu1 cv1; clear k11 Bm_10 Bi_10 Bo_10 Bt_10L Hw10)
    | (go_at_call 9; (with_reducible refine (F1.out _).mono ?_); rintro e W12 ⟨rfl, k12⟩; have Bm_12 := Bm_11.keep k12; have Bi_12 := Bi_11.keep k12; have Bo_12 := Bo_11.keep k12; have Bt_12 := Bt_11.keep k12; have Hw12 := bq_trans Hw11 k12; clear k12 Bm_11 Bi_11 Bo_11 Bt_11 Hw11)
    | (refine wl_set 3 _ _ rfl rfl bt 2 rfl (.int .i64 r2) rfl rfl szI _ _ Bt_12 (by decide : 2 < 6) ?_; intro W13 Bt_13 T13; have Bm_13 := T13.blk Bm_12 nmt; have Bi_13 := T13.blk Bi_12 nit; have Bo_13 := T13.blk Bo_12 not; have Hw13 := T13.below Hw12 gt; clear T13 Bm_12 Bi_12 Bo_12 Bt_12 Hw12; have Bt_13L : Blk W13 bt #[.int .i64 r0, .int .i64 r1, .int .i64 r2, .int .i64 0, .int .i64 0, .int .i64 0] 25 := Bt_13; clear Bt_13)
    | (refine wl_set 3 _ _ rfl rfl bt 3 rfl (.int .i64 r3) rfl rfl szI _ _ Bt_13L (by decide : 3 < 6) ?_; intro W14 Bt_14 T14; have Bm_14 := T14.blk Bm_13 nmt; have Bi_14 := T14.blk Bi_13 nit; have Bo_14 := T14.blk Bo_13 not; have Hw14 := T14.below Hw13 gt; clear T14 Bm_13 Bi_13 Bo_13 Bt_13L Hw13; have Bt_14L : Blk W14 bt #[.int .i64 r0, .int .i64 r1, .int .i64 r2, .int .i64 r3, .int .i64 0, .int .i64 0] 25 := Bt_14; clear Bt_14))
  have cu2 : W14.cell? ⟨bi, 4, none⟩ = some (.int .i64 ix) := Bi_14.cell 4
  have cv2 : W14.cell? ⟨bi, 5, none⟩ = some (.int .i64 iy) := Bi_14.cell 5
  go_upto_region 7 with (go_big_may; first
    | (refine wl_load 25 6 _ Try.underlying25 rfl szMt _ rfl rfl _ rfl _ _ Bm_14 rfl ?_)
    | (go_at_call 10; (with_reducible refine (T2.out _).mono ?_); rintro e W15 ⟨rfl, k15⟩; have Bm_15 := Bm_14.keep k15; have Bi_15 := Bi_14.keep k15; have Bo_15 := Bo_14.keep k15; have Bt_15 := Bt_14L.keep k15; have Hw15 := bq_trans Hw14 k15; clear cu2 cv2; clear k15 Bm_14 Bi_14 Bo_14 Bt_14L Hw14)
    | (go_at_call 9; (with_reducible refine (F2.out _).mono ?_); rintro e W16 ⟨rfl, k16⟩; have Bm_16 := Bm_15.keep k16; have Bi_16 := Bi_15.keep k16; have Bo_16 := Bo_15.keep k16; have Bt_16 := Bt_15.keep k16; have Hw16 := bq_trans Hw15 k16; clear k16 Bm_15 Bi_15 Bo_15 Bt_15 Hw15)
    | (refine wl_set 3 _ _ rfl rfl bt 4 rfl (.int .i64 r4) rfl rfl szI _ _ Bt_16 (by decide : 4 < 6) ?_; intro W17 Bt_17 T17; have Bm_17 := T17.blk Bm_16 nmt; have Bi_17 := T17.blk Bi_16 nit; have Bo_17 := T17.blk Bo_16 not; have Hw17 := T17.below Hw16 gt; clear T17 Bm_16 Bi_16 Bo_16 Bt_16 Hw16; have Bt_17L : Blk W17 bt #[.int .i64 r0, .int .i64 r1, .int .i64 r2, .int .i64 r3, .int .i64 r4, .int .i64 0] 25 := Bt_17; clear Bt_17)
    | (refine wl_set 3 _ _ rfl rfl bt 5 rfl (.int .i64 r5) rfl rfl szI _ _ Bt_17L (by decide : 5 < 6) ?_; intro W18 Bt_18 T18; have Bm_18 := T18.blk Bm_17 nmt; have Bi_18 := T18.blk Bi_17 nit; have Bo_18 := T18.blk Bo_17 not; have Hw18 := T18.below Hw17 gt; clear T18 Bm_17 Bi_17 Bo_17 Bt_17L Hw17; have Bt_18L : Blk W18 bt #[.int .i64 r0, .int .i64 r1, .int .i64 r2, .int .i64 r3, .int .i64 r4, .int .i64 r5] 25 := Bt_18; clear Bt_18))
  have cu : W18.cell? ⟨bt, 4, none⟩ = some (.int .i64 r4) := Bt_18L.cell 4
  have cv : W18.cell? ⟨bm, 4, none⟩ = some (.int .i64 X) := Bm_18.cell 4
  go_upto_region 8 with (go_big_may; first
    | (refine wl_set 3 _ _ rfl rfl bt 4 rfl (.int .i64 (r4 + X)) rfl rfl szI _ _ Bt_18L (by decide : 4 < 6) ?_; intro W19 Bt_19 T19; have Bm_19 := T19.blk Bm_18 nmt; have Bi_19 := T19.blk Bi_18 nit; have Bo_19 := T19.blk Bo_18 not; have Hw19 := T19.below Hw18 gt; clear T19 Bm_18 Bi_18 Bo_18 Bt_18L Hw18; have Bt_19L : Blk W19 bt #[.int .i64 r0, .int .i64 r1, .int .i64 r2, .int .i64 r3, .int .i64 (r4 + X), .int .i64 r5] 25 := Bt_19; clear Bt_19))
  clear cu cv
  have cu : W19.cell? ⟨bt, 5, none⟩ = some (.int .i64 r5) := Bt_19L.cell 5
  have cv : W19.cell? ⟨bm, 5, none⟩ = some (.int .i64 Y) := Bm_19.cell 5
  go_upto_region 9 with (go_big_may; first
    | (refine wl_set 3 _ _ rfl rfl bt 5 rfl (.int .i64 (r5 + Y)) rfl rfl szI _ _ Bt_19L (by decide : 5 < 6) ?_; intro W20 Bt_20 T20; have Bm_20 := T20.blk Bm_19 nmt; have Bi_20 := T20.blk Bi_19 nit; have Bo_20 := T20.blk Bo_19 not; have Hw20 := T20.below Hw19 gt; clear T20 Bm_19 Bi_19 Bo_19 Bt_19L Hw19; have Bt_20L : Blk W20 bt #[.int .i64 r0, .int .i64 r1, .int .i64 r2, .int .i64 r3, .int .i64 (r4 + X), .int .i64 (r5 + Y)] 25 := Bt_20; clear Bt_20))
  clear cu cv
  go_wp2_with (first
    | (refine wl_load 25 6 _ Try.underlying25 rfl szMt _ rfl rfl _ rfl _ _ Bt_20L rfl ?_)
    | (go_at_call 8; (with_reducible refine (H3.out _).mono ?_); rintro e W21 ⟨rfl, k21⟩; have Bm_21 := Bm_20.keep k21; have Bi_21 := Bi_20.keep k21; have Bo_21 := Bo_20.keep k21; have Bt_21 := Bt_20L.keep k21; have Hw21 := bq_trans Hw20 k21; clear k21 Bm_20 Bi_20 Bo_20 Bt_20L Hw20)
    | (refine wl_store 25 6 szMt _ _ rfl rfl _ rfl #[.int .i64 0, .int .i64 0, .int .i64 0, .int .i64 0, .int .i64 0, .int .i64 0] rfl _ _ Bo_21 rfl rfl (by kernel_rfl) ?_; intro W22 Bo_22 T22; have Bm_22 := T22.blk Bm_21 nmo; have Bi_22 := T22.blk Bi_21 nio; have Bt_22 := T22.blk Bt_21 (Ne.symm not); have Hw22 := T22.below Hw21 go; clear T22 Bm_21 Bi_21 Bt_21 Bo_21 Hw21))
  exact post_cell_tmp (v := .int .i64 8) Try.underlying25 rfl szMt Try.results5 Bo_22 rfl rfl rfl rfl ⟨rfl, Hw22⟩
theorem comp14_any (A B C D X Y ia ib ic id ix iy : Int) (w : World) (hm : I64M A B C D X Y) (hi : I64M ia ib ic id ix iy) :
    Calls Try.prog 5 #[.agg #[.int .i64 A, .int .i64 B, .int .i64 C, .int .i64 D, .int .i64 X, .int .i64 Y], .agg #[.int .i64 ia, .int .i64 ib, .int .i64 ic, .int .i64 id, .int .i64 ix, .int .i64 iy]] w fun e w' => e = .returned (cmpV A B C D X Y ia ib ic id ix iy) ∧ Below w.heap.size w w' := by
  have H1 := Lib.hid fun W => rightm hm W
  have H2 := Lib.hid fun W => rightm hi W
  cases q1 : matOk A B C D X Y with
  | false =>
    rw [cmpV_no (by rw [q1]; rfl)]
    rw [q1] at H1
    exact comp14_no A B C D X Y ia ib ic id ix iy false _ w (Or.inl rfl) H1 H2
  | true =>
    rw [q1] at H1
    cases q2 : matOk ia ib ic id ix iy with
    | false =>
      rw [cmpV_no (by rw [q1, q2]; rfl)]
      rw [q2] at H2
      exact comp14_no A B C D X Y ia ib ic id ix iy true false w (Or.inr ⟨rfl, rfl⟩) H1 H2
    | true =>
      rw [q2] at H2
      obtain ⟨bA, bB, bC, bD, bX, bY⟩ := matOk_bd q1
      obtain ⟨ba, bb, bc, bd, bx, by1⟩ := matOk_bd q2
      have bx' : -4194304 ≤ ix ∧ ix ≤ 4194304 := by omega
      have by' : -4194304 ≤ iy ∧ iy ≤ 4194304 := by omega
      have d0 := dt_bd bA bC ba bb
      have d1 := dt_bd bB bD ba bb
      have d2 := dt_bd bA bC bc bd
      have d3 := dt_bd bB bD bc bd
      have d4 := dt_bd bA bC bx' by'
      have d5 := dt_bd bB bD bx' by'
      have u0 := mul_bd _ _ bA ba
      have v0 := mul_bd _ _ bC bb
      have u1 := mul_bd _ _ bB ba
      have v1 := mul_bd _ _ bD bb
      have u2 := mul_bd _ _ bA bc
      have v2 := mul_bd _ _ bC bd
      have u3 := mul_bd _ _ bB bc
      have v3 := mul_bd _ _ bD bd
      have u4 := mul_bd _ _ bA bx'
      have v4 := mul_bd _ _ bC by'
      have u5 := mul_bd _ _ bB bx'
      have v5 := mul_bd _ _ bD by'
      have HQ : I64M (dt A C ia ib) (dt B D ia ib) (dt A C ic id) (dt B D ic id) (dt A C ix iy + X) (dt B D ix iy + Y) := ⟨⟨by omega, by omega⟩, ⟨by omega, by omega⟩, ⟨by omega, by omega⟩, ⟨by omega, by omega⟩, ⟨by omega, by omega⟩, ⟨by omega, by omega⟩⟩
      have H3 := Lib.hid fun W => rightm HQ W
      have T0 := Lib.hid fun W => turn14_any A B C D X Y ia ib W bA bB bC bD (by omega) (by omega)
      have F0 := Lib.hid fun W => (show Calls Try.prog 9 #[.agg #[.int .i64 (A * ia + C * ib), .int .i64 (B * ia + D * ib)], .int .i64 65536] W fun e w' => e = .returned (.tuple #[.int .i64 (dt A C ia ib), .int .i64 (dt B D ia ib)]) ∧ Below W.heap.size W w' from floors14_at _ _ W (by omega) (by omega))
      have T1 := Lib.hid fun W => turn14_any A B C D X Y ic id W bA bB bC bD (by omega) (by omega)
      have F1 := Lib.hid fun W => (show Calls Try.prog 9 #[.agg #[.int .i64 (A * ic + C * id), .int .i64 (B * ic + D * id)], .int .i64 65536] W fun e w' => e = .returned (.tuple #[.int .i64 (dt A C ic id), .int .i64 (dt B D ic id)]) ∧ Below W.heap.size W w' from floors14_at _ _ W (by omega) (by omega))
      have T2 := Lib.hid fun W => turn14_any A B C D X Y ix iy W bA bB bC bD (by omega) (by omega)
      have F2 := Lib.hid fun W => (show Calls Try.prog 9 #[.agg #[.int .i64 (A * ix + C * iy), .int .i64 (B * ix + D * iy)], .int .i64 65536] W fun e w' => e = .returned (.tuple #[.int .i64 (dt A C ix iy), .int .i64 (dt B D ix iy)]) ∧ Below W.heap.size W w' from floors14_at _ _ W (by omega) (by omega))
      cases q3 : matOk (dt A C ia ib) (dt B D ia ib) (dt A C ic id) (dt B D ic id) (dt A C ix iy + X) (dt B D ix iy + Y) with
      | false =>
        rw [q3] at H3
        rw [cmpV_far q1 q2 q3]
        exact comp14_far A B C D X Y ia ib ic id ix iy _ _ _ _ _ _ _ _ _ _ _ _ w bX.1 bX.2 bY.1 bY.2 d4.1 d4.2 d5.1 d5.2 H1 H2 T0 F0 T1 F1 T2 F2 H3
      | true =>
        rw [q3] at H3
        rw [cmpV_yes q1 q2 q3]
        exact comp14_yes A B C D X Y ia ib ic id ix iy _ _ _ _ _ _ _ _ _ _ _ _ w bX.1 bX.2 bY.1 bY.2 d4.1 d4.2 d5.1 d5.2 H1 H2 T0 F0 T1 F1 T2 F2 H3
end Go.Proofs.Ythcejmbjagpjcab
