import Derived.Test.YthcejmbjagpjcabN2
/- Layer 14: Apply and Grid, both sides. -/
namespace Go.Proofs.Ythcejmbjagpjcab
open Go.RowKit
set_option linter.unusedVariables false
set_option linter.unusedSimpArgs false
set_option maxRecDepth 100000

theorem matOk_bd {a b c d x y : Int} (h : matOk a b c d x y = true) : (-4194304 ≤ a ∧ a ≤ 4194304) ∧ (-4194304 ≤ b ∧ b ≤ 4194304) ∧ (-4194304 ≤ c ∧ c ≤ 4194304) ∧ (-4194304 ≤ d ∧ d ≤ 4194304) ∧ (-1048576 ≤ x ∧ x ≤ 1048576) ∧ (-1048576 ≤ y ∧ y ≤ 1048576) := by
  simp [matOk, nr] at h
  omega
theorem ptOk_bd {m x y : Int} (h : ptOk m x y = true) : (-m ≤ x ∧ x ≤ m) ∧ (-m ≤ y ∧ y ≤ m) := by
  simp [ptOk, nr] at h
  omega
set_option maxHeartbeats 1000000 in
theorem apply14_no (A B C D X Y x y : Int) (q1 q2 : Bool) (w : World) (hq : q1 = false ∨ q1 = true ∧ q2 = false) (H1 : Hid (∀ W, Calls Try.prog 8 #[.agg #[.int .i64 A, .int .i64 B, .int .i64 C, .int .i64 D, .int .i64 X, .int .i64 Y]] W fun e w' => e = .returned (.bool q1) ∧ Below W.heap.size W w')) (H2 : Hid (∀ W, Calls Try.prog 11 #[.agg #[.int .i64 x, .int .i64 y], .int .i64 1073741824] W fun e w' => e = .returned (.bool q2) ∧ Below W.heap.size W w')) :
    Calls Try.prog 6 #[.agg #[.int .i64 A, .int .i64 B, .int .i64 C, .int .i64 D, .int .i64 X, .int .i64 Y], .agg #[.int .i64 x, .int .i64 y]] w fun e w' => e = .returned (.tuple #[.agg #[.int .i64 0, .int .i64 0], .int .i64 1]) ∧ Below w.heap.size w w' := by
  rcases hq with rfl | ⟨rfl, rfl⟩
  · go_enter Try.func6, Try.ntmps6
    go_wp2_with (first
      | (refine wl_box 25 _ _ rfl rfl (show _ = Value.agg #[.int .i64 A, .int .i64 B, .int .i64 C, .int .i64 D, .int .i64 X, .int .i64 Y] from rfl) ?_; intro W1 bm Bm_1 l1 k1; have gm : w.heap.size ≤ bm := l1; have Hw1 := k1; clear l1 k1)
      | (refine wl_box 31 _ _ rfl rfl (show _ = Value.agg #[.int .i64 x, .int .i64 y] from rfl) ?_; intro W2 bp Bp_2 l2 k2; have gp : w.heap.size ≤ bp := Nat.le_trans Hw1.size l2; have nmp : bm ≠ bp := Nat.ne_of_lt (Nat.lt_of_lt_of_le Bm_1.lt l2); have Bm_2 := Bm_1.keep k2; have Hw2 := bq_trans Hw1 k2; clear l2 k2 Bm_1 Hw1)
      | (refine wl_alloc 31 _ zePt rfl rfl ?_; intro W3 bo Bo_3 l3 k3; have go : w.heap.size ≤ bo := Nat.le_trans Hw2.size l3; have nmo : bm ≠ bo := Nat.ne_of_lt (Nat.lt_of_lt_of_le Bm_2.lt l3); have npo : bp ≠ bo := Nat.ne_of_lt (Nat.lt_of_lt_of_le Bp_2.lt l3); have Bm_3 := Bm_2.keep k3; have Bp_3 := Bp_2.keep k3; have Hw3 := bq_trans Hw2 k3; clear l3 k3 Bm_2 Bp_2 Hw2)
      | (refine wl_load 25 6 _ Try.underlying25 rfl szMt _ rfl rfl _ rfl _ _ Bm_3 rfl ?_)
      | (go_at_call 8; (with_reducible refine (H1.out _).mono ?_); rintro e W4 ⟨rfl, k4⟩; have Bm_4 := Bm_3.keep k4; have Bp_4 := Bp_3.keep k4; have Bo_4 := Bo_3.keep k4; have Hw4 := bq_trans Hw3 k4; clear k4 Bm_3 Bp_3 Bo_3 Hw3)
      | (refine wl_store 31 2 szPt _ _ rfl rfl _ rfl #[.int .i64 0, .int .i64 0] rfl _ _ Bo_4 rfl rfl (by kernel_rfl) ?_; intro W5 Bo_5 T5; have Bm_5 := T5.blk Bm_4 nmo; have Bp_5 := T5.blk Bp_4 npo; have Hw5 := T5.below Hw4 go; clear T5 Bm_4 Bp_4 Bo_4 Hw4))
    exact post_cell_tmp (v := .int .i64 1) Try.underlying31 rfl szPt Try.results6 Bo_5 rfl rfl rfl rfl ⟨rfl, Hw5⟩
  · go_enter Try.func6, Try.ntmps6
    go_wp2_with (first
      | (refine wl_box 25 _ _ rfl rfl (show _ = Value.agg #[.int .i64 A, .int .i64 B, .int .i64 C, .int .i64 D, .int .i64 X, .int .i64 Y] from rfl) ?_; intro W1 bm Bm_1 l1 k1; have gm : w.heap.size ≤ bm := l1; have Hw1 := k1; clear l1 k1)
      | (refine wl_box 31 _ _ rfl rfl (show _ = Value.agg #[.int .i64 x, .int .i64 y] from rfl) ?_; intro W2 bp Bp_2 l2 k2; have gp : w.heap.size ≤ bp := Nat.le_trans Hw1.size l2; have nmp : bm ≠ bp := Nat.ne_of_lt (Nat.lt_of_lt_of_le Bm_1.lt l2); have Bm_2 := Bm_1.keep k2; have Hw2 := bq_trans Hw1 k2; clear l2 k2 Bm_1 Hw1)
      | (refine wl_alloc 31 _ zePt rfl rfl ?_; intro W3 bo Bo_3 l3 k3; have go : w.heap.size ≤ bo := Nat.le_trans Hw2.size l3; have nmo : bm ≠ bo := Nat.ne_of_lt (Nat.lt_of_lt_of_le Bm_2.lt l3); have npo : bp ≠ bo := Nat.ne_of_lt (Nat.lt_of_lt_of_le Bp_2.lt l3); have Bm_3 := Bm_2.keep k3; have Bp_3 := Bp_2.keep k3; have Hw3 := bq_trans Hw2 k3; clear l3 k3 Bm_2 Bp_2 Hw2)
      | (refine wl_load 25 6 _ Try.underlying25 rfl szMt _ rfl rfl _ rfl _ _ Bm_3 rfl ?_)
      | (go_at_call 8; (with_reducible refine (H1.out _).mono ?_); rintro e W4 ⟨rfl, k4⟩; have Bm_4 := Bm_3.keep k4; have Bp_4 := Bp_3.keep k4; have Bo_4 := Bo_3.keep k4; have Hw4 := bq_trans Hw3 k4; clear k4 Bm_3 Bp_3 Bo_3 Hw3)
      | (refine wlg_load 31 2 _ Try.underlying31 rfl szPt _ rfl rfl _ rfl _ _ Bp_4 rfl ?_)
      | (go_at_call 11; (with_reducible refine (H2.out _).mono ?_); rintro e W5 ⟨rfl, k5⟩; have Bm_5 := Bm_4.keep k5; have Bp_5 := Bp_4.keep k5; have Bo_5 := Bo_4.keep k5; have Hw5 := bq_trans Hw4 k5; clear k5 Bm_4 Bp_4 Bo_4 Hw4)
      | (refine wl_store 31 2 szPt _ _ rfl rfl _ rfl #[.int .i64 0, .int .i64 0] rfl _ _ Bo_5 rfl rfl (by kernel_rfl) ?_; intro W6 Bo_6 T6; have Bm_6 := T6.blk Bm_5 nmo; have Bp_6 := T6.blk Bp_5 npo; have Hw6 := T6.below Hw5 go; clear T6 Bm_5 Bp_5 Bo_5 Hw5))
    exact post_cell_tmp (v := .int .i64 1) Try.underlying31 rfl szPt Try.results6 Bo_6 rfl rfl rfl rfl ⟨rfl, Hw6⟩
set_option maxHeartbeats 1000000 in
theorem apply14_yes (A B C D X Y x y r s : Int) (w : World) (x0 : -1048576 ≤ X) (x1 : X ≤ 1048576) (y0 : -1048576 ≤ Y) (y1 : Y ≤ 1048576) (r0 : -9007199254740992 ≤ r) (r1 : r ≤ 9007199254740992) (s0 : -9007199254740992 ≤ s) (s1 : s ≤ 9007199254740992)
    (H1 : Hid (∀ W, Calls Try.prog 8 #[.agg #[.int .i64 A, .int .i64 B, .int .i64 C, .int .i64 D, .int .i64 X, .int .i64 Y]] W fun e w' => e = .returned (.bool true) ∧ Below W.heap.size W w')) (H2 : Hid (∀ W, Calls Try.prog 11 #[.agg #[.int .i64 x, .int .i64 y], .int .i64 1073741824] W fun e w' => e = .returned (.bool true) ∧ Below W.heap.size W w'))
    (H3 : Hid (∀ W, Calls Try.prog 10 #[.agg #[.int .i64 A, .int .i64 B, .int .i64 C, .int .i64 D, .int .i64 X, .int .i64 Y], .int .i64 x, .int .i64 y] W fun e w' => e = .returned (.agg #[.int .i64 r, .int .i64 s]) ∧ Below W.heap.size W w')) :
    Calls Try.prog 6 #[.agg #[.int .i64 A, .int .i64 B, .int .i64 C, .int .i64 D, .int .i64 X, .int .i64 Y], .agg #[.int .i64 x, .int .i64 y]] w fun e w' => e = .returned (.tuple #[.agg #[.int .i64 (r + X * 65536), .int .i64 (s + Y * 65536)], .int .i64 0]) ∧ Below w.heap.size w w' := by
  go_enter Try.func6, Try.ntmps6
  go_upto_region 3 with (go_big_may; first
    | (refine wl_box 25 _ _ rfl rfl (show _ = Value.agg #[.int .i64 A, .int .i64 B, .int .i64 C, .int .i64 D, .int .i64 X, .int .i64 Y] from rfl) ?_; intro W1 bm Bm_1 l1 k1; have gm : w.heap.size ≤ bm := l1; have Hw1 := k1; clear l1 k1)
    | (refine wl_box 31 _ _ rfl rfl (show _ = Value.agg #[.int .i64 x, .int .i64 y] from rfl) ?_; intro W2 bp Bp_2 l2 k2; have gp : w.heap.size ≤ bp := Nat.le_trans Hw1.size l2; have nmp : bm ≠ bp := Nat.ne_of_lt (Nat.lt_of_lt_of_le Bm_1.lt l2); have Bm_2 := Bm_1.keep k2; have Hw2 := bq_trans Hw1 k2; clear l2 k2 Bm_1 Hw1)
    | (refine wl_alloc 31 _ zePt rfl rfl ?_; intro W3 bo Bo_3 l3 k3; have go : w.heap.size ≤ bo := Nat.le_trans Hw2.size l3; have nmo : bm ≠ bo := Nat.ne_of_lt (Nat.lt_of_lt_of_le Bm_2.lt l3); have npo : bp ≠ bo := Nat.ne_of_lt (Nat.lt_of_lt_of_le Bp_2.lt l3); have Bm_3 := Bm_2.keep k3; have Bp_3 := Bp_2.keep k3; have Hw3 := bq_trans Hw2 k3; clear l3 k3 Bm_2 Bp_2 Hw2)
    | (refine wl_load 25 6 _ Try.underlying25 rfl szMt _ rfl rfl _ rfl _ _ Bm_3 rfl ?_)
    | (go_at_call 8; (with_reducible refine (H1.out _).mono ?_); rintro e W4 ⟨rfl, k4⟩; have Bm_4 := Bm_3.keep k4; have Bp_4 := Bp_3.keep k4; have Bo_4 := Bo_3.keep k4; have Hw4 := bq_trans Hw3 k4; clear k4 Bm_3 Bp_3 Bo_3 Hw3)
    | (refine wlg_load 31 2 _ Try.underlying31 rfl szPt _ rfl rfl _ rfl _ _ Bp_4 rfl ?_)
    | (go_at_call 11; (with_reducible refine (H2.out _).mono ?_); rintro e W5 ⟨rfl, k5⟩; have Bm_5 := Bm_4.keep k5; have Bp_5 := Bp_4.keep k5; have Bo_5 := Bo_4.keep k5; have Hw5 := bq_trans Hw4 k5; clear k5 Bm_4 Bp_4 Bo_4 Hw4; have cp_0_5 : W5.cell? ⟨bp, 0, none⟩ = some (.int .i64 x) := Bp_5.cell 0; have cp_1_5 : W5.cell? ⟨bp, 1, none⟩ = some (.int .i64 y) := Bp_5.cell 1))
  go_upto_region 4 with (go_big_may; first
    | (refine wl_load 25 6 _ Try.underlying25 rfl szMt _ rfl rfl _ rfl _ _ Bm_5 rfl ?_)
    | (go_at_call 10; (with_reducible refine (H3.out _).mono ?_); rintro e W6 ⟨rfl, k6⟩; have Bm_6 := Bm_5.keep k6; have Bp_6 := Bp_5.keep k6; have Bo_6 := Bo_5.keep k6; have Hw6 := bq_trans Hw5 k6; clear k6 Bm_5 Bp_5 Bo_5 cp_0_5 cp_1_5 Hw5)
    | (refine wl_alloc 31 _ zePt rfl rfl ?_; intro W7 bq Bq_7 l7 k7; have gq : w.heap.size ≤ bq := Nat.le_trans Hw6.size l7; have nmq : bm ≠ bq := Nat.ne_of_lt (Nat.lt_of_lt_of_le Bm_6.lt l7); have npq : bp ≠ bq := Nat.ne_of_lt (Nat.lt_of_lt_of_le Bp_6.lt l7); have noq : bo ≠ bq := Nat.ne_of_lt (Nat.lt_of_lt_of_le Bo_6.lt l7); have Bm_7 := Bm_6.keep k7; have Bp_7 := Bp_6.keep k7; have Bo_7 := Bo_6.keep k7; have Hw7 := bq_trans Hw6 k7; clear l7 k7 Bm_6 Bp_6 Bo_6 Hw6)
    | (refine wl_store 31 2 szPt _ _ rfl rfl _ rfl #[.int .i64 r, .int .i64 s] rfl _ _ Bq_7 rfl rfl (by kernel_rfl) ?_; intro W8 Bq_8 T8; have Bm_8 := T8.blk Bm_7 nmq; have Bp_8 := T8.blk Bp_7 npq; have Bo_8 := T8.blk Bo_7 noq; have Hw8 := T8.below Hw7 gq; clear T8 Bm_7 Bp_7 Bo_7 Bq_7 Hw7; have cq_0_8 : W8.cell? ⟨bq, 0, none⟩ = some (.int .i64 r) := Bq_8.cell 0; have cq_1_8 : W8.cell? ⟨bq, 1, none⟩ = some (.int .i64 s) := Bq_8.cell 1; have cm_4_8 : W8.cell? ⟨bm, 4, none⟩ = some (.int .i64 X) := Bm_8.cell 4; have cm_5_8 : W8.cell? ⟨bm, 5, none⟩ = some (.int .i64 Y) := Bm_8.cell 5))
  go_wp2_with (first
    | (refine wl_store 31 2 szPt _ _ rfl rfl _ rfl #[.int .i64 (r + X * 65536), .int .i64 (s + Y * 65536)] rfl _ _ Bo_8 rfl rfl (by kernel_rfl) ?_; intro W9 Bo_9 T9; have Bm_9 := T9.blk Bm_8 nmo; have Bp_9 := T9.blk Bp_8 npo; have Bq_9 := T9.blk Bq_8 (Ne.symm noq); have Hw9 := T9.below Hw8 go; clear T9 Bm_8 Bp_8 Bq_8 cq_0_8 cq_1_8 cm_4_8 cm_5_8 Bo_8 Hw8))
  exact post_cell_tmp (v := .int .i64 0) Try.underlying31 rfl szPt Try.results6 Bo_9 rfl rfl rfl rfl ⟨rfl, Hw9⟩
/-- where a point goes, with 16 bits behind it -/
def aplV (A B C D X Y x y : Int) : Value := if matOk A B C D X Y && ptOk 1073741824 x y then .tuple #[.agg #[.int .i64 (A * x + C * y + X * 65536), .int .i64 (B * x + D * y + Y * 65536)], .int .i64 0] else .tuple #[.agg #[.int .i64 0, .int .i64 0], .int .i64 1]
theorem aplV_no {A B C D X Y x y : Int} (h : (matOk A B C D X Y && ptOk 1073741824 x y) = false) : aplV A B C D X Y x y = .tuple #[.agg #[.int .i64 0, .int .i64 0], .int .i64 1] := by unfold aplV; rw [h]; rfl
theorem aplV_yes {A B C D X Y x y : Int} (h : matOk A B C D X Y = true) (h2 : ptOk 1073741824 x y = true) : aplV A B C D X Y x y = .tuple #[.agg #[.int .i64 (A * x + C * y + X * 65536), .int .i64 (B * x + D * y + Y * 65536)], .int .i64 0] := by unfold aplV; rw [h, h2]; rfl
def I64M (A B C D X Y : Int) : Prop := I64 A ∧ I64 B ∧ I64 C ∧ I64 D ∧ I64 X ∧ I64 Y
theorem rightm {A B C D X Y : Int} (h : I64M A B C D X Y) (w : World) : Calls Try.prog 8 #[.agg #[.int .i64 A, .int .i64 B, .int .i64 C, .int .i64 D, .int .i64 X, .int .i64 Y]] w fun e w' => e = .returned (.bool (matOk A B C D X Y)) ∧ Below w.heap.size w w' := rightmatrix_any A B C D X Y w h.1 h.2.1 h.2.2.1 h.2.2.2.1 h.2.2.2.2.1 h.2.2.2.2.2
theorem apply14_any (A B C D X Y x y : Int) (w : World) (hm : I64M A B C D X Y) :
    Calls Try.prog 6 #[.agg #[.int .i64 A, .int .i64 B, .int .i64 C, .int .i64 D, .int .i64 X, .int .i64 Y], .agg #[.int .i64 x, .int .i64 y]] w fun e w' => e = .returned (aplV A B C D X Y x y) ∧ Below w.heap.size w w' := by
  have H1 := Lib.hid fun W => rightm hm W
  have H2 := Lib.hid fun W => near14_any x y 1073741824 W (by omega) (by omega)
  cases q1 : matOk A B C D X Y with
  | false =>
    rw [aplV_no (by rw [q1]; rfl)]
    rw [q1] at H1
    exact apply14_no A B C D X Y x y false (ptOk 1073741824 x y) w (Or.inl rfl) H1 H2
  | true =>
    rw [q1] at H1
    cases q2 : ptOk 1073741824 x y with
    | false =>
      rw [aplV_no (by rw [q1, q2]; rfl)]
      rw [q2] at H2
      exact apply14_no A B C D X Y x y true false w (Or.inr ⟨rfl, rfl⟩) H1 H2
    | true =>
      rw [aplV_yes q1 q2]
      rw [q2] at H2
      obtain ⟨bA, bB, bC, bD, bX, bY⟩ := matOk_bd q1
      obtain ⟨bx, bY2⟩ := ptOk_bd q2
      have c1 := mul_bd _ _ bA bx
      have c2 := mul_bd _ _ bC bY2
      have c3 := mul_bd _ _ bB bx
      have c4 := mul_bd _ _ bD bY2
      exact apply14_yes A B C D X Y x y _ _ w bX.1 bX.2 bY.1 bY.2 (by omega) (by omega) (by omega) (by omega) H1 H2 (Lib.hid fun W => turn14_any A B C D X Y x y W bA bB bC bD (by omega) (by omega))
/-- where a point goes, on the grid -/
def grdV (A B C D X Y x y : Int) : Value := if matOk A B C D X Y && ptOk 1073741824 x y then (if ptOk 16777216 (gridV (A * x + C * y + X * 65536)) (gridV (B * x + D * y + Y * 65536)) then .tuple #[.agg #[.int .i64 (gridV (A * x + C * y + X * 65536)), .int .i64 (gridV (B * x + D * y + Y * 65536))], .int .i64 0] else .tuple #[.agg #[.int .i64 0, .int .i64 0], .int .i64 8]) else .tuple #[.agg #[.int .i64 0, .int .i64 0], .int .i64 1]
theorem grdV_no {A B C D X Y x y : Int} (h : (matOk A B C D X Y && ptOk 1073741824 x y) = false) : grdV A B C D X Y x y = .tuple #[.agg #[.int .i64 0, .int .i64 0], .int .i64 1] := by unfold grdV; rw [h]; rfl
theorem grdV_far {A B C D X Y x y : Int} (h : matOk A B C D X Y = true) (h2 : ptOk 1073741824 x y = true) (h3 : ptOk 16777216 (gridV (A * x + C * y + X * 65536)) (gridV (B * x + D * y + Y * 65536)) = false) : grdV A B C D X Y x y = .tuple #[.agg #[.int .i64 0, .int .i64 0], .int .i64 8] := by unfold grdV; rw [h, h2, h3]; rfl
theorem grdV_yes {A B C D X Y x y : Int} (h : matOk A B C D X Y = true) (h2 : ptOk 1073741824 x y = true) (h3 : ptOk 16777216 (gridV (A * x + C * y + X * 65536)) (gridV (B * x + D * y + Y * 65536)) = true) : grdV A B C D X Y x y = .tuple #[.agg #[.int .i64 (gridV (A * x + C * y + X * 65536)), .int .i64 (gridV (B * x + D * y + Y * 65536))], .int .i64 0] := by unfold grdV; rw [h, h2, h3]; rfl
set_option maxHeartbeats 1000000 in
theorem grid14_no (A B C D X Y x y : Int) (w : World) (HA : Hid (∀ W, Calls Try.prog 6 #[.agg #[.int .i64 A, .int .i64 B, .int .i64 C, .int .i64 D, .int .i64 X, .int .i64 Y], .agg #[.int .i64 x, .int .i64 y]] W fun e w' => e = .returned (.tuple #[.agg #[.int .i64 0, .int .i64 0], .int .i64 1]) ∧ Below W.heap.size W w')) :
    Calls Try.prog 13 #[.agg #[.int .i64 A, .int .i64 B, .int .i64 C, .int .i64 D, .int .i64 X, .int .i64 Y], .agg #[.int .i64 x, .int .i64 y]] w fun e w' => e = .returned (.tuple #[.agg #[.int .i64 0, .int .i64 0], .int .i64 1]) ∧ Below w.heap.size w w' := by
  go_enter Try.func13, Try.ntmps13
  go_wp2_with (first
    | (refine wl_box 25 _ _ rfl rfl (show _ = Value.agg #[.int .i64 A, .int .i64 B, .int .i64 C, .int .i64 D, .int .i64 X, .int .i64 Y] from rfl) ?_; intro W1 bm Bm_1 l1 k1; have gm : w.heap.size ≤ bm := l1; have Hw1 := k1; clear l1 k1)
    | (refine wl_box 31 _ _ rfl rfl (show _ = Value.agg #[.int .i64 x, .int .i64 y] from rfl) ?_; intro W2 bp Bp_2 l2 k2; have gp : w.heap.size ≤ bp := Nat.le_trans Hw1.size l2; have nmp : bm ≠ bp := Nat.ne_of_lt (Nat.lt_of_lt_of_le Bm_1.lt l2); have Bm_2 := Bm_1.keep k2; have Hw2 := bq_trans Hw1 k2; clear l2 k2 Bm_1 Hw1)
    | (refine wl_alloc 31 _ zePt rfl rfl ?_; intro W3 bo Bo_3 l3 k3; have go : w.heap.size ≤ bo := Nat.le_trans Hw2.size l3; have nmo : bm ≠ bo := Nat.ne_of_lt (Nat.lt_of_lt_of_le Bm_2.lt l3); have npo : bp ≠ bo := Nat.ne_of_lt (Nat.lt_of_lt_of_le Bp_2.lt l3); have Bm_3 := Bm_2.keep k3; have Bp_3 := Bp_2.keep k3; have Hw3 := bq_trans Hw2 k3; clear l3 k3 Bm_2 Bp_2 Hw2)
    | (refine wl_load 25 6 _ Try.underlying25 rfl szMt _ rfl rfl _ rfl _ _ Bm_3 rfl ?_)
    | (refine wl_load 31 2 _ Try.underlying31 rfl szPt _ rfl rfl _ rfl _ _ Bp_3 rfl ?_)
    | (go_at_call 6; (with_reducible refine (HA.out _).mono ?_); rintro e W4 ⟨rfl, k4⟩; have Bm_4 := Bm_3.keep k4; have Bp_4 := Bp_3.keep k4; have Bo_4 := Bo_3.keep k4; have Hw4 := bq_trans Hw3 k4; clear k4 Bm_3 Bp_3 Bo_3 Hw3)
    | (refine wl_alloc 31 _ zePt rfl rfl ?_; intro W5 bq Bq_5 l5 k5; have gq : w.heap.size ≤ bq := Nat.le_trans Hw4.size l5; have nmq : bm ≠ bq := Nat.ne_of_lt (Nat.lt_of_lt_of_le Bm_4.lt l5); have npq : bp ≠ bq := Nat.ne_of_lt (Nat.lt_of_lt_of_le Bp_4.lt l5); have noq : bo ≠ bq := Nat.ne_of_lt (Nat.lt_of_lt_of_le Bo_4.lt l5); have Bm_5 := Bm_4.keep k5; have Bp_5 := Bp_4.keep k5; have Bo_5 := Bo_4.keep k5; have Hw5 := bq_trans Hw4 k5; clear l5 k5 Bm_4 Bp_4 Bo_4 Hw4)
    | (refine wl_store 31 2 szPt _ _ rfl rfl _ rfl #[.int .i64 0, .int .i64 0] rfl _ _ Bq_5 rfl rfl (by kernel_rfl) ?_; intro W6 Bq_6 T6; have Bm_6 := T6.blk Bm_5 nmq; have Bp_6 := T6.blk Bp_5 npq; have Bo_6 := T6.blk Bo_5 noq; have Hw6 := T6.below Hw5 gq; clear T6 Bm_5 Bp_5 Bo_5 Bq_5 Hw5)
    | (refine wl_store 31 2 szPt _ _ rfl rfl _ rfl #[.int .i64 0, .int .i64 0] rfl _ _ Bo_6 rfl rfl (by kernel_rfl) ?_; intro W7 Bo_7 T7; have Bm_7 := T7.blk Bm_6 nmo; have Bp_7 := T7.blk Bp_6 npo; have Bq_7 := T7.blk Bq_6 (Ne.symm noq); have Hw7 := T7.below Hw6 go; clear T7 Bm_6 Bp_6 Bq_6 Bo_6 Hw6))
  exact post_cell_tmp (v := .int .i64 1) Try.underlying31 rfl szPt Try.results13 Bo_7 rfl rfl rfl rfl ⟨rfl, Hw7⟩
set_option maxHeartbeats 1000000 in
theorem grid14_far (A B C D X Y x y r s u v : Int) (w : World) (HA : Hid (∀ W, Calls Try.prog 6 #[.agg #[.int .i64 A, .int .i64 B, .int .i64 C, .int .i64 D, .int .i64 X, .int .i64 Y], .agg #[.int .i64 x, .int .i64 y]] W fun e w' => e = .returned (.tuple #[.agg #[.int .i64 r, .int .i64 s], .int .i64 0]) ∧ Below W.heap.size W w')) (H1 : Hid (∀ W, Calls Try.prog 18 #[.int .i64 r] W fun e w' => e = .returned (.int .i64 u) ∧ Below W.heap.size W w')) (H2 : Hid (∀ W, Calls Try.prog 18 #[.int .i64 s] W fun e w' => e = .returned (.int .i64 v) ∧ Below W.heap.size W w')) (H3 : Hid (∀ W, Calls Try.prog 11 #[.agg #[.int .i64 u, .int .i64 v], .int .i64 16777216] W fun e w' => e = .returned (.bool false) ∧ Below W.heap.size W w')) :
    Calls Try.prog 13 #[.agg #[.int .i64 A, .int .i64 B, .int .i64 C, .int .i64 D, .int .i64 X, .int .i64 Y], .agg #[.int .i64 x, .int .i64 y]] w fun e w' => e = .returned (.tuple #[.agg #[.int .i64 0, .int .i64 0], .int .i64 8]) ∧ Below w.heap.size w w' := by
  go_enter Try.func13, Try.ntmps13
  go_upto_region 4 with (go_big_may; first
    | (refine wl_box 25 _ _ rfl rfl (show _ = Value.agg #[.int .i64 A, .int .i64 B, .int .i64 C, .int .i64 D, .int .i64 X, .int .i64 Y] from rfl) ?_; intro W1 bm Bm_1 l1 k1; have gm : w.heap.size ≤ bm := l1; have Hw1 := k1; clear l1 k1)
    | (refine wl_box 31 _ _ rfl rfl (show _ = Value.agg #[.int .i64 x, .int .i64 y] from rfl) ?_; intro W2 bp Bp_2 l2 k2; have gp : w.heap.size ≤ bp := Nat.le_trans Hw1.size l2; have nmp : bm ≠ bp := Nat.ne_of_lt (Nat.lt_of_lt_of_le Bm_1.lt l2); have Bm_2 := Bm_1.keep k2; have Hw2 := bq_trans Hw1 k2; clear l2 k2 Bm_1 Hw1)
    | (refine wl_alloc 31 _ zePt rfl rfl ?_; intro W3 bo Bo_3 l3 k3; have go : w.heap.size ≤ bo := Nat.le_trans Hw2.size l3; have nmo : bm ≠ bo := Nat.ne_of_lt (Nat.lt_of_lt_of_le Bm_2.lt l3); have npo : bp ≠ bo := Nat.ne_of_lt (Nat.lt_of_lt_of_le Bp_2.lt l3); have Bm_3 := Bm_2.keep k3; have Bp_3 := Bp_2.keep k3; have Hw3 := bq_trans Hw2 k3; clear l3 k3 Bm_2 Bp_2 Hw2)
    | (refine wl_load 25 6 _ Try.underlying25 rfl szMt _ rfl rfl _ rfl _ _ Bm_3 rfl ?_)
    | (refine wl_load 31 2 _ Try.underlying31 rfl szPt _ rfl rfl _ rfl _ _ Bp_3 rfl ?_)
    | (go_at_call 6; (with_reducible refine (HA.out _).mono ?_); rintro e W4 ⟨rfl, k4⟩; have Bm_4 := Bm_3.keep k4; have Bp_4 := Bp_3.keep k4; have Bo_4 := Bo_3.keep k4; have Hw4 := bq_trans Hw3 k4; clear k4 Bm_3 Bp_3 Bo_3 Hw3)
    | (refine wl_alloc 31 _ zePt rfl rfl ?_; intro W5 bq Bq_5 l5 k5; have gq : w.heap.size ≤ bq := Nat.le_trans Hw4.size l5; have nmq : bm ≠ bq := Nat.ne_of_lt (Nat.lt_of_lt_of_le Bm_4.lt l5); have npq : bp ≠ bq := Nat.ne_of_lt (Nat.lt_of_lt_of_le Bp_4.lt l5); have noq : bo ≠ bq := Nat.ne_of_lt (Nat.lt_of_lt_of_le Bo_4.lt l5); have Bm_5 := Bm_4.keep k5; have Bp_5 := Bp_4.keep k5; have Bo_5 := Bo_4.keep k5; have Hw5 := bq_trans Hw4 k5; clear l5 k5 Bm_4 Bp_4 Bo_4 Hw4)
    | (refine wl_store 31 2 szPt _ _ rfl rfl _ rfl #[.int .i64 r, .int .i64 s] rfl _ _ Bq_5 rfl rfl (by kernel_rfl) ?_; intro W6 Bq_6 T6; have Bm_6 := T6.blk Bm_5 nmq; have Bp_6 := T6.blk Bp_5 npq; have Bo_6 := T6.blk Bo_5 noq; have Hw6 := T6.below Hw5 gq; clear T6 Bm_5 Bp_5 Bo_5 Bq_5 Hw5))
  refine Det.wp_region_last (S := fun w' => Below W6.heap.size W6 w') 7 (by kernel_rfl) (by kernel_rfl) (by kernel_rfl) rfl (bq_drew (bq_refl _)) ?_
  refine Det.det_take (v := ?_) (by rfl) ?_ ?_
  rotate_left
  · (intro w hSw; go_simp; try with_reducible rfl)
  try simp only [Act.put, List.setIfInBounds_toArray, List.set_cons_zero, List.set_cons_succ]
  refine Det.det_take (v := ?_) (by rfl) ?_ ?_
  rotate_left
  · (intro w hSw; have cc0 : w.cell? ⟨bq, 0, none⟩ = some (.int .i64 r) := (Bq_6.keep hSw).cell 0; go_simp; try with_reducible rfl)
  try simp only [Act.put, List.setIfInBounds_toArray, List.set_cons_zero, List.set_cons_succ]
  refine Det.det_call (f := 18) (args := #[.int .i64 r]) (v := .int .i64 u) (by rfl) ?_ (fun w hS => (H1.out w).mono fun e w' ⟨h1, h2⟩ => ⟨h1, bq_trans hS h2⟩) ?_
  · (intro w hSw; go_simp)
  try simp only [Act.put, List.setIfInBounds_toArray, List.set_cons_zero, List.set_cons_succ]
  refine Det.det_take (v := ?_) (by rfl) ?_ ?_
  rotate_left
  · (intro w hSw; go_simp; try with_reducible rfl)
  try simp only [Act.put, List.setIfInBounds_toArray, List.set_cons_zero, List.set_cons_succ]
  refine Det.det_take (v := ?_) (by rfl) ?_ ?_
  rotate_left
  · (intro w hSw; have cc1 : w.cell? ⟨bq, 1, none⟩ = some (.int .i64 s) := (Bq_6.keep hSw).cell 1; go_simp; try with_reducible rfl)
  try simp only [Act.put, List.setIfInBounds_toArray, List.set_cons_zero, List.set_cons_succ]
  refine Det.det_call (f := 18) (args := #[.int .i64 s]) (v := .int .i64 v) (by rfl) ?_ (fun w hS => (H2.out w).mono fun e w' ⟨h1, h2⟩ => ⟨h1, bq_trans hS h2⟩) ?_
  · (intro w hSw; go_simp)
  try simp only [Act.put, List.setIfInBounds_toArray, List.set_cons_zero, List.set_cons_succ]
  refine Det.det_take (v := ?_) (by rfl) ?_ ?_
  rotate_left
  · (intro w hSw; go_simp; try with_reducible rfl)
  try simp only [Act.put, List.setIfInBounds_toArray, List.set_cons_zero, List.set_cons_succ]
  refine Det.det_nil (fun W7 k7 => ?_)
  have Bm_7 := Bm_6.keep k7
  have Bp_7 := Bp_6.keep k7
  have Bo_7 := Bo_6.keep k7
  have Bq_7 := Bq_6.keep k7
  have Hw7 := bq_trans Hw6 k7
  clear k7 Bm_6 Bp_6 Bo_6 Bq_6 Hw6
  (refine wl_store 31 2 szPt _ _ rfl rfl _ rfl #[.int .i64 u, .int .i64 v] rfl _ _ Bq_7 rfl rfl (by kernel_rfl) ?_; intro W8 Bq_8 T8; have Bm_8 := T8.blk Bm_7 nmq; have Bp_8 := T8.blk Bp_7 npq; have Bo_8 := T8.blk Bo_7 noq; have Hw8 := T8.below Hw7 gq; clear T8 Bm_7 Bp_7 Bo_7 Bq_7 Hw7)
  go_wp2_with (first
    | (refine wl_load 31 2 _ Try.underlying31 rfl szPt _ rfl rfl _ rfl _ _ Bq_8 rfl ?_)
    | (go_at_call 11; (with_reducible refine (H3.out _).mono ?_); rintro e W9 ⟨rfl, k9⟩; have Bm_9 := Bm_8.keep k9; have Bp_9 := Bp_8.keep k9; have Bo_9 := Bo_8.keep k9; have Bq_9 := Bq_8.keep k9; have Hw9 := bq_trans Hw8 k9; clear k9 Bm_8 Bp_8 Bo_8 Bq_8 Hw8)
    | (refine wl_store 31 2 szPt _ _ rfl rfl _ rfl #[.int .i64 0, .int .i64 0] rfl _ _ Bo_9 rfl rfl (by kernel_rfl) ?_; intro W10 Bo_10 T10; have Bm_10 := T10.blk Bm_9 nmo; have Bp_10 := T10.blk Bp_9 npo; have Bq_10 := T10.blk Bq_9 (Ne.symm noq); have Hw10 := T10.below Hw9 go; clear T10 Bm_9 Bp_9 Bq_9 Bo_9 Hw9))
  exact post_cell_tmp (v := .int .i64 8) Try.underlying31 rfl szPt Try.results13 Bo_10 rfl rfl rfl rfl ⟨rfl, Hw10⟩
set_option maxHeartbeats 1000000 in
theorem grid14_yes (A B C D X Y x y r s u v : Int) (w : World) (HA : Hid (∀ W, Calls Try.prog 6 #[.agg #[.int .i64 A, .int .i64 B, .int .i64 C, .int .i64 D, .int .i64 X, .int .i64 Y], .agg #[.int .i64 x, .int .i64 y]] W fun e w' => e = .returned (.tuple #[.agg #[.int .i64 r, .int .i64 s], .int .i64 0]) ∧ Below W.heap.size W w')) (H1 : Hid (∀ W, Calls Try.prog 18 #[.int .i64 r] W fun e w' => e = .returned (.int .i64 u) ∧ Below W.heap.size W w')) (H2 : Hid (∀ W, Calls Try.prog 18 #[.int .i64 s] W fun e w' => e = .returned (.int .i64 v) ∧ Below W.heap.size W w')) (H3 : Hid (∀ W, Calls Try.prog 11 #[.agg #[.int .i64 u, .int .i64 v], .int .i64 16777216] W fun e w' => e = .returned (.bool true) ∧ Below W.heap.size W w')) :
    Calls Try.prog 13 #[.agg #[.int .i64 A, .int .i64 B, .int .i64 C, .int .i64 D, .int .i64 X, .int .i64 Y], .agg #[.int .i64 x, .int .i64 y]] w fun e w' => e = .returned (.tuple #[.agg #[.int .i64 u, .int .i64 v], .int .i64 0]) ∧ Below w.heap.size w w' := by
  go_enter Try.func13, Try.ntmps13
  go_upto_region 4 with (go_big_may; first
    | (refine wl_box 25 _ _ rfl rfl (show _ = Value.agg #[.int .i64 A, .int .i64 B, .int .i64 C, .int .i64 D, .int .i64 X, .int .i64 Y] from rfl) ?_; intro W1 bm Bm_1 l1 k1; have gm : w.heap.size ≤ bm := l1; have Hw1 := k1; clear l1 k1)
    | (refine wl_box 31 _ _ rfl rfl (show _ = Value.agg #[.int .i64 x, .int .i64 y] from rfl) ?_; intro W2 bp Bp_2 l2 k2; have gp : w.heap.size ≤ bp := Nat.le_trans Hw1.size l2; have nmp : bm ≠ bp := Nat.ne_of_lt (Nat.lt_of_lt_of_le Bm_1.lt l2); have Bm_2 := Bm_1.keep k2; have Hw2 := bq_trans Hw1 k2; clear l2 k2 Bm_1 Hw1)
    | (refine wl_alloc 31 _ zePt rfl rfl ?_; intro W3 bo Bo_3 l3 k3; have go : w.heap.size ≤ bo := Nat.le_trans Hw2.size l3; have nmo : bm ≠ bo := Nat.ne_of_lt (Nat.lt_of_lt_of_le Bm_2.lt l3); have npo : bp ≠ bo := Nat.ne_of_lt (Nat.lt_of_lt_of_le Bp_2.lt l3); have Bm_3 := Bm_2.keep k3; have Bp_3 := Bp_2.keep k3; have Hw3 := bq_trans Hw2 k3; clear l3 k3 Bm_2 Bp_2 Hw2)
    | (refine wl_load 25 6 _ Try.underlying25 rfl szMt _ rfl rfl _ rfl _ _ Bm_3 rfl ?_)
    | (refine wl_load 31 2 _ Try.underlying31 rfl szPt _ rfl rfl _ rfl _ _ Bp_3 rfl ?_)
    | (go_at_call 6; (with_reducible refine (HA.out _).mono ?_); rintro e W4 ⟨rfl, k4⟩; have Bm_4 := Bm_3.keep k4; have Bp_4 := Bp_3.keep k4; have Bo_4 := Bo_3.keep k4; have Hw4 := bq_trans Hw3 k4; clear k4 Bm_3 Bp_3 Bo_3 Hw3)
    | (refine wl_alloc 31 _ zePt rfl rfl ?_; intro W5 bq Bq_5 l5 k5; have gq : w.heap.size ≤ bq := Nat.le_trans Hw4.size l5; have nmq : bm ≠ bq := Nat.ne_of_lt (Nat.lt_of_lt_of_le Bm_4.lt l5); have npq : bp ≠ bq := Nat.ne_of_lt (Nat.lt_of_lt_of_le Bp_4.lt l5); have noq : bo ≠ bq := Nat.ne_of_lt (Nat.lt_of_lt_of_le Bo_4.lt l5); have Bm_5 := Bm_4.keep k5; have Bp_5 := Bp_4.keep k5; have Bo_5 := Bo_4.keep k5; have Hw5 := bq_trans Hw4 k5; clear l5 k5 Bm_4 Bp_4 Bo_4 Hw4)
    | (refine wl_store 31 2 szPt _ _ rfl rfl _ rfl #[.int .i64 r, .int .i64 s] rfl _ _ Bq_5 rfl rfl (by kernel_rfl) ?_; intro W6 Bq_6 T6; have Bm_6 := T6.blk Bm_5 nmq; have Bp_6 := T6.blk Bp_5 npq; have Bo_6 := T6.blk Bo_5 noq; have Hw6 := T6.below Hw5 gq; clear T6 Bm_5 Bp_5 Bo_5 Bq_5 Hw5))
  refine Det.wp_region_last (S := fun w' => Below W6.heap.size W6 w') 7 (by kernel_rfl) (by kernel_rfl) (by kernel_rfl) rfl (bq_drew (bq_refl _)) ?_
  refine Det.det_take (v := ?_) (by rfl) ?_ ?_
  rotate_left
  · (intro w hSw; go_simp; try with_reducible rfl)
  try simp only [Act.put, List.setIfInBounds_toArray, List.set_cons_zero, List.set_cons_succ]
  refine Det.det_take (v := ?_) (by rfl) ?_ ?_
  rotate_left
  · (intro w hSw; have cc0 : w.cell? ⟨bq, 0, none⟩ = some (.int .i64 r) := (Bq_6.keep hSw).cell 0; go_simp; try with_reducible rfl)
  try simp only [Act.put, List.setIfInBounds_toArray, List.set_cons_zero, List.set_cons_succ]
  refine Det.det_call (f := 18) (args := #[.int .i64 r]) (v := .int .i64 u) (by rfl) ?_ (fun w hS => (H1.out w).mono fun e w' ⟨h1, h2⟩ => ⟨h1, bq_trans hS h2⟩) ?_
  · (intro w hSw; go_simp)
  try simp only [Act.put, List.setIfInBounds_toArray, List.set_cons_zero, List.set_cons_succ]
  refine Det.det_take (v := ?_) (by rfl) ?_ ?_
  rotate_left
  · (intro w hSw; go_simp; try with_reducible rfl)
  try simp only [Act.put, List.setIfInBounds_toArray, List.set_cons_zero, List.set_cons_succ]
  refine Det.det_take (v := ?_) (by rfl) ?_ ?_
  rotate_left
  · (intro w hSw; have cc1 : w.cell? ⟨bq, 1, none⟩ = some (.int .i64 s) := (Bq_6.keep hSw).cell 1; go_simp; try with_reducible rfl)
  try simp only [Act.put, List.setIfInBounds_toArray, List.set_cons_zero, List.set_cons_succ]
  refine Det.det_call (f := 18) (args := #[.int .i64 s]) (v := .int .i64 v) (by rfl) ?_ (fun w hS => (H2.out w).mono fun e w' ⟨h1, h2⟩ => ⟨h1, bq_trans hS h2⟩) ?_
  · (intro w hSw; go_simp)
  try simp only [Act.put, List.setIfInBounds_toArray, List.set_cons_zero, List.set_cons_succ]
  refine Det.det_take (v := ?_) (by rfl) ?_ ?_
  rotate_left
  · (intro w hSw; go_simp; try with_reducible rfl)
  try simp only [Act.put, List.setIfInBounds_toArray, List.set_cons_zero, List.set_cons_succ]
  refine Det.det_nil (fun W7 k7 => ?_)
  have Bm_7 := Bm_6.keep k7
  have Bp_7 := Bp_6.keep k7
  have Bo_7 := Bo_6.keep k7
  have Bq_7 := Bq_6.keep k7
  have Hw7 := bq_trans Hw6 k7
  clear k7 Bm_6 Bp_6 Bo_6 Bq_6 Hw6
  (refine wl_store 31 2 szPt _ _ rfl rfl _ rfl #[.int .i64 u, .int .i64 v] rfl _ _ Bq_7 rfl rfl (by kernel_rfl) ?_; intro W8 Bq_8 T8; have Bm_8 := T8.blk Bm_7 nmq; have Bp_8 := T8.blk Bp_7 npq; have Bo_8 := T8.blk Bo_7 noq; have Hw8 := T8.below Hw7 gq; clear T8 Bm_7 Bp_7 Bo_7 Bq_7 Hw7)
  go_wp2_with (first
    | (refine wl_load 31 2 _ Try.underlying31 rfl szPt _ rfl rfl _ rfl _ _ Bq_8 rfl ?_)
    | (go_at_call 11; (with_reducible refine (H3.out _).mono ?_); rintro e W9 ⟨rfl, k9⟩; have Bm_9 := Bm_8.keep k9; have Bp_9 := Bp_8.keep k9; have Bo_9 := Bo_8.keep k9; have Bq_9 := Bq_8.keep k9; have Hw9 := bq_trans Hw8 k9; clear k9 Bm_8 Bp_8 Bo_8 Bq_8 Hw8)
    | (refine wl_load 31 2 _ Try.underlying31 rfl szPt _ rfl rfl _ rfl _ _ Bq_9 rfl ?_)
    | (refine wl_store 31 2 szPt _ _ rfl rfl _ rfl #[.int .i64 u, .int .i64 v] rfl _ _ Bo_9 rfl rfl (by kernel_rfl) ?_; intro W10 Bo_10 T10; have Bm_10 := T10.blk Bm_9 nmo; have Bp_10 := T10.blk Bp_9 npo; have Bq_10 := T10.blk Bq_9 (Ne.symm noq); have Hw10 := T10.below Hw9 go; clear T10 Bm_9 Bp_9 Bq_9 Bo_9 Hw9))
  exact post_cell_tmp (v := .int .i64 0) Try.underlying31 rfl szPt Try.results13 Bo_10 rfl rfl rfl rfl ⟨rfl, Hw10⟩
theorem grid14_any (A B C D X Y x y : Int) (w : World) (hm : I64M A B C D X Y) :
    Calls Try.prog 13 #[.agg #[.int .i64 A, .int .i64 B, .int .i64 C, .int .i64 D, .int .i64 X, .int .i64 Y], .agg #[.int .i64 x, .int .i64 y]] w fun e w' => e = .returned (grdV A B C D X Y x y) ∧ Below w.heap.size w w' := by
  have HA := Lib.hid fun W => apply14_any A B C D X Y x y W hm
  by_cases q : (matOk A B C D X Y && ptOk 1073741824 x y) = true
  · rw [Bool.and_eq_true] at q
    obtain ⟨q1, q2⟩ := q
    rw [aplV_yes q1 q2] at HA
    obtain ⟨bA, bB, bC, bD, bX, bY⟩ := matOk_bd q1
    obtain ⟨bx, bY2⟩ := ptOk_bd q2
    have c1 := mul_bd _ _ bA bx
    have c2 := mul_bd _ _ bC bY2
    have c3 := mul_bd _ _ bB bx
    have c4 := mul_bd _ _ bD bY2
    have H1 := Lib.hid fun W => (show Calls Try.prog 18 #[.int .i64 (A * x + C * y + X * 65536)] W fun e w' => e = .returned (.int .i64 (gridV (A * x + C * y + X * 65536))) ∧ Below W.heap.size W w' from onGrid14_any _ W (by omega) (by omega))
    have H2 := Lib.hid fun W => (show Calls Try.prog 18 #[.int .i64 (B * x + D * y + Y * 65536)] W fun e w' => e = .returned (.int .i64 (gridV (B * x + D * y + Y * 65536))) ∧ Below W.heap.size W w' from onGrid14_any _ W (by omega) (by omega))
    have H3 := Lib.hid fun W => near14_any (gridV (A * x + C * y + X * 65536)) (gridV (B * x + D * y + Y * 65536)) 16777216 W (by omega) (by omega)
    cases q3 : ptOk 16777216 (gridV (A * x + C * y + X * 65536)) (gridV (B * x + D * y + Y * 65536)) with
    | false =>
      rw [q3] at H3
      rw [grdV_far q1 q2 q3]
      exact grid14_far A B C D X Y x y _ _ _ _ w HA H1 H2 H3
    | true =>
      rw [q3] at H3
      rw [grdV_yes q1 q2 q3]
      exact grid14_yes A B C D X Y x y _ _ _ _ w HA H1 H2 H3
  · have q := Bool.eq_false_iff.2 q
    rw [aplV_no q] at HA
    rw [grdV_no q]
    exact grid14_no A B C D X Y x y w HA
end Go.Proofs.Ythcejmbjagpjcab
