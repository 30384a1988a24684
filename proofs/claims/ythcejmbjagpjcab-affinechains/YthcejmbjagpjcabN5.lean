import Derived.Test.YthcejmbjagpjcabN4
import Derived.Test.YthcejmbjagpjcabA7
/- Layer 14: Back and Scale, both sides. -/
namespace Go.Proofs.Ythcejmbjagpjcab
open Go.RowKit
set_option linter.unusedVariables false
set_option linter.unusedSimpArgs false
set_option maxRecDepth 100000

/-- a point of units, in twips with 16 bits behind the point, less where the matrix moves to -/
def uT (x X : Int) : Int := x * 20480 - X * 65536
def det14 (A B C D : Int) : Int := A * D - B * C
/-- where a point comes from -/
def bckV (A B C D X Y x y : Int) : Value := if matOk A B C D X Y && ptOk 16777216 x y && decide (det14 A B C D ≠ 0) then .tuple #[.agg #[.int .i64 ((D * uT x X - C * uT y Y).fdiv (det14 A B C D)), .int .i64 ((A * uT y Y - B * uT x X).fdiv (det14 A B C D))], .bool true] else .tuple #[.agg #[.int .i64 0, .int .i64 0], .bool false]
theorem bckV_no {A B C D X Y x y : Int} (h : (matOk A B C D X Y && ptOk 16777216 x y) = false) : bckV A B C D X Y x y = .tuple #[.agg #[.int .i64 0, .int .i64 0], .bool false] := by unfold bckV; rw [h]; rfl
theorem bckV_flat {A B C D X Y x y : Int} (h : det14 A B C D = 0) : bckV A B C D X Y x y = .tuple #[.agg #[.int .i64 0, .int .i64 0], .bool false] := by unfold bckV; rw [h]; simp
theorem bckV_yes {A B C D X Y x y : Int} (h : matOk A B C D X Y = true) (h2 : ptOk 16777216 x y = true) (h3 : det14 A B C D ≠ 0) : bckV A B C D X Y x y = .tuple #[.agg #[.int .i64 ((D * uT x X - C * uT y Y).fdiv (det14 A B C D)), .int .i64 ((A * uT y Y - B * uT x X).fdiv (det14 A B C D))], .bool true] := by unfold bckV; rw [h, h2, decide_eq_true h3]; rfl
theorem bckV_form (A B C D X Y x y : Int) : ∃ (r s : Int) (q : Bool), bckV A B C D X Y x y = .tuple #[.agg #[.int .i64 r, .int .i64 s], .bool q] := by
  unfold bckV
  split
  · exact ⟨_, _, _, rfl⟩
  · exact ⟨_, _, _, rfl⟩
set_option maxHeartbeats 1000000 in
theorem back14_no (A B C D X Y x y : Int) (q1 q2 : Bool) (w : World) (hq : q1 = false ∨ q1 = true ∧ q2 = false) (H1 : Hid (∀ W, Calls Try.prog 8 #[.agg #[.int .i64 A, .int .i64 B, .int .i64 C, .int .i64 D, .int .i64 X, .int .i64 Y]] W fun e w' => e = .returned (.bool q1) ∧ Below W.heap.size W w')) (H2 : Hid (∀ W, Calls Try.prog 11 #[.agg #[.int .i64 x, .int .i64 y], .int .i64 16777216] W fun e w' => e = .returned (.bool q2) ∧ Below W.heap.size W w')) :
    Calls Try.prog 14 #[.agg #[.int .i64 A, .int .i64 B, .int .i64 C, .int .i64 D, .int .i64 X, .int .i64 Y], .agg #[.int .i64 x, .int .i64 y]] w fun e w' => e = .returned (.tuple #[.agg #[.int .i64 0, .int .i64 0], .bool false]) ∧ Below w.heap.size w w' := by
  rcases hq with rfl | ⟨rfl, rfl⟩
  · go_enter Try.func14, Try.ntmps14
    go_wp2_with (first
      | (refine wl_box 25 _ _ rfl rfl (show _ = Value.agg #[.int .i64 A, .int .i64 B, .int .i64 C, .int .i64 D, .int .i64 X, .int .i64 Y] from rfl) ?_; intro W1 bm Bm_1 l1 k1; have gm : w.heap.size ≤ bm := l1; have Hw1 := k1; clear l1 k1)
      | (refine wl_box 31 _ _ rfl rfl (show _ = Value.agg #[.int .i64 x, .int .i64 y] from rfl) ?_; intro W2 bp Bp_2 l2 k2; have gp : w.heap.size ≤ bp := Nat.le_trans Hw1.size l2; have nmp : bm ≠ bp := Nat.ne_of_lt (Nat.lt_of_lt_of_le Bm_1.lt l2); have Bm_2 := Bm_1.keep k2; have Hw2 := bq_trans Hw1 k2; clear l2 k2 Bm_1 Hw1)
      | (refine wl_alloc 31 _ zePt rfl rfl ?_; intro W3 bo Bo_3 l3 k3; have go : w.heap.size ≤ bo := Nat.le_trans Hw2.size l3; have nmo : bm ≠ bo := Nat.ne_of_lt (Nat.lt_of_lt_of_le Bm_2.lt l3); have npo : bp ≠ bo := Nat.ne_of_lt (Nat.lt_of_lt_of_le Bp_2.lt l3); have Bm_3 := Bm_2.keep k3; have Bp_3 := Bp_2.keep k3; have Hw3 := bq_trans Hw2 k3; clear l3 k3 Bm_2 Bp_2 Hw2)
      | (refine wl_load 25 6 _ Try.underlying25 rfl szMt _ rfl rfl _ rfl _ _ Bm_3 rfl ?_)
      | (go_at_call 8; (with_reducible refine (H1.out _).mono ?_); rintro e W4 ⟨rfl, k4⟩; have Bm_4 := Bm_3.keep k4; have Bp_4 := Bp_3.keep k4; have Bo_4 := Bo_3.keep k4; have Hw4 := bq_trans Hw3 k4; clear k4 Bm_3 Bp_3 Bo_3 Hw3)
      | (refine wl_store 31 2 szPt _ _ rfl rfl _ rfl #[.int .i64 0, .int .i64 0] rfl _ _ Bo_4 rfl rfl (by kernel_rfl) ?_; intro W5 Bo_5 T5; have Bm_5 := T5.blk Bm_4 nmo; have Bp_5 := T5.blk Bp_4 npo; have Hw5 := T5.below Hw4 go; clear T5 Bm_4 Bp_4 Bo_4 Hw4))
    exact post_cell_tmp (v := .bool false) Try.underlying31 rfl szPt Try.results14 Bo_5 rfl rfl rfl rfl ⟨rfl, Hw5⟩
  · go_enter Try.func14, Try.ntmps14
    go_wp2_with (first
      | (refine wl_box 25 _ _ rfl rfl (show _ = Value.agg #[.int .i64 A, .int .i64 B, .int .i64 C, .int .i64 D, .int .i64 X, .int .i64 Y] from rfl) ?_; intro W1 bm Bm_1 l1 k1; have gm : w.heap.size ≤ bm := l1; have Hw1 := k1; clear l1 k1)
      | (refine wl_box 31 _ _ rfl rfl (show _ = Value.agg #[.int .i64 x, .int .i64 y] from rfl) ?_; intro W2 bp Bp_2 l2 k2; have gp : w.heap.size ≤ bp := Nat.le_trans Hw1.size l2; have nmp : bm ≠ bp := Nat.ne_of_lt (Nat.lt_of_lt_of_le Bm_1.lt l2); have Bm_2 := Bm_1.keep k2; have Hw2 := bq_trans Hw1 k2; clear l2 k2 Bm_1 Hw1)
      | (refine wl_alloc 31 _ zePt rfl rfl ?_; intro W3 bo Bo_3 l3 k3; have go : w.heap.size ≤ bo := Nat.le_trans Hw2.size l3; have nmo : bm ≠ bo := Nat.ne_of_lt (Nat.lt_of_lt_of_le Bm_2.lt l3); have npo : bp ≠ bo := Nat.ne_of_lt (Nat.lt_of_lt_of_le Bp_2.lt l3); have Bm_3 := Bm_2.keep k3; have Bp_3 := Bp_2.keep k3; have Hw3 := bq_trans Hw2 k3; clear l3 k3 Bm_2 Bp_2 Hw2)
      | (refine wl_load 25 6 _ Try.underlying25 rfl szMt _ rfl rfl _ rfl _ _ Bm_3 rfl ?_)
      | (go_at_call 8; (with_reducible refine (H1.out _).mono ?_); rintro e W4 ⟨rfl, k4⟩; have Bm_4 := Bm_3.keep k4; have Bp_4 := Bp_3.keep k4; have Bo_4 := Bo_3.keep k4; have Hw4 := bq_trans Hw3 k4; clear k4 Bm_3 Bp_3 Bo_3 Hw3)
      | (refine wlg_load 31 2 _ Try.underlying31 rfl szPt _ rfl rfl _ rfl _ _ Bp_4 rfl ?_)
      | (go_at_call 11; (with_reducible refine (H2.out _).mono ?_); rintro e W5 ⟨rfl, k5⟩; have Bm_5 := Bm_4.keep k5; have Bp_5 := Bp_4.keep k5; have Bo_5 := Bo_4.keep k5; have Hw5 := bq_trans Hw4 k5; clear k5 Bm_4 Bp_4 Bo_4 Hw4)
      | (refine wl_store 31 2 szPt _ _ rfl rfl _ rfl #[.int .i64 0, .int .i64 0] rfl _ _ Bo_5 rfl rfl (by kernel_rfl) ?_; intro W6 Bo_6 T6; have Bm_6 := T6.blk Bm_5 nmo; have Bp_6 := T6.blk Bp_5 npo; have Hw6 := T6.below Hw5 go; clear T6 Bm_5 Bp_5 Bo_5 Hw5))
    exact post_cell_tmp (v := .bool false) Try.underlying31 rfl szPt Try.results14 Bo_6 rfl rfl rfl rfl ⟨rfl, Hw6⟩
set_option maxHeartbeats 1000000 in
theorem back14_flat (A B C D X Y x y : Int) (w : World) (H1 : Hid (∀ W, Calls Try.prog 8 #[.agg #[.int .i64 A, .int .i64 B, .int .i64 C, .int .i64 D, .int .i64 X, .int .i64 Y]] W fun e w' => e = .returned (.bool true) ∧ Below W.heap.size W w')) (H2 : Hid (∀ W, Calls Try.prog 11 #[.agg #[.int .i64 x, .int .i64 y], .int .i64 16777216] W fun e w' => e = .returned (.bool true) ∧ Below W.heap.size W w')) (HS : Hid (∀ W, Calls Try.prog 19 #[.agg #[.int .i64 A, .int .i64 B, .int .i64 C, .int .i64 D, .int .i64 X, .int .i64 Y]] W fun e w' => e = .returned (.int .i64 0) ∧ Below W.heap.size W w')) :
    Calls Try.prog 14 #[.agg #[.int .i64 A, .int .i64 B, .int .i64 C, .int .i64 D, .int .i64 X, .int .i64 Y], .agg #[.int .i64 x, .int .i64 y]] w fun e w' => e = .returned (.tuple #[.agg #[.int .i64 0, .int .i64 0], .bool false]) ∧ Below w.heap.size w w' := by
  go_enter Try.func14, Try.ntmps14
  go_wp2_with (first
    | (refine wl_box 25 _ _ rfl rfl (show _ = Value.agg #[.int .i64 A, .int .i64 B, .int .i64 C, .int .i64 D, .int .i64 X, .int .i64 Y] from rfl) ?_; intro W1 bm Bm_1 l1 k1; have gm : w.heap.size ≤ bm := l1; have Hw1 := k1; clear l1 k1)
    | (refine wl_box 31 _ _ rfl rfl (show _ = Value.agg #[.int .i64 x, .int .i64 y] from rfl) ?_; intro W2 bp Bp_2 l2 k2; have gp : w.heap.size ≤ bp := Nat.le_trans Hw1.size l2; have nmp : bm ≠ bp := Nat.ne_of_lt (Nat.lt_of_lt_of_le Bm_1.lt l2); have Bm_2 := Bm_1.keep k2; have Hw2 := bq_trans Hw1 k2; clear l2 k2 Bm_1 Hw1)
    | (refine wl_alloc 31 _ zePt rfl rfl ?_; intro W3 bo Bo_3 l3 k3; have go : w.heap.size ≤ bo := Nat.le_trans Hw2.size l3; have nmo : bm ≠ bo := Nat.ne_of_lt (Nat.lt_of_lt_of_le Bm_2.lt l3); have npo : bp ≠ bo := Nat.ne_of_lt (Nat.lt_of_lt_of_le Bp_2.lt l3); have Bm_3 := Bm_2.keep k3; have Bp_3 := Bp_2.keep k3; have Hw3 := bq_trans Hw2 k3; clear l3 k3 Bm_2 Bp_2 Hw2)
    | (refine wl_load 25 6 _ Try.underlying25 rfl szMt _ rfl rfl _ rfl _ _ Bm_3 rfl ?_)
    | (go_at_call 8; (with_reducible refine (H1.out _).mono ?_); rintro e W4 ⟨rfl, k4⟩; have Bm_4 := Bm_3.keep k4; have Bp_4 := Bp_3.keep k4; have Bo_4 := Bo_3.keep k4; have Hw4 := bq_trans Hw3 k4; clear k4 Bm_3 Bp_3 Bo_3 Hw3)
    | (refine wlg_load 31 2 _ Try.underlying31 rfl szPt _ rfl rfl _ rfl _ _ Bp_4 rfl ?_)
    | (go_at_call 11; (with_reducible refine (H2.out _).mono ?_); rintro e W5 ⟨rfl, k5⟩; have Bm_5 := Bm_4.keep k5; have Bp_5 := Bp_4.keep k5; have Bo_5 := Bo_4.keep k5; have Hw5 := bq_trans Hw4 k5; clear k5 Bm_4 Bp_4 Bo_4 Hw4)
    | (refine wl_load 25 6 _ Try.underlying25 rfl szMt _ rfl rfl _ rfl _ _ Bm_5 rfl ?_)
    | (go_at_call 19; (with_reducible refine (HS.out _).mono ?_); rintro e W6 ⟨rfl, k6⟩; have Bm_6 := Bm_5.keep k6; have Bp_6 := Bp_5.keep k6; have Bo_6 := Bo_5.keep k6; have Hw6 := bq_trans Hw5 k6; clear k6 Bm_5 Bp_5 Bo_5 Hw5)
    | (refine wl_store 31 2 szPt _ _ rfl rfl _ rfl #[.int .i64 0, .int .i64 0] rfl _ _ Bo_6 rfl rfl (by kernel_rfl) ?_; intro W7 Bo_7 T7; have Bm_7 := T7.blk Bm_6 nmo; have Bp_7 := T7.blk Bp_6 npo; have Hw7 := T7.below Hw6 go; clear T7 Bm_6 Bp_6 Bo_6 Hw6))
  exact post_cell_tmp (v := .bool false) Try.underlying31 rfl szPt Try.results14 Bo_7 rfl rfl rfl rfl ⟨rfl, Hw7⟩
set_option maxHeartbeats 2000000 in
theorem back14_yes (A B C D X Y x y d u v p q r s : Int) (w : World) (hd : (d == 0) = false) (Bl : -4194304 ≤ B) (Bg : B ≤ 4194304) (Cl : -4194304 ≤ C) (Cg : C ≤ 4194304) (eu1 : IntKind.i64.wrap (x * 20480) = x * 20480) (eu2 : IntKind.i64.wrap (X * 65536) = X * 65536) (eu : IntKind.i64.wrap (x * 20480 - X * 65536) = u) (ev1 : IntKind.i64.wrap (y * 20480) = y * 20480) (ev2 : IntKind.i64.wrap (Y * 65536) = Y * 65536) (ev : IntKind.i64.wrap (y * 20480 - Y * 65536) = v)
    (H1 : Hid (∀ W, Calls Try.prog 8 #[.agg #[.int .i64 A, .int .i64 B, .int .i64 C, .int .i64 D, .int .i64 X, .int .i64 Y]] W fun e w' => e = .returned (.bool true) ∧ Below W.heap.size W w')) (H2 : Hid (∀ W, Calls Try.prog 11 #[.agg #[.int .i64 x, .int .i64 y], .int .i64 16777216] W fun e w' => e = .returned (.bool true) ∧ Below W.heap.size W w')) (HS : Hid (∀ W, Calls Try.prog 19 #[.agg #[.int .i64 A, .int .i64 B, .int .i64 C, .int .i64 D, .int .i64 X, .int .i64 Y]] W fun e w' => e = .returned (.int .i64 d) ∧ Below W.heap.size W w'))
    (HT : Hid (∀ W, Calls Try.prog 10 #[.agg #[.int .i64 D, .int .i64 (-B), .int .i64 (-C), .int .i64 A, .int .i64 0, .int .i64 0], .int .i64 u, .int .i64 v] W fun e w' => e = .returned (.agg #[.int .i64 p, .int .i64 q]) ∧ Below W.heap.size W w'))
    (HF : Hid (∀ W, Calls Try.prog 9 #[.agg #[.int .i64 p, .int .i64 q], .int .i64 d] W fun e w' => e = .returned (.tuple #[.int .i64 r, .int .i64 s]) ∧ Below W.heap.size W w')) :
    Calls Try.prog 14 #[.agg #[.int .i64 A, .int .i64 B, .int .i64 C, .int .i64 D, .int .i64 X, .int .i64 Y], .agg #[.int .i64 x, .int .i64 y]] w fun e w' => e = .returned (.tuple #[.agg #[.int .i64 r, .int .i64 s], .bool true]) ∧ Below w.heap.size w w' := by
  have HU := Lib.hid (And.intro eu1 (And.intro eu2 (And.intro eu (And.intro ev1 (And.intro ev2 ev)))))
  clear eu1 eu2 eu ev1 ev2 ev
  go_enter Try.func14, Try.ntmps14
  go_upto_region 6 with (go_big_may; first
    | (refine wl_box 25 _ _ rfl rfl (show _ = Value.agg #[.int .i64 A, .int .i64 B, .int .i64 C, .int .i64 D, .int .i64 X, .int .i64 Y] from rfl) ?_; intro W1 bm Bm_1 l1 k1; have gm : w.heap.size ≤ bm := l1; have Hw1 := k1; clear l1 k1)
    | (refine wl_box 31 _ _ rfl rfl (show _ = Value.agg #[.int .i64 x, .int .i64 y] from rfl) ?_; intro W2 bp Bp_2 l2 k2; have gp : w.heap.size ≤ bp := Nat.le_trans Hw1.size l2; have nmp : bm ≠ bp := Nat.ne_of_lt (Nat.lt_of_lt_of_le Bm_1.lt l2); have Bm_2 := Bm_1.keep k2; have Hw2 := bq_trans Hw1 k2; clear l2 k2 Bm_1 Hw1)
    | (refine wl_alloc 31 _ zePt rfl rfl ?_; intro W3 bo Bo_3 l3 k3; have go : w.heap.size ≤ bo := Nat.le_trans Hw2.size l3; have nmo : bm ≠ bo := Nat.ne_of_lt (Nat.lt_of_lt_of_le Bm_2.lt l3); have npo : bp ≠ bo := Nat.ne_of_lt (Nat.lt_of_lt_of_le Bp_2.lt l3); have Bm_3 := Bm_2.keep k3; have Bp_3 := Bp_2.keep k3; have Hw3 := bq_trans Hw2 k3; clear l3 k3 Bm_2 Bp_2 Hw2)
    | (refine wl_load 25 6 _ Try.underlying25 rfl szMt _ rfl rfl _ rfl _ _ Bm_3 rfl ?_)
    | (go_at_call 8; (with_reducible refine (H1.out _).mono ?_); rintro e W4 ⟨rfl, k4⟩; have Bm_4 := Bm_3.keep k4; have Bp_4 := Bp_3.keep k4; have Bo_4 := Bo_3.keep k4; have Hw4 := bq_trans Hw3 k4; clear k4 Bm_3 Bp_3 Bo_3 Hw3)
    | (refine wlg_load 31 2 _ Try.underlying31 rfl szPt _ rfl rfl _ rfl _ _ Bp_4 rfl ?_)
    | (go_at_call 11; (with_reducible refine (H2.out _).mono ?_); rintro e W5 ⟨rfl, k5⟩; have Bm_5 := Bm_4.keep k5; have Bp_5 := Bp_4.keep k5; have Bo_5 := Bo_4.keep k5; have Hw5 := bq_trans Hw4 k5; clear k5 Bm_4 Bp_4 Bo_4 Hw4)
    | (refine wl_load 25 6 _ Try.underlying25 rfl szMt _ rfl rfl _ rfl _ _ Bm_5 rfl ?_)
    | (go_at_call 19; (with_reducible refine (HS.out _).mono ?_); rintro e W6 ⟨rfl, k6⟩; have Bm_6 := Bm_5.keep k6; have Bp_6 := Bp_5.keep k6; have Bo_6 := Bo_5.keep k6; have Hw6 := bq_trans Hw5 k6; clear k6 Bm_5 Bp_5 Bo_5 Hw5))
  refine Det.wp_region_det (S := fun w' => Below W6.heap.size W6 w') (by kernel_rfl) (by kernel_rfl) (bq_drew (bq_refl _)) ?_
  refine Det.det_take (v := ?_) (by rfl) ?_ ?_
  rotate_left
  · (intro w hSw; go_simp; try with_reducible rfl)
  try simp only [Act.put, List.setIfInBounds_toArray, List.set_cons_zero, List.set_cons_succ]
  refine Det.det_take (v := ?_) (by rfl) ?_ ?_
  rotate_left
  · (intro w hSw; have cc : w.cell? ⟨bp, 0, none⟩ = some (.int .i64 x) := (Bp_6.keep hSw).cell 0; go_simp; try with_reducible rfl)
  try simp only [Act.put, List.setIfInBounds_toArray, List.set_cons_zero, List.set_cons_succ]
  refine Det.det_take (v := ?_) (by rfl) ?_ ?_
  rotate_left
  · (intro w hSw; obtain ⟨eu1, eu2, eu, ev1, ev2, ev⟩ := HU.out; go_simp; try with_reducible rfl)
  try simp only [Act.put, List.setIfInBounds_toArray, List.set_cons_zero, List.set_cons_succ]
  refine Det.det_take (v := ?_) (by rfl) ?_ ?_
  rotate_left
  · (intro w hSw; go_simp; try with_reducible rfl)
  try simp only [Act.put, List.setIfInBounds_toArray, List.set_cons_zero, List.set_cons_succ]
  refine Det.det_take (v := ?_) (by rfl) ?_ ?_
  rotate_left
  · (intro w hSw; have cc : w.cell? ⟨bm, 4, none⟩ = some (.int .i64 X) := (Bm_6.keep hSw).cell 4; go_simp; try with_reducible rfl)
  try simp only [Act.put, List.setIfInBounds_toArray, List.set_cons_zero, List.set_cons_succ]
  refine Det.det_take (v := ?_) (by rfl) ?_ ?_
  rotate_left
  · (intro w hSw; obtain ⟨eu1, eu2, eu, ev1, ev2, ev⟩ := HU.out; go_simp; try with_reducible rfl)
  try simp only [Act.put, List.setIfInBounds_toArray, List.set_cons_zero, List.set_cons_succ]
  refine Det.det_take (v := ?_) (by rfl) ?_ ?_
  rotate_left
  · (intro w hSw; obtain ⟨eu1, eu2, eu, ev1, ev2, ev⟩ := HU.out; go_simp; try with_reducible rfl)
  try simp only [Act.put, List.setIfInBounds_toArray, List.set_cons_zero, List.set_cons_succ]
  refine Det.det_take (v := ?_) (by rfl) ?_ ?_
  rotate_left
  · (intro w hSw; go_simp; try with_reducible rfl)
  try simp only [Act.put, List.setIfInBounds_toArray, List.set_cons_zero, List.set_cons_succ]
  refine Det.det_take (v := ?_) (by rfl) ?_ ?_
  rotate_left
  · (intro w hSw; have cc : w.cell? ⟨bp, 1, none⟩ = some (.int .i64 y) := (Bp_6.keep hSw).cell 1; go_simp; try with_reducible rfl)
  try simp only [Act.put, List.setIfInBounds_toArray, List.set_cons_zero, List.set_cons_succ]
  refine Det.det_take (v := ?_) (by rfl) ?_ ?_
  rotate_left
  · (intro w hSw; obtain ⟨eu1, eu2, eu, ev1, ev2, ev⟩ := HU.out; go_simp; try with_reducible rfl)
  try simp only [Act.put, List.setIfInBounds_toArray, List.set_cons_zero, List.set_cons_succ]
  refine Det.det_take (v := ?_) (by rfl) ?_ ?_
  rotate_left
  · (intro w hSw; go_simp; try with_reducible rfl)
  try simp only [Act.put, List.setIfInBounds_toArray, List.set_cons_zero, List.set_cons_succ]
  refine Det.det_take (v := ?_) (by rfl) ?_ ?_
  rotate_left
  · (intro w hSw; have cc : w.cell? ⟨bm, 5, none⟩ = some (.int .i64 Y) := (Bm_6.keep hSw).cell 5; go_simp; try with_reducible rfl)
  try simp only [Act.put, List.setIfInBounds_toArray, List.set_cons_zero, List.set_cons_succ]
  refine Det.det_take (v := ?_) (by rfl) ?_ ?_
  rotate_left
  · (intro w hSw; obtain ⟨eu1, eu2, eu, ev1, ev2, ev⟩ := HU.out; go_simp; try with_reducible rfl)
  try simp only [Act.put, List.setIfInBounds_toArray, List.set_cons_zero, List.set_cons_succ]
  refine Det.det_take (v := ?_) (by rfl) ?_ ?_
  rotate_left
  · (intro w hSw; obtain ⟨eu1, eu2, eu, ev1, ev2, ev⟩ := HU.out; go_simp; try with_reducible rfl)
  try simp only [Act.put, List.setIfInBounds_toArray, List.set_cons_zero, List.set_cons_succ]
  refine Det.det_take (v := ?_) (by rfl) ?_ ?_
  rotate_left
  · (intro w hSw; go_simp; try with_reducible rfl)
  try simp only [Act.put, List.setIfInBounds_toArray, List.set_cons_zero, List.set_cons_succ]
  refine Det.det_take (v := ?_) (by rfl) ?_ ?_
  rotate_left
  · (intro w hSw; go_simp; try with_reducible rfl)
  try simp only [Act.put, List.setIfInBounds_toArray, List.set_cons_zero, List.set_cons_succ]
  refine Det.det_nil (fun W7 k7 => ?_)
  have Bm_7 := Bm_6.keep k7
  have Bp_7 := Bp_6.keep k7
  have Bo_7 := Bo_6.keep k7
  have Hw7 := bq_trans Hw6 k7
  clear k7 Bm_6 Bp_6 Bo_6 Hw6
  have cm0 : W7.cell? ⟨bm, 0, none⟩ = some (.int .i64 A) := Bm_7.cell 0
  have cm1 : W7.cell? ⟨bm, 1, none⟩ = some (.int .i64 B) := Bm_7.cell 1
  have cm2 : W7.cell? ⟨bm, 2, none⟩ = some (.int .i64 C) := Bm_7.cell 2
  have cm3 : W7.cell? ⟨bm, 3, none⟩ = some (.int .i64 D) := Bm_7.cell 3
  go_wp2_with (first
    | (refine wl_alloc 25 _ zeMt rfl rfl ?_; intro W8 bn Bn_8 l8 k8; have gn : w.heap.size ≤ bn := Nat.le_trans Hw7.size l8; have nmn : bm ≠ bn := Nat.ne_of_lt (Nat.lt_of_lt_of_le Bm_7.lt l8); have npn : bp ≠ bn := Nat.ne_of_lt (Nat.lt_of_lt_of_le Bp_7.lt l8); have non : bo ≠ bn := Nat.ne_of_lt (Nat.lt_of_lt_of_le Bo_7.lt l8); have Bm_8 := Bm_7.keep k8; have Bp_8 := Bp_7.keep k8; have Bo_8 := Bo_7.keep k8; have Hw8 := bq_trans Hw7 k8; clear l8 k8 Bm_7 Bp_7 Bo_7 Hw7; clear cm0 cm1 cm2 cm3)
    | (refine wl_store 25 6 szMt _ _ rfl rfl _ rfl #[.int .i64 D, .int .i64 (-B), .int .i64 (-C), .int .i64 A, .int .i64 0, .int .i64 0] rfl _ _ Bn_8 rfl rfl (by kernel_rfl) ?_; intro W9 Bn_9 T9; have Bm_9 := T9.blk Bm_8 nmn; have Bp_9 := T9.blk Bp_8 npn; have Bo_9 := T9.blk Bo_8 non; have Hw9 := T9.below Hw8 gn; clear T9 Bm_8 Bp_8 Bo_8 Bn_8 Hw8)
    | (refine wl_load 25 6 _ Try.underlying25 rfl szMt _ rfl rfl _ rfl _ _ Bn_9 rfl ?_)
    | (go_at_call 10; (with_reducible refine (HT.out _).mono ?_); rintro e W10 ⟨rfl, k10⟩; have Bm_10 := Bm_9.keep k10; have Bp_10 := Bp_9.keep k10; have Bo_10 := Bo_9.keep k10; have Bn_10 := Bn_9.keep k10; have Hw10 := bq_trans Hw9 k10; clear k10 Bm_9 Bp_9 Bo_9 Bn_9 Hw9)
    | (go_at_call 9; (with_reducible refine (HF.out _).mono ?_); rintro e W11 ⟨rfl, k11⟩; have Bm_11 := Bm_10.keep k11; have Bp_11 := Bp_10.keep k11; have Bo_11 := Bo_10.keep k11; have Bn_11 := Bn_10.keep k11; have Hw11 := bq_trans Hw10 k11; clear k11 Bm_10 Bp_10 Bo_10 Bn_10 Hw10)
    | (refine wl_store 31 2 szPt _ _ rfl rfl _ rfl #[.int .i64 r, .int .i64 s] rfl _ _ Bo_11 rfl rfl (by kernel_rfl) ?_; intro W12 Bo_12 T12; have Bm_12 := T12.blk Bm_11 nmo; have Bp_12 := T12.blk Bp_11 npo; have Bn_12 := T12.blk Bn_11 (Ne.symm non); have Hw12 := T12.below Hw11 go; clear T12 Bm_11 Bp_11 Bn_11 Bo_11 Hw11))
  exact post_cell_tmp (v := .bool true) Try.underlying31 rfl szPt Try.results14 Bo_12 rfl rfl rfl rfl ⟨rfl, Hw12⟩
theorem back14_any (A B C D X Y x y : Int) (w : World) (hm : I64M A B C D X Y) :
    Calls Try.prog 14 #[.agg #[.int .i64 A, .int .i64 B, .int .i64 C, .int .i64 D, .int .i64 X, .int .i64 Y], .agg #[.int .i64 x, .int .i64 y]] w fun e w' => e = .returned (bckV A B C D X Y x y) ∧ Below w.heap.size w w' := by
  have H1 := Lib.hid fun W => rightm hm W
  have H2 := Lib.hid fun W => near14_any x y 16777216 W (by omega) (by omega)
  cases q1 : matOk A B C D X Y with
  | false =>
    rw [bckV_no (by rw [q1]; rfl)]
    rw [q1] at H1
    exact back14_no A B C D X Y x y false _ w (Or.inl rfl) H1 H2
  | true =>
    rw [q1] at H1
    cases q2 : ptOk 16777216 x y with
    | false =>
      rw [bckV_no (by rw [q1, q2]; rfl)]
      rw [q2] at H2
      exact back14_no A B C D X Y x y true false w (Or.inr ⟨rfl, rfl⟩) H1 H2
    | true =>
      rw [q2] at H2
      obtain ⟨bA, bB, bC, bD, bX, bY⟩ := matOk_bd q1
      obtain ⟨bx, by1⟩ := ptOk_bd q2
      have hu : -549755813888 ≤ uT x X ∧ uT x X ≤ 549755813888 := by unfold uT; omega
      have hv : -549755813888 ≤ uT y Y ∧ uT y Y ≤ 549755813888 := by unfold uT; omega
      have c1 := mul_bd _ _ bA bD
      have c2 := mul_bd _ _ bB bC
      have hd : -100000000000000 ≤ det14 A B C D ∧ det14 A B C D ≤ 100000000000000 := by unfold det14; omega
      have g1 := mul_bd _ _ bD hu
      have g2 := mul_bd _ _ bC hv
      have g3 := mul_bd _ _ bA hv
      have g4 := mul_bd _ _ bB hu
      by_cases hz : det14 A B C D = 0
      · rw [bckV_flat hz]
        have HS := Lib.hid fun W => size14_any A B C D X Y W bA bB bC bD
        rw [show A * D - B * C = 0 from hz] at HS
        exact back14_flat A B C D X Y x y w H1 H2 HS
      · rw [bckV_yes q1 q2 hz]
        have HS := Lib.hid fun W => size14_any A B C D X Y W bA bB bC bD
        have HT := Lib.hid fun W => turn14_any D (-B) (-C) A 0 0 (uT x X) (uT y Y) W bD (by omega) (by omega) bA hu hv
        have e1 : D * uT x X + -C * uT y Y = D * uT x X - C * uT y Y := by rw [Int.neg_mul]; omega
        have e2 : -B * uT x X + A * uT y Y = A * uT y Y - B * uT x X := by rw [Int.neg_mul]; omega
        rw [e1, e2] at HT
        have HF := Lib.hid fun W => floors14_any (D * uT x X - C * uT y Y) (A * uT y Y - B * uT x X) (det14 A B C D) W (by omega) (by omega) (by omega) hz
        exact back14_yes A B C D X Y x y (det14 A B C D) _ _ _ _ _ _ w (by simpa using hz) bB.1 bB.2 bC.1 bC.2 (wI _ (by omega)) (wI _ (by omega)) (wI _ (by unfold uT at hu; omega)) (wI _ (by omega)) (wI _ (by omega)) (wI _ (by unfold uT at hv; omega)) H1 H2 HS HT HF
theorem scale14_no (A B C D X Y : Int) (w : World) (H1 : Hid (∀ W, Calls Try.prog 8 #[.agg #[.int .i64 A, .int .i64 B, .int .i64 C, .int .i64 D, .int .i64 X, .int .i64 Y]] W fun e w' => e = .returned (.bool false) ∧ Below W.heap.size W w')) : Calls Try.prog 15 #[.agg #[.int .i64 A, .int .i64 B, .int .i64 C, .int .i64 D, .int .i64 X, .int .i64 Y]] w fun e w' => e = .returned (.int .i64 0) ∧ Below w.heap.size w w' := by
  go_enter Try.func15, Try.ntmps15
  go_wp2_with (first
    | (refine wl_box 25 _ _ rfl rfl (show _ = Value.agg #[.int .i64 A, .int .i64 B, .int .i64 C, .int .i64 D, .int .i64 X, .int .i64 Y] from rfl) ?_; intro W1 bm Bm_1 l1 k1; have gm : w.heap.size ≤ bm := l1; have Hw1 := k1; clear l1 k1)
    | (refine wl_load 25 6 _ Try.underlying25 rfl szMt _ rfl rfl _ rfl _ _ Bm_1 rfl ?_)
    | (go_at_call 8; (with_reducible refine (H1.out _).mono ?_); rintro e W2 ⟨rfl, k2⟩; have Bm_2 := Bm_1.keep k2; have Hw2 := bq_trans Hw1 k2; clear k2 Bm_1 Hw1))
  go_ret
  exact ⟨rfl, Hw2⟩
set_option maxHeartbeats 1000000 in
theorem scale14_core (A B C D X Y d mx r : Int) (w : World) (dl : -100000000000000 ≤ d) (dg : d ≤ 100000000000000) (hmx : ∀ (w : World) (ts : Array TypeId) (t : TypeId), (Builtin.max_ ts t #[.int .i64 d, .int .i64 (-d)]).run Try.prog w = .ok (.int .i64 mx) w) (H1 : Hid (∀ W, Calls Try.prog 8 #[.agg #[.int .i64 A, .int .i64 B, .int .i64 C, .int .i64 D, .int .i64 X, .int .i64 Y]] W fun e w' => e = .returned (.bool true) ∧ Below W.heap.size W w')) (HS : Hid (∀ W, Calls Try.prog 19 #[.agg #[.int .i64 A, .int .i64 B, .int .i64 C, .int .i64 D, .int .i64 X, .int .i64 Y]] W fun e w' => e = .returned (.int .i64 d) ∧ Below W.heap.size W w'))
    (HR : Hid (∀ W, Calls Try.prog 20 #[.int .i64 mx] W fun e w' => e = .returned (.int .i64 r) ∧ W = w')) : Calls Try.prog 15 #[.agg #[.int .i64 A, .int .i64 B, .int .i64 C, .int .i64 D, .int .i64 X, .int .i64 Y]] w fun e w' => e = .returned (.int .i64 r) ∧ Below w.heap.size w w' := by
  go_enter Try.func15, Try.ntmps15
  go_wp2_with (first
    | (refine wl_box 25 _ _ rfl rfl (show _ = Value.agg #[.int .i64 A, .int .i64 B, .int .i64 C, .int .i64 D, .int .i64 X, .int .i64 Y] from rfl) ?_; intro W1 bm Bm_1 l1 k1; have gm : w.heap.size ≤ bm := l1; have Hw1 := k1; clear l1 k1)
    | (refine wl_load 25 6 _ Try.underlying25 rfl szMt _ rfl rfl _ rfl _ _ Bm_1 rfl ?_)
    | (go_at_call 8; (with_reducible refine (H1.out _).mono ?_); rintro e W2 ⟨rfl, k2⟩; have Bm_2 := Bm_1.keep k2; have Hw2 := bq_trans Hw1 k2; clear k2 Bm_1 Hw1)
    | (refine wl_load 25 6 _ Try.underlying25 rfl szMt _ rfl rfl _ rfl _ _ Bm_2 rfl ?_)
    | (go_at_call 19; (with_reducible refine (HS.out _).mono ?_); rintro e W3 ⟨rfl, k3⟩; have Bm_3 := Bm_2.keep k3; have Hw3 := bq_trans Hw2 k3; clear k3 Bm_2 Hw2)
    | (go_at_call 20; (with_reducible refine (HR.out _).mono ?_); rintro e w0 ⟨rfl, rfl⟩))
  go_ret
  exact ⟨rfl, Hw3⟩
def sclV (A B C D : Int) : Int := (M3.root (det14 A B C D).natAbs : Nat)
theorem scale14_any (A B C D X Y : Int) (w : World) (hm : I64M A B C D X Y) : Calls Try.prog 15 #[.agg #[.int .i64 A, .int .i64 B, .int .i64 C, .int .i64 D, .int .i64 X, .int .i64 Y]] w fun e w' => e = .returned (.int .i64 (if matOk A B C D X Y then sclV A B C D else 0)) ∧ Below w.heap.size w w' := by
  have H1 := Lib.hid fun W => rightm hm W
  cases q1 : matOk A B C D X Y with
  | false =>
    rw [q1] at H1
    exact scale14_no A B C D X Y w H1
  | true =>
    rw [q1] at H1
    obtain ⟨bA, bB, bC, bD, bX, bY⟩ := matOk_bd q1
    have c1 := mul_bd _ _ bA bD
    have c2 := mul_bd _ _ bB bC
    have hd : -100000000000000 ≤ det14 A B C D ∧ det14 A B C D ≤ 100000000000000 := by unfold det14; omega
    have HS := Lib.hid fun W => size14_any A B C D X Y W bA bB bC bD
    have e : max (det14 A B C D) (-det14 A B C D) = ((det14 A B C D).natAbs : Int) := by omega
    exact scale14_core A B C D X Y (det14 A B C D) ((det14 A B C D).natAbs : Int) _ w hd.1 hd.2 (fun w ts t => by rw [run_max2, e]) H1 HS (Lib.hid fun W => root_yes _ W (by omega))
end Go.Proofs.Ythcejmbjagpjcab
