import Derived.Test.YthlnjipefeglpaaZU16
import Derived.Test.YthlnjipefeglpaaZU13
namespace Go.Proofs.Ythlnjipefeglpaa
open Go.RowKit
set_option linter.unusedVariables false
set_option maxRecDepth 100000
set_option maxHeartbeats 4000000 in
theorem refputmatrix_10 (s u5 : ByteArray) (v5 a b c d x y : Int) (q1 q2 : Bool) (f1 f2 f3 f4 : List (Nat × Nat)) (w : World) (hs : s.size ≤ 1000000) (hu : u5.size ≤ 100)
    (h1 : (a != 65536) = true ∨ (a != 65536) = false ∧ (d != 65536) = true) (h2 : (b != 0) = false ∧ (c != 0) = false) (e1 : q1 = true) (e2 : q2 = false)
    (H1 : Hid (∀ W, Calls Try.prog 53 #[.agg #[.string ⟨#[]⟩, .int .i64 0], .bool q1] W fun e w' => e = .returned (.agg (wrA f1)) ∧ Below W.heap.size W w'))
    (H2 : Hid (q1 = true → ∀ W g, Blk W g (iA [a, d]) 3 → Calls Try.prog 54 #[.agg (wrA f1), .int .i64 5, .slice (some ⟨g, 0, none⟩) 2 2] W fun e w' => e = .returned (.agg (wrA f2)) ∧ Below W.heap.size W w'))
    (E2 : Hid (q1 = false → f2 = f1))
    (H3 : Hid (∀ W, Calls Try.prog 53 #[.agg (wrA f2), .bool q2] W fun e w' => e = .returned (.agg (wrA f3)) ∧ Below W.heap.size W w'))
    (H4 : Hid (q2 = true → ∀ W g, Blk W g (iA [b, c]) 3 → Calls Try.prog 54 #[.agg (wrA f3), .int .i64 5, .slice (some ⟨g, 0, none⟩) 2 2] W fun e w' => e = .returned (.agg (wrA f4)) ∧ Below W.heap.size W w'))
    (E4 : Hid (q2 = false → f4 = f3))
    (H5 : Hid (∀ W g, Blk W g (iA [x, y]) 3 → Calls Try.prog 54 #[.agg (wrA f4), .int .i64 5, .slice (some ⟨g, 0, none⟩) 2 2] W fun e w' => e = .returned (.agg #[.string u5, .int .i64 v5]) ∧ Below W.heap.size W w'))
    : Calls Try.prog 39 #[.string s, .agg #[.int .i64 a, .int .i64 b, .int .i64 c, .int .i64 d, .int .i64 x, .int .i64 y]] w fun e w' => e = .returned (.string (s ++ u5)) ∧ Below w.heap.size w w' := by
  subst e1
  subst e2
  have H2b := Lib.hid (H2.out rfl)
  obtain rfl := E4.out rfl
  clear H2 E2 H4 E4
  rcases h1 with h1 | ⟨h1, h1b⟩ <;> rcases h2 with ⟨h2, h2b⟩
  all_goals
    have hfld : ∀ W : World, (Instr.field 97 (.agg #[.string u5, .int .i64 v5]) 0).run Try.prog W = .ok (.string u5) W := fun W => by kernel_rfl
    go_enter Try.func39, Try.ntmps39
    go_wp2_with (first
      | (refine wl_box 25 _ _ rfl rfl (show _ = Value.agg #[.int .i64 a, .int .i64 b, .int .i64 c, .int .i64 d, .int .i64 x, .int .i64 y] from rfl) ?_; intro W1 bm Bm_1 l1 k1; have gm : w.heap.size ≤ bm := l1; have Hw1 := k1; clear l1 k1; have cm_0_1 : W1.cell? ⟨bm, 0, none⟩ = some (.int .i64 a) := Bm_1.cell 0; have cm_3_1 : W1.cell? ⟨bm, 3, none⟩ = some (.int .i64 d) := Bm_1.cell 3)
      | (go_at_call 53; with_reducible refine (H1.out _).mono ?_; rintro e W2 ⟨rfl, k2⟩; have Bm_2 := Bm_1.keep k2; have Hw2 := bq_trans Hw1 k2; clear k2 Bm_1 cm_0_1 cm_3_1 Hw1)
      | (refine wl_alloc 97 _ zero87 rfl rfl ?_; intro W3 bo Bo_3 l3 k3; have go : w.heap.size ≤ bo := Nat.le_trans Hw2.size l3; have nmo : bm ≠ bo := Nat.ne_of_lt (Nat.lt_of_lt_of_le Bm_2.lt l3); have Bm_3 := Bm_2.keep k3; have Hw3 := bq_trans Hw2 k3; clear l3 k3 Bm_2 Hw2)
      | (refine wl_store 97 2 size87 _ _ rfl rfl _ rfl _ rfl _ _ Bo_3 rfl rfl (by kernel_rfl) ?_; intro W4 Bo_4 T4; have Bm_4 := T4.blk Bm_3 nmo; have Hw4 := T4.below Hw3 go; clear T4 Bm_3 Bo_3 Hw3; have cm_0_4 : W4.cell? ⟨bm, 0, none⟩ = some (.int .i64 a) := Bm_4.cell 0; have cm_1_4 : W4.cell? ⟨bm, 1, none⟩ = some (.int .i64 b) := Bm_4.cell 1; have cm_2_4 : W4.cell? ⟨bm, 2, none⟩ = some (.int .i64 c) := Bm_4.cell 2; have cm_3_4 : W4.cell? ⟨bm, 3, none⟩ = some (.int .i64 d) := Bm_4.cell 3)
      | (refine wl_load 97 2 _ Try.underlying97 rfl size87 _ rfl rfl _ rfl _ _ Bo_4 rfl ?_)
      | (refine wlg_slice 90 3 2 _ _ (ints2_run a d) _ rfl rfl rfl ?_; intro W5 bi1 Bi1_5 l5 k5; have gi1 : w.heap.size ≤ bi1 := Nat.le_trans Hw4.size l5; have nmi1 : bm ≠ bi1 := Nat.ne_of_lt (Nat.lt_of_lt_of_le Bm_4.lt l5); have noi1 : bo ≠ bi1 := Nat.ne_of_lt (Nat.lt_of_lt_of_le Bo_4.lt l5); have Bm_5 := Bm_4.keep k5; have Bo_5 := Bo_4.keep k5; have Hw5 := bq_trans Hw4 k5; clear l5 k5 Bm_4 Bo_4 cm_0_4 cm_1_4 cm_2_4 cm_3_4 Hw4)
      | (go_at_call 54; with_reducible refine (H2b.out _ _ Bi1_5).mono ?_; rintro e W6 ⟨rfl, k6⟩; have Bm_6 := Bm_5.keep k6; have Bo_6 := Bo_5.keep k6; have Bi1_6 := Bi1_5.keep k6; have Hw6 := bq_trans Hw5 k6; clear k6 Bm_5 Bo_5 Bi1_5 Hw5)
      | (refine wl_store 97 2 size87 _ _ rfl rfl _ rfl _ rfl _ _ Bo_6 rfl rfl (by kernel_rfl) ?_; intro W7 Bo_7 T7; have Bm_7 := T7.blk Bm_6 nmo; have Bi1_7 := T7.blk Bi1_6 (Ne.symm noi1); have Hw7 := T7.below Hw6 go; clear T7 Bm_6 Bi1_6 Bo_6 Hw6; have cm_1_7 : W7.cell? ⟨bm, 1, none⟩ = some (.int .i64 b) := Bm_7.cell 1; have cm_2_7 : W7.cell? ⟨bm, 2, none⟩ = some (.int .i64 c) := Bm_7.cell 2)
      | (refine wl_load 97 2 _ Try.underlying97 rfl size87 _ rfl rfl _ rfl _ _ Bo_7 rfl ?_)
      | (go_at_call 53; with_reducible refine (H3.out _).mono ?_; rintro e W8 ⟨rfl, k8⟩; have Bm_8 := Bm_7.keep k8; have Bo_8 := Bo_7.keep k8; have Bi1_8 := Bi1_7.keep k8; have Hw8 := bq_trans Hw7 k8; clear k8 Bm_7 Bo_7 Bi1_7 cm_1_7 cm_2_7 Hw7)
      | (refine wl_store 97 2 size87 _ _ rfl rfl _ rfl _ rfl _ _ Bo_8 rfl rfl (by kernel_rfl) ?_; intro W9 Bo_9 T9; have Bm_9 := T9.blk Bm_8 nmo; have Bi1_9 := T9.blk Bi1_8 (Ne.symm noi1); have Hw9 := T9.below Hw8 go; clear T9 Bm_8 Bi1_8 Bo_8 Hw8; have cm_1_9 : W9.cell? ⟨bm, 1, none⟩ = some (.int .i64 b) := Bm_9.cell 1; have cm_2_9 : W9.cell? ⟨bm, 2, none⟩ = some (.int .i64 c) := Bm_9.cell 2; have cm_4_9 : W9.cell? ⟨bm, 4, none⟩ = some (.int .i64 x) := Bm_9.cell 4; have cm_5_9 : W9.cell? ⟨bm, 5, none⟩ = some (.int .i64 y) := Bm_9.cell 5)
      | (refine wl_load 97 2 _ Try.underlying97 rfl size87 _ rfl rfl _ rfl _ _ Bo_9 rfl ?_)
      | (refine wlg_slice 90 3 2 _ _ (ints2_run x y) _ rfl rfl rfl ?_; intro W10 bi3 Bi3_10 l10 k10; have gi3 : w.heap.size ≤ bi3 := Nat.le_trans Hw9.size l10; have nmi3 : bm ≠ bi3 := Nat.ne_of_lt (Nat.lt_of_lt_of_le Bm_9.lt l10); have noi3 : bo ≠ bi3 := Nat.ne_of_lt (Nat.lt_of_lt_of_le Bo_9.lt l10); have ni1i3 : bi1 ≠ bi3 := Nat.ne_of_lt (Nat.lt_of_lt_of_le Bi1_9.lt l10); have Bm_10 := Bm_9.keep k10; have Bo_10 := Bo_9.keep k10; have Bi1_10 := Bi1_9.keep k10; have Hw10 := bq_trans Hw9 k10; clear l10 k10 Bm_9 Bo_9 Bi1_9 cm_1_9 cm_2_9 cm_4_9 cm_5_9 Hw9)
      | (go_at_call 54; with_reducible refine (H5.out _ _ Bi3_10).mono ?_; rintro e W11 ⟨rfl, k11⟩; have Bm_11 := Bm_10.keep k11; have Bo_11 := Bo_10.keep k11; have Bi1_11 := Bi1_10.keep k11; have Bi3_11 := Bi3_10.keep k11; have Hw11 := bq_trans Hw10 k11; clear k11 Bm_10 Bo_10 Bi1_10 Bi3_10 Hw10))
    go_ret
    exact ⟨rfl, Hw11⟩
end Go.Proofs.Ythlnjipefeglpaa
namespace Go.Proofs.Ythlnjipefeglpaa
open Go.RowKit
set_option linter.unusedVariables false
set_option maxRecDepth 100000
set_option maxHeartbeats 4000000 in
theorem refputmatrix_11 (s u5 : ByteArray) (v5 a b c d x y : Int) (q1 q2 : Bool) (f1 f2 f3 f4 : List (Nat × Nat)) (w : World) (hs : s.size ≤ 1000000) (hu : u5.size ≤ 100)
    (h1 : (a != 65536) = true ∨ (a != 65536) = false ∧ (d != 65536) = true) (h2 : (b != 0) = true ∨ (b != 0) = false ∧ (c != 0) = true) (e1 : q1 = true) (e2 : q2 = true)
    (H1 : Hid (∀ W, Calls Try.prog 53 #[.agg #[.string ⟨#[]⟩, .int .i64 0], .bool q1] W fun e w' => e = .returned (.agg (wrA f1)) ∧ Below W.heap.size W w'))
    (H2 : Hid (q1 = true → ∀ W g, Blk W g (iA [a, d]) 3 → Calls Try.prog 54 #[.agg (wrA f1), .int .i64 5, .slice (some ⟨g, 0, none⟩) 2 2] W fun e w' => e = .returned (.agg (wrA f2)) ∧ Below W.heap.size W w'))
    (E2 : Hid (q1 = false → f2 = f1))
    (H3 : Hid (∀ W, Calls Try.prog 53 #[.agg (wrA f2), .bool q2] W fun e w' => e = .returned (.agg (wrA f3)) ∧ Below W.heap.size W w'))
    (H4 : Hid (q2 = true → ∀ W g, Blk W g (iA [b, c]) 3 → Calls Try.prog 54 #[.agg (wrA f3), .int .i64 5, .slice (some ⟨g, 0, none⟩) 2 2] W fun e w' => e = .returned (.agg (wrA f4)) ∧ Below W.heap.size W w'))
    (E4 : Hid (q2 = false → f4 = f3))
    (H5 : Hid (∀ W g, Blk W g (iA [x, y]) 3 → Calls Try.prog 54 #[.agg (wrA f4), .int .i64 5, .slice (some ⟨g, 0, none⟩) 2 2] W fun e w' => e = .returned (.agg #[.string u5, .int .i64 v5]) ∧ Below W.heap.size W w'))
    : Calls Try.prog 39 #[.string s, .agg #[.int .i64 a, .int .i64 b, .int .i64 c, .int .i64 d, .int .i64 x, .int .i64 y]] w fun e w' => e = .returned (.string (s ++ u5)) ∧ Below w.heap.size w w' := by
  subst e1
  subst e2
  have H2b := Lib.hid (H2.out rfl)
  have H4b := Lib.hid (H4.out rfl)
  clear H2 E2 H4 E4
  rcases h1 with h1 | ⟨h1, h1b⟩ <;> rcases h2 with h2 | ⟨h2, h2b⟩
  all_goals
    have hfld : ∀ W : World, (Instr.field 97 (.agg #[.string u5, .int .i64 v5]) 0).run Try.prog W = .ok (.string u5) W := fun W => by kernel_rfl
    go_enter Try.func39, Try.ntmps39
    go_wp2_with (first
      | (refine wl_box 25 _ _ rfl rfl (show _ = Value.agg #[.int .i64 a, .int .i64 b, .int .i64 c, .int .i64 d, .int .i64 x, .int .i64 y] from rfl) ?_; intro W1 bm Bm_1 l1 k1; have gm : w.heap.size ≤ bm := l1; have Hw1 := k1; clear l1 k1; have cm_0_1 : W1.cell? ⟨bm, 0, none⟩ = some (.int .i64 a) := Bm_1.cell 0; have cm_3_1 : W1.cell? ⟨bm, 3, none⟩ = some (.int .i64 d) := Bm_1.cell 3)
      | (go_at_call 53; with_reducible refine (H1.out _).mono ?_; rintro e W2 ⟨rfl, k2⟩; have Bm_2 := Bm_1.keep k2; have Hw2 := bq_trans Hw1 k2; clear k2 Bm_1 cm_0_1 cm_3_1 Hw1)
      | (refine wl_alloc 97 _ zero87 rfl rfl ?_; intro W3 bo Bo_3 l3 k3; have go : w.heap.size ≤ bo := Nat.le_trans Hw2.size l3; have nmo : bm ≠ bo := Nat.ne_of_lt (Nat.lt_of_lt_of_le Bm_2.lt l3); have Bm_3 := Bm_2.keep k3; have Hw3 := bq_trans Hw2 k3; clear l3 k3 Bm_2 Hw2)
      | (refine wl_store 97 2 size87 _ _ rfl rfl _ rfl _ rfl _ _ Bo_3 rfl rfl (by kernel_rfl) ?_; intro W4 Bo_4 T4; have Bm_4 := T4.blk Bm_3 nmo; have Hw4 := T4.below Hw3 go; clear T4 Bm_3 Bo_3 Hw3; have cm_0_4 : W4.cell? ⟨bm, 0, none⟩ = some (.int .i64 a) := Bm_4.cell 0; have cm_1_4 : W4.cell? ⟨bm, 1, none⟩ = some (.int .i64 b) := Bm_4.cell 1; have cm_2_4 : W4.cell? ⟨bm, 2, none⟩ = some (.int .i64 c) := Bm_4.cell 2; have cm_3_4 : W4.cell? ⟨bm, 3, none⟩ = some (.int .i64 d) := Bm_4.cell 3)
      | (refine wl_load 97 2 _ Try.underlying97 rfl size87 _ rfl rfl _ rfl _ _ Bo_4 rfl ?_)
      | (refine wlg_slice 90 3 2 _ _ (ints2_run a d) _ rfl rfl rfl ?_; intro W5 bi1 Bi1_5 l5 k5; have gi1 : w.heap.size ≤ bi1 := Nat.le_trans Hw4.size l5; have nmi1 : bm ≠ bi1 := Nat.ne_of_lt (Nat.lt_of_lt_of_le Bm_4.lt l5); have noi1 : bo ≠ bi1 := Nat.ne_of_lt (Nat.lt_of_lt_of_le Bo_4.lt l5); have Bm_5 := Bm_4.keep k5; have Bo_5 := Bo_4.keep k5; have Hw5 := bq_trans Hw4 k5; clear l5 k5 Bm_4 Bo_4 cm_0_4 cm_1_4 cm_2_4 cm_3_4 Hw4)
      | (go_at_call 54; with_reducible refine (H2b.out _ _ Bi1_5).mono ?_; rintro e W6 ⟨rfl, k6⟩; have Bm_6 := Bm_5.keep k6; have Bo_6 := Bo_5.keep k6; have Bi1_6 := Bi1_5.keep k6; have Hw6 := bq_trans Hw5 k6; clear k6 Bm_5 Bo_5 Bi1_5 Hw5)
      | (refine wl_store 97 2 size87 _ _ rfl rfl _ rfl _ rfl _ _ Bo_6 rfl rfl (by kernel_rfl) ?_; intro W7 Bo_7 T7; have Bm_7 := T7.blk Bm_6 nmo; have Bi1_7 := T7.blk Bi1_6 (Ne.symm noi1); have Hw7 := T7.below Hw6 go; clear T7 Bm_6 Bi1_6 Bo_6 Hw6; have cm_1_7 : W7.cell? ⟨bm, 1, none⟩ = some (.int .i64 b) := Bm_7.cell 1; have cm_2_7 : W7.cell? ⟨bm, 2, none⟩ = some (.int .i64 c) := Bm_7.cell 2)
      | (refine wl_load 97 2 _ Try.underlying97 rfl size87 _ rfl rfl _ rfl _ _ Bo_7 rfl ?_)
      | (go_at_call 53; with_reducible refine (H3.out _).mono ?_; rintro e W8 ⟨rfl, k8⟩; have Bm_8 := Bm_7.keep k8; have Bo_8 := Bo_7.keep k8; have Bi1_8 := Bi1_7.keep k8; have Hw8 := bq_trans Hw7 k8; clear k8 Bm_7 Bo_7 Bi1_7 cm_1_7 cm_2_7 Hw7)
      | (refine wl_store 97 2 size87 _ _ rfl rfl _ rfl _ rfl _ _ Bo_8 rfl rfl (by kernel_rfl) ?_; intro W9 Bo_9 T9; have Bm_9 := T9.blk Bm_8 nmo; have Bi1_9 := T9.blk Bi1_8 (Ne.symm noi1); have Hw9 := T9.below Hw8 go; clear T9 Bm_8 Bi1_8 Bo_8 Hw8; have cm_1_9 : W9.cell? ⟨bm, 1, none⟩ = some (.int .i64 b) := Bm_9.cell 1; have cm_2_9 : W9.cell? ⟨bm, 2, none⟩ = some (.int .i64 c) := Bm_9.cell 2; have cm_4_9 : W9.cell? ⟨bm, 4, none⟩ = some (.int .i64 x) := Bm_9.cell 4; have cm_5_9 : W9.cell? ⟨bm, 5, none⟩ = some (.int .i64 y) := Bm_9.cell 5)
      | (refine wl_load 97 2 _ Try.underlying97 rfl size87 _ rfl rfl _ rfl _ _ Bo_9 rfl ?_)
      | (refine wlg_slice 90 3 2 _ _ (ints2_run b c) _ rfl rfl rfl ?_; intro W10 bi2 Bi2_10 l10 k10; have gi2 : w.heap.size ≤ bi2 := Nat.le_trans Hw9.size l10; have nmi2 : bm ≠ bi2 := Nat.ne_of_lt (Nat.lt_of_lt_of_le Bm_9.lt l10); have noi2 : bo ≠ bi2 := Nat.ne_of_lt (Nat.lt_of_lt_of_le Bo_9.lt l10); have ni1i2 : bi1 ≠ bi2 := Nat.ne_of_lt (Nat.lt_of_lt_of_le Bi1_9.lt l10); have Bm_10 := Bm_9.keep k10; have Bo_10 := Bo_9.keep k10; have Bi1_10 := Bi1_9.keep k10; have Hw10 := bq_trans Hw9 k10; clear l10 k10 Bm_9 Bo_9 Bi1_9 cm_1_9 cm_2_9 cm_4_9 cm_5_9 Hw9)
      | (go_at_call 54; with_reducible refine (H4b.out _ _ Bi2_10).mono ?_; rintro e W11 ⟨rfl, k11⟩; have Bm_11 := Bm_10.keep k11; have Bo_11 := Bo_10.keep k11; have Bi1_11 := Bi1_10.keep k11; have Bi2_11 := Bi2_10.keep k11; have Hw11 := bq_trans Hw10 k11; clear k11 Bm_10 Bo_10 Bi1_10 Bi2_10 Hw10)
      | (refine wl_store 97 2 size87 _ _ rfl rfl _ rfl _ rfl _ _ Bo_11 rfl rfl (by kernel_rfl) ?_; intro W12 Bo_12 T12; have Bm_12 := T12.blk Bm_11 nmo; have Bi1_12 := T12.blk Bi1_11 (Ne.symm noi1); have Bi2_12 := T12.blk Bi2_11 (Ne.symm noi2); have Hw12 := T12.below Hw11 go; clear T12 Bm_11 Bi1_11 Bi2_11 Bo_11 Hw11; have cm_4_12 : W12.cell? ⟨bm, 4, none⟩ = some (.int .i64 x) := Bm_12.cell 4; have cm_5_12 : W12.cell? ⟨bm, 5, none⟩ = some (.int .i64 y) := Bm_12.cell 5)
      | (refine wl_load 97 2 _ Try.underlying97 rfl size87 _ rfl rfl _ rfl _ _ Bo_12 rfl ?_)
      | (refine wlg_slice 90 3 2 _ _ (ints2_run x y) _ rfl rfl rfl ?_; intro W13 bi3 Bi3_13 l13 k13; have gi3 : w.heap.size ≤ bi3 := Nat.le_trans Hw12.size l13; have nmi3 : bm ≠ bi3 := Nat.ne_of_lt (Nat.lt_of_lt_of_le Bm_12.lt l13); have noi3 : bo ≠ bi3 := Nat.ne_of_lt (Nat.lt_of_lt_of_le Bo_12.lt l13); have ni1i3 : bi1 ≠ bi3 := Nat.ne_of_lt (Nat.lt_of_lt_of_le Bi1_12.lt l13); have ni2i3 : bi2 ≠ bi3 := Nat.ne_of_lt (Nat.lt_of_lt_of_le Bi2_12.lt l13); have Bm_13 := Bm_12.keep k13; have Bo_13 := Bo_12.keep k13; have Bi1_13 := Bi1_12.keep k13; have Bi2_13 := Bi2_12.keep k13; have Hw13 := bq_trans Hw12 k13; clear l13 k13 Bm_12 Bo_12 Bi1_12 Bi2_12 cm_4_12 cm_5_12 Hw12)
      | (go_at_call 54; with_reducible refine (H5.out _ _ Bi3_13).mono ?_; rintro e W14 ⟨rfl, k14⟩; have Bm_14 := Bm_13.keep k14; have Bo_14 := Bo_13.keep k14; have Bi1_14 := Bi1_13.keep k14; have Bi2_14 := Bi2_13.keep k14; have Bi3_14 := Bi3_13.keep k14; have Hw14 := bq_trans Hw13 k14; clear k14 Bm_13 Bo_13 Bi1_13 Bi2_13 Bi3_13 Hw13))
    go_ret
    exact ⟨rfl, Hw14⟩
end Go.Proofs.Ythlnjipefeglpaa
namespace Go.Proofs.Ythlnjipefeglpaa
open Go.RowKit
set_option linter.unusedVariables false
theorem refnumbers2 (fs : List (Nat × Nat)) (x y : Int) (W : World) (g : Nat) (h : F.ok fs) (hl : F.len fs ≤ 1000) (hw : mxW [x, y] ≤ 24) (hx : I64 x) (hy : I64 y) (hB : Blk W g (iA [x, y]) 3) :
    Calls Try.prog 54 #[.agg (wrA fs), .int .i64 5, .slice (some ⟨g, 0, none⟩) 2 2] W fun e w' => e = .returned (.agg (wrA (fs ++ F.nums 5 [x, y]))) ∧ Below W.heap.size W w' :=
  refnumbers_any fs 5 [x, y] _ g 0 2 W h (by rw [nums2_len]; omega) (by omega) (Nat.lt_of_le_of_lt hw (by decide)) (by omega) (by simp) (Lib.hid (hB.ints (i64_2 hx hy)))
theorem refputmatrix_ok (s : ByteArray) (a b c d x y : Int) (w : World) (hs : s.size ≤ 1000000) (h : matOk a b c d x y = true) :
    Calls Try.prog 39 #[.string s, .agg #[.int .i64 a, .int .i64 b, .int .i64 c, .int .i64 d, .int .i64 x, .int .i64 y]] w fun e w' => e = .returned (.string (s ++ bs (F.bys (matF a b c d x y)))) ∧ Below w.heap.size w w' := by
  have m := matFacts h
  obtain ⟨fa, fb, fc, fd, fx, fy⟩ := m.fit
  have hu : (bs (F.bys (matF a b c d x y))).size ≤ 100 := by rw [bs_size, F.bys_len]; have := m.l5; omega
  have H1 := Lib.hid (fun W => flag_any [] (q65 a d) W F.ok_nil (by simp [F.len]))
  have H2 : Hid (q65 a d = true → ∀ W g, Blk W g (iA [a, d]) 3 → Calls Try.prog 54 #[.agg (wrA ([] ++ [(b01 (q65 a d), 1)])), .int .i64 5, .slice (some ⟨g, 0, none⟩) 2 2] W fun e w' => e = .returned (.agg (wrA (mF2 a d))) ∧ Below W.heap.size W w') := Lib.hid fun hq W g hB => by
    unfold mF2
    rw [if_pos hq]
    exact refnumbers2 _ a d W g m.o1 (by rw [m.l1]; omega) m.w1 fa fd hB
  have E2 : Hid (q65 a d = false → mF2 a d = [] ++ [(b01 (q65 a d), 1)]) := Lib.hid fun hq => by unfold mF2; rw [hq]; rfl
  have H3 := Lib.hid (fun W => flag_any (mF2 a d) (qnz b c) W m.o2 (by have := m.l2; omega))
  have H4 : Hid (qnz b c = true → ∀ W g, Blk W g (iA [b, c]) 3 → Calls Try.prog 54 #[.agg (wrA (mF2 a d ++ [(b01 (qnz b c), 1)])), .int .i64 5, .slice (some ⟨g, 0, none⟩) 2 2] W fun e w' => e = .returned (.agg (wrA (mF4 a b c d))) ∧ Below W.heap.size W w') := Lib.hid fun hq W g hB => by
    unfold mF4
    rw [if_pos hq]
    exact refnumbers2 _ b c W g m.o3 (by have := m.l3; unfold mF3 at this; omega) m.w2 fb fc hB
  have E4 : Hid (qnz b c = false → mF4 a b c d = mF2 a d ++ [(b01 (qnz b c), 1)]) := Lib.hid fun hq => by unfold mF4 mF3; rw [if_neg (by rw [hq]; decide)]
  have H5 : Hid (∀ W g, Blk W g (iA [x, y]) 3 → Calls Try.prog 54 #[.agg (wrA (mF4 a b c d)), .int .i64 5, .slice (some ⟨g, 0, none⟩) 2 2] W fun e w' => e = .returned (.agg #[.string (bs (F.bys (matF a b c d x y))), .int .i64 (F.fr (matF a b c d x y) : Int)]) ∧ Below W.heap.size W w') := Lib.hid fun W g hB =>
    refnumbers2 (mF4 a b c d) x y W g m.o4 (by have := m.l4; omega) (by have := m.w3; omega) fx fy hB
  rcases q65_cases a d with ⟨e1, p1⟩ | ⟨e1, p1⟩ <;> rcases qnz_cases b c with ⟨e2, p2⟩ | ⟨e2, p2⟩
  · exact refputmatrix_11 s _ _ a b c d x y _ _ _ _ _ _ w hs hu p1 p2 e1 e2 H1 H2 E2 H3 H4 E4 H5
  · exact refputmatrix_10 s _ _ a b c d x y _ _ _ _ _ _ w hs hu p1 p2 e1 e2 H1 H2 E2 H3 H4 E4 H5
  · exact refputmatrix_01 s _ _ a b c d x y _ _ _ _ _ _ w hs hu p1 p2 e1 e2 H1 H2 E2 H3 H4 E4 H5
  · exact refputmatrix_00 s _ _ a b c d x y _ _ _ _ _ _ w hs hu p1 p2 e1 e2 H1 H2 E2 H3 H4 E4 H5
end Go.Proofs.Ythlnjipefeglpaa
