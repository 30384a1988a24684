import Derived.Test.YthlnjipefeglpaaZU13
namespace Go.Proofs.Ythlnjipefeglpaa
open Go.RowKit
set_option linter.unusedVariables false
set_option maxHeartbeats 4000000 in
theorem putmatrix_00 (s u4 u5 : ByteArray) (f v4 v5 a b c d x y : Int) (q1 q2 : Bool) (f1 f2 f3 f4 : List (Nat × Nat)) (w : World)
    (h1 : (a != 65536) = false ∧ (d != 65536) = false) (h2 : (b != 0) = false ∧ (c != 0) = false) (e1 : q1 = false) (e2 : q2 = false)
    (HR : Hid (∀ W, Calls Try.prog 25 #[.agg #[.int .i64 a, .int .i64 b, .int .i64 c, .int .i64 d, .int .i64 x, .int .i64 y]] W fun e w' => e = .returned (.bool true) ∧ Below W.heap.size W w'))
    (H1 : Hid (∀ W, Calls Try.prog 67 #[.agg #[.string ⟨#[]⟩, .int .i64 0], .bool q1] W fun e w' => e = .returned (.agg (wrA f1)) ∧ Below W.heap.size W w'))
    (H2 : Hid (q1 = true → ∀ W g, Blk W g (iA [a, d]) 3 → Calls Try.prog 68 #[.agg (wrA f1), .int .i64 5, .slice (some ⟨g, 0, none⟩) 2 2] W fun e w' => e = .returned (.agg (wrA f2)) ∧ Below W.heap.size W w'))
    (E2 : Hid (q1 = false → f2 = f1))
    (H3 : Hid (∀ W, Calls Try.prog 67 #[.agg (wrA f2), .bool q2] W fun e w' => e = .returned (.agg (wrA f3)) ∧ Below W.heap.size W w'))
    (H4 : Hid (q2 = true → ∀ W g, Blk W g (iA [b, c]) 3 → Calls Try.prog 68 #[.agg (wrA f3), .int .i64 5, .slice (some ⟨g, 0, none⟩) 2 2] W fun e w' => e = .returned (.agg (wrA f4)) ∧ Below W.heap.size W w'))
    (E4 : Hid (q2 = false → f4 = f3))
    (H5 : Hid (∀ W0 W g, Below W0.heap.size W0 W → Blk W g (iA [x, y]) 3 → Calls Try.prog 68 #[.agg #[.string u4, .int .i64 v4], .int .i64 5, .slice (some ⟨g, 0, none⟩) 2 2] W fun e w' => e = .returned (.agg #[.string u5, .int .i64 v5]) ∧ Below W0.heap.size W0 w'))
    (H6 : Hid (∀ W0 W, Below W0.heap.size W0 W → Calls Try.prog 69 #[.agg #[.string s, .int .i64 f], .agg #[.string u5, .int .i64 v5]] W fun e w' => e = .returned (.agg #[.string (s ++ u5), .int .i64 0]) ∧ Below W0.heap.size W0 w'))
    (HU : Hid (wrA f4 = #[.string u4, .int .i64 v4]))
    : Calls Try.prog 52 #[.agg #[.string s, .int .i64 f], .agg #[.int .i64 a, .int .i64 b, .int .i64 c, .int .i64 d, .int .i64 x, .int .i64 y]] w fun e w' => e = .returned (.tuple #[.agg #[.string (s ++ u5), .int .i64 0], .int .i64 0]) ∧ Below w.heap.size w w' := by
  subst e1
  subst e2
  obtain rfl := E2.out rfl
  obtain rfl := E4.out rfl
  clear H2 E2 H4 E4
  rcases h1 with ⟨h1, h1b⟩ <;> rcases h2 with ⟨h2, h2b⟩
  all_goals
    go_enter Try.func52, Try.ntmps52
    go_wp2_with (first
      | (refine wl_box 40 _ _ rfl rfl (show _ = Value.agg #[.string s, .int .i64 f] from rfl) ?_; intro W1 bw Bw_1 l1 k1; have gw : w.heap.size ≤ bw := l1; have H1 := k1; clear l1 k1)
      | (refine wl_box 25 _ _ rfl rfl (show _ = Value.agg #[.int .i64 a, .int .i64 b, .int .i64 c, .int .i64 d, .int .i64 x, .int .i64 y] from rfl) ?_; intro W2 bm Bm_2 l2 k2; have gm : w.heap.size ≤ bm := Nat.le_trans H1.size l2; have nwm : bw ≠ bm := Nat.ne_of_lt (Nat.lt_of_lt_of_le Bw_1.lt l2); have Bw_2 := Bw_1.keep k2; have H2 := bq_trans H1 k2; clear l2 k2 Bw_1 H1)
      | (refine wl_alloc 40 _ zero23 rfl rfl ?_; intro W3 br Br_3 l3 k3; have gr : w.heap.size ≤ br := Nat.le_trans H2.size l3; have nwr : bw ≠ br := Nat.ne_of_lt (Nat.lt_of_lt_of_le Bw_2.lt l3); have nmr : bm ≠ br := Nat.ne_of_lt (Nat.lt_of_lt_of_le Bm_2.lt l3); have Bw_3 := Bw_2.keep k3; have Bm_3 := Bm_2.keep k3; have H3 := bq_trans H2 k3; clear l3 k3 Bw_2 Bm_2 H2)
      | (refine wl_load 25 6 _ Try.underlying25 rfl size27 _ rfl rfl _ rfl _ _ Bm_3 rfl ?_)
      | (go_at_call 25; with_reducible refine (HR.out _).mono ?_; rintro e W4 ⟨rfl, k4⟩; have Bw_4 := Bw_3.keep k4; have Bm_4 := Bm_3.keep k4; have Br_4 := Br_3.keep k4; have H4 := bq_trans H3 k4; clear k4 Bw_3 Bm_3 Br_3 H3)
      | (go_at_call 66; with_reducible refine (same_any _).mono ?_; rintro e W5 ⟨rfl, k5⟩; have Bw_5 := Bw_4.keep k5; have Bm_5 := Bm_4.keep k5; have Br_5 := Br_4.keep k5; have H5 := bq_trans H4 k5; clear k5 Bw_4 Bm_4 Br_4 H4)
      | (refine wl_alloc 25 _ zero27 rfl rfl ?_; intro W6 be Be_6 l6 k6; have ge : w.heap.size ≤ be := Nat.le_trans H5.size l6; have nwe : bw ≠ be := Nat.ne_of_lt (Nat.lt_of_lt_of_le Bw_5.lt l6); have nme : bm ≠ be := Nat.ne_of_lt (Nat.lt_of_lt_of_le Bm_5.lt l6); have nre : br ≠ be := Nat.ne_of_lt (Nat.lt_of_lt_of_le Br_5.lt l6); have Bw_6 := Bw_5.keep k6; have Bm_6 := Bm_5.keep k6; have Br_6 := Br_5.keep k6; have H6 := bq_trans H5 k6; clear l6 k6 Bw_5 Bm_5 Br_5 H5)
      | (refine wl_store 25 6 size27 _ _ rfl rfl _ rfl #[.int .i64 65536, .int .i64 0, .int .i64 0, .int .i64 65536, .int .i64 0, .int .i64 0] rfl _ _ Be_6 rfl rfl (by kernel_rfl) ?_; intro W7 Be_7 T7; have Bw_7 := T7.blk Bw_6 nwe; have Bm_7 := T7.blk Bm_6 nme; have Br_7 := T7.blk Br_6 nre; have H7 := T7.below H6 ge; clear T7 Bw_6 Bm_6 Br_6 Be_6 H6; have cm_0_7 : W7.cell? ⟨bm, 0, none⟩ = some (.int .i64 a) := Bm_7.cell 0; have cm_1_7 : W7.cell? ⟨bm, 1, none⟩ = some (.int .i64 b) := Bm_7.cell 1; have cm_2_7 : W7.cell? ⟨bm, 2, none⟩ = some (.int .i64 c) := Bm_7.cell 2; have cm_3_7 : W7.cell? ⟨bm, 3, none⟩ = some (.int .i64 d) := Bm_7.cell 3; have ce_0_7 : W7.cell? ⟨be, 0, none⟩ = some (.int .i64 65536) := Be_7.cell 0; have ce_1_7 : W7.cell? ⟨be, 1, none⟩ = some (.int .i64 0) := Be_7.cell 1; have ce_2_7 : W7.cell? ⟨be, 2, none⟩ = some (.int .i64 0) := Be_7.cell 2; have ce_3_7 : W7.cell? ⟨be, 3, none⟩ = some (.int .i64 65536) := Be_7.cell 3)
      | (go_at_call 67; with_reducible refine (H1.out _).mono ?_; rintro e W8 ⟨rfl, k8⟩; have Bw_8 := Bw_7.keep k8; have Bm_8 := Bm_7.keep k8; have Br_8 := Br_7.keep k8; have Be_8 := Be_7.keep k8; have H8 := bq_trans H7 k8; clear k8 Bw_7 Bm_7 Br_7 Be_7 cm_0_7 cm_1_7 cm_2_7 cm_3_7 ce_0_7 ce_1_7 ce_2_7 ce_3_7 H7)
      | (refine wl_alloc 40 _ zero23 rfl rfl ?_; intro W9 bo Bo_9 l9 k9; have go : w.heap.size ≤ bo := Nat.le_trans H8.size l9; have nwo : bw ≠ bo := Nat.ne_of_lt (Nat.lt_of_lt_of_le Bw_8.lt l9); have nmo : bm ≠ bo := Nat.ne_of_lt (Nat.lt_of_lt_of_le Bm_8.lt l9); have nro : br ≠ bo := Nat.ne_of_lt (Nat.lt_of_lt_of_le Br_8.lt l9); have neo : be ≠ bo := Nat.ne_of_lt (Nat.lt_of_lt_of_le Be_8.lt l9); have Bw_9 := Bw_8.keep k9; have Bm_9 := Bm_8.keep k9; have Br_9 := Br_8.keep k9; have Be_9 := Be_8.keep k9; have H9 := bq_trans H8 k9; clear l9 k9 Bw_8 Bm_8 Br_8 Be_8 H8)
      | (refine wl_store 40 2 size23 _ _ rfl rfl _ rfl _ rfl _ _ Bo_9 rfl rfl (by kernel_rfl) ?_; intro W10 Bo_10 T10; have Bw_10 := T10.blk Bw_9 nwo; have Bm_10 := T10.blk Bm_9 nmo; have Br_10 := T10.blk Br_9 nro; have Be_10 := T10.blk Be_9 neo; have H10 := T10.below H9 go; clear T10 Bw_9 Bm_9 Br_9 Be_9 Bo_9 H9)
      | (refine wl_load 40 2 _ Try.underlying40 rfl size23 _ rfl rfl _ rfl _ _ Bo_10 rfl ?_)
      | (go_at_call 67; with_reducible refine (H3.out _).mono ?_; rintro e W11 ⟨rfl, k11⟩; have Bw_11 := Bw_10.keep k11; have Bm_11 := Bm_10.keep k11; have Br_11 := Br_10.keep k11; have Be_11 := Be_10.keep k11; have Bo_11 := Bo_10.keep k11; have H11 := bq_trans H10 k11; clear k11 Bw_10 Bm_10 Br_10 Be_10 Bo_10 H10)
      | (refine wl_store 40 2 size23 _ _ rfl rfl _ rfl _ rfl _ _ Bo_11 rfl rfl (by kernel_rfl) ?_; intro W12 Bo_12 T12; have Bw_12 := T12.blk Bw_11 nwo; have Bm_12 := T12.blk Bm_11 nmo; have Br_12 := T12.blk Br_11 nro; have Be_12 := T12.blk Be_11 neo; have H12 := T12.below H11 go; clear T12 Bw_11 Bm_11 Br_11 Be_11 Bo_11 H11))
    have BY := Bo_12
    rw [HU.out] at BY
    have BR := Lib.hid Br_12
    have HB := Lib.hid H12
    have HC : Hid (∀ w', But br br W12 w' → w'.cell? ⟨bw, 0, none⟩ = some (.string s) ∧ w'.cell? ⟨bw, 1, none⟩ = some (.int .i64 f) ∧ w'.cell? ⟨bo, 0, none⟩ = some (.string u4) ∧ w'.cell? ⟨bo, 1, none⟩ = some (.int .i64 v4) ∧ w'.cell? ⟨bm, 4, none⟩ = some (.int .i64 x) ∧ w'.cell? ⟨bm, 5, none⟩ = some (.int .i64 y)) := Lib.hid fun w' hw' =>
      ⟨(Bw_12.but hw' nwr nwr).cell 0, (Bw_12.but hw' nwr nwr).cell 1, (BY.but hw' (Ne.symm nro) (Ne.symm nro)).cell 0, (BY.but hw' (Ne.symm nro) (Ne.symm nro)).cell 1, (Bm_12.but hw' nmr nmr).cell 4, (Bm_12.but hw' nmr nmr).cell 5⟩
    have hd0 : Below W12.heap.size W12 W12.drew := bq_drew (bq_refl W12)
    have g2 := gr
    clear HR H1 H3 HU BY Bw_12 Bm_12 Br_12 Be_12 Bo_12 H12 neo nme nmo nmr nre nro nwe nwm nwo nwr gw gm gr ge go
    go_region_held3 (fun w' => w'.cell? ⟨bw, 0, none⟩ = some (.string s) ∧ w'.cell? ⟨bw, 1, none⟩ = some (.int .i64 f) ∧ w'.cell? ⟨bo, 0, none⟩ = some (.string u4) ∧ w'.cell? ⟨bo, 1, none⟩ = some (.int .i64 v4) ∧ w'.cell? ⟨bm, 4, none⟩ = some (.int .i64 x) ∧ w'.cell? ⟨bm, 5, none⟩ = some (.int .i64 y))
      ((refine HC.out _ ?_; repeat' (first | exact But.of (by assumption) | exact But.of (bq_drew (bq_alloc (bq_refl _) _)) | exact But.of (bq_drew (bq_refl _)) | refine But.setp _ _ ?_ | refine But.setq _ _ ?_)))
      (first
        | (go_at_call 68; refine (H5.out W12 _ _ (by first | assumption | exact bq_drew (bq_alloc (bq_refl _) _)) (Blk.drew (blk_new _ _ _))).mono ?_; rintro e w9 ⟨rfl, hb9⟩)
        | (go_at_call 69; refine (H6.out W12 _ (by assumption)).mono ?_; rintro e w10 ⟨rfl, hb10⟩; have d0 := (BR.out.keep hb10).cell 0; have d1 := (BR.out.keep hb10).cell 1; have f0 := (BR.out.keep hb10).frozen 0; have f1 := (BR.out.keep hb10).frozen 1))
    have B9 : Blk ((w10.setCell ⟨br, 0, none⟩ (.string (s ++ u5))).setCell ⟨br, 1, none⟩ (.int .i64 0)) br #[.string (s ++ u5), .int .i64 0] 40 := ((BR.out.keep hb10).set 0 _).set 1 _
    go_wp2
    exact post_cell_tmp (v := .int .i64 0) Try.underlying40 rfl size23 Try.results52 B9 rfl rfl rfl rfl ⟨rfl, bq_set (bq_set (bq_trans HB.out hb10) _ g2 _) _ g2 _⟩
end Go.Proofs.Ythlnjipefeglpaa
namespace Go.Proofs.Ythlnjipefeglpaa
open Go.RowKit
set_option linter.unusedVariables false
set_option maxHeartbeats 4000000 in
theorem putmatrix_01 (s u4 u5 : ByteArray) (f v4 v5 a b c d x y : Int) (q1 q2 : Bool) (f1 f2 f3 f4 : List (Nat × Nat)) (w : World)
    (h1 : (a != 65536) = false ∧ (d != 65536) = false) (h2 : (b != 0) = true ∨ (b != 0) = false ∧ (c != 0) = true) (e1 : q1 = false) (e2 : q2 = true)
    (HR : Hid (∀ W, Calls Try.prog 25 #[.agg #[.int .i64 a, .int .i64 b, .int .i64 c, .int .i64 d, .int .i64 x, .int .i64 y]] W fun e w' => e = .returned (.bool true) ∧ Below W.heap.size W w'))
    (H1 : Hid (∀ W, Calls Try.prog 67 #[.agg #[.string ⟨#[]⟩, .int .i64 0], .bool q1] W fun e w' => e = .returned (.agg (wrA f1)) ∧ Below W.heap.size W w'))
    (H2 : Hid (q1 = true → ∀ W g, Blk W g (iA [a, d]) 3 → Calls Try.prog 68 #[.agg (wrA f1), .int .i64 5, .slice (some ⟨g, 0, none⟩) 2 2] W fun e w' => e = .returned (.agg (wrA f2)) ∧ Below W.heap.size W w'))
    (E2 : Hid (q1 = false → f2 = f1))
    (H3 : Hid (∀ W, Calls Try.prog 67 #[.agg (wrA f2), .bool q2] W fun e w' => e = .returned (.agg (wrA f3)) ∧ Below W.heap.size W w'))
    (H4 : Hid (q2 = true → ∀ W g, Blk W g (iA [b, c]) 3 → Calls Try.prog 68 #[.agg (wrA f3), .int .i64 5, .slice (some ⟨g, 0, none⟩) 2 2] W fun e w' => e = .returned (.agg (wrA f4)) ∧ Below W.heap.size W w'))
    (E4 : Hid (q2 = false → f4 = f3))
    (H5 : Hid (∀ W0 W g, Below W0.heap.size W0 W → Blk W g (iA [x, y]) 3 → Calls Try.prog 68 #[.agg #[.string u4, .int .i64 v4], .int .i64 5, .slice (some ⟨g, 0, none⟩) 2 2] W fun e w' => e = .returned (.agg #[.string u5, .int .i64 v5]) ∧ Below W0.heap.size W0 w'))
    (H6 : Hid (∀ W0 W, Below W0.heap.size W0 W → Calls Try.prog 69 #[.agg #[.string s, .int .i64 f], .agg #[.string u5, .int .i64 v5]] W fun e w' => e = .returned (.agg #[.string (s ++ u5), .int .i64 0]) ∧ Below W0.heap.size W0 w'))
    (HU : Hid (wrA f4 = #[.string u4, .int .i64 v4]))
    : Calls Try.prog 52 #[.agg #[.string s, .int .i64 f], .agg #[.int .i64 a, .int .i64 b, .int .i64 c, .int .i64 d, .int .i64 x, .int .i64 y]] w fun e w' => e = .returned (.tuple #[.agg #[.string (s ++ u5), .int .i64 0], .int .i64 0]) ∧ Below w.heap.size w w' := by
  subst e1
  subst e2
  obtain rfl := E2.out rfl
  have H4b := Lib.hid (H4.out rfl)
  clear H2 E2 H4 E4
  rcases h1 with ⟨h1, h1b⟩ <;> rcases h2 with h2 | ⟨h2, h2b⟩
  all_goals
    go_enter Try.func52, Try.ntmps52
    go_wp2_with (first
      | (refine wl_box 40 _ _ rfl rfl (show _ = Value.agg #[.string s, .int .i64 f] from rfl) ?_; intro W1 bw Bw_1 l1 k1; have gw : w.heap.size ≤ bw := l1; have H1 := k1; clear l1 k1)
      | (refine wl_box 25 _ _ rfl rfl (show _ = Value.agg #[.int .i64 a, .int .i64 b, .int .i64 c, .int .i64 d, .int .i64 x, .int .i64 y] from rfl) ?_; intro W2 bm Bm_2 l2 k2; have gm : w.heap.size ≤ bm := Nat.le_trans H1.size l2; have nwm : bw ≠ bm := Nat.ne_of_lt (Nat.lt_of_lt_of_le Bw_1.lt l2); have Bw_2 := Bw_1.keep k2; have H2 := bq_trans H1 k2; clear l2 k2 Bw_1 H1)
      | (refine wl_alloc 40 _ zero23 rfl rfl ?_; intro W3 br Br_3 l3 k3; have gr : w.heap.size ≤ br := Nat.le_trans H2.size l3; have nwr : bw ≠ br := Nat.ne_of_lt (Nat.lt_of_lt_of_le Bw_2.lt l3); have nmr : bm ≠ br := Nat.ne_of_lt (Nat.lt_of_lt_of_le Bm_2.lt l3); have Bw_3 := Bw_2.keep k3; have Bm_3 := Bm_2.keep k3; have H3 := bq_trans H2 k3; clear l3 k3 Bw_2 Bm_2 H2)
      | (refine wl_load 25 6 _ Try.underlying25 rfl size27 _ rfl rfl _ rfl _ _ Bm_3 rfl ?_)
      | (go_at_call 25; with_reducible refine (HR.out _).mono ?_; rintro e W4 ⟨rfl, k4⟩; have Bw_4 := Bw_3.keep k4; have Bm_4 := Bm_3.keep k4; have Br_4 := Br_3.keep k4; have H4 := bq_trans H3 k4; clear k4 Bw_3 Bm_3 Br_3 H3)
      | (go_at_call 66; with_reducible refine (same_any _).mono ?_; rintro e W5 ⟨rfl, k5⟩; have Bw_5 := Bw_4.keep k5; have Bm_5 := Bm_4.keep k5; have Br_5 := Br_4.keep k5; have H5 := bq_trans H4 k5; clear k5 Bw_4 Bm_4 Br_4 H4)
      | (refine wl_alloc 25 _ zero27 rfl rfl ?_; intro W6 be Be_6 l6 k6; have ge : w.heap.size ≤ be := Nat.le_trans H5.size l6; have nwe : bw ≠ be := Nat.ne_of_lt (Nat.lt_of_lt_of_le Bw_5.lt l6); have nme : bm ≠ be := Nat.ne_of_lt (Nat.lt_of_lt_of_le Bm_5.lt l6); have nre : br ≠ be := Nat.ne_of_lt (Nat.lt_of_lt_of_le Br_5.lt l6); have Bw_6 := Bw_5.keep k6; have Bm_6 := Bm_5.keep k6; have Br_6 := Br_5.keep k6; have H6 := bq_trans H5 k6; clear l6 k6 Bw_5 Bm_5 Br_5 H5)
      | (refine wl_store 25 6 size27 _ _ rfl rfl _ rfl #[.int .i64 65536, .int .i64 0, .int .i64 0, .int .i64 65536, .int .i64 0, .int .i64 0] rfl _ _ Be_6 rfl rfl (by kernel_rfl) ?_; intro W7 Be_7 T7; have Bw_7 := T7.blk Bw_6 nwe; have Bm_7 := T7.blk Bm_6 nme; have Br_7 := T7.blk Br_6 nre; have H7 := T7.below H6 ge; clear T7 Bw_6 Bm_6 Br_6 Be_6 H6; have cm_0_7 : W7.cell? ⟨bm, 0, none⟩ = some (.int .i64 a) := Bm_7.cell 0; have cm_1_7 : W7.cell? ⟨bm, 1, none⟩ = some (.int .i64 b) := Bm_7.cell 1; have cm_2_7 : W7.cell? ⟨bm, 2, none⟩ = some (.int .i64 c) := Bm_7.cell 2; have cm_3_7 : W7.cell? ⟨bm, 3, none⟩ = some (.int .i64 d) := Bm_7.cell 3; have ce_0_7 : W7.cell? ⟨be, 0, none⟩ = some (.int .i64 65536) := Be_7.cell 0; have ce_1_7 : W7.cell? ⟨be, 1, none⟩ = some (.int .i64 0) := Be_7.cell 1; have ce_2_7 : W7.cell? ⟨be, 2, none⟩ = some (.int .i64 0) := Be_7.cell 2; have ce_3_7 : W7.cell? ⟨be, 3, none⟩ = some (.int .i64 65536) := Be_7.cell 3)
      | (go_at_call 67; with_reducible refine (H1.out _).mono ?_; rintro e W8 ⟨rfl, k8⟩; have Bw_8 := Bw_7.keep k8; have Bm_8 := Bm_7.keep k8; have Br_8 := Br_7.keep k8; have Be_8 := Be_7.keep k8; have H8 := bq_trans H7 k8; clear k8 Bw_7 Bm_7 Br_7 Be_7 cm_0_7 cm_1_7 cm_2_7 cm_3_7 ce_0_7 ce_1_7 ce_2_7 ce_3_7 H7)
      | (refine wl_alloc 40 _ zero23 rfl rfl ?_; intro W9 bo Bo_9 l9 k9; have go : w.heap.size ≤ bo := Nat.le_trans H8.size l9; have nwo : bw ≠ bo := Nat.ne_of_lt (Nat.lt_of_lt_of_le Bw_8.lt l9); have nmo : bm ≠ bo := Nat.ne_of_lt (Nat.lt_of_lt_of_le Bm_8.lt l9); have nro : br ≠ bo := Nat.ne_of_lt (Nat.lt_of_lt_of_le Br_8.lt l9); have neo : be ≠ bo := Nat.ne_of_lt (Nat.lt_of_lt_of_le Be_8.lt l9); have Bw_9 := Bw_8.keep k9; have Bm_9 := Bm_8.keep k9; have Br_9 := Br_8.keep k9; have Be_9 := Be_8.keep k9; have H9 := bq_trans H8 k9; clear l9 k9 Bw_8 Bm_8 Br_8 Be_8 H8)
      | (refine wl_store 40 2 size23 _ _ rfl rfl _ rfl _ rfl _ _ Bo_9 rfl rfl (by kernel_rfl) ?_; intro W10 Bo_10 T10; have Bw_10 := T10.blk Bw_9 nwo; have Bm_10 := T10.blk Bm_9 nmo; have Br_10 := T10.blk Br_9 nro; have Be_10 := T10.blk Be_9 neo; have H10 := T10.below H9 go; clear T10 Bw_9 Bm_9 Br_9 Be_9 Bo_9 H9)
      | (refine wl_load 40 2 _ Try.underlying40 rfl size23 _ rfl rfl _ rfl _ _ Bo_10 rfl ?_)
      | (go_at_call 67; with_reducible refine (H3.out _).mono ?_; rintro e W11 ⟨rfl, k11⟩; have Bw_11 := Bw_10.keep k11; have Bm_11 := Bm_10.keep k11; have Br_11 := Br_10.keep k11; have Be_11 := Be_10.keep k11; have Bo_11 := Bo_10.keep k11; have H11 := bq_trans H10 k11; clear k11 Bw_10 Bm_10 Br_10 Be_10 Bo_10 H10)
      | (refine wl_store 40 2 size23 _ _ rfl rfl _ rfl _ rfl _ _ Bo_11 rfl rfl (by kernel_rfl) ?_; intro W12 Bo_12 T12; have Bw_12 := T12.blk Bw_11 nwo; have Bm_12 := T12.blk Bm_11 nmo; have Br_12 := T12.blk Br_11 nro; have Be_12 := T12.blk Be_11 neo; have H12 := T12.below H11 go; clear T12 Bw_11 Bm_11 Br_11 Be_11 Bo_11 H11; have cm_1_12 : W12.cell? ⟨bm, 1, none⟩ = some (.int .i64 b) := Bm_12.cell 1; have cm_2_12 : W12.cell? ⟨bm, 2, none⟩ = some (.int .i64 c) := Bm_12.cell 2)
      | (refine wl_load 40 2 _ Try.underlying40 rfl size23 _ rfl rfl _ rfl _ _ Bo_12 rfl ?_)
      | (refine wlg_slice 90 3 2 _ _ (ints2_run b c) _ rfl rfl rfl ?_; intro W13 bi2 Bi2_13 l13 k13; have gi2 : w.heap.size ≤ bi2 := Nat.le_trans H12.size l13; have nwi2 : bw ≠ bi2 := Nat.ne_of_lt (Nat.lt_of_lt_of_le Bw_12.lt l13); have nmi2 : bm ≠ bi2 := Nat.ne_of_lt (Nat.lt_of_lt_of_le Bm_12.lt l13); have nri2 : br ≠ bi2 := Nat.ne_of_lt (Nat.lt_of_lt_of_le Br_12.lt l13); have nei2 : be ≠ bi2 := Nat.ne_of_lt (Nat.lt_of_lt_of_le Be_12.lt l13); have noi2 : bo ≠ bi2 := Nat.ne_of_lt (Nat.lt_of_lt_of_le Bo_12.lt l13); have Bw_13 := Bw_12.keep k13; have Bm_13 := Bm_12.keep k13; have Br_13 := Br_12.keep k13; have Be_13 := Be_12.keep k13; have Bo_13 := Bo_12.keep k13; have H13 := bq_trans H12 k13; clear l13 k13 Bw_12 Bm_12 Br_12 Be_12 Bo_12 cm_1_12 cm_2_12 H12)
      | (go_at_call 68; with_reducible refine (H4b.out _ _ Bi2_13).mono ?_; rintro e W14 ⟨rfl, k14⟩; have Bw_14 := Bw_13.keep k14; have Bm_14 := Bm_13.keep k14; have Br_14 := Br_13.keep k14; have Be_14 := Be_13.keep k14; have Bo_14 := Bo_13.keep k14; have Bi2_14 := Bi2_13.keep k14; have H14 := bq_trans H13 k14; clear k14 Bw_13 Bm_13 Br_13 Be_13 Bo_13 Bi2_13 H13)
      | (refine wl_store 40 2 size23 _ _ rfl rfl _ rfl _ rfl _ _ Bo_14 rfl rfl (by kernel_rfl) ?_; intro W15 Bo_15 T15; have Bw_15 := T15.blk Bw_14 nwo; have Bm_15 := T15.blk Bm_14 nmo; have Br_15 := T15.blk Br_14 nro; have Be_15 := T15.blk Be_14 neo; have Bi2_15 := T15.blk Bi2_14 (Ne.symm noi2); have H15 := T15.below H14 go; clear T15 Bw_14 Bm_14 Br_14 Be_14 Bi2_14 Bo_14 H14))
    have BY := Bo_15
    rw [HU.out] at BY
    have BR := Lib.hid Br_15
    have HB := Lib.hid H15
    have HC : Hid (∀ w', But br br W15 w' → w'.cell? ⟨bw, 0, none⟩ = some (.string s) ∧ w'.cell? ⟨bw, 1, none⟩ = some (.int .i64 f) ∧ w'.cell? ⟨bo, 0, none⟩ = some (.string u4) ∧ w'.cell? ⟨bo, 1, none⟩ = some (.int .i64 v4) ∧ w'.cell? ⟨bm, 4, none⟩ = some (.int .i64 x) ∧ w'.cell? ⟨bm, 5, none⟩ = some (.int .i64 y)) := Lib.hid fun w' hw' =>
      ⟨(Bw_15.but hw' nwr nwr).cell 0, (Bw_15.but hw' nwr nwr).cell 1, (BY.but hw' (Ne.symm nro) (Ne.symm nro)).cell 0, (BY.but hw' (Ne.symm nro) (Ne.symm nro)).cell 1, (Bm_15.but hw' nmr nmr).cell 4, (Bm_15.but hw' nmr nmr).cell 5⟩
    have hd0 : Below W15.heap.size W15 W15.drew := bq_drew (bq_refl W15)
    have g2 := gr
    clear HR H1 H3 HU BY Bw_15 Bm_15 Br_15 Be_15 Bo_15 Bi2_15 H15 nei2 neo nme nmi2 nmo nmr noi2 nre nri2 nro nwe nwi2 nwm nwo nwr gw gm gr ge go gi2 H4b
    go_region_held3 (fun w' => w'.cell? ⟨bw, 0, none⟩ = some (.string s) ∧ w'.cell? ⟨bw, 1, none⟩ = some (.int .i64 f) ∧ w'.cell? ⟨bo, 0, none⟩ = some (.string u4) ∧ w'.cell? ⟨bo, 1, none⟩ = some (.int .i64 v4) ∧ w'.cell? ⟨bm, 4, none⟩ = some (.int .i64 x) ∧ w'.cell? ⟨bm, 5, none⟩ = some (.int .i64 y))
      ((refine HC.out _ ?_; repeat' (first | exact But.of (by assumption) | exact But.of (bq_drew (bq_alloc (bq_refl _) _)) | exact But.of (bq_drew (bq_refl _)) | refine But.setp _ _ ?_ | refine But.setq _ _ ?_)))
      (first
        | (go_at_call 68; refine (H5.out W15 _ _ (by first | assumption | exact bq_drew (bq_alloc (bq_refl _) _)) (Blk.drew (blk_new _ _ _))).mono ?_; rintro e w9 ⟨rfl, hb9⟩)
        | (go_at_call 69; refine (H6.out W15 _ (by assumption)).mono ?_; rintro e w10 ⟨rfl, hb10⟩; have d0 := (BR.out.keep hb10).cell 0; have d1 := (BR.out.keep hb10).cell 1; have f0 := (BR.out.keep hb10).frozen 0; have f1 := (BR.out.keep hb10).frozen 1))
    have B9 : Blk ((w10.setCell ⟨br, 0, none⟩ (.string (s ++ u5))).setCell ⟨br, 1, none⟩ (.int .i64 0)) br #[.string (s ++ u5), .int .i64 0] 40 := ((BR.out.keep hb10).set 0 _).set 1 _
    go_wp2
    exact post_cell_tmp (v := .int .i64 0) Try.underlying40 rfl size23 Try.results52 B9 rfl rfl rfl rfl ⟨rfl, bq_set (bq_set (bq_trans HB.out hb10) _ g2 _) _ g2 _⟩
end Go.Proofs.Ythlnjipefeglpaa
