import Derived.Test.YtfaipbdkkkhacaaYC
import Derived.Test.YtfaipbdkkkhacaaYG
/- Layer 7: a matrix behind a writer, way by way. -/
namespace Go.Proofs.Ytfaipbdkkkhacaa
open Go.RowKit
set_option linter.unusedVariables false

set_option maxHeartbeats 4000000 in
theorem putmatrix_10 (s u4 u5 : ByteArray) (f v4 v5 a b c d x y : Int) (q1 q2 : Bool) (f1 f2 f3 f4 : List (Nat × Nat)) (w : World)
    (h1 : (a != 65536) = true ∨ (a != 65536) = false ∧ (d != 65536) = true) (h2 : (b != 0) = false ∧ (c != 0) = false) (e1 : q1 = true) (e2 : q2 = false)
    (HR : Hid (∀ W, Calls Try.prog 18 #[.agg #[.int .i64 a, .int .i64 b, .int .i64 c, .int .i64 d, .int .i64 x, .int .i64 y]] W fun e w' => e = .returned (.bool true) ∧ Below W.heap.size W w'))
    (H1 : Hid (∀ W, Calls Try.prog 40 #[.agg #[.string ⟨#[]⟩, .int .i64 0], .bool q1] W fun e w' => e = .returned (.agg (wrA f1)) ∧ Below W.heap.size W w'))
    (H2 : Hid (q1 = true → ∀ W g, Blk W g (iA [a, d]) 3 → Calls Try.prog 39 #[.agg (wrA f1), .int .i64 5, .slice (some ⟨g, 0, none⟩) 2 2] W fun e w' => e = .returned (.agg (wrA f2)) ∧ Below W.heap.size W w'))
    (E2 : Hid (q1 = false → f2 = f1))
    (H3 : Hid (∀ W, Calls Try.prog 40 #[.agg (wrA f2), .bool q2] W fun e w' => e = .returned (.agg (wrA f3)) ∧ Below W.heap.size W w'))
    (H4 : Hid (q2 = true → ∀ W g, Blk W g (iA [b, c]) 3 → Calls Try.prog 39 #[.agg (wrA f3), .int .i64 5, .slice (some ⟨g, 0, none⟩) 2 2] W fun e w' => e = .returned (.agg (wrA f4)) ∧ Below W.heap.size W w'))
    (E4 : Hid (q2 = false → f4 = f3))
    (H5 : Hid (∀ W0 W g, Below W0.heap.size W0 W → Blk W g (iA [x, y]) 3 → Calls Try.prog 39 #[.agg #[.string u4, .int .i64 v4], .int .i64 5, .slice (some ⟨g, 0, none⟩) 2 2] W fun e w' => e = .returned (.agg #[.string u5, .int .i64 v5]) ∧ Below W0.heap.size W0 w'))
    (H6 : Hid (∀ W0 W, Below W0.heap.size W0 W → Calls Try.prog 38 #[.agg #[.string s, .int .i64 f], .agg #[.string u5, .int .i64 v5]] W fun e w' => e = .returned (.agg #[.string (s ++ u5), .int .i64 0]) ∧ Below W0.heap.size W0 w'))
    (HU : Hid (wrA f4 = #[.string u4, .int .i64 v4]))
    : Calls Try.prog 10 #[.agg #[.string s, .int .i64 f], .agg #[.int .i64 a, .int .i64 b, .int .i64 c, .int .i64 d, .int .i64 x, .int .i64 y]] w fun e w' => e = .returned (.tuple #[.agg #[.string (s ++ u5), .int .i64 0], .int .i64 0]) ∧ Below w.heap.size w w' := by
  subst e1
  subst e2
  have H2b := Lib.hid (H2.out rfl)
  obtain rfl := E4.out rfl
  clear H2 E2 H4 E4
  rcases h1 with h1 | ⟨h1, h1b⟩ <;> rcases h2 with ⟨h2, h2b⟩
  all_goals
    go_enter Try.func10, Try.ntmps10
    go_wp2_with (first
      | (refine wl_box 23 _ _ rfl rfl (show _ = Value.agg #[.string s, .int .i64 f] from rfl) ?_; intro W1 bw Bw_1 l1 k1; have gw : w.heap.size ≤ bw := l1; have H1 := k1; clear l1 k1)
      | (refine wl_box 27 _ _ rfl rfl (show _ = Value.agg #[.int .i64 a, .int .i64 b, .int .i64 c, .int .i64 d, .int .i64 x, .int .i64 y] from rfl) ?_; intro W2 bm Bm_2 l2 k2; have gm : w.heap.size ≤ bm := Nat.le_trans H1.size l2; have nwm : bw ≠ bm := Nat.ne_of_lt (Nat.lt_of_lt_of_le Bw_1.lt l2); have Bw_2 := Bw_1.keep k2; have H2 := bq_trans H1 k2; clear l2 k2 Bw_1 H1)
      | (refine wl_alloc 23 _ zero23 rfl rfl ?_; intro W3 br Br_3 l3 k3; have gr : w.heap.size ≤ br := Nat.le_trans H2.size l3; have nwr : bw ≠ br := Nat.ne_of_lt (Nat.lt_of_lt_of_le Bw_2.lt l3); have nmr : bm ≠ br := Nat.ne_of_lt (Nat.lt_of_lt_of_le Bm_2.lt l3); have Bw_3 := Bw_2.keep k3; have Bm_3 := Bm_2.keep k3; have H3 := bq_trans H2 k3; clear l3 k3 Bw_2 Bm_2 H2)
      | (refine wl_load 27 6 _ Try.underlying27 rfl size27 _ rfl rfl _ rfl _ _ Bm_3 rfl ?_)
      | (go_at_call 18; with_reducible refine (HR.out _).mono ?_; rintro e W4 ⟨rfl, k4⟩; have Bw_4 := Bw_3.keep k4; have Bm_4 := Bm_3.keep k4; have Br_4 := Br_3.keep k4; have H4 := bq_trans H3 k4; clear k4 Bw_3 Bm_3 Br_3 H3)
      | (go_at_call 36; with_reducible refine (same_any _).mono ?_; rintro e W5 ⟨rfl, k5⟩; have Bw_5 := Bw_4.keep k5; have Bm_5 := Bm_4.keep k5; have Br_5 := Br_4.keep k5; have H5 := bq_trans H4 k5; clear k5 Bw_4 Bm_4 Br_4 H4)
      | (refine wl_alloc 27 _ zero27 rfl rfl ?_; intro W6 be Be_6 l6 k6; have ge : w.heap.size ≤ be := Nat.le_trans H5.size l6; have nwe : bw ≠ be := Nat.ne_of_lt (Nat.lt_of_lt_of_le Bw_5.lt l6); have nme : bm ≠ be := Nat.ne_of_lt (Nat.lt_of_lt_of_le Bm_5.lt l6); have nre : br ≠ be := Nat.ne_of_lt (Nat.lt_of_lt_of_le Br_5.lt l6); have Bw_6 := Bw_5.keep k6; have Bm_6 := Bm_5.keep k6; have Br_6 := Br_5.keep k6; have H6 := bq_trans H5 k6; clear l6 k6 Bw_5 Bm_5 Br_5 H5)
      | (refine wl_store 27 6 size27 _ _ rfl rfl _ rfl #[.int .i64 65536, .int .i64 0, .int .i64 0, .int .i64 65536, .int .i64 0, .int .i64 0] rfl _ _ Be_6 rfl rfl (by kernel_rfl) ?_; intro W7 Be_7 T7; have Bw_7 := T7.blk Bw_6 nwe; have Bm_7 := T7.blk Bm_6 nme; have Br_7 := T7.blk Br_6 nre; have H7 := T7.below H6 ge; clear T7 Bw_6 Bm_6 Br_6 Be_6 H6; have cm_0_7 : W7.cell? ⟨bm, 0, none⟩ = some (.int .i64 a) := Bm_7.cell 0; have cm_1_7 : W7.cell? ⟨bm, 1, none⟩ = some (.int .i64 b) := Bm_7.cell 1; have cm_2_7 : W7.cell? ⟨bm, 2, none⟩ = some (.int .i64 c) := Bm_7.cell 2; have cm_3_7 : W7.cell? ⟨bm, 3, none⟩ = some (.int .i64 d) := Bm_7.cell 3; have ce_0_7 : W7.cell? ⟨be, 0, none⟩ = some (.int .i64 65536) := Be_7.cell 0; have ce_1_7 : W7.cell? ⟨be, 1, none⟩ = some (.int .i64 0) := Be_7.cell 1; have ce_2_7 : W7.cell? ⟨be, 2, none⟩ = some (.int .i64 0) := Be_7.cell 2; have ce_3_7 : W7.cell? ⟨be, 3, none⟩ = some (.int .i64 65536) := Be_7.cell 3)
      | (go_at_call 40; with_reducible refine (H1.out _).mono ?_; rintro e W8 ⟨rfl, k8⟩; have Bw_8 := Bw_7.keep k8; have Bm_8 := Bm_7.keep k8; have Br_8 := Br_7.keep k8; have Be_8 := Be_7.keep k8; have H8 := bq_trans H7 k8; clear k8 Bw_7 Bm_7 Br_7 Be_7 cm_0_7 cm_1_7 cm_2_7 cm_3_7 ce_0_7 ce_1_7 ce_2_7 ce_3_7 H7)
      | (refine wl_alloc 23 _ zero23 rfl rfl ?_; intro W9 bo Bo_9 l9 k9; have go : w.heap.size ≤ bo := Nat.le_trans H8.size l9; have nwo : bw ≠ bo := Nat.ne_of_lt (Nat.lt_of_lt_of_le Bw_8.lt l9); have nmo : bm ≠ bo := Nat.ne_of_lt (Nat.lt_of_lt_of_le Bm_8.lt l9); have nro : br ≠ bo := Nat.ne_of_lt (Nat.lt_of_lt_of_le Br_8.lt l9); have neo : be ≠ bo := Nat.ne_of_lt (Nat.lt_of_lt_of_le Be_8.lt l9); have Bw_9 := Bw_8.keep k9; have Bm_9 := Bm_8.keep k9; have Br_9 := Br_8.keep k9; have Be_9 := Be_8.keep k9; have H9 := bq_trans H8 k9; clear l9 k9 Bw_8 Bm_8 Br_8 Be_8 H8)
      | (refine wl_store 23 2 size23 _ _ rfl rfl _ rfl _ rfl _ _ Bo_9 rfl rfl (by kernel_rfl) ?_; intro W10 Bo_10 T10; have Bw_10 := T10.blk Bw_9 nwo; have Bm_10 := T10.blk Bm_9 nmo; have Br_10 := T10.blk Br_9 nro; have Be_10 := T10.blk Be_9 neo; have H10 := T10.below H9 go; clear T10 Bw_9 Bm_9 Br_9 Be_9 Bo_9 H9; have cm_0_10 : W10.cell? ⟨bm, 0, none⟩ = some (.int .i64 a) := Bm_10.cell 0; have cm_3_10 : W10.cell? ⟨bm, 3, none⟩ = some (.int .i64 d) := Bm_10.cell 3)
      | (refine wl_load 23 2 _ Try.underlying23 rfl size23 _ rfl rfl _ rfl _ _ Bo_10 rfl ?_)
      | (refine wlg_slice 82 3 2 _ _ (ints2_run a d) _ rfl rfl rfl ?_; intro W11 bi1 Bi1_11 l11 k11; have gi1 : w.heap.size ≤ bi1 := Nat.le_trans H10.size l11; have nwi1 : bw ≠ bi1 := Nat.ne_of_lt (Nat.lt_of_lt_of_le Bw_10.lt l11); have nmi1 : bm ≠ bi1 := Nat.ne_of_lt (Nat.lt_of_lt_of_le Bm_10.lt l11); have nri1 : br ≠ bi1 := Nat.ne_of_lt (Nat.lt_of_lt_of_le Br_10.lt l11); have nei1 : be ≠ bi1 := Nat.ne_of_lt (Nat.lt_of_lt_of_le Be_10.lt l11); have noi1 : bo ≠ bi1 := Nat.ne_of_lt (Nat.lt_of_lt_of_le Bo_10.lt l11); have Bw_11 := Bw_10.keep k11; have Bm_11 := Bm_10.keep k11; have Br_11 := Br_10.keep k11; have Be_11 := Be_10.keep k11; have Bo_11 := Bo_10.keep k11; have H11 := bq_trans H10 k11; clear l11 k11 Bw_10 Bm_10 Br_10 Be_10 Bo_10 cm_0_10 cm_3_10 H10)
      | (go_at_call 39; with_reducible refine (H2b.out _ _ Bi1_11).mono ?_; rintro e W12 ⟨rfl, k12⟩; have Bw_12 := Bw_11.keep k12; have Bm_12 := Bm_11.keep k12; have Br_12 := Br_11.keep k12; have Be_12 := Be_11.keep k12; have Bo_12 := Bo_11.keep k12; have Bi1_12 := Bi1_11.keep k12; have H12 := bq_trans H11 k12; clear k12 Bw_11 Bm_11 Br_11 Be_11 Bo_11 Bi1_11 H11)
      | (refine wl_store 23 2 size23 _ _ rfl rfl _ rfl _ rfl _ _ Bo_12 rfl rfl (by kernel_rfl) ?_; intro W13 Bo_13 T13; have Bw_13 := T13.blk Bw_12 nwo; have Bm_13 := T13.blk Bm_12 nmo; have Br_13 := T13.blk Br_12 nro; have Be_13 := T13.blk Be_12 neo; have Bi1_13 := T13.blk Bi1_12 (Ne.symm noi1); have H13 := T13.below H12 go; clear T13 Bw_12 Bm_12 Br_12 Be_12 Bi1_12 Bo_12 H12)
      | (refine wl_load 23 2 _ Try.underlying23 rfl size23 _ rfl rfl _ rfl _ _ Bo_13 rfl ?_)
      | (go_at_call 40; with_reducible refine (H3.out _).mono ?_; rintro e W14 ⟨rfl, k14⟩; have Bw_14 := Bw_13.keep k14; have Bm_14 := Bm_13.keep k14; have Br_14 := Br_13.keep k14; have Be_14 := Be_13.keep k14; have Bo_14 := Bo_13.keep k14; have Bi1_14 := Bi1_13.keep k14; have H14 := bq_trans H13 k14; clear k14 Bw_13 Bm_13 Br_13 Be_13 Bo_13 Bi1_13 H13)
      | (refine wl_store 23 2 size23 _ _ rfl rfl _ rfl _ rfl _ _ Bo_14 rfl rfl (by kernel_rfl) ?_; intro W15 Bo_15 T15; have Bw_15 := T15.blk Bw_14 nwo; have Bm_15 := T15.blk Bm_14 nmo; have Br_15 := T15.blk Br_14 nro; have Be_15 := T15.blk Be_14 neo; have Bi1_15 := T15.blk Bi1_14 (Ne.symm noi1); have H15 := T15.below H14 go; clear T15 Bw_14 Bm_14 Br_14 Be_14 Bi1_14 Bo_14 H14))
    have BY := Bo_15
    rw [HU.out] at BY
    have BR := Lib.hid Br_15
    have HB := Lib.hid H15
    have HC : Hid (∀ w', But br br W15 w' → w'.cell? ⟨bw, 0, none⟩ = some (.string s) ∧ w'.cell? ⟨bw, 1, none⟩ = some (.int .i64 f) ∧ w'.cell? ⟨bo, 0, none⟩ = some (.string u4) ∧ w'.cell? ⟨bo, 1, none⟩ = some (.int .i64 v4) ∧ w'.cell? ⟨bm, 4, none⟩ = some (.int .i64 x) ∧ w'.cell? ⟨bm, 5, none⟩ = some (.int .i64 y)) := Lib.hid fun w' hw' =>
      ⟨(Bw_15.but hw' nwr nwr).cell 0, (Bw_15.but hw' nwr nwr).cell 1, (BY.but hw' (Ne.symm nro) (Ne.symm nro)).cell 0, (BY.but hw' (Ne.symm nro) (Ne.symm nro)).cell 1, (Bm_15.but hw' nmr nmr).cell 4, (Bm_15.but hw' nmr nmr).cell 5⟩
    have hd0 : Below W15.heap.size W15 W15.drew := bq_drew (bq_refl W15)
    have g2 := gr
    clear HR H1 H3 HU BY Bw_15 Bm_15 Br_15 Be_15 Bo_15 Bi1_15 H15 nei1 neo nme nmi1 nmo nmr noi1 nre nri1 nro nwe nwi1 nwm nwo nwr gw gm gr ge go gi1 H2b
    go_region_held3 (fun w' => w'.cell? ⟨bw, 0, none⟩ = some (.string s) ∧ w'.cell? ⟨bw, 1, none⟩ = some (.int .i64 f) ∧ w'.cell? ⟨bo, 0, none⟩ = some (.string u4) ∧ w'.cell? ⟨bo, 1, none⟩ = some (.int .i64 v4) ∧ w'.cell? ⟨bm, 4, none⟩ = some (.int .i64 x) ∧ w'.cell? ⟨bm, 5, none⟩ = some (.int .i64 y))
      ((refine HC.out _ ?_; repeat' (first | exact But.of (by assumption) | exact But.of (bq_drew (bq_alloc (bq_refl _) _)) | exact But.of (bq_drew (bq_refl _)) | refine But.setp _ _ ?_ | refine But.setq _ _ ?_)))
      (first
        | (go_at_call 39; refine (H5.out W15 _ _ (by first | assumption | exact bq_drew (bq_alloc (bq_refl _) _)) (Blk.drew (blk_new _ _ _))).mono ?_; rintro e w9 ⟨rfl, hb9⟩)
        | (go_at_call 38; refine (H6.out W15 _ (by assumption)).mono ?_; rintro e w10 ⟨rfl, hb10⟩; have d0 := (BR.out.keep hb10).cell 0; have d1 := (BR.out.keep hb10).cell 1; have f0 := (BR.out.keep hb10).frozen 0; have f1 := (BR.out.keep hb10).frozen 1))
    have B9 : Blk ((w10.setCell ⟨br, 0, none⟩ (.string (s ++ u5))).setCell ⟨br, 1, none⟩ (.int .i64 0)) br #[.string (s ++ u5), .int .i64 0] 23 := ((BR.out.keep hb10).set 0 _).set 1 _
    go_wp2
    exact post_cell_tmp (v := .int .i64 0) Try.underlying23 rfl size23 Try.results10 B9 rfl rfl rfl rfl ⟨rfl, bq_set (bq_set (bq_trans HB.out hb10) _ g2 _) _ g2 _⟩
end Go.Proofs.Ytfaipbdkkkhacaa
/- Layer 7: a matrix behind a writer, way by way. -/
namespace Go.Proofs.Ytfaipbdkkkhacaa
open Go.RowKit
set_option linter.unusedVariables false

set_option maxHeartbeats 4000000 in
theorem putmatrix_11 (s u4 u5 : ByteArray) (f v4 v5 a b c d x y : Int) (q1 q2 : Bool) (f1 f2 f3 f4 : List (Nat × Nat)) (w : World)
    (h1 : (a != 65536) = true ∨ (a != 65536) = false ∧ (d != 65536) = true) (h2 : (b != 0) = true ∨ (b != 0) = false ∧ (c != 0) = true) (e1 : q1 = true) (e2 : q2 = true)
    (HR : Hid (∀ W, Calls Try.prog 18 #[.agg #[.int .i64 a, .int .i64 b, .int .i64 c, .int .i64 d, .int .i64 x, .int .i64 y]] W fun e w' => e = .returned (.bool true) ∧ Below W.heap.size W w'))
    (H1 : Hid (∀ W, Calls Try.prog 40 #[.agg #[.string ⟨#[]⟩, .int .i64 0], .bool q1] W fun e w' => e = .returned (.agg (wrA f1)) ∧ Below W.heap.size W w'))
    (H2 : Hid (q1 = true → ∀ W g, Blk W g (iA [a, d]) 3 → Calls Try.prog 39 #[.agg (wrA f1), .int .i64 5, .slice (some ⟨g, 0, none⟩) 2 2] W fun e w' => e = .returned (.agg (wrA f2)) ∧ Below W.heap.size W w'))
    (E2 : Hid (q1 = false → f2 = f1))
    (H3 : Hid (∀ W, Calls Try.prog 40 #[.agg (wrA f2), .bool q2] W fun e w' => e = .returned (.agg (wrA f3)) ∧ Below W.heap.size W w'))
    (H4 : Hid (q2 = true → ∀ W g, Blk W g (iA [b, c]) 3 → Calls Try.prog 39 #[.agg (wrA f3), .int .i64 5, .slice (some ⟨g, 0, none⟩) 2 2] W fun e w' => e = .returned (.agg (wrA f4)) ∧ Below W.heap.size W w'))
    (E4 : Hid (q2 = false → f4 = f3))
    (H5 : Hid (∀ W0 W g, Below W0.heap.size W0 W → Blk W g (iA [x, y]) 3 → Calls Try.prog 39 #[.agg #[.string u4, .int .i64 v4], .int .i64 5, .slice (some ⟨g, 0, none⟩) 2 2] W fun e w' => e = .returned (.agg #[.string u5, .int .i64 v5]) ∧ Below W0.heap.size W0 w'))
    (H6 : Hid (∀ W0 W, Below W0.heap.size W0 W → Calls Try.prog 38 #[.agg #[.string s, .int .i64 f], .agg #[.string u5, .int .i64 v5]] W fun e w' => e = .returned (.agg #[.string (s ++ u5), .int .i64 0]) ∧ Below W0.heap.size W0 w'))
    (HU : Hid (wrA f4 = #[.string u4, .int .i64 v4]))
    : Calls Try.prog 10 #[.agg #[.string s, .int .i64 f], .agg #[.int .i64 a, .int .i64 b, .int .i64 c, .int .i64 d, .int .i64 x, .int .i64 y]] w fun e w' => e = .returned (.tuple #[.agg #[.string (s ++ u5), .int .i64 0], .int .i64 0]) ∧ Below w.heap.size w w' := by
  subst e1
  subst e2
  have H2b := Lib.hid (H2.out rfl)
  have H4b := Lib.hid (H4.out rfl)
  clear H2 E2 H4 E4
  rcases h1 with h1 | ⟨h1, h1b⟩ <;> rcases h2 with h2 | ⟨h2, h2b⟩
  all_goals
    go_enter Try.func10, Try.ntmps10
    go_wp2_with (first
      | (refine wl_box 23 _ _ rfl rfl (show _ = Value.agg #[.string s, .int .i64 f] from rfl) ?_; intro W1 bw Bw_1 l1 k1; have gw : w.heap.size ≤ bw := l1; have H1 := k1; clear l1 k1)
      | (refine wl_box 27 _ _ rfl rfl (show _ = Value.agg #[.int .i64 a, .int .i64 b, .int .i64 c, .int .i64 d, .int .i64 x, .int .i64 y] from rfl) ?_; intro W2 bm Bm_2 l2 k2; have gm : w.heap.size ≤ bm := Nat.le_trans H1.size l2; have nwm : bw ≠ bm := Nat.ne_of_lt (Nat.lt_of_lt_of_le Bw_1.lt l2); have Bw_2 := Bw_1.keep k2; have H2 := bq_trans H1 k2; clear l2 k2 Bw_1 H1)
      | (refine wl_alloc 23 _ zero23 rfl rfl ?_; intro W3 br Br_3 l3 k3; have gr : w.heap.size ≤ br := Nat.le_trans H2.size l3; have nwr : bw ≠ br := Nat.ne_of_lt (Nat.lt_of_lt_of_le Bw_2.lt l3); have nmr : bm ≠ br := Nat.ne_of_lt (Nat.lt_of_lt_of_le Bm_2.lt l3); have Bw_3 := Bw_2.keep k3; have Bm_3 := Bm_2.keep k3; have H3 := bq_trans H2 k3; clear l3 k3 Bw_2 Bm_2 H2)
      | (refine wl_load 27 6 _ Try.underlying27 rfl size27 _ rfl rfl _ rfl _ _ Bm_3 rfl ?_)
      | (go_at_call 18; with_reducible refine (HR.out _).mono ?_; rintro e W4 ⟨rfl, k4⟩; have Bw_4 := Bw_3.keep k4; have Bm_4 := Bm_3.keep k4; have Br_4 := Br_3.keep k4; have H4 := bq_trans H3 k4; clear k4 Bw_3 Bm_3 Br_3 H3)
      | (go_at_call 36; with_reducible refine (same_any _).mono ?_; rintro e W5 ⟨rfl, k5⟩; have Bw_5 := Bw_4.keep k5; have Bm_5 := Bm_4.keep k5; have Br_5 := Br_4.keep k5; have H5 := bq_trans H4 k5; clear k5 Bw_4 Bm_4 Br_4 H4)
      | (refine wl_alloc 27 _ zero27 rfl rfl ?_; intro W6 be Be_6 l6 k6; have ge : w.heap.size ≤ be := Nat.le_trans H5.size l6; have nwe : bw ≠ be := Nat.ne_of_lt (Nat.lt_of_lt_of_le Bw_5.lt l6); have nme : bm ≠ be := Nat.ne_of_lt (Nat.lt_of_lt_of_le Bm_5.lt l6); have nre : br ≠ be := Nat.ne_of_lt (Nat.lt_of_lt_of_le Br_5.lt l6); have Bw_6 := Bw_5.keep k6; have Bm_6 := Bm_5.keep k6; have Br_6 := Br_5.keep k6; have H6 := bq_trans H5 k6; clear l6 k6 Bw_5 Bm_5 Br_5 H5)
      | (refine wl_store 27 6 size27 _ _ rfl rfl _ rfl #[.int .i64 65536, .int .i64 0, .int .i64 0, .int .i64 65536, .int .i64 0, .int .i64 0] rfl _ _ Be_6 rfl rfl (by kernel_rfl) ?_; intro W7 Be_7 T7; have Bw_7 := T7.blk Bw_6 nwe; have Bm_7 := T7.blk Bm_6 nme; have Br_7 := T7.blk Br_6 nre; have H7 := T7.below H6 ge; clear T7 Bw_6 Bm_6 Br_6 Be_6 H6; have cm_0_7 : W7.cell? ⟨bm, 0, none⟩ = some (.int .i64 a) := Bm_7.cell 0; have cm_1_7 : W7.cell? ⟨bm, 1, none⟩ = some (.int .i64 b) := Bm_7.cell 1; have cm_2_7 : W7.cell? ⟨bm, 2, none⟩ = some (.int .i64 c) := Bm_7.cell 2; have cm_3_7 : W7.cell? ⟨bm, 3, none⟩ = some (.int .i64 d) := Bm_7.cell 3; have ce_0_7 : W7.cell? ⟨be, 0, none⟩ = some (.int .i64 65536) := Be_7.cell 0; have ce_1_7 : W7.cell? ⟨be, 1, none⟩ = some (.int .i64 0) := Be_7.cell 1; have ce_2_7 : W7.cell? ⟨be, 2, none⟩ = some (.int .i64 0) := Be_7.cell 2; have ce_3_7 : W7.cell? ⟨be, 3, none⟩ = some (.int .i64 65536) := Be_7.cell 3)
      | (go_at_call 40; with_reducible refine (H1.out _).mono ?_; rintro e W8 ⟨rfl, k8⟩; have Bw_8 := Bw_7.keep k8; have Bm_8 := Bm_7.keep k8; have Br_8 := Br_7.keep k8; have Be_8 := Be_7.keep k8; have H8 := bq_trans H7 k8; clear k8 Bw_7 Bm_7 Br_7 Be_7 cm_0_7 cm_1_7 cm_2_7 cm_3_7 ce_0_7 ce_1_7 ce_2_7 ce_3_7 H7)
      | (refine wl_alloc 23 _ zero23 rfl rfl ?_; intro W9 bo Bo_9 l9 k9; have go : w.heap.size ≤ bo := Nat.le_trans H8.size l9; have nwo : bw ≠ bo := Nat.ne_of_lt (Nat.lt_of_lt_of_le Bw_8.lt l9); have nmo : bm ≠ bo := Nat.ne_of_lt (Nat.lt_of_lt_of_le Bm_8.lt l9); have nro : br ≠ bo := Nat.ne_of_lt (Nat.lt_of_lt_of_le Br_8.lt l9); have neo : be ≠ bo := Nat.ne_of_lt (Nat.lt_of_lt_of_le Be_8.lt l9); have Bw_9 := Bw_8.keep k9; have Bm_9 := Bm_8.keep k9; have Br_9 := Br_8.keep k9; have Be_9 := Be_8.keep k9; have H9 := bq_trans H8 k9; clear l9 k9 Bw_8 Bm_8 Br_8 Be_8 H8)
      | (refine wl_store 23 2 size23 _ _ rfl rfl _ rfl _ rfl _ _ Bo_9 rfl rfl (by kernel_rfl) ?_; intro W10 Bo_10 T10; have Bw_10 := T10.blk Bw_9 nwo; have Bm_10 := T10.blk Bm_9 nmo; have Br_10 := T10.blk Br_9 nro; have Be_10 := T10.blk Be_9 neo; have H10 := T10.below H9 go; clear T10 Bw_9 Bm_9 Br_9 Be_9 Bo_9 H9; have cm_0_10 : W10.cell? ⟨bm, 0, none⟩ = some (.int .i64 a) := Bm_10.cell 0; have cm_3_10 : W10.cell? ⟨bm, 3, none⟩ = some (.int .i64 d) := Bm_10.cell 3)
      | (refine wl_load 23 2 _ Try.underlying23 rfl size23 _ rfl rfl _ rfl _ _ Bo_10 rfl ?_)
      | (refine wlg_slice 82 3 2 _ _ (ints2_run a d) _ rfl rfl rfl ?_; intro W11 bi1 Bi1_11 l11 k11; have gi1 : w.heap.size ≤ bi1 := Nat.le_trans H10.size l11; have nwi1 : bw ≠ bi1 := Nat.ne_of_lt (Nat.lt_of_lt_of_le Bw_10.lt l11); have nmi1 : bm ≠ bi1 := Nat.ne_of_lt (Nat.lt_of_lt_of_le Bm_10.lt l11); have nri1 : br ≠ bi1 := Nat.ne_of_lt (Nat.lt_of_lt_of_le Br_10.lt l11); have nei1 : be ≠ bi1 := Nat.ne_of_lt (Nat.lt_of_lt_of_le Be_10.lt l11); have noi1 : bo ≠ bi1 := Nat.ne_of_lt (Nat.lt_of_lt_of_le Bo_10.lt l11); have Bw_11 := Bw_10.keep k11; have Bm_11 := Bm_10.keep k11; have Br_11 := Br_10.keep k11; have Be_11 := Be_10.keep k11; have Bo_11 := Bo_10.keep k11; have H11 := bq_trans H10 k11; clear l11 k11 Bw_10 Bm_10 Br_10 Be_10 Bo_10 cm_0_10 cm_3_10 H10)
      | (go_at_call 39; with_reducible refine (H2b.out _ _ Bi1_11).mono ?_; rintro e W12 ⟨rfl, k12⟩; have Bw_12 := Bw_11.keep k12; have Bm_12 := Bm_11.keep k12; have Br_12 := Br_11.keep k12; have Be_12 := Be_11.keep k12; have Bo_12 := Bo_11.keep k12; have Bi1_12 := Bi1_11.keep k12; have H12 := bq_trans H11 k12; clear k12 Bw_11 Bm_11 Br_11 Be_11 Bo_11 Bi1_11 H11)
      | (refine wl_store 23 2 size23 _ _ rfl rfl _ rfl _ rfl _ _ Bo_12 rfl rfl (by kernel_rfl) ?_; intro W13 Bo_13 T13; have Bw_13 := T13.blk Bw_12 nwo; have Bm_13 := T13.blk Bm_12 nmo; have Br_13 := T13.blk Br_12 nro; have Be_13 := T13.blk Be_12 neo; have Bi1_13 := T13.blk Bi1_12 (Ne.symm noi1); have H13 := T13.below H12 go; clear T13 Bw_12 Bm_12 Br_12 Be_12 Bi1_12 Bo_12 H12)
      | (refine wl_load 23 2 _ Try.underlying23 rfl size23 _ rfl rfl _ rfl _ _ Bo_13 rfl ?_)
      | (go_at_call 40; with_reducible refine (H3.out _).mono ?_; rintro e W14 ⟨rfl, k14⟩; have Bw_14 := Bw_13.keep k14; have Bm_14 := Bm_13.keep k14; have Br_14 := Br_13.keep k14; have Be_14 := Be_13.keep k14; have Bo_14 := Bo_13.keep k14; have Bi1_14 := Bi1_13.keep k14; have H14 := bq_trans H13 k14; clear k14 Bw_13 Bm_13 Br_13 Be_13 Bo_13 Bi1_13 H13)
      | (refine wl_store 23 2 size23 _ _ rfl rfl _ rfl _ rfl _ _ Bo_14 rfl rfl (by kernel_rfl) ?_; intro W15 Bo_15 T15; have Bw_15 := T15.blk Bw_14 nwo; have Bm_15 := T15.blk Bm_14 nmo; have Br_15 := T15.blk Br_14 nro; have Be_15 := T15.blk Be_14 neo; have Bi1_15 := T15.blk Bi1_14 (Ne.symm noi1); have H15 := T15.below H14 go; clear T15 Bw_14 Bm_14 Br_14 Be_14 Bi1_14 Bo_14 H14; have cm_1_15 : W15.cell? ⟨bm, 1, none⟩ = some (.int .i64 b) := Bm_15.cell 1; have cm_2_15 : W15.cell? ⟨bm, 2, none⟩ = some (.int .i64 c) := Bm_15.cell 2)
      | (refine wl_load 23 2 _ Try.underlying23 rfl size23 _ rfl rfl _ rfl _ _ Bo_15 rfl ?_)
      | (refine wlg_slice 82 3 2 _ _ (ints2_run b c) _ rfl rfl rfl ?_; intro W16 bi2 Bi2_16 l16 k16; have gi2 : w.heap.size ≤ bi2 := Nat.le_trans H15.size l16; have nwi2 : bw ≠ bi2 := Nat.ne_of_lt (Nat.lt_of_lt_of_le Bw_15.lt l16); have nmi2 : bm ≠ bi2 := Nat.ne_of_lt (Nat.lt_of_lt_of_le Bm_15.lt l16); have nri2 : br ≠ bi2 := Nat.ne_of_lt (Nat.lt_of_lt_of_le Br_15.lt l16); have nei2 : be ≠ bi2 := Nat.ne_of_lt (Nat.lt_of_lt_of_le Be_15.lt l16); have noi2 : bo ≠ bi2 := Nat.ne_of_lt (Nat.lt_of_lt_of_le Bo_15.lt l16); have ni1i2 : bi1 ≠ bi2 := Nat.ne_of_lt (Nat.lt_of_lt_of_le Bi1_15.lt l16); have Bw_16 := Bw_15.keep k16; have Bm_16 := Bm_15.keep k16; have Br_16 := Br_15.keep k16; have Be_16 := Be_15.keep k16; have Bo_16 := Bo_15.keep k16; have Bi1_16 := Bi1_15.keep k16; have H16 := bq_trans H15 k16; clear l16 k16 Bw_15 Bm_15 Br_15 Be_15 Bo_15 Bi1_15 cm_1_15 cm_2_15 H15)
      | (go_at_call 39; with_reducible refine (H4b.out _ _ Bi2_16).mono ?_; rintro e W17 ⟨rfl, k17⟩; have Bw_17 := Bw_16.keep k17; have Bm_17 := Bm_16.keep k17; have Br_17 := Br_16.keep k17; have Be_17 := Be_16.keep k17; have Bo_17 := Bo_16.keep k17; have Bi1_17 := Bi1_16.keep k17; have Bi2_17 := Bi2_16.keep k17; have H17 := bq_trans H16 k17; clear k17 Bw_16 Bm_16 Br_16 Be_16 Bo_16 Bi1_16 Bi2_16 H16)
      | (refine wl_store 23 2 size23 _ _ rfl rfl _ rfl _ rfl _ _ Bo_17 rfl rfl (by kernel_rfl) ?_; intro W18 Bo_18 T18; have Bw_18 := T18.blk Bw_17 nwo; have Bm_18 := T18.blk Bm_17 nmo; have Br_18 := T18.blk Br_17 nro; have Be_18 := T18.blk Be_17 neo; have Bi1_18 := T18.blk Bi1_17 (Ne.symm noi1); have Bi2_18 := T18.blk Bi2_17 (Ne.symm noi2); have H18 := T18.below H17 go; clear T18 Bw_17 Bm_17 Br_17 Be_17 Bi1_17 Bi2_17 Bo_17 H17))
    have BY := Bo_18
    rw [HU.out] at BY
    have BR := Lib.hid Br_18
    have HB := Lib.hid H18
    have HC : Hid (∀ w', But br br W18 w' → w'.cell? ⟨bw, 0, none⟩ = some (.string s) ∧ w'.cell? ⟨bw, 1, none⟩ = some (.int .i64 f) ∧ w'.cell? ⟨bo, 0, none⟩ = some (.string u4) ∧ w'.cell? ⟨bo, 1, none⟩ = some (.int .i64 v4) ∧ w'.cell? ⟨bm, 4, none⟩ = some (.int .i64 x) ∧ w'.cell? ⟨bm, 5, none⟩ = some (.int .i64 y)) := Lib.hid fun w' hw' =>
      ⟨(Bw_18.but hw' nwr nwr).cell 0, (Bw_18.but hw' nwr nwr).cell 1, (BY.but hw' (Ne.symm nro) (Ne.symm nro)).cell 0, (BY.but hw' (Ne.symm nro) (Ne.symm nro)).cell 1, (Bm_18.but hw' nmr nmr).cell 4, (Bm_18.but hw' nmr nmr).cell 5⟩
    have hd0 : Below W18.heap.size W18 W18.drew := bq_drew (bq_refl W18)
    have g2 := gr
    clear HR H1 H3 HU BY Bw_18 Bm_18 Br_18 Be_18 Bo_18 Bi1_18 Bi2_18 H18 nei1 nei2 neo ni1i2 nme nmi1 nmi2 nmo nmr noi1 noi2 nre nri1 nri2 nro nwe nwi1 nwi2 nwm nwo nwr gw gm gr ge go gi1 gi2 H2b H4b
    go_region_held3 (fun w' => w'.cell? ⟨bw, 0, none⟩ = some (.string s) ∧ w'.cell? ⟨bw, 1, none⟩ = some (.int .i64 f) ∧ w'.cell? ⟨bo, 0, none⟩ = some (.string u4) ∧ w'.cell? ⟨bo, 1, none⟩ = some (.int .i64 v4) ∧ w'.cell? ⟨bm, 4, none⟩ = some (.int .i64 x) ∧ w'.cell? ⟨bm, 5, none⟩ = some (.int .i64 y))
      ((refine HC.out _ ?_; repeat' (first | exact But.of (by assumption) | exact But.of (bq_drew (bq_alloc (bq_refl _) _)) | exact But.of (bq_drew (bq_refl _)) | refine But.setp _ _ ?_ | refine But.setq _ _ ?_)))
      (first
        | (go_at_call 39; refine (H5.out W18 _ _ (by first | assumption | exact bq_drew (bq_alloc (bq_refl _) _)) (Blk.drew (blk_new _ _ _))).mono ?_; rintro e w9 ⟨rfl, hb9⟩)
        | (go_at_call 38; refine (H6.out W18 _ (by assumption)).mono ?_; rintro e w10 ⟨rfl, hb10⟩; have d0 := (BR.out.keep hb10).cell 0; have d1 := (BR.out.keep hb10).cell 1; have f0 := (BR.out.keep hb10).frozen 0; have f1 := (BR.out.keep hb10).frozen 1))
    have B9 : Blk ((w10.setCell ⟨br, 0, none⟩ (.string (s ++ u5))).setCell ⟨br, 1, none⟩ (.int .i64 0)) br #[.string (s ++ u5), .int .i64 0] 23 := ((BR.out.keep hb10).set 0 _).set 1 _
    go_wp2
    exact post_cell_tmp (v := .int .i64 0) Try.underlying23 rfl size23 Try.results10 B9 rfl rfl rfl rfl ⟨rfl, bq_set (bq_set (bq_trans HB.out hb10) _ g2 _) _ g2 _⟩
end Go.Proofs.Ytfaipbdkkkhacaa
/- Layer 7: a matrix behind a writer. -/
namespace Go.Proofs.Ytfaipbdkkkhacaa
open Go.RowKit
set_option linter.unusedVariables false

def q65 (a d : Int) : Bool := (a != 65536) || (d != 65536)
def qnz (b c : Int) : Bool := (b != 0) || (c != 0)
def mF2 (a d : Int) : List (Nat × Nat) := if q65 a d = true then [] ++ [(b01 (q65 a d), 1)] ++ F.nums 5 [a, d] else [] ++ [(b01 (q65 a d), 1)]
def mF3 (a b c d : Int) : List (Nat × Nat) := mF2 a d ++ [(b01 (qnz b c), 1)]
def mF4 (a b c d : Int) : List (Nat × Nat) := if qnz b c = true then mF3 a b c d ++ F.nums 5 [b, c] else mF3 a b c d
def matF (a b c d x y : Int) : List (Nat × Nat) := mF4 a b c d ++ F.nums 5 [x, y]
theorem nums2_len (h : Nat) (x y : Int) : F.len (F.nums h [x, y]) = h + 2 * mxW [x, y] := F.nums_len h [x, y]
structure MatFacts (a b c d x y : Int) : Prop where
  o1 : F.ok ([] ++ [(b01 (q65 a d), 1)])
  l1 : F.len ([] ++ [(b01 (q65 a d), 1)]) = 1
  o2 : F.ok (mF2 a d)
  l2 : F.len (mF2 a d) ≤ 54
  o3 : F.ok (mF3 a b c d)
  l3 : F.len (mF3 a b c d) ≤ 55
  o4 : F.ok (mF4 a b c d)
  l4 : F.len (mF4 a b c d) ≤ 108
  o5 : F.ok (matF a b c d x y)
  l5 : F.len (matF a b c d x y) ≤ 157
  w1 : mxW [a, d] ≤ 24
  w2 : mxW [b, c] ≤ 24
  w3 : mxW [x, y] ≤ 22
  fit : I64 a ∧ I64 b ∧ I64 c ∧ I64 d ∧ I64 x ∧ I64 y
theorem nums2_ok {x y : Int} (h : mxW [x, y] ≤ 24) (hx : I64 x) (hy : I64 y) : F.ok (F.nums 5 [x, y]) :=
  F.nums_ok (Nat.lt_of_le_of_lt h (by decide)) (by omega) (i64_2 hx hy)
theorem matFacts {a b c d x y : Int} (h : matOk a b c d x y = true) : MatFacts a b c d x y := by
  obtain ⟨w1, w2, w3, fa, fb, fc, fd, fx, fy⟩ := mat_wd h
  have o1 : F.ok ([] ++ [(b01 (q65 a d), 1)]) := F.ok_one (b01_lt _)
  have l1 : F.len ([] ++ [(b01 (q65 a d), 1)]) = 1 := rfl
  have n1 := nums2_len 5 a d
  have n2 := nums2_len 5 b c
  have n3 := nums2_len 5 x y
  have o2 : F.ok (mF2 a d) := by
    unfold mF2
    split
    · exact F.ok_app o1 (nums2_ok w1 fa fd)
    · exact o1
  have l2 : F.len (mF2 a d) ≤ 54 := by
    unfold mF2
    split
    · rw [F.len_app, l1]; omega
    · rw [l1]; omega
  have o3 : F.ok (mF3 a b c d) := F.ok_app o2 (F.ok_one (b01_lt _))
  have l3 : F.len (mF3 a b c d) ≤ 55 := by unfold mF3; rw [F.len_app, F.bit_len]; omega
  have o4 : F.ok (mF4 a b c d) := by
    unfold mF4
    split
    · exact F.ok_app o3 (nums2_ok w2 fb fc)
    · exact o3
  have l4 : F.len (mF4 a b c d) ≤ 108 := by
    unfold mF4
    split
    · rw [F.len_app]; omega
    · omega
  have l5 : F.len (matF a b c d x y) ≤ 157 := by unfold matF; rw [F.len_app]; omega
  exact ⟨o1, l1, o2, l2, o3, l3, o4, l4, F.ok_app o4 (nums2_ok (by omega) fx fy), l5, w1, w2, w3, fa, fb, fc, fd, fx, fy⟩
theorem numbers2_put (fs : List (Nat × Nat)) (x y : Int) (W : World) (g : Nat) (h : F.ok fs) (hl : F.len fs ≤ 1000) (hw : mxW [x, y] ≤ 24) (hx : I64 x) (hy : I64 y) (hB : Blk W g (iA [x, y]) 3) :
    Calls Try.prog 39 #[.agg (wrA fs), .int .i64 5, .slice (some ⟨g, 0, none⟩) 2 2] W fun e w' => e = .returned (.agg (wrA (fs ++ F.nums 5 [x, y]))) ∧ Below W.heap.size W w' :=
  putnumbers_any fs 5 [x, y] _ g 0 2 W h (by rw [nums2_len]; omega) (by omega) (Nat.lt_of_le_of_lt hw (by decide)) (by omega) (by simp) (Lib.hid (hB.ints (i64_2 hx hy)))
theorem q65_cases (a d : Int) : (q65 a d = true ∧ ((a != 65536) = true ∨ (a != 65536) = false ∧ (d != 65536) = true)) ∨ (q65 a d = false ∧ ((a != 65536) = false ∧ (d != 65536) = false)) := by
  unfold q65
  cases (a != 65536) <;> cases (d != 65536) <;> simp
theorem qnz_cases (b c : Int) : (qnz b c = true ∧ ((b != 0) = true ∨ (b != 0) = false ∧ (c != 0) = true)) ∨ (qnz b c = false ∧ ((b != 0) = false ∧ (c != 0) = false)) := by
  unfold qnz
  cases (b != 0) <;> cases (c != 0) <;> simp
theorem putmatrix_ok (s : ByteArray) (f a b c d x y : Int) (w : World) (hs : s.size ≤ 1000000) (h : matOk a b c d x y = true) :
    Calls Try.prog 10 #[.agg #[.string s, .int .i64 f], .agg #[.int .i64 a, .int .i64 b, .int .i64 c, .int .i64 d, .int .i64 x, .int .i64 y]] w fun e w' => e = .returned (.tuple #[.agg #[.string (s ++ bs (F.bys (matF a b c d x y))), .int .i64 0], .int .i64 0]) ∧ Below w.heap.size w w' := by
  have m := matFacts h
  obtain ⟨fa, fb, fc, fd, fx, fy⟩ := m.fit
  have HR : Hid (∀ W, Calls Try.prog 18 #[.agg #[.int .i64 a, .int .i64 b, .int .i64 c, .int .i64 d, .int .i64 x, .int .i64 y]] W fun e w' => e = .returned (.bool true) ∧ Below W.heap.size W w') := Lib.hid fun W => by
    have := rightmatrix_any a b c d x y W fa fb fc fd fx fy
    rw [h] at this
    exact this
  have H1 := Lib.hid (fun W => putbit_any [] (q65 a d) W F.ok_nil (by simp [F.len]))
  have H2 : Hid (q65 a d = true → ∀ W g, Blk W g (iA [a, d]) 3 → Calls Try.prog 39 #[.agg (wrA ([] ++ [(b01 (q65 a d), 1)])), .int .i64 5, .slice (some ⟨g, 0, none⟩) 2 2] W fun e w' => e = .returned (.agg (wrA (mF2 a d))) ∧ Below W.heap.size W w') := Lib.hid fun hq W g hB => by
    unfold mF2
    rw [if_pos hq]
    exact numbers2_put _ a d W g m.o1 (by rw [m.l1]; omega) m.w1 fa fd hB
  have E2 : Hid (q65 a d = false → mF2 a d = [] ++ [(b01 (q65 a d), 1)]) := Lib.hid fun hq => by unfold mF2; rw [hq]; rfl
  have H3 := Lib.hid (fun W => putbit_any (mF2 a d) (qnz b c) W m.o2 (by have := m.l2; omega))
  have H4 : Hid (qnz b c = true → ∀ W g, Blk W g (iA [b, c]) 3 → Calls Try.prog 39 #[.agg (wrA (mF2 a d ++ [(b01 (qnz b c), 1)])), .int .i64 5, .slice (some ⟨g, 0, none⟩) 2 2] W fun e w' => e = .returned (.agg (wrA (mF4 a b c d))) ∧ Below W.heap.size W w') := Lib.hid fun hq W g hB => by
    unfold mF4
    rw [if_pos hq]
    exact numbers2_put _ b c W g m.o3 (by have := m.l3; unfold mF3 at this; omega) m.w2 fb fc hB
  have E4 : Hid (qnz b c = false → mF4 a b c d = mF2 a d ++ [(b01 (qnz b c), 1)]) := Lib.hid fun hq => by unfold mF4 mF3; rw [if_neg (by rw [hq]; decide)]
  have H5 : Hid (∀ W0 W g, Below W0.heap.size W0 W → Blk W g (iA [x, y]) 3 → Calls Try.prog 39 #[.agg #[.string (bs (F.bys (mF4 a b c d))), .int .i64 (F.fr (mF4 a b c d) : Int)], .int .i64 5, .slice (some ⟨g, 0, none⟩) 2 2] W fun e w' => e = .returned (.agg #[.string (bs (F.bys (matF a b c d x y))), .int .i64 (F.fr (matF a b c d x y) : Int)]) ∧ Below W0.heap.size W0 w') := Lib.hid fun W0 W g hW hB =>
    (numbers2_put (mF4 a b c d) x y W g m.o4 (by have := m.l4; omega) (by have := m.w3; omega) fx fy hB).mono fun e w' ⟨h1, h2⟩ => ⟨h1, bq_trans hW h2⟩
  have H6 : Hid (∀ W0 W, Below W0.heap.size W0 W → Calls Try.prog 38 #[.agg #[.string s, .int .i64 f], .agg #[.string (bs (F.bys (matF a b c d x y))), .int .i64 (F.fr (matF a b c d x y) : Int)]] W fun e w' => e = .returned (.agg #[.string (s ++ bs (F.bys (matF a b c d x y))), .int .i64 0]) ∧ Below W0.heap.size W0 w') := Lib.hid fun W0 W hW =>
    (behind_any s (bs (F.bys (matF a b c d x y))) f _ W (by omega) (by rw [bs_size, F.bys_len]; have := m.l5; omega)).mono fun e w'' ⟨h1, h2⟩ => ⟨h1, bq_trans hW h2⟩
  rcases q65_cases a d with ⟨e1, p1⟩ | ⟨e1, p1⟩ <;> rcases qnz_cases b c with ⟨e2, p2⟩ | ⟨e2, p2⟩
  · exact putmatrix_11 s _ _ f _ _ a b c d x y _ _ _ _ _ _ w p1 p2 e1 e2 HR H1 H2 E2 H3 H4 E4 H5 H6 (Lib.hid rfl)
  · exact putmatrix_10 s _ _ f _ _ a b c d x y _ _ _ _ _ _ w p1 p2 e1 e2 HR H1 H2 E2 H3 H4 E4 H5 H6 (Lib.hid rfl)
  · exact putmatrix_01 s _ _ f _ _ a b c d x y _ _ _ _ _ _ w p1 p2 e1 e2 HR H1 H2 E2 H3 H4 E4 H5 H6 (Lib.hid rfl)
  · exact putmatrix_00 s _ _ f _ _ a b c d x y _ _ _ _ _ _ w p1 p2 e1 e2 HR H1 H2 E2 H3 H4 E4 H5 H6 (Lib.hid rfl)
end Go.Proofs.Ytfaipbdkkkhacaa
