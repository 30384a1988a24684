import Derived.Test.YthcejmbjagpjcaaN5
/- Layer 14: ComposeCx and Color, both sides. -/
namespace Go.Proofs.Ythcejmbjagpjcaa
open Go.RowKit
set_option linter.unusedVariables false
set_option linter.unusedSimpArgs false
set_option maxRecDepth 100000

theorem szCx : (Try.prog.info? 26).map (·.size) = some 8 := by kernel_rfl
theorem zeCx (w : World) : (zeroValue 26).run Try.prog w = .ok (.agg #[.int .i64 0, .int .i64 0, .int .i64 0, .int .i64 0, .int .i64 0, .int .i64 0, .int .i64 0, .int .i64 0]) w := Try.zeroValue26 w
theorem szRg : (Try.prog.info? 48).map (·.size) = some 4 := by kernel_rfl
theorem zeRg (w : World) : (zeroValue 48).run Try.prog w = .ok (.agg #[.int .i64 0, .int .i64 0, .int .i64 0, .int .i64 0]) w := Try.zeroValue48 w
theorem szI4 : (Try.prog.info? 24).map (·.size) = some 4 := by kernel_rfl
def I64C (m0 m1 m2 m3 d0 d1 d2 d3 : Int) : Prop := I64 m0 ∧ I64 m1 ∧ I64 m2 ∧ I64 m3 ∧ I64 d0 ∧ I64 d1 ∧ I64 d2 ∧ I64 d3
theorem rightc {m0 m1 m2 m3 d0 d1 d2 d3 : Int} (h : I64C m0 m1 m2 m3 d0 d1 d2 d3) (w : World) : Calls Try.prog 33 #[.agg #[.int .i64 m0, .int .i64 m1, .int .i64 m2, .int .i64 m3, .int .i64 d0, .int .i64 d1, .int .i64 d2, .int .i64 d3]] w fun e w' => e = .returned (.bool (cxOk [m0, m1, m2, m3] [d0, d1, d2, d3])) ∧ Below w.heap.size w w' :=
  rightcx_any m0 m1 m2 m3 d0 d1 d2 d3 w h.1 h.2.1 h.2.2.1 h.2.2.2.1 h.2.2.2.2.1 h.2.2.2.2.2.1 h.2.2.2.2.2.2.1 h.2.2.2.2.2.2.2
theorem rrightc (m0 m1 m2 m3 d0 d1 d2 d3 : Int) (w : World) : Calls Try.prog 12 #[.agg #[.int .i64 m0, .int .i64 m1, .int .i64 m2, .int .i64 m3, .int .i64 d0, .int .i64 d1, .int .i64 d2, .int .i64 d3]] w fun e w' => e = .returned (.bool (cxOk [m0, m1, m2, m3] [d0, d1, d2, d3])) ∧ Below w.heap.size w w' :=
  refcx_any [m0, m1, m2, m3] [d0, d1, d2, d3] w rfl rfl
theorem cxOk_bd {m0 m1 m2 m3 d0 d1 d2 d3 : Int} (h : cxOk [m0, m1, m2, m3] [d0, d1, d2, d3] = true) : (-512 ≤ m0 ∧ m0 ≤ 512) ∧ (-512 ≤ m1 ∧ m1 ≤ 512) ∧ (-512 ≤ m2 ∧ m2 ≤ 512) ∧ (-512 ≤ m3 ∧ m3 ≤ 512) ∧ (-255 ≤ d0 ∧ d0 ≤ 255) ∧ (-255 ≤ d1 ∧ d1 ≤ 255) ∧ (-255 ≤ d2 ∧ d2 ≤ 255) ∧ (-255 ≤ d3 ∧ d3 ≤ 255) := by
  simp [cxOk, nr] at h
  omega
theorem rgbaOk_bd {r g b a : Int} (h : rgbaOk r g b a = true) : (0 ≤ r ∧ r ≤ 255) ∧ (0 ≤ g ∧ g ≤ 255) ∧ (0 ≤ b ∧ b ≤ 255) ∧ (0 ≤ a ∧ a ≤ 255) := by
  simp [rgbaOk, nr] at h
  omega
set_option maxHeartbeats 1000000 in
theorem compcx14_no (om0 om1 om2 om3 od0 od1 od2 od3 im0 im1 im2 im3 id0 id1 id2 id3 : Int) (q1 q2 : Bool) (w : World) (hq : q1 = false ∨ q1 = true ∧ q2 = false) (H1 : Hid (∀ W, Calls Try.prog 33 #[.agg #[.int .i64 om0, .int .i64 om1, .int .i64 om2, .int .i64 om3, .int .i64 od0, .int .i64 od1, .int .i64 od2, .int .i64 od3]] W fun e w' => e = .returned (.bool q1) ∧ Below W.heap.size W w')) (H2 : Hid (∀ W, Calls Try.prog 33 #[.agg #[.int .i64 im0, .int .i64 im1, .int .i64 im2, .int .i64 im3, .int .i64 id0, .int .i64 id1, .int .i64 id2, .int .i64 id3]] W fun e w' => e = .returned (.bool q2) ∧ Below W.heap.size W w')) :
    Calls Try.prog 11 #[.agg #[.int .i64 om0, .int .i64 om1, .int .i64 om2, .int .i64 om3, .int .i64 od0, .int .i64 od1, .int .i64 od2, .int .i64 od3], .agg #[.int .i64 im0, .int .i64 im1, .int .i64 im2, .int .i64 im3, .int .i64 id0, .int .i64 id1, .int .i64 id2, .int .i64 id3]] w fun e w' => e = .returned (.agg #[.int .i64 0, .int .i64 0, .int .i64 0, .int .i64 0, .int .i64 0, .int .i64 0, .int .i64 0, .int .i64 0]) ∧ Below w.heap.size w w' := by
  rcases hq with rfl | ⟨rfl, rfl⟩
  · go_enter Try.func11, Try.ntmps11
    go_wp2_with (first
      | (refine wl_box 26 _ _ rfl rfl (show _ = Value.agg #[.int .i64 om0, .int .i64 om1, .int .i64 om2, .int .i64 om3, .int .i64 od0, .int .i64 od1, .int .i64 od2, .int .i64 od3] from rfl) ?_; intro W1 bm Bm_1 l1 k1; have gm : w.heap.size ≤ bm := l1; have Hw1 := k1; clear l1 k1)
      | (refine wl_box 26 _ _ rfl rfl (show _ = Value.agg #[.int .i64 im0, .int .i64 im1, .int .i64 im2, .int .i64 im3, .int .i64 id0, .int .i64 id1, .int .i64 id2, .int .i64 id3] from rfl) ?_; intro W2 bi Bi_2 l2 k2; have gi : w.heap.size ≤ bi := Nat.le_trans Hw1.size l2; have nmi : bm ≠ bi := Nat.ne_of_lt (Nat.lt_of_lt_of_le Bm_1.lt l2); have Bm_2 := Bm_1.keep k2; have Hw2 := bq_trans Hw1 k2; clear l2 k2 Bm_1 Hw1)
      | (refine wl_alloc 26 _ zeCx rfl rfl ?_; intro W3 bo Bo_3 l3 k3; have go : w.heap.size ≤ bo := Nat.le_trans Hw2.size l3; have nmo : bm ≠ bo := Nat.ne_of_lt (Nat.lt_of_lt_of_le Bm_2.lt l3); have nio : bi ≠ bo := Nat.ne_of_lt (Nat.lt_of_lt_of_le Bi_2.lt l3); have Bm_3 := Bm_2.keep k3; have Bi_3 := Bi_2.keep k3; have Hw3 := bq_trans Hw2 k3; clear l3 k3 Bm_2 Bi_2 Hw2)
      | (refine wl_load 26 8 _ Try.underlying26 rfl szCx _ rfl rfl _ rfl _ _ Bm_3 rfl ?_)
      | (go_at_call 33; (with_reducible refine (H1.out _).mono ?_); rintro e W4 ⟨rfl, k4⟩; have Bm_4 := Bm_3.keep k4; have Bi_4 := Bi_3.keep k4; have Bo_4 := Bo_3.keep k4; have Hw4 := bq_trans Hw3 k4; clear k4 Bm_3 Bi_3 Bo_3 Hw3)
      | (refine wl_store 26 8 szCx _ _ rfl rfl _ rfl #[.int .i64 0, .int .i64 0, .int .i64 0, .int .i64 0, .int .i64 0, .int .i64 0, .int .i64 0, .int .i64 0] rfl _ _ Bo_4 rfl rfl (by kernel_rfl) ?_; intro W5 Bo_5 T5; have Bm_5 := T5.blk Bm_4 nmo; have Bi_5 := T5.blk Bi_4 nio; have Hw5 := T5.below Hw4 go; clear T5 Bm_4 Bi_4 Bo_4 Hw4))
    exact post_cell Try.underlying26 rfl szCx Try.results11 Bo_5 rfl rfl rfl ⟨rfl, Hw5⟩
  · go_enter Try.func11, Try.ntmps11
    go_wp2_with (first
      | (refine wl_box 26 _ _ rfl rfl (show _ = Value.agg #[.int .i64 om0, .int .i64 om1, .int .i64 om2, .int .i64 om3, .int .i64 od0, .int .i64 od1, .int .i64 od2, .int .i64 od3] from rfl) ?_; intro W1 bm Bm_1 l1 k1; have gm : w.heap.size ≤ bm := l1; have Hw1 := k1; clear l1 k1)
      | (refine wl_box 26 _ _ rfl rfl (show _ = Value.agg #[.int .i64 im0, .int .i64 im1, .int .i64 im2, .int .i64 im3, .int .i64 id0, .int .i64 id1, .int .i64 id2, .int .i64 id3] from rfl) ?_; intro W2 bi Bi_2 l2 k2; have gi : w.heap.size ≤ bi := Nat.le_trans Hw1.size l2; have nmi : bm ≠ bi := Nat.ne_of_lt (Nat.lt_of_lt_of_le Bm_1.lt l2); have Bm_2 := Bm_1.keep k2; have Hw2 := bq_trans Hw1 k2; clear l2 k2 Bm_1 Hw1)
      | (refine wl_alloc 26 _ zeCx rfl rfl ?_; intro W3 bo Bo_3 l3 k3; have go : w.heap.size ≤ bo := Nat.le_trans Hw2.size l3; have nmo : bm ≠ bo := Nat.ne_of_lt (Nat.lt_of_lt_of_le Bm_2.lt l3); have nio : bi ≠ bo := Nat.ne_of_lt (Nat.lt_of_lt_of_le Bi_2.lt l3); have Bm_3 := Bm_2.keep k3; have Bi_3 := Bi_2.keep k3; have Hw3 := bq_trans Hw2 k3; clear l3 k3 Bm_2 Bi_2 Hw2)
      | (refine wl_load 26 8 _ Try.underlying26 rfl szCx _ rfl rfl _ rfl _ _ Bm_3 rfl ?_)
      | (go_at_call 33; (with_reducible refine (H1.out _).mono ?_); rintro e W4 ⟨rfl, k4⟩; have Bm_4 := Bm_3.keep k4; have Bi_4 := Bi_3.keep k4; have Bo_4 := Bo_3.keep k4; have Hw4 := bq_trans Hw3 k4; clear k4 Bm_3 Bi_3 Bo_3 Hw3)
      | (refine wlg_load 26 8 _ Try.underlying26 rfl szCx _ rfl rfl _ rfl _ _ Bi_4 rfl ?_)
      | (go_at_call 33; (with_reducible refine (H2.out _).mono ?_); rintro e W5 ⟨rfl, k5⟩; have Bm_5 := Bm_4.keep k5; have Bi_5 := Bi_4.keep k5; have Bo_5 := Bo_4.keep k5; have Hw5 := bq_trans Hw4 k5; clear k5 Bm_4 Bi_4 Bo_4 Hw4)
      | (refine wl_store 26 8 szCx _ _ rfl rfl _ rfl #[.int .i64 0, .int .i64 0, .int .i64 0, .int .i64 0, .int .i64 0, .int .i64 0, .int .i64 0, .int .i64 0] rfl _ _ Bo_5 rfl rfl (by kernel_rfl) ?_; intro W6 Bo_6 T6; have Bm_6 := T6.blk Bm_5 nmo; have Bi_6 := T6.blk Bi_5 nio; have Hw6 := T6.below Hw5 go; clear T6 Bm_5 Bi_5 Bo_5 Hw5))
    exact post_cell Try.underlying26 rfl szCx Try.results11 Bo_6 rfl rfl rfl ⟨rfl, Hw6⟩
set_option maxHeartbeats 4000000 in
theorem compcx14_yes (om0 om1 om2 om3 od0 od1 od2 od3 im0 im1 im2 im3 id0 id1 id2 id3 f0 g0 M0 N0 f1 g1 M1 N1 f2 g2 M2 N2 f3 g3 M3 N3 : Int) (w : World) (H1 : Hid (∀ W, Calls Try.prog 33 #[.agg #[.int .i64 om0, .int .i64 om1, .int .i64 om2, .int .i64 om3, .int .i64 od0, .int .i64 od1, .int .i64 od2, .int .i64 od3]] W fun e w' => e = .returned (.bool true) ∧ Below W.heap.size W w')) (H2 : Hid (∀ W, Calls Try.prog 33 #[.agg #[.int .i64 im0, .int .i64 im1, .int .i64 im2, .int .i64 im3, .int .i64 id0, .int .i64 id1, .int .i64 id2, .int .i64 id3]] W fun e w' => e = .returned (.bool true) ∧ Below W.heap.size W w'))
    (HT0 : Hid (∀ W, Calls Try.prog 35 #[.int .i64 im0, .int .i64 om0] W fun e w' => e = .returned (.int .i64 f0) ∧ Below W.heap.size W w')) (HS0 : Hid (∀ W, Calls Try.prog 35 #[.int .i64 id0, .int .i64 om0] W fun e w' => e = .returned (.int .i64 g0) ∧ Below W.heap.size W w'))
    (HW0 : Hid (∀ W, Calls Try.prog 34 #[.int .i64 (-512), .int .i64 f0, .int .i64 512] W fun e w' => e = .returned (.int .i64 M0) ∧ Below W.heap.size W w')) (HV0 : Hid (∀ W, Calls Try.prog 34 #[.int .i64 (-255), .int .i64 (g0 + od0), .int .i64 255] W fun e w' => e = .returned (.int .i64 N0) ∧ Below W.heap.size W w')) (hg0 : IntKind.i64.wrap (g0 + od0) = g0 + od0)
    (HT1 : Hid (∀ W, Calls Try.prog 35 #[.int .i64 im1, .int .i64 om1] W fun e w' => e = .returned (.int .i64 f1) ∧ Below W.heap.size W w')) (HS1 : Hid (∀ W, Calls Try.prog 35 #[.int .i64 id1, .int .i64 om1] W fun e w' => e = .returned (.int .i64 g1) ∧ Below W.heap.size W w'))
    (HW1 : Hid (∀ W, Calls Try.prog 34 #[.int .i64 (-512), .int .i64 f1, .int .i64 512] W fun e w' => e = .returned (.int .i64 M1) ∧ Below W.heap.size W w')) (HV1 : Hid (∀ W, Calls Try.prog 34 #[.int .i64 (-255), .int .i64 (g1 + od1), .int .i64 255] W fun e w' => e = .returned (.int .i64 N1) ∧ Below W.heap.size W w')) (hg1 : IntKind.i64.wrap (g1 + od1) = g1 + od1)
    (HT2 : Hid (∀ W, Calls Try.prog 35 #[.int .i64 im2, .int .i64 om2] W fun e w' => e = .returned (.int .i64 f2) ∧ Below W.heap.size W w')) (HS2 : Hid (∀ W, Calls Try.prog 35 #[.int .i64 id2, .int .i64 om2] W fun e w' => e = .returned (.int .i64 g2) ∧ Below W.heap.size W w'))
    (HW2 : Hid (∀ W, Calls Try.prog 34 #[.int .i64 (-512), .int .i64 f2, .int .i64 512] W fun e w' => e = .returned (.int .i64 M2) ∧ Below W.heap.size W w')) (HV2 : Hid (∀ W, Calls Try.prog 34 #[.int .i64 (-255), .int .i64 (g2 + od2), .int .i64 255] W fun e w' => e = .returned (.int .i64 N2) ∧ Below W.heap.size W w')) (hg2 : IntKind.i64.wrap (g2 + od2) = g2 + od2)
    (HT3 : Hid (∀ W, Calls Try.prog 35 #[.int .i64 im3, .int .i64 om3] W fun e w' => e = .returned (.int .i64 f3) ∧ Below W.heap.size W w')) (HS3 : Hid (∀ W, Calls Try.prog 35 #[.int .i64 id3, .int .i64 om3] W fun e w' => e = .returned (.int .i64 g3) ∧ Below W.heap.size W w'))
    (HW3 : Hid (∀ W, Calls Try.prog 34 #[.int .i64 (-512), .int .i64 f3, .int .i64 512] W fun e w' => e = .returned (.int .i64 M3) ∧ Below W.heap.size W w')) (HV3 : Hid (∀ W, Calls Try.prog 34 #[.int .i64 (-255), .int .i64 (g3 + od3), .int .i64 255] W fun e w' => e = .returned (.int .i64 N3) ∧ Below W.heap.size W w')) (hg3 : IntKind.i64.wrap (g3 + od3) = g3 + od3)
    : Calls Try.prog 11 #[.agg #[.int .i64 om0, .int .i64 om1, .int .i64 om2, .int .i64 om3, .int .i64 od0, .int .i64 od1, .int .i64 od2, .int .i64 od3], .agg #[.int .i64 im0, .int .i64 im1, .int .i64 im2, .int .i64 im3, .int .i64 id0, .int .i64 id1, .int .i64 id2, .int .i64 id3]] w fun e w' => e = .returned (.agg #[.int .i64 M0, .int .i64 M1, .int .i64 M2, .int .i64 M3, .int .i64 N0, .int .i64 N1, .int .i64 N2, .int .i64 N3]) ∧ Below w.heap.size w w' := by
  have HE0 := Lib.hid hg0
  have HE1 := Lib.hid hg1
  have HE2 := Lib.hid hg2
  have HE3 := Lib.hid hg3
  clear hg0 hg1 hg2 hg3
  go_enter Try.func11, Try.ntmps11
  go_wp2_with (first
    | (refine wl_box 26 _ _ rfl rfl (show _ = Value.agg #[.int .i64 om0, .int .i64 om1, .int .i64 om2, .int .i64 om3, .int .i64 od0, .int .i64 od1, .int .i64 od2, .int .i64 od3] from rfl) ?_; intro W1 bm Bm_1 l1 k1; have gm : w.heap.size ≤ bm := l1; have Hw1 := k1; clear l1 k1)
    | (refine wl_box 26 _ _ rfl rfl (show _ = Value.agg #[.int .i64 im0, .int .i64 im1, .int .i64 im2, .int .i64 im3, .int .i64 id0, .int .i64 id1, .int .i64 id2, .int .i64 id3] from rfl) ?_; intro W2 bi Bi_2 l2 k2; have gi : w.heap.size ≤ bi := Nat.le_trans Hw1.size l2; have nmi : bm ≠ bi := Nat.ne_of_lt (Nat.lt_of_lt_of_le Bm_1.lt l2); have Bm_2 := Bm_1.keep k2; have Hw2 := bq_trans Hw1 k2; clear l2 k2 Bm_1 Hw1)
    | (refine wl_alloc 26 _ zeCx rfl rfl ?_; intro W3 bo Bo_3 l3 k3; have go : w.heap.size ≤ bo := Nat.le_trans Hw2.size l3; have nmo : bm ≠ bo := Nat.ne_of_lt (Nat.lt_of_lt_of_le Bm_2.lt l3); have nio : bi ≠ bo := Nat.ne_of_lt (Nat.lt_of_lt_of_le Bi_2.lt l3); have Bm_3 := Bm_2.keep k3; have Bi_3 := Bi_2.keep k3; have Hw3 := bq_trans Hw2 k3; clear l3 k3 Bm_2 Bi_2 Hw2)
    | (refine wl_load 26 8 _ Try.underlying26 rfl szCx _ rfl rfl _ rfl _ _ Bm_3 rfl ?_)
    | (go_at_call 33; (with_reducible refine (H1.out _).mono ?_); rintro e W4 ⟨rfl, k4⟩; have Bm_4 := Bm_3.keep k4; have Bi_4 := Bi_3.keep k4; have Bo_4 := Bo_3.keep k4; have Hw4 := bq_trans Hw3 k4; clear k4 Bm_3 Bi_3 Bo_3 Hw3)
    | (refine wlg_load 26 8 _ Try.underlying26 rfl szCx _ rfl rfl _ rfl _ _ Bi_4 rfl ?_)
    | (go_at_call 33; (with_reducible refine (H2.out _).mono ?_); rintro e W5 ⟨rfl, k5⟩; have Bm_5 := Bm_4.keep k5; have Bi_5 := Bi_4.keep k5; have Bo_5 := Bo_4.keep k5; have Hw5 := bq_trans Hw4 k5; clear k5 Bm_4 Bi_4 Bo_4 Hw4)
    | (refine wl_alloc 26 _ zeCx rfl rfl ?_; intro W6 bt Bt_6 l6 k6; have gt : w.heap.size ≤ bt := Nat.le_trans Hw5.size l6; have nmt : bm ≠ bt := Nat.ne_of_lt (Nat.lt_of_lt_of_le Bm_5.lt l6); have nit : bi ≠ bt := Nat.ne_of_lt (Nat.lt_of_lt_of_le Bi_5.lt l6); have not : bo ≠ bt := Nat.ne_of_lt (Nat.lt_of_lt_of_le Bo_5.lt l6); have Bm_6 := Bm_5.keep k6; have Bi_6 := Bi_5.keep k6; have Bo_6 := Bo_5.keep k6; have Hw6 := bq_trans Hw5 k6; clear l6 k6 Bm_5 Bi_5 Bo_5 Hw5)
    | (refine wl_getAt 24 _ Try.underlying24 rfl _ rfl rfl bm 0 rfl [.int .i64 om0, .int .i64 om1, .int .i64 om2, .int .i64 om3] szI4 _ _ Bm_6 (fun j hj => by rcases j with _ | _ | _ | _ | j <;> first | rfl | (exact absurd hj (by simp))) ?_))
  go_loopw [19] (fun i wr => ((i = .int .i64 0 ∧ Blk wr bt #[.int .i64 0, .int .i64 0, .int .i64 0, .int .i64 0, .int .i64 0, .int .i64 0, .int .i64 0, .int .i64 0] 26) ∨ (i = .int .i64 1 ∧ Blk wr bt #[.int .i64 M0, .int .i64 0, .int .i64 0, .int .i64 0, .int .i64 N0, .int .i64 0, .int .i64 0, .int .i64 0] 26) ∨ (i = .int .i64 2 ∧ Blk wr bt #[.int .i64 M0, .int .i64 M1, .int .i64 0, .int .i64 0, .int .i64 N0, .int .i64 N1, .int .i64 0, .int .i64 0] 26) ∨ (i = .int .i64 3 ∧ Blk wr bt #[.int .i64 M0, .int .i64 M1, .int .i64 M2, .int .i64 0, .int .i64 N0, .int .i64 N1, .int .i64 N2, .int .i64 0] 26) ∨ (i = .int .i64 4 ∧ Blk wr bt #[.int .i64 M0, .int .i64 M1, .int .i64 M2, .int .i64 M3, .int .i64 N0, .int .i64 N1, .int .i64 N2, .int .i64 N3] 26)) ∧ Blk wr bm #[.int .i64 om0, .int .i64 om1, .int .i64 om2, .int .i64 om3, .int .i64 od0, .int .i64 od1, .int .i64 od2, .int .i64 od3] 26 ∧ Blk wr bi #[.int .i64 im0, .int .i64 im1, .int .i64 im2, .int .i64 im3, .int .i64 id0, .int .i64 id1, .int .i64 id2, .int .i64 id3] 26 ∧ Blk wr bo #[.int .i64 0, .int .i64 0, .int .i64 0, .int .i64 0, .int .i64 0, .int .i64 0, .int .i64 0, .int .i64 0] 26 ∧ Below w.heap.size w wr) (fun i _ => 4 - (intOf i).toNat)
  case atStart => exact ⟨Or.inl ⟨rfl, Bt_6⟩, Bm_6, Bi_6, Bo_6, Hw6⟩
  case round =>
    obtain ⟨hd, Bm, Bi, Bo, HwR⟩ := hrel
    clear Bm_6 Bi_6 Bo_6 Bt_6 Hw6
    rcases hd with ⟨rfl, Bt⟩ | ⟨rfl, Bt⟩ | ⟨rfl, Bt⟩ | ⟨rfl, Bt⟩ | ⟨rfl, Bt⟩
    · skip
      have cu : wr.cell? ⟨bi, 0, none⟩ = some (.int .i64 im0) := Bi.cell 0
      have hix : ∀ w : World, (Instr.index 24 (.agg #[.int .i64 om0, .int .i64 om1, .int .i64 om2, .int .i64 om3]) (.int .i64 0)).run Try.prog w = .ok (.int .i64 om0) w := fun w => by kernel_rfl
      go_upto_region 7 with (fail)
      clear hix
      go_upto_region 8 with (go_big_may; first
        | (go_at_call 35; (with_reducible refine (HT0.out _).mono ?_); rintro e W27 ⟨rfl, k27⟩; have Bm_27 := Bm.keep k27; have Bi_27 := Bi.keep k27; have Bo_27 := Bo.keep k27; have Bt_27 := Bt.keep k27; have Hw27 := bq_trans HwR k27; clear cu; clear k27 Bm Bi Bo Bt HwR)
        | (go_at_call 34; (with_reducible refine (HW0.out _).mono ?_); rintro e W28 ⟨rfl, k28⟩; have Bm_28 := Bm_27.keep k28; have Bi_28 := Bi_27.keep k28; have Bo_28 := Bo_27.keep k28; have Bt_28 := Bt_27.keep k28; have Hw28 := bq_trans Hw27 k28; clear k28 Bm_27 Bi_27 Bo_27 Bt_27 Hw27)
        | (refine wl_set 3 _ _ rfl rfl bt 0 rfl (.int .i64 M0) rfl rfl szI _ _ Bt_28 (by decide : 0 < 8) ?_; intro W29 Bt_29 T29; have Bm_29 := T29.blk Bm_28 nmt; have Bi_29 := T29.blk Bi_28 nit; have Bo_29 := T29.blk Bo_28 not; have Hw29 := T29.below Hw28 gt; clear T29 Bm_28 Bi_28 Bo_28 Bt_28 Hw28; have Bt_29L : Blk W29 bt #[.int .i64 M0, .int .i64 0, .int .i64 0, .int .i64 0, .int .i64 0, .int .i64 0, .int .i64 0, .int .i64 0] 26 := Bt_29; clear Bt_29))
      refine Det.wp_region_last (S := fun w' => Below W29.heap.size W29 w') 15 (by kernel_rfl) (by kernel_rfl) (by kernel_rfl) rfl (bq_drew (bq_refl _)) ?_
      refine Det.det_take (v := ?_) (by rfl) ?_ ?_
      rotate_left
      · (intro w hSw; go_simp; try with_reducible rfl)
      try simp only [Act.put, List.setIfInBounds_toArray, List.set_cons_zero, List.set_cons_succ]
      refine Det.det_take (v := ?_) (by rfl) ?_ ?_
      rotate_left
      · (intro w hSw; go_simp; try with_reducible rfl)
      try simp only [Act.put, List.setIfInBounds_toArray, List.set_cons_zero, List.set_cons_succ]
      refine Det.det_take (v := ?_) (by rfl) ?_ ?_
      rotate_left
      · (intro w hSw; go_simp; try with_reducible rfl)
      try simp only [Act.put, List.setIfInBounds_toArray, List.set_cons_zero, List.set_cons_succ]
      refine Det.det_take (v := ?_) (by rfl) ?_ ?_
      rotate_left
      · (intro w hSw; go_simp; try with_reducible rfl)
      try simp only [Act.put, List.setIfInBounds_toArray, List.set_cons_zero, List.set_cons_succ]
      refine Det.det_take (v := ?_) (by rfl) ?_ ?_
      rotate_left
      · (intro w hSw; have cc : w.cell? ⟨bi, 4, none⟩ = some (.int .i64 id0) := (Bi_29.keep hSw).cell 4; go_simp; try with_reducible rfl)
      try simp only [Act.put, List.setIfInBounds_toArray, List.set_cons_zero, List.set_cons_succ]
      refine Det.det_take (v := ?_) (by rfl) ?_ ?_
      rotate_left
      · (intro w hSw; go_simp; try with_reducible rfl)
      try simp only [Act.put, List.setIfInBounds_toArray, List.set_cons_zero, List.set_cons_succ]
      refine Det.det_call (f := 35) (args := #[.int .i64 id0, .int .i64 om0]) (v := .int .i64 g0) (by rfl) ?_ (fun w hS => (HS0.out w).mono fun e w' ⟨h1, h2⟩ => ⟨h1, bq_trans hS h2⟩) ?_
      · (intro w hSw; go_simp)
      try simp only [Act.put, List.setIfInBounds_toArray, List.set_cons_zero, List.set_cons_succ]
      refine Det.det_take (v := ?_) (by rfl) ?_ ?_
      rotate_left
      · (intro w hSw; go_simp; try with_reducible rfl)
      try simp only [Act.put, List.setIfInBounds_toArray, List.set_cons_zero, List.set_cons_succ]
      refine Det.det_take (v := ?_) (by rfl) ?_ ?_
      rotate_left
      · (intro w hSw; go_simp; try with_reducible rfl)
      try simp only [Act.put, List.setIfInBounds_toArray, List.set_cons_zero, List.set_cons_succ]
      refine Det.det_take (v := ?_) (by rfl) ?_ ?_
      rotate_left
      · (intro w hSw; go_simp; try with_reducible rfl)
      try simp only [Act.put, List.setIfInBounds_toArray, List.set_cons_zero, List.set_cons_succ]
      refine Det.det_take (v := ?_) (by rfl) ?_ ?_
      rotate_left
      · (intro w hSw; have cc : w.cell? ⟨bm, 4, none⟩ = some (.int .i64 od0) := (Bm_29.keep hSw).cell 4; go_simp; try with_reducible rfl)
      try simp only [Act.put, List.setIfInBounds_toArray, List.set_cons_zero, List.set_cons_succ]
      refine Det.det_take (v := ?_) (by rfl) ?_ ?_
      rotate_left
      · (intro w hSw; have ew := HE0.out; go_simp; try with_reducible rfl)
      try simp only [Act.put, List.setIfInBounds_toArray, List.set_cons_zero, List.set_cons_succ]
      refine Det.det_call (f := 34) (args := #[.int .i64 (-255), .int .i64 (g0 + od0), .int .i64 255]) (v := .int .i64 N0) (by rfl) ?_ (fun w hS => (HV0.out w).mono fun e w' ⟨h1, h2⟩ => ⟨h1, bq_trans hS h2⟩) ?_
      · (intro w hSw; go_simp)
      try simp only [Act.put, List.setIfInBounds_toArray, List.set_cons_zero, List.set_cons_succ]
      refine Det.det_take (v := ?_) (by rfl) ?_ ?_
      rotate_left
      · (intro w hSw; go_simp; try with_reducible rfl)
      try simp only [Act.put, List.setIfInBounds_toArray, List.set_cons_zero, List.set_cons_succ]
      refine Det.det_take (v := ?_) (by rfl) ?_ ?_
      rotate_left
      · (intro w hSw; go_simp; try with_reducible rfl)
      try simp only [Act.put, List.setIfInBounds_toArray, List.set_cons_zero, List.set_cons_succ]
      refine Det.det_nil (fun W30 k30 => ?_)
      have Bm_30 := Bm_29.keep k30
      have Bi_30 := Bi_29.keep k30
      have Bo_30 := Bo_29.keep k30
      have Bt_30 := Bt_29L.keep k30
      have Hw30 := bq_trans Hw29 k30
      clear k30 Bm_29 Bi_29 Bo_29 Bt_29L Hw29
      (refine wl_set 3 _ _ rfl rfl bt 4 rfl (.int .i64 N0) rfl rfl szI _ _ Bt_30 (by decide : 4 < 8) ?_; intro W31 Bt_31 T31; have Bm_31 := T31.blk Bm_30 nmt; have Bi_31 := T31.blk Bi_30 nit; have Bo_31 := T31.blk Bo_30 not; have Hw31 := T31.below Hw30 gt; clear T31 Bm_30 Bi_30 Bo_30 Bt_30 Hw30; have Bt_31L : Blk W31 bt #[.int .i64 M0, .int .i64 0, .int .i64 0, .int .i64 0, .int .i64 N0, .int .i64 0, .int .i64 0, .int .i64 0] 26 := Bt_31; clear Bt_31)
      go_wp2_with fail
      go_roundw
      case rel => exact ⟨Or.inr (Or.inl ⟨rfl, Bt_31L⟩), Bm_31, Bi_31, Bo_31, Hw31⟩
      case measure => simp [intOf]
    · skip
      have cu : wr.cell? ⟨bi, 1, none⟩ = some (.int .i64 im1) := Bi.cell 1
      have hix : ∀ w : World, (Instr.index 24 (.agg #[.int .i64 om0, .int .i64 om1, .int .i64 om2, .int .i64 om3]) (.int .i64 1)).run Try.prog w = .ok (.int .i64 om1) w := fun w => by kernel_rfl
      go_upto_region 7 with (fail)
      clear hix
      go_upto_region 8 with (go_big_may; first
        | (go_at_call 35; (with_reducible refine (HT1.out _).mono ?_); rintro e W27 ⟨rfl, k27⟩; have Bm_27 := Bm.keep k27; have Bi_27 := Bi.keep k27; have Bo_27 := Bo.keep k27; have Bt_27 := Bt.keep k27; have Hw27 := bq_trans HwR k27; clear cu; clear k27 Bm Bi Bo Bt HwR)
        | (go_at_call 34; (with_reducible refine (HW1.out _).mono ?_); rintro e W28 ⟨rfl, k28⟩; have Bm_28 := Bm_27.keep k28; have Bi_28 := Bi_27.keep k28; have Bo_28 := Bo_27.keep k28; have Bt_28 := Bt_27.keep k28; have Hw28 := bq_trans Hw27 k28; clear k28 Bm_27 Bi_27 Bo_27 Bt_27 Hw27)
        | (refine wl_set 3 _ _ rfl rfl bt 1 rfl (.int .i64 M1) rfl rfl szI _ _ Bt_28 (by decide : 1 < 8) ?_; intro W29 Bt_29 T29; have Bm_29 := T29.blk Bm_28 nmt; have Bi_29 := T29.blk Bi_28 nit; have Bo_29 := T29.blk Bo_28 not; have Hw29 := T29.below Hw28 gt; clear T29 Bm_28 Bi_28 Bo_28 Bt_28 Hw28; have Bt_29L : Blk W29 bt #[.int .i64 M0, .int .i64 M1, .int .i64 0, .int .i64 0, .int .i64 N0, .int .i64 0, .int .i64 0, .int .i64 0] 26 := Bt_29; clear Bt_29))
      refine Det.wp_region_last (S := fun w' => Below W29.heap.size W29 w') 15 (by kernel_rfl) (by kernel_rfl) (by kernel_rfl) rfl (bq_drew (bq_refl _)) ?_
      refine Det.det_take (v := ?_) (by rfl) ?_ ?_
      rotate_left
      · (intro w hSw; go_simp; try with_reducible rfl)
      try simp only [Act.put, List.setIfInBounds_toArray, List.set_cons_zero, List.set_cons_succ]
      refine Det.det_take (v := ?_) (by rfl) ?_ ?_
      rotate_left
      · (intro w hSw; go_simp; try with_reducible rfl)
      try simp only [Act.put, List.setIfInBounds_toArray, List.set_cons_zero, List.set_cons_succ]
      refine Det.det_take (v := ?_) (by rfl) ?_ ?_
      rotate_left
      · (intro w hSw; go_simp; try with_reducible rfl)
      try simp only [Act.put, List.setIfInBounds_toArray, List.set_cons_zero, List.set_cons_succ]
      refine Det.det_take (v := ?_) (by rfl) ?_ ?_
      rotate_left
      · (intro w hSw; go_simp; try with_reducible rfl)
      try simp only [Act.put, List.setIfInBounds_toArray, List.set_cons_zero, List.set_cons_succ]
      refine Det.det_take (v := ?_) (by rfl) ?_ ?_
      rotate_left
      · (intro w hSw; have cc : w.cell? ⟨bi, 5, none⟩ = some (.int .i64 id1) := (Bi_29.keep hSw).cell 5; go_simp; try with_reducible rfl)
      try simp only [Act.put, List.setIfInBounds_toArray, List.set_cons_zero, List.set_cons_succ]
      refine Det.det_take (v := ?_) (by rfl) ?_ ?_
      rotate_left
      · (intro w hSw; go_simp; try with_reducible rfl)
      try simp only [Act.put, List.setIfInBounds_toArray, List.set_cons_zero, List.set_cons_succ]
      refine Det.det_call (f := 35) (args := #[.int .i64 id1, .int .i64 om1]) (v := .int .i64 g1) (by rfl) ?_ (fun w hS => (HS1.out w).mono fun e w' ⟨h1, h2⟩ => ⟨h1, bq_trans hS h2⟩) ?_
      · (intro w hSw; go_simp)
      try simp only [Act.put, List.setIfInBounds_toArray, List.set_cons_zero, List.set_cons_succ]
      refine Det.det_take (v := ?_) (by rfl) ?_ ?_
      rotate_left
      · (intro w hSw; go_simp; try with_reducible rfl)
      try simp only [Act.put, List.setIfInBounds_toArray, List.set_cons_zero, List.set_cons_succ]
      refine Det.det_take (v := ?_) (by rfl) ?_ ?_
      rotate_left
      · (intro w hSw; go_simp; try with_reducible rfl)
      try simp only [Act.put, List.setIfInBounds_toArray, List.set_cons_zero, List.set_cons_succ]
      refine Det.det_take (v := ?_) (by rfl) ?_ ?_
      rotate_left
      · (intro w hSw; go_simp; try with_reducible rfl)
      try simp only [Act.put, List.setIfInBounds_toArray, List.set_cons_zero, List.set_cons_succ]
      refine Det.det_take (v := ?_) (by rfl) ?_ ?_
      rotate_left
      · (intro w hSw; have cc : w.cell? ⟨bm, 5, none⟩ = some (.int .i64 od1) := (Bm_29.keep hSw).cell 5; go_simp; try with_reducible rfl)
      try simp only [Act.put, List.setIfInBounds_toArray, List.set_cons_zero, List.set_cons_succ]
      refine Det.det_take (v := ?_) (by rfl) ?_ ?_
      rotate_left
      · (intro w hSw; have ew := HE1.out; go_simp; try with_reducible rfl)
      try simp only [Act.put, List.setIfInBounds_toArray, List.set_cons_zero, List.set_cons_succ]
      refine Det.det_call (f := 34) (args := #[.int .i64 (-255), .int .i64 (g1 + od1), .int .i64 255]) (v := .int .i64 N1) (by rfl) ?_ (fun w hS => (HV1.out w).mono fun e w' ⟨h1, h2⟩ => ⟨h1, bq_trans hS h2⟩) ?_
      · (intro w hSw; go_simp)
      try simp only [Act.put, List.setIfInBounds_toArray, List.set_cons_zero, List.set_cons_succ]
      refine Det.det_take (v := ?_) (by rfl) ?_ ?_
      rotate_left
      · (intro w hSw; go_simp; try with_reducible rfl)
      try simp only [Act.put, List.setIfInBounds_toArray, List.set_cons_zero, List.set_cons_succ]
      refine Det.det_take (v := ?_) (by rfl) ?_ ?_
      rotate_left
      · (intro w hSw; go_simp; try with_reducible rfl)
      try simp only [Act.put, List.setIfInBounds_toArray, List.set_cons_zero, List.set_cons_succ]
      refine Det.det_nil (fun W30 k30 => ?_)
      have Bm_30 := Bm_29.keep k30
      have Bi_30 := Bi_29.keep k30
      have Bo_30 := Bo_29.keep k30
      have Bt_30 := Bt_29L.keep k30
      have Hw30 := bq_trans Hw29 k30
      clear k30 Bm_29 Bi_29 Bo_29 Bt_29L Hw29
      (refine wl_set 3 _ _ rfl rfl bt 5 rfl (.int .i64 N1) rfl rfl szI _ _ Bt_30 (by decide : 5 < 8) ?_; intro W31 Bt_31 T31; have Bm_31 := T31.blk Bm_30 nmt; have Bi_31 := T31.blk Bi_30 nit; have Bo_31 := T31.blk Bo_30 not; have Hw31 := T31.below Hw30 gt; clear T31 Bm_30 Bi_30 Bo_30 Bt_30 Hw30; have Bt_31L : Blk W31 bt #[.int .i64 M0, .int .i64 M1, .int .i64 0, .int .i64 0, .int .i64 N0, .int .i64 N1, .int .i64 0, .int .i64 0] 26 := Bt_31; clear Bt_31)
      go_wp2_with fail
      go_roundw
      case rel => exact ⟨Or.inr (Or.inr (Or.inl ⟨rfl, Bt_31L⟩)), Bm_31, Bi_31, Bo_31, Hw31⟩
      case measure => simp [intOf]
    · skip
      have cu : wr.cell? ⟨bi, 2, none⟩ = some (.int .i64 im2) := Bi.cell 2
      have hix : ∀ w : World, (Instr.index 24 (.agg #[.int .i64 om0, .int .i64 om1, .int .i64 om2, .int .i64 om3]) (.int .i64 2)).run Try.prog w = .ok (.int .i64 om2) w := fun w => by kernel_rfl
      go_upto_region 7 with (fail)
      clear hix
      go_upto_region 8 with (go_big_may; first
        | (go_at_call 35; (with_reducible refine (HT2.out _).mono ?_); rintro e W27 ⟨rfl, k27⟩; have Bm_27 := Bm.keep k27; have Bi_27 := Bi.keep k27; have Bo_27 := Bo.keep k27; have Bt_27 := Bt.keep k27; have Hw27 := bq_trans HwR k27; clear cu; clear k27 Bm Bi Bo Bt HwR)
        | (go_at_call 34; (with_reducible refine (HW2.out _).mono ?_); rintro e W28 ⟨rfl, k28⟩; have Bm_28 := Bm_27.keep k28; have Bi_28 := Bi_27.keep k28; have Bo_28 := Bo_27.keep k28; have Bt_28 := Bt_27.keep k28; have Hw28 := bq_trans Hw27 k28; clear k28 Bm_27 Bi_27 Bo_27 Bt_27 Hw27)
        | (refine wl_set 3 _ _ rfl rfl bt 2 rfl (.int .i64 M2) rfl rfl szI _ _ Bt_28 (by decide : 2 < 8) ?_; intro W29 Bt_29 T29; have Bm_29 := T29.blk Bm_28 nmt; have Bi_29 := T29.blk Bi_28 nit; have Bo_29 := T29.blk Bo_28 not; have Hw29 := T29.below Hw28 gt; clear T29 Bm_28 Bi_28 Bo_28 Bt_28 Hw28; have Bt_29L : Blk W29 bt #[.int .i64 M0, .int .i64 M1, .int .i64 M2, .int .i64 0, .int .i64 N0, .int .i64 N1, .int .i64 0, .int .i64 0] 26 := Bt_29; clear Bt_29))
      refine Det.wp_region_last (S := fun w' => Below W29.heap.size W29 w') 15 (by kernel_rfl) (by kernel_rfl) (by kernel_rfl) rfl (bq_drew (bq_refl _)) ?_
      refine Det.det_take (v := ?_) (by rfl) ?_ ?_
      rotate_left
      · (intro w hSw; go_simp; try with_reducible rfl)
      try simp only [Act.put, List.setIfInBounds_toArray, List.set_cons_zero, List.set_cons_succ]
      refine Det.det_take (v := ?_) (by rfl) ?_ ?_
      rotate_left
      · (intro w hSw; go_simp; try with_reducible rfl)
      try simp only [Act.put, List.setIfInBounds_toArray, List.set_cons_zero, List.set_cons_succ]
      refine Det.det_take (v := ?_) (by rfl) ?_ ?_
      rotate_left
      · (intro w hSw; go_simp; try with_reducible rfl)
      try simp only [Act.put, List.setIfInBounds_toArray, List.set_cons_zero, List.set_cons_succ]
      refine Det.det_take (v := ?_) (by rfl) ?_ ?_
      rotate_left
      · (intro w hSw; go_simp; try with_reducible rfl)
      try simp only [Act.put, List.setIfInBounds_toArray, List.set_cons_zero, List.set_cons_succ]
      refine Det.det_take (v := ?_) (by rfl) ?_ ?_
      rotate_left
      · (intro w hSw; have cc : w.cell? ⟨bi, 6, none⟩ = some (.int .i64 id2) := (Bi_29.keep hSw).cell 6; go_simp; try with_reducible rfl)
      try simp only [Act.put, List.setIfInBounds_toArray, List.set_cons_zero, List.set_cons_succ]
      refine Det.det_take (v := ?_) (by rfl) ?_ ?_
      rotate_left
      · (intro w hSw; go_simp; try with_reducible rfl)
      try simp only [Act.put, List.setIfInBounds_toArray, List.set_cons_zero, List.set_cons_succ]
      refine Det.det_call (f := 35) (args := #[.int .i64 id2, .int .i64 om2]) (v := .int .i64 g2) (by rfl) ?_ (fun w hS => (HS2.out w).mono fun e w' ⟨h1, h2⟩ => ⟨h1, bq_trans hS h2⟩) ?_
      · (intro w hSw; go_simp)
      try simp only [Act.put, List.setIfInBounds_toArray, List.set_cons_zero, List.set_cons_succ]
      refine Det.det_take (v := ?_) (by rfl) ?_ ?_
      rotate_left
      · (intro w hSw; go_simp; try with_reducible rfl)
      try simp only [Act.put, List.setIfInBounds_toArray, List.set_cons_zero, List.set_cons_succ]
      refine Det.det_take (v := ?_) (by rfl) ?_ ?_
      rotate_left
      · (intro w hSw; go_simp; try with_reducible rfl)
      try simp only [Act.put, List.setIfInBounds_toArray, List.set_cons_zero, List.set_cons_succ]
      refine Det.det_take (v := ?_) (by rfl) ?_ ?_
      rotate_left
      · (intro w hSw; go_simp; try with_reducible rfl)
      try simp only [Act.put, List.setIfInBounds_toArray, List.set_cons_zero, List.set_cons_succ]
      refine Det.det_take (v := ?_) (by rfl) ?_ ?_
      rotate_left
      · (intro w hSw; have cc : w.cell? ⟨bm, 6, none⟩ = some (.int .i64 od2) := (Bm_29.keep hSw).cell 6; go_simp; try with_reducible rfl)
      try simp only [Act.put, List.setIfInBounds_toArray, List.set_cons_zero, List.set_cons_succ]
      refine Det.det_take (v := ?_) (by rfl) ?_ ?_
      rotate_left
      · (intro w hSw; have ew := HE2.out; go_simp; try with_reducible rfl)
      try simp only [Act.put, List.setIfInBounds_toArray, List.set_cons_zero, List.set_cons_succ]
      refine Det.det_call (f := 34) (args := #[.int .i64 (-255), .int .i64 (g2 + od2), .int .i64 255]) (v := .int .i64 N2) (by rfl) ?_ (fun w hS => (HV2.out w).mono fun e w' ⟨h1, h2⟩ => ⟨h1, bq_trans hS h2⟩) ?_
      · (intro w hSw; go_simp)
      try simp only [Act.put, List.setIfInBounds_toArray, List.set_cons_zero, List.set_cons_succ]
      refine Det.det_take (v := ?_) (by rfl) ?_ ?_
      rotate_left
      · (intro w hSw; go_simp; try with_reducible rfl)
      try simp only [Act.put, List.setIfInBounds_toArray, List.set_cons_zero, List.set_cons_succ]
      refine Det.det_take (v := ?_) (by rfl) ?_ ?_
      rotate_left
      · (intro w hSw; go_simp; try with_reducible rfl)
      try simp only [Act.put, List.setIfInBounds_toArray, List.set_cons_zero, List.set_cons_succ]
      refine Det.det_nil (fun W30 k30 => ?_)
      have Bm_30 := Bm_29.keep k30
      have Bi_30 := Bi_29.keep k30
      have Bo_30 := Bo_29.keep k30
      have Bt_30 := Bt_29L.keep k30
      have Hw30 := bq_trans Hw29 k30
      clear k30 Bm_29 Bi_29 Bo_29 Bt_29L Hw29
      (refine wl_set 3 _ _ rfl rfl bt 6 rfl (.int .i64 N2) rfl rfl szI _ _ Bt_30 (by decide : 6 < 8) ?_; intro W31 Bt_31 T31; have Bm_31 := T31.blk Bm_30 nmt; have Bi_31 := T31.blk Bi_30 nit; have Bo_31 := T31.blk Bo_30 not; have Hw31 := T31.below Hw30 gt; clear T31 Bm_30 Bi_30 Bo_30 Bt_30 Hw30; have Bt_31L : Blk W31 bt #[.int .i64 M0, .int .i64 M1, .int .i64 M2, .int .i64 0, .int .i64 N0, .int .i64 N1, .int .i64 N2, .int .i64 0] 26 := Bt_31; clear Bt_31)
      go_wp2_with fail
      go_roundw
      case rel => exact ⟨Or.inr (Or.inr (Or.inr (Or.inl ⟨rfl, Bt_31L⟩))), Bm_31, Bi_31, Bo_31, Hw31⟩
      case measure => simp [intOf]
    · skip
      have cu : wr.cell? ⟨bi, 3, none⟩ = some (.int .i64 im3) := Bi.cell 3
      have hix : ∀ w : World, (Instr.index 24 (.agg #[.int .i64 om0, .int .i64 om1, .int .i64 om2, .int .i64 om3]) (.int .i64 3)).run Try.prog w = .ok (.int .i64 om3) w := fun w => by kernel_rfl
      go_upto_region 7 with (fail)
      clear hix
      go_upto_region 8 with (go_big_may; first
        | (go_at_call 35; (with_reducible refine (HT3.out _).mono ?_); rintro e W27 ⟨rfl, k27⟩; have Bm_27 := Bm.keep k27; have Bi_27 := Bi.keep k27; have Bo_27 := Bo.keep k27; have Bt_27 := Bt.keep k27; have Hw27 := bq_trans HwR k27; clear cu; clear k27 Bm Bi Bo Bt HwR)
        | (go_at_call 34; (with_reducible refine (HW3.out _).mono ?_); rintro e W28 ⟨rfl, k28⟩; have Bm_28 := Bm_27.keep k28; have Bi_28 := Bi_27.keep k28; have Bo_28 := Bo_27.keep k28; have Bt_28 := Bt_27.keep k28; have Hw28 := bq_trans Hw27 k28; clear k28 Bm_27 Bi_27 Bo_27 Bt_27 Hw27)
        | (refine wl_set 3 _ _ rfl rfl bt 3 rfl (.int .i64 M3) rfl rfl szI _ _ Bt_28 (by decide : 3 < 8) ?_; intro W29 Bt_29 T29; have Bm_29 := T29.blk Bm_28 nmt; have Bi_29 := T29.blk Bi_28 nit; have Bo_29 := T29.blk Bo_28 not; have Hw29 := T29.below Hw28 gt; clear T29 Bm_28 Bi_28 Bo_28 Bt_28 Hw28; have Bt_29L : Blk W29 bt #[.int .i64 M0, .int .i64 M1, .int .i64 M2, .int .i64 M3, .int .i64 N0, .int .i64 N1, .int .i64 N2, .int .i64 0] 26 := Bt_29; clear Bt_29))
      refine Det.wp_region_last (S := fun w' => Below W29.heap.size W29 w') 15 (by kernel_rfl) (by kernel_rfl) (by kernel_rfl) rfl (bq_drew (bq_refl _)) ?_
      refine Det.det_take (v := ?_) (by rfl) ?_ ?_
      rotate_left
      · (intro w hSw; go_simp; try with_reducible rfl)
      try simp only [Act.put, List.setIfInBounds_toArray, List.set_cons_zero, List.set_cons_succ]
      refine Det.det_take (v := ?_) (by rfl) ?_ ?_
      rotate_left
      · (intro w hSw; go_simp; try with_reducible rfl)
      try simp only [Act.put, List.setIfInBounds_toArray, List.set_cons_zero, List.set_cons_succ]
      refine Det.det_take (v := ?_) (by rfl) ?_ ?_
      rotate_left
      · (intro w hSw; go_simp; try with_reducible rfl)
      try simp only [Act.put, List.setIfInBounds_toArray, List.set_cons_zero, List.set_cons_succ]
      refine Det.det_take (v := ?_) (by rfl) ?_ ?_
      rotate_left
      · (intro w hSw; go_simp; try with_reducible rfl)
      try simp only [Act.put, List.setIfInBounds_toArray, List.set_cons_zero, List.set_cons_succ]
      refine Det.det_take (v := ?_) (by rfl) ?_ ?_
      rotate_left
      · (intro w hSw; have cc : w.cell? ⟨bi, 7, none⟩ = some (.int .i64 id3) := (Bi_29.keep hSw).cell 7; go_simp; try with_reducible rfl)
      try simp only [Act.put, List.setIfInBounds_toArray, List.set_cons_zero, List.set_cons_succ]
      refine Det.det_take (v := ?_) (by rfl) ?_ ?_
      rotate_left
      · (intro w hSw; go_simp; try with_reducible rfl)
      try simp only [Act.put, List.setIfInBounds_toArray, List.set_cons_zero, List.set_cons_succ]
      refine Det.det_call (f := 35) (args := #[.int .i64 id3, .int .i64 om3]) (v := .int .i64 g3) (by rfl) ?_ (fun w hS => (HS3.out w).mono fun e w' ⟨h1, h2⟩ => ⟨h1, bq_trans hS h2⟩) ?_
      · (intro w hSw; go_simp)
      try simp only [Act.put, List.setIfInBounds_toArray, List.set_cons_zero, List.set_cons_succ]
      refine Det.det_take (v := ?_) (by rfl) ?_ ?_
      rotate_left
      · (intro w hSw; go_simp; try with_reducible rfl)
      try simp only [Act.put, List.setIfInBounds_toArray, List.set_cons_zero, List.set_cons_succ]
      refine Det.det_take (v := ?_) (by rfl) ?_ ?_
      rotate_left
      · (intro w hSw; go_simp; try with_reducible rfl)
      try simp only [Act.put, List.setIfInBounds_toArray, List.set_cons_zero, List.set_cons_succ]
      refine Det.det_take (v := ?_) (by rfl) ?_ ?_
      rotate_left
      · (intro w hSw; go_simp; try with_reducible rfl)
      try simp only [Act.put, List.setIfInBounds_toArray, List.set_cons_zero, List.set_cons_succ]
      refine Det.det_take (v := ?_) (by rfl) ?_ ?_
      rotate_left
      · (intro w hSw; have cc : w.cell? ⟨bm, 7, none⟩ = some (.int .i64 od3) := (Bm_29.keep hSw).cell 7; go_simp; try with_reducible rfl)
      try simp only [Act.put, List.setIfInBounds_toArray, List.set_cons_zero, List.set_cons_succ]
      refine Det.det_take (v := ?_) (by rfl) ?_ ?_
      rotate_left
      · (intro w hSw; have ew := HE3.out; go_simp; try with_reducible rfl)
      try simp only [Act.put, List.setIfInBounds_toArray, List.set_cons_zero, List.set_cons_succ]
      refine Det.det_call (f := 34) (args := #[.int .i64 (-255), .int .i64 (g3 + od3), .int .i64 255]) (v := .int .i64 N3) (by rfl) ?_ (fun w hS => (HV3.out w).mono fun e w' ⟨h1, h2⟩ => ⟨h1, bq_trans hS h2⟩) ?_
      · (intro w hSw; go_simp)
      try simp only [Act.put, List.setIfInBounds_toArray, List.set_cons_zero, List.set_cons_succ]
      refine Det.det_take (v := ?_) (by rfl) ?_ ?_
      rotate_left
      · (intro w hSw; go_simp; try with_reducible rfl)
      try simp only [Act.put, List.setIfInBounds_toArray, List.set_cons_zero, List.set_cons_succ]
      refine Det.det_take (v := ?_) (by rfl) ?_ ?_
      rotate_left
      · (intro w hSw; go_simp; try with_reducible rfl)
      try simp only [Act.put, List.setIfInBounds_toArray, List.set_cons_zero, List.set_cons_succ]
      refine Det.det_nil (fun W30 k30 => ?_)
      have Bm_30 := Bm_29.keep k30
      have Bi_30 := Bi_29.keep k30
      have Bo_30 := Bo_29.keep k30
      have Bt_30 := Bt_29L.keep k30
      have Hw30 := bq_trans Hw29 k30
      clear k30 Bm_29 Bi_29 Bo_29 Bt_29L Hw29
      (refine wl_set 3 _ _ rfl rfl bt 7 rfl (.int .i64 N3) rfl rfl szI _ _ Bt_30 (by decide : 7 < 8) ?_; intro W31 Bt_31 T31; have Bm_31 := T31.blk Bm_30 nmt; have Bi_31 := T31.blk Bi_30 nit; have Bo_31 := T31.blk Bo_30 not; have Hw31 := T31.below Hw30 gt; clear T31 Bm_30 Bi_30 Bo_30 Bt_30 Hw30; have Bt_31L : Blk W31 bt #[.int .i64 M0, .int .i64 M1, .int .i64 M2, .int .i64 M3, .int .i64 N0, .int .i64 N1, .int .i64 N2, .int .i64 N3] 26 := Bt_31; clear Bt_31)
      go_wp2_with fail
      go_roundw
      case rel => exact ⟨Or.inr (Or.inr (Or.inr (Or.inr (⟨rfl, Bt_31L⟩)))), Bm_31, Bi_31, Bo_31, Hw31⟩
      case measure => simp [intOf]
    · skip
      go_wp2_with (first
        | (refine wl_load 26 8 _ Try.underlying26 rfl szCx _ rfl rfl _ rfl _ _ Bt rfl ?_)
        | (refine wl_store 26 8 szCx _ _ rfl rfl _ rfl #[.int .i64 M0, .int .i64 M1, .int .i64 M2, .int .i64 M3, .int .i64 N0, .int .i64 N1, .int .i64 N2, .int .i64 N3] rfl _ _ Bo rfl rfl (by kernel_rfl) ?_; intro W27 Bo_27 T27; have Bm_27 := T27.blk Bm nmo; have Bi_27 := T27.blk Bi nio; have Bt_27 := T27.blk Bt (Ne.symm not); have Hw27 := T27.below HwR go; clear T27 Bm Bi Bt Bo HwR))
      exact post_cell Try.underlying26 rfl szCx Try.results11 Bo_27 rfl rfl rfl ⟨rfl, Hw27⟩
set_option maxHeartbeats 4000000 in
theorem rcompcx14_yes (om0 om1 om2 om3 od0 od1 od2 od3 im0 im1 im2 im3 id0 id1 id2 id3 f0 g0 M0 N0 f1 g1 M1 N1 f2 g2 M2 N2 f3 g3 M3 N3 p0 q0 p1 q1 p2 q2 p3 q3 : Int) (w : World) 
    (hp0 : IntKind.i64.wrap (om0 * im0) = p0) (hr0 : IntKind.i64.wrap (id0 * om0) = q0)
    (HT0 : Hid (∀ W, Calls Try.prog 32 #[.int .i64 p0, .int .i64 256] W fun e w' => e = .returned (.int .i64 f0) ∧ Below W.heap.size W w')) (HS0 : Hid (∀ W, Calls Try.prog 32 #[.int .i64 q0, .int .i64 256] W fun e w' => e = .returned (.int .i64 g0) ∧ Below W.heap.size W w'))
    (HW0 : Hid (∀ W, Calls Try.prog 37 #[.int .i64 f0, .int .i64 (-512), .int .i64 512] W fun e w' => e = .returned (.int .i64 M0) ∧ Below W.heap.size W w')) (HV0 : Hid (∀ W, Calls Try.prog 37 #[.int .i64 (g0 + od0), .int .i64 (-255), .int .i64 255] W fun e w' => e = .returned (.int .i64 N0) ∧ Below W.heap.size W w')) (hg0 : IntKind.i64.wrap (g0 + od0) = g0 + od0)
    (hp1 : IntKind.i64.wrap (om1 * im1) = p1) (hr1 : IntKind.i64.wrap (id1 * om1) = q1)
    (HT1 : Hid (∀ W, Calls Try.prog 32 #[.int .i64 p1, .int .i64 256] W fun e w' => e = .returned (.int .i64 f1) ∧ Below W.heap.size W w')) (HS1 : Hid (∀ W, Calls Try.prog 32 #[.int .i64 q1, .int .i64 256] W fun e w' => e = .returned (.int .i64 g1) ∧ Below W.heap.size W w'))
    (HW1 : Hid (∀ W, Calls Try.prog 37 #[.int .i64 f1, .int .i64 (-512), .int .i64 512] W fun e w' => e = .returned (.int .i64 M1) ∧ Below W.heap.size W w')) (HV1 : Hid (∀ W, Calls Try.prog 37 #[.int .i64 (g1 + od1), .int .i64 (-255), .int .i64 255] W fun e w' => e = .returned (.int .i64 N1) ∧ Below W.heap.size W w')) (hg1 : IntKind.i64.wrap (g1 + od1) = g1 + od1)
    (hp2 : IntKind.i64.wrap (om2 * im2) = p2) (hr2 : IntKind.i64.wrap (id2 * om2) = q2)
    (HT2 : Hid (∀ W, Calls Try.prog 32 #[.int .i64 p2, .int .i64 256] W fun e w' => e = .returned (.int .i64 f2) ∧ Below W.heap.size W w')) (HS2 : Hid (∀ W, Calls Try.prog 32 #[.int .i64 q2, .int .i64 256] W fun e w' => e = .returned (.int .i64 g2) ∧ Below W.heap.size W w'))
    (HW2 : Hid (∀ W, Calls Try.prog 37 #[.int .i64 f2, .int .i64 (-512), .int .i64 512] W fun e w' => e = .returned (.int .i64 M2) ∧ Below W.heap.size W w')) (HV2 : Hid (∀ W, Calls Try.prog 37 #[.int .i64 (g2 + od2), .int .i64 (-255), .int .i64 255] W fun e w' => e = .returned (.int .i64 N2) ∧ Below W.heap.size W w')) (hg2 : IntKind.i64.wrap (g2 + od2) = g2 + od2)
    (hp3 : IntKind.i64.wrap (om3 * im3) = p3) (hr3 : IntKind.i64.wrap (id3 * om3) = q3)
    (HT3 : Hid (∀ W, Calls Try.prog 32 #[.int .i64 p3, .int .i64 256] W fun e w' => e = .returned (.int .i64 f3) ∧ Below W.heap.size W w')) (HS3 : Hid (∀ W, Calls Try.prog 32 #[.int .i64 q3, .int .i64 256] W fun e w' => e = .returned (.int .i64 g3) ∧ Below W.heap.size W w'))
    (HW3 : Hid (∀ W, Calls Try.prog 37 #[.int .i64 f3, .int .i64 (-512), .int .i64 512] W fun e w' => e = .returned (.int .i64 M3) ∧ Below W.heap.size W w')) (HV3 : Hid (∀ W, Calls Try.prog 37 #[.int .i64 (g3 + od3), .int .i64 (-255), .int .i64 255] W fun e w' => e = .returned (.int .i64 N3) ∧ Below W.heap.size W w')) (hg3 : IntKind.i64.wrap (g3 + od3) = g3 + od3)
    : Calls Try.prog 13 #[.agg #[.int .i64 om0, .int .i64 om1, .int .i64 om2, .int .i64 om3, .int .i64 od0, .int .i64 od1, .int .i64 od2, .int .i64 od3], .agg #[.int .i64 im0, .int .i64 im1, .int .i64 im2, .int .i64 im3, .int .i64 id0, .int .i64 id1, .int .i64 id2, .int .i64 id3]] w fun e w' => e = .returned (.agg #[.int .i64 M0, .int .i64 M1, .int .i64 M2, .int .i64 M3, .int .i64 N0, .int .i64 N1, .int .i64 N2, .int .i64 N3]) ∧ Below w.heap.size w w' := by
  have HE0 := Lib.hid hg0
  have HP0 := Lib.hid (And.intro hp0 hr0)
  have HE1 := Lib.hid hg1
  have HP1 := Lib.hid (And.intro hp1 hr1)
  have HE2 := Lib.hid hg2
  have HP2 := Lib.hid (And.intro hp2 hr2)
  have HE3 := Lib.hid hg3
  have HP3 := Lib.hid (And.intro hp3 hr3)
  clear hg0 hp0 hr0 hg1 hp1 hr1 hg2 hp2 hr2 hg3 hp3 hr3
  go_enter Try.func13, Try.ntmps13
  go_wp2_with (first
    | (refine wl_box 26 _ _ rfl rfl (show _ = Value.agg #[.int .i64 om0, .int .i64 om1, .int .i64 om2, .int .i64 om3, .int .i64 od0, .int .i64 od1, .int .i64 od2, .int .i64 od3] from rfl) ?_; intro W1 bm Bm_1 l1 k1; have gm : w.heap.size ≤ bm := l1; have Hw1 := k1; clear l1 k1)
    | (refine wl_box 26 _ _ rfl rfl (show _ = Value.agg #[.int .i64 im0, .int .i64 im1, .int .i64 im2, .int .i64 im3, .int .i64 id0, .int .i64 id1, .int .i64 id2, .int .i64 id3] from rfl) ?_; intro W2 bi Bi_2 l2 k2; have gi : w.heap.size ≤ bi := Nat.le_trans Hw1.size l2; have nmi : bm ≠ bi := Nat.ne_of_lt (Nat.lt_of_lt_of_le Bm_1.lt l2); have Bm_2 := Bm_1.keep k2; have Hw2 := bq_trans Hw1 k2; clear l2 k2 Bm_1 Hw1)
    | (refine wl_alloc 26 _ zeCx rfl rfl ?_; intro W3 bo Bo_3 l3 k3; have go : w.heap.size ≤ bo := Nat.le_trans Hw2.size l3; have nmo : bm ≠ bo := Nat.ne_of_lt (Nat.lt_of_lt_of_le Bm_2.lt l3); have nio : bi ≠ bo := Nat.ne_of_lt (Nat.lt_of_lt_of_le Bi_2.lt l3); have Bm_3 := Bm_2.keep k3; have Bi_3 := Bi_2.keep k3; have Hw3 := bq_trans Hw2 k3; clear l3 k3 Bm_2 Bi_2 Hw2)
    | (refine wl_alloc 26 _ zeCx rfl rfl ?_; intro W4 bt Bt_4 l4 k4; have gt : w.heap.size ≤ bt := Nat.le_trans Hw3.size l4; have nmt : bm ≠ bt := Nat.ne_of_lt (Nat.lt_of_lt_of_le Bm_3.lt l4); have nit : bi ≠ bt := Nat.ne_of_lt (Nat.lt_of_lt_of_le Bi_3.lt l4); have not : bo ≠ bt := Nat.ne_of_lt (Nat.lt_of_lt_of_le Bo_3.lt l4); have Bm_4 := Bm_3.keep k4; have Bi_4 := Bi_3.keep k4; have Bo_4 := Bo_3.keep k4; have Hw4 := bq_trans Hw3 k4; clear l4 k4 Bm_3 Bi_3 Bo_3 Hw3))
  go_loopw [6] (fun i wr => ((i = .int .i64 0 ∧ Blk wr bt #[.int .i64 0, .int .i64 0, .int .i64 0, .int .i64 0, .int .i64 0, .int .i64 0, .int .i64 0, .int .i64 0] 26) ∨ (i = .int .i64 1 ∧ Blk wr bt #[.int .i64 M0, .int .i64 0, .int .i64 0, .int .i64 0, .int .i64 N0, .int .i64 0, .int .i64 0, .int .i64 0] 26) ∨ (i = .int .i64 2 ∧ Blk wr bt #[.int .i64 M0, .int .i64 M1, .int .i64 0, .int .i64 0, .int .i64 N0, .int .i64 N1, .int .i64 0, .int .i64 0] 26) ∨ (i = .int .i64 3 ∧ Blk wr bt #[.int .i64 M0, .int .i64 M1, .int .i64 M2, .int .i64 0, .int .i64 N0, .int .i64 N1, .int .i64 N2, .int .i64 0] 26) ∨ (i = .int .i64 4 ∧ Blk wr bt #[.int .i64 M0, .int .i64 M1, .int .i64 M2, .int .i64 M3, .int .i64 N0, .int .i64 N1, .int .i64 N2, .int .i64 N3] 26)) ∧ Blk wr bm #[.int .i64 om0, .int .i64 om1, .int .i64 om2, .int .i64 om3, .int .i64 od0, .int .i64 od1, .int .i64 od2, .int .i64 od3] 26 ∧ Blk wr bi #[.int .i64 im0, .int .i64 im1, .int .i64 im2, .int .i64 im3, .int .i64 id0, .int .i64 id1, .int .i64 id2, .int .i64 id3] 26 ∧ Blk wr bo #[.int .i64 0, .int .i64 0, .int .i64 0, .int .i64 0, .int .i64 0, .int .i64 0, .int .i64 0, .int .i64 0] 26 ∧ Below w.heap.size w wr) (fun i _ => 4 - (intOf i).toNat)
  case atStart => exact ⟨Or.inl ⟨rfl, Bt_4⟩, Bm_4, Bi_4, Bo_4, Hw4⟩
  case round =>
    obtain ⟨hd, Bm, Bi, Bo, HwR⟩ := hrel
    clear Bm_4 Bi_4 Bo_4 Bt_4 Hw4
    rcases hd with ⟨rfl, Bt⟩ | ⟨rfl, Bt⟩ | ⟨rfl, Bt⟩ | ⟨rfl, Bt⟩ | ⟨rfl, Bt⟩
    · skip
      go_upto_region 5 with (fail)
      refine Det.wp_region_last (S := fun w' => Below wr.heap.size wr w') 14 (by kernel_rfl) (by kernel_rfl) (by kernel_rfl) rfl (bq_drew (bq_refl _)) ?_
      refine Det.det_take (v := ?_) (by rfl) ?_ ?_
      rotate_left
      · (intro w hSw; go_simp; try with_reducible rfl)
      try simp only [Act.put, List.setIfInBounds_toArray, List.set_cons_zero, List.set_cons_succ]
      refine Det.det_take (v := ?_) (by rfl) ?_ ?_
      rotate_left
      · (intro w hSw; go_simp; try with_reducible rfl)
      try simp only [Act.put, List.setIfInBounds_toArray, List.set_cons_zero, List.set_cons_succ]
      refine Det.det_take (v := ?_) (by rfl) ?_ ?_
      rotate_left
      · (intro w hSw; go_simp; try with_reducible rfl)
      try simp only [Act.put, List.setIfInBounds_toArray, List.set_cons_zero, List.set_cons_succ]
      refine Det.det_take (v := ?_) (by rfl) ?_ ?_
      rotate_left
      · (intro w hSw; go_simp; try with_reducible rfl)
      try simp only [Act.put, List.setIfInBounds_toArray, List.set_cons_zero, List.set_cons_succ]
      refine Det.det_take (v := ?_) (by rfl) ?_ ?_
      rotate_left
      · (intro w hSw; have cc : w.cell? ⟨bm, 0, none⟩ = some (.int .i64 om0) := (Bm.keep hSw).cell 0; go_simp; try with_reducible rfl)
      try simp only [Act.put, List.setIfInBounds_toArray, List.set_cons_zero, List.set_cons_succ]
      refine Det.det_take (v := ?_) (by rfl) ?_ ?_
      rotate_left
      · (intro w hSw; go_simp; try with_reducible rfl)
      try simp only [Act.put, List.setIfInBounds_toArray, List.set_cons_zero, List.set_cons_succ]
      refine Det.det_take (v := ?_) (by rfl) ?_ ?_
      rotate_left
      · (intro w hSw; go_simp; try with_reducible rfl)
      try simp only [Act.put, List.setIfInBounds_toArray, List.set_cons_zero, List.set_cons_succ]
      refine Det.det_take (v := ?_) (by rfl) ?_ ?_
      rotate_left
      · (intro w hSw; go_simp; try with_reducible rfl)
      try simp only [Act.put, List.setIfInBounds_toArray, List.set_cons_zero, List.set_cons_succ]
      refine Det.det_take (v := ?_) (by rfl) ?_ ?_
      rotate_left
      · (intro w hSw; have cc : w.cell? ⟨bi, 0, none⟩ = some (.int .i64 im0) := (Bi.keep hSw).cell 0; go_simp; try with_reducible rfl)
      try simp only [Act.put, List.setIfInBounds_toArray, List.set_cons_zero, List.set_cons_succ]
      refine Det.det_take (v := ?_) (by rfl) ?_ ?_
      rotate_left
      · (intro w hSw; have ew := HP0.out.1; go_simp; try with_reducible rfl)
      try simp only [Act.put, List.setIfInBounds_toArray, List.set_cons_zero, List.set_cons_succ]
      refine Det.det_call (f := 32) (args := #[.int .i64 p0, .int .i64 256]) (v := .int .i64 f0) (by rfl) ?_ (fun w hS => (HT0.out w).mono fun e w' ⟨h1, h2⟩ => ⟨h1, bq_trans hS h2⟩) ?_
      · (intro w hSw; go_simp)
      try simp only [Act.put, List.setIfInBounds_toArray, List.set_cons_zero, List.set_cons_succ]
      refine Det.det_call (f := 37) (args := #[.int .i64 f0, .int .i64 (-512), .int .i64 512]) (v := .int .i64 M0) (by rfl) ?_ (fun w hS => (HW0.out w).mono fun e w' ⟨h1, h2⟩ => ⟨h1, bq_trans hS h2⟩) ?_
      · (intro w hSw; go_simp)
      try simp only [Act.put, List.setIfInBounds_toArray, List.set_cons_zero, List.set_cons_succ]
      refine Det.det_take (v := ?_) (by rfl) ?_ ?_
      rotate_left
      · (intro w hSw; go_simp; try with_reducible rfl)
      try simp only [Act.put, List.setIfInBounds_toArray, List.set_cons_zero, List.set_cons_succ]
      refine Det.det_take (v := ?_) (by rfl) ?_ ?_
      rotate_left
      · (intro w hSw; go_simp; try with_reducible rfl)
      try simp only [Act.put, List.setIfInBounds_toArray, List.set_cons_zero, List.set_cons_succ]
      refine Det.det_nil (fun W25 k25 => ?_)
      have Bm_25 := Bm.keep k25
      have Bi_25 := Bi.keep k25
      have Bo_25 := Bo.keep k25
      have Bt_25 := Bt.keep k25
      have Hw25 := bq_trans HwR k25
      clear k25 Bm Bi Bo Bt HwR
      (refine wl_set 3 _ _ rfl rfl bt 0 rfl (.int .i64 M0) rfl rfl szI _ _ Bt_25 (by decide : 0 < 8) ?_; intro W26 Bt_26 T26; have Bm_26 := T26.blk Bm_25 nmt; have Bi_26 := T26.blk Bi_25 nit; have Bo_26 := T26.blk Bo_25 not; have Hw26 := T26.below Hw25 gt; clear T26 Bm_25 Bi_25 Bo_25 Bt_25 Hw25; have Bt_26L : Blk W26 bt #[.int .i64 M0, .int .i64 0, .int .i64 0, .int .i64 0, .int .i64 0, .int .i64 0, .int .i64 0, .int .i64 0] 26 := Bt_26; clear Bt_26)
      go_upto_region 6 with (fail)
      refine Det.wp_region_last (S := fun w' => Below W26.heap.size W26 w') 19 (by kernel_rfl) (by kernel_rfl) (by kernel_rfl) rfl (bq_drew (bq_refl _)) ?_
      refine Det.det_take (v := ?_) (by rfl) ?_ ?_
      rotate_left
      · (intro w hSw; go_simp; try with_reducible rfl)
      try simp only [Act.put, List.setIfInBounds_toArray, List.set_cons_zero, List.set_cons_succ]
      refine Det.det_take (v := ?_) (by rfl) ?_ ?_
      rotate_left
      · (intro w hSw; go_simp; try with_reducible rfl)
      try simp only [Act.put, List.setIfInBounds_toArray, List.set_cons_zero, List.set_cons_succ]
      refine Det.det_take (v := ?_) (by rfl) ?_ ?_
      rotate_left
      · (intro w hSw; go_simp; try with_reducible rfl)
      try simp only [Act.put, List.setIfInBounds_toArray, List.set_cons_zero, List.set_cons_succ]
      refine Det.det_take (v := ?_) (by rfl) ?_ ?_
      rotate_left
      · (intro w hSw; go_simp; try with_reducible rfl)
      try simp only [Act.put, List.setIfInBounds_toArray, List.set_cons_zero, List.set_cons_succ]
      refine Det.det_take (v := ?_) (by rfl) ?_ ?_
      rotate_left
      · (intro w hSw; have cc : w.cell? ⟨bi, 4, none⟩ = some (.int .i64 id0) := (Bi_26.keep hSw).cell 4; go_simp; try with_reducible rfl)
      try simp only [Act.put, List.setIfInBounds_toArray, List.set_cons_zero, List.set_cons_succ]
      refine Det.det_take (v := ?_) (by rfl) ?_ ?_
      rotate_left
      · (intro w hSw; go_simp; try with_reducible rfl)
      try simp only [Act.put, List.setIfInBounds_toArray, List.set_cons_zero, List.set_cons_succ]
      refine Det.det_take (v := ?_) (by rfl) ?_ ?_
      rotate_left
      · (intro w hSw; go_simp; try with_reducible rfl)
      try simp only [Act.put, List.setIfInBounds_toArray, List.set_cons_zero, List.set_cons_succ]
      refine Det.det_take (v := ?_) (by rfl) ?_ ?_
      rotate_left
      · (intro w hSw; go_simp; try with_reducible rfl)
      try simp only [Act.put, List.setIfInBounds_toArray, List.set_cons_zero, List.set_cons_succ]
      refine Det.det_take (v := ?_) (by rfl) ?_ ?_
      rotate_left
      · (intro w hSw; have cc : w.cell? ⟨bm, 0, none⟩ = some (.int .i64 om0) := (Bm_26.keep hSw).cell 0; go_simp; try with_reducible rfl)
      try simp only [Act.put, List.setIfInBounds_toArray, List.set_cons_zero, List.set_cons_succ]
      refine Det.det_take (v := ?_) (by rfl) ?_ ?_
      rotate_left
      · (intro w hSw; have ew := HP0.out.2; go_simp; try with_reducible rfl)
      try simp only [Act.put, List.setIfInBounds_toArray, List.set_cons_zero, List.set_cons_succ]
      refine Det.det_call (f := 32) (args := #[.int .i64 q0, .int .i64 256]) (v := .int .i64 g0) (by rfl) ?_ (fun w hS => (HS0.out w).mono fun e w' ⟨h1, h2⟩ => ⟨h1, bq_trans hS h2⟩) ?_
      · (intro w hSw; go_simp)
      try simp only [Act.put, List.setIfInBounds_toArray, List.set_cons_zero, List.set_cons_succ]
      refine Det.det_take (v := ?_) (by rfl) ?_ ?_
      rotate_left
      · (intro w hSw; go_simp; try with_reducible rfl)
      try simp only [Act.put, List.setIfInBounds_toArray, List.set_cons_zero, List.set_cons_succ]
      refine Det.det_take (v := ?_) (by rfl) ?_ ?_
      rotate_left
      · (intro w hSw; go_simp; try with_reducible rfl)
      try simp only [Act.put, List.setIfInBounds_toArray, List.set_cons_zero, List.set_cons_succ]
      refine Det.det_take (v := ?_) (by rfl) ?_ ?_
      rotate_left
      · (intro w hSw; go_simp; try with_reducible rfl)
      try simp only [Act.put, List.setIfInBounds_toArray, List.set_cons_zero, List.set_cons_succ]
      refine Det.det_take (v := ?_) (by rfl) ?_ ?_
      rotate_left
      · (intro w hSw; have cc : w.cell? ⟨bm, 4, none⟩ = some (.int .i64 od0) := (Bm_26.keep hSw).cell 4; go_simp; try with_reducible rfl)
      try simp only [Act.put, List.setIfInBounds_toArray, List.set_cons_zero, List.set_cons_succ]
      refine Det.det_take (v := ?_) (by rfl) ?_ ?_
      rotate_left
      · (intro w hSw; have ew := HE0.out; go_simp; try with_reducible rfl)
      try simp only [Act.put, List.setIfInBounds_toArray, List.set_cons_zero, List.set_cons_succ]
      refine Det.det_call (f := 37) (args := #[.int .i64 (g0 + od0), .int .i64 (-255), .int .i64 255]) (v := .int .i64 N0) (by rfl) ?_ (fun w hS => (HV0.out w).mono fun e w' ⟨h1, h2⟩ => ⟨h1, bq_trans hS h2⟩) ?_
      · (intro w hSw; go_simp)
      try simp only [Act.put, List.setIfInBounds_toArray, List.set_cons_zero, List.set_cons_succ]
      refine Det.det_take (v := ?_) (by rfl) ?_ ?_
      rotate_left
      · (intro w hSw; go_simp; try with_reducible rfl)
      try simp only [Act.put, List.setIfInBounds_toArray, List.set_cons_zero, List.set_cons_succ]
      refine Det.det_take (v := ?_) (by rfl) ?_ ?_
      rotate_left
      · (intro w hSw; go_simp; try with_reducible rfl)
      try simp only [Act.put, List.setIfInBounds_toArray, List.set_cons_zero, List.set_cons_succ]
      refine Det.det_nil (fun W27 k27 => ?_)
      have Bm_27 := Bm_26.keep k27
      have Bi_27 := Bi_26.keep k27
      have Bo_27 := Bo_26.keep k27
      have Bt_27 := Bt_26L.keep k27
      have Hw27 := bq_trans Hw26 k27
      clear k27 Bm_26 Bi_26 Bo_26 Bt_26L Hw26
      (refine wl_set 3 _ _ rfl rfl bt 4 rfl (.int .i64 N0) rfl rfl szI _ _ Bt_27 (by decide : 4 < 8) ?_; intro W28 Bt_28 T28; have Bm_28 := T28.blk Bm_27 nmt; have Bi_28 := T28.blk Bi_27 nit; have Bo_28 := T28.blk Bo_27 not; have Hw28 := T28.below Hw27 gt; clear T28 Bm_27 Bi_27 Bo_27 Bt_27 Hw27; have Bt_28L : Blk W28 bt #[.int .i64 M0, .int .i64 0, .int .i64 0, .int .i64 0, .int .i64 N0, .int .i64 0, .int .i64 0, .int .i64 0] 26 := Bt_28; clear Bt_28)
      go_wp2_with fail
      go_roundw
      case rel => exact ⟨Or.inr (Or.inl ⟨rfl, Bt_28L⟩), Bm_28, Bi_28, Bo_28, Hw28⟩
      case measure => simp [intOf]
    · skip
      go_upto_region 5 with (fail)
      refine Det.wp_region_last (S := fun w' => Below wr.heap.size wr w') 14 (by kernel_rfl) (by kernel_rfl) (by kernel_rfl) rfl (bq_drew (bq_refl _)) ?_
      refine Det.det_take (v := ?_) (by rfl) ?_ ?_
      rotate_left
      · (intro w hSw; go_simp; try with_reducible rfl)
      try simp only [Act.put, List.setIfInBounds_toArray, List.set_cons_zero, List.set_cons_succ]
      refine Det.det_take (v := ?_) (by rfl) ?_ ?_
      rotate_left
      · (intro w hSw; go_simp; try with_reducible rfl)
      try simp only [Act.put, List.setIfInBounds_toArray, List.set_cons_zero, List.set_cons_succ]
      refine Det.det_take (v := ?_) (by rfl) ?_ ?_
      rotate_left
      · (intro w hSw; go_simp; try with_reducible rfl)
      try simp only [Act.put, List.setIfInBounds_toArray, List.set_cons_zero, List.set_cons_succ]
      refine Det.det_take (v := ?_) (by rfl) ?_ ?_
      rotate_left
      · (intro w hSw; go_simp; try with_reducible rfl)
      try simp only [Act.put, List.setIfInBounds_toArray, List.set_cons_zero, List.set_cons_succ]
      refine Det.det_take (v := ?_) (by rfl) ?_ ?_
      rotate_left
      · (intro w hSw; have cc : w.cell? ⟨bm, 1, none⟩ = some (.int .i64 om1) := (Bm.keep hSw).cell 1; go_simp; try with_reducible rfl)
      try simp only [Act.put, List.setIfInBounds_toArray, List.set_cons_zero, List.set_cons_succ]
      refine Det.det_take (v := ?_) (by rfl) ?_ ?_
      rotate_left
      · (intro w hSw; go_simp; try with_reducible rfl)
      try simp only [Act.put, List.setIfInBounds_toArray, List.set_cons_zero, List.set_cons_succ]
      refine Det.det_take (v := ?_) (by rfl) ?_ ?_
      rotate_left
      · (intro w hSw; go_simp; try with_reducible rfl)
      try simp only [Act.put, List.setIfInBounds_toArray, List.set_cons_zero, List.set_cons_succ]
      refine Det.det_take (v := ?_) (by rfl) ?_ ?_
      rotate_left
      · (intro w hSw; go_simp; try with_reducible rfl)
      try simp only [Act.put, List.setIfInBounds_toArray, List.set_cons_zero, List.set_cons_succ]
      refine Det.det_take (v := ?_) (by rfl) ?_ ?_
      rotate_left
      · (intro w hSw; have cc : w.cell? ⟨bi, 1, none⟩ = some (.int .i64 im1) := (Bi.keep hSw).cell 1; go_simp; try with_reducible rfl)
      try simp only [Act.put, List.setIfInBounds_toArray, List.set_cons_zero, List.set_cons_succ]
      refine Det.det_take (v := ?_) (by rfl) ?_ ?_
      rotate_left
      · (intro w hSw; have ew := HP1.out.1; go_simp; try with_reducible rfl)
      try simp only [Act.put, List.setIfInBounds_toArray, List.set_cons_zero, List.set_cons_succ]
      refine Det.det_call (f := 32) (args := #[.int .i64 p1, .int .i64 256]) (v := .int .i64 f1) (by rfl) ?_ (fun w hS => (HT1.out w).mono fun e w' ⟨h1, h2⟩ => ⟨h1, bq_trans hS h2⟩) ?_
      · (intro w hSw; go_simp)
      try simp only [Act.put, List.setIfInBounds_toArray, List.set_cons_zero, List.set_cons_succ]
      refine Det.det_call (f := 37) (args := #[.int .i64 f1, .int .i64 (-512), .int .i64 512]) (v := .int .i64 M1) (by rfl) ?_ (fun w hS => (HW1.out w).mono fun e w' ⟨h1, h2⟩ => ⟨h1, bq_trans hS h2⟩) ?_
      · (intro w hSw; go_simp)
      try simp only [Act.put, List.setIfInBounds_toArray, List.set_cons_zero, List.set_cons_succ]
      refine Det.det_take (v := ?_) (by rfl) ?_ ?_
      rotate_left
      · (intro w hSw; go_simp; try with_reducible rfl)
      try simp only [Act.put, List.setIfInBounds_toArray, List.set_cons_zero, List.set_cons_succ]
      refine Det.det_take (v := ?_) (by rfl) ?_ ?_
      rotate_left
      · (intro w hSw; go_simp; try with_reducible rfl)
      try simp only [Act.put, List.setIfInBounds_toArray, List.set_cons_zero, List.set_cons_succ]
      refine Det.det_nil (fun W25 k25 => ?_)
      have Bm_25 := Bm.keep k25
      have Bi_25 := Bi.keep k25
      have Bo_25 := Bo.keep k25
      have Bt_25 := Bt.keep k25
      have Hw25 := bq_trans HwR k25
      clear k25 Bm Bi Bo Bt HwR
      (refine wl_set 3 _ _ rfl rfl bt 1 rfl (.int .i64 M1) rfl rfl szI _ _ Bt_25 (by decide : 1 < 8) ?_; intro W26 Bt_26 T26; have Bm_26 := T26.blk Bm_25 nmt; have Bi_26 := T26.blk Bi_25 nit; have Bo_26 := T26.blk Bo_25 not; have Hw26 := T26.below Hw25 gt; clear T26 Bm_25 Bi_25 Bo_25 Bt_25 Hw25; have Bt_26L : Blk W26 bt #[.int .i64 M0, .int .i64 M1, .int .i64 0, .int .i64 0, .int .i64 N0, .int .i64 0, .int .i64 0, .int .i64 0] 26 := Bt_26; clear Bt_26)
      go_upto_region 6 with (fail)
      refine Det.wp_region_last (S := fun w' => Below W26.heap.size W26 w') 19 (by kernel_rfl) (by kernel_rfl) (by kernel_rfl) rfl (bq_drew (bq_refl _)) ?_
      refine Det.det_take (v := ?_) (by rfl) ?_ ?_
      rotate_left
      · (intro w hSw; go_simp; try with_reducible rfl)
      try simp only [Act.put, List.setIfInBounds_toArray, List.set_cons_zero, List.set_cons_succ]
      refine Det.det_take (v := ?_) (by rfl) ?_ ?_
      rotate_left
      · (intro w hSw; go_simp; try with_reducible rfl)
      try simp only [Act.put, List.setIfInBounds_toArray, List.set_cons_zero, List.set_cons_succ]
      refine Det.det_take (v := ?_) (by rfl) ?_ ?_
      rotate_left
      · (intro w hSw; go_simp; try with_reducible rfl)
      try simp only [Act.put, List.setIfInBounds_toArray, List.set_cons_zero, List.set_cons_succ]
      refine Det.det_take (v := ?_) (by rfl) ?_ ?_
      rotate_left
      · (intro w hSw; go_simp; try with_reducible rfl)
      try simp only [Act.put, List.setIfInBounds_toArray, List.set_cons_zero, List.set_cons_succ]
      refine Det.det_take (v := ?_) (by rfl) ?_ ?_
      rotate_left
      · (intro w hSw; have cc : w.cell? ⟨bi, 5, none⟩ = some (.int .i64 id1) := (Bi_26.keep hSw).cell 5; go_simp; try with_reducible rfl)
      try simp only [Act.put, List.setIfInBounds_toArray, List.set_cons_zero, List.set_cons_succ]
      refine Det.det_take (v := ?_) (by rfl) ?_ ?_
      rotate_left
      · (intro w hSw; go_simp; try with_reducible rfl)
      try simp only [Act.put, List.setIfInBounds_toArray, List.set_cons_zero, List.set_cons_succ]
      refine Det.det_take (v := ?_) (by rfl) ?_ ?_
      rotate_left
      · (intro w hSw; go_simp; try with_reducible rfl)
      try simp only [Act.put, List.setIfInBounds_toArray, List.set_cons_zero, List.set_cons_succ]
      refine Det.det_take (v := ?_) (by rfl) ?_ ?_
      rotate_left
      · (intro w hSw; go_simp; try with_reducible rfl)
      try simp only [Act.put, List.setIfInBounds_toArray, List.set_cons_zero, List.set_cons_succ]
      refine Det.det_take (v := ?_) (by rfl) ?_ ?_
      rotate_left
      · (intro w hSw; have cc : w.cell? ⟨bm, 1, none⟩ = some (.int .i64 om1) := (Bm_26.keep hSw).cell 1; go_simp; try with_reducible rfl)
      try simp only [Act.put, List.setIfInBounds_toArray, List.set_cons_zero, List.set_cons_succ]
      refine Det.det_take (v := ?_) (by rfl) ?_ ?_
      rotate_left
      · (intro w hSw; have ew := HP1.out.2; go_simp; try with_reducible rfl)
      try simp only [Act.put, List.setIfInBounds_toArray, List.set_cons_zero, List.set_cons_succ]
      refine Det.det_call (f := 32) (args := #[.int .i64 q1, .int .i64 256]) (v := .int .i64 g1) (by rfl) ?_ (fun w hS => (HS1.out w).mono fun e w' ⟨h1, h2⟩ => ⟨h1, bq_trans hS h2⟩) ?_
      · (intro w hSw; go_simp)
      try simp only [Act.put, List.setIfInBounds_toArray, List.set_cons_zero, List.set_cons_succ]
      refine Det.det_take (v := ?_) (by rfl) ?_ ?_
      rotate_left
      · (intro w hSw; go_simp; try with_reducible rfl)
      try simp only [Act.put, List.setIfInBounds_toArray, List.set_cons_zero, List.set_cons_succ]
      refine Det.det_take (v := ?_) (by rfl) ?_ ?_
      rotate_left
      · (intro w hSw; go_simp; try with_reducible rfl)
      try simp only [Act.put, List.setIfInBounds_toArray, List.set_cons_zero, List.set_cons_succ]
      refine Det.det_take (v := ?_) (by rfl) ?_ ?_
      rotate_left
      · (intro w hSw; go_simp; try with_reducible rfl)
      try simp only [Act.put, List.setIfInBounds_toArray, List.set_cons_zero, List.set_cons_succ]
      refine Det.det_take (v := ?_) (by rfl) ?_ ?_
      rotate_left
      · (intro w hSw; have cc : w.cell? ⟨bm, 5, none⟩ = some (.int .i64 od1) := (Bm_26.keep hSw).cell 5; go_simp; try with_reducible rfl)
      try simp only [Act.put, List.setIfInBounds_toArray, List.set_cons_zero, List.set_cons_succ]
      refine Det.det_take (v := ?_) (by rfl) ?_ ?_
      rotate_left
      · (intro w hSw; have ew := HE1.out; go_simp; try with_reducible rfl)
      try simp only [Act.put, List.setIfInBounds_toArray, List.set_cons_zero, List.set_cons_succ]
      refine Det.det_call (f := 37) (args := #[.int .i64 (g1 + od1), .int .i64 (-255), .int .i64 255]) (v := .int .i64 N1) (by rfl) ?_ (fun w hS => (HV1.out w).mono fun e w' ⟨h1, h2⟩ => ⟨h1, bq_trans hS h2⟩) ?_
      · (intro w hSw; go_simp)
      try simp only [Act.put, List.setIfInBounds_toArray, List.set_cons_zero, List.set_cons_succ]
      refine Det.det_take (v := ?_) (by rfl) ?_ ?_
      rotate_left
      · (intro w hSw; go_simp; try with_reducible rfl)
      try simp only [Act.put, List.setIfInBounds_toArray, List.set_cons_zero, List.set_cons_succ]
      refine Det.det_take (v := ?_) (by rfl) ?_ ?_
      rotate_left
      · (intro w hSw; go_simp; try with_reducible rfl)
      try simp only [Act.put, List.setIfInBounds_toArray, List.set_cons_zero, List.set_cons_succ]
      refine Det.det_nil (fun W27 k27 => ?_)
      have Bm_27 := Bm_26.keep k27
      have Bi_27 := Bi_26.keep k27
      have Bo_27 := Bo_26.keep k27
      have Bt_27 := Bt_26L.keep k27
      have Hw27 := bq_trans Hw26 k27
      clear k27 Bm_26 Bi_26 Bo_26 Bt_26L Hw26
      (refine wl_set 3 _ _ rfl rfl bt 5 rfl (.int .i64 N1) rfl rfl szI _ _ Bt_27 (by decide : 5 < 8) ?_; intro W28 Bt_28 T28; have Bm_28 := T28.blk Bm_27 nmt; have Bi_28 := T28.blk Bi_27 nit; have Bo_28 := T28.blk Bo_27 not; have Hw28 := T28.below Hw27 gt; clear T28 Bm_27 Bi_27 Bo_27 Bt_27 Hw27; have Bt_28L : Blk W28 bt #[.int .i64 M0, .int .i64 M1, .int .i64 0, .int .i64 0, .int .i64 N0, .int .i64 N1, .int .i64 0, .int .i64 0] 26 := Bt_28; clear Bt_28)
      go_wp2_with fail
      go_roundw
      case rel => exact ⟨Or.inr (Or.inr (Or.inl ⟨rfl, Bt_28L⟩)), Bm_28, Bi_28, Bo_28, Hw28⟩
      case measure => simp [intOf]
    · skip
      go_upto_region 5 with (fail)
      refine Det.wp_region_last (S := fun w' => Below wr.heap.size wr w') 14 (by kernel_rfl) (by kernel_rfl) (by kernel_rfl) rfl (bq_drew (bq_refl _)) ?_
      refine Det.det_take (v := ?_) (by rfl) ?_ ?_
      rotate_left
      · (intro w hSw; go_simp; try with_reducible rfl)
      try simp only [Act.put, List.setIfInBounds_toArray, List.set_cons_zero, List.set_cons_succ]
      refine Det.det_take (v := ?_) (by rfl) ?_ ?_
      rotate_left
      · (intro w hSw; go_simp; try with_reducible rfl)
      try simp only [Act.put, List.setIfInBounds_toArray, List.set_cons_zero, List.set_cons_succ]
      refine Det.det_take (v := ?_) (by rfl) ?_ ?_
      rotate_left
      · (intro w hSw; go_simp; try with_reducible rfl)
      try simp only [Act.put, List.setIfInBounds_toArray, List.set_cons_zero, List.set_cons_succ]
      refine Det.det_take (v := ?_) (by rfl) ?_ ?_
      rotate_left
      · (intro w hSw; go_simp; try with_reducible rfl)
      try simp only [Act.put, List.setIfInBounds_toArray, List.set_cons_zero, List.set_cons_succ]
      refine Det.det_take (v := ?_) (by rfl) ?_ ?_
      rotate_left
      · (intro w hSw; have cc : w.cell? ⟨bm, 2, none⟩ = some (.int .i64 om2) := (Bm.keep hSw).cell 2; go_simp; try with_reducible rfl)
      try simp only [Act.put, List.setIfInBounds_toArray, List.set_cons_zero, List.set_cons_succ]
      refine Det.det_take (v := ?_) (by rfl) ?_ ?_
      rotate_left
      · (intro w hSw; go_simp; try with_reducible rfl)
      try simp only [Act.put, List.setIfInBounds_toArray, List.set_cons_zero, List.set_cons_succ]
      refine Det.det_take (v := ?_) (by rfl) ?_ ?_
      rotate_left
      · (intro w hSw; go_simp; try with_reducible rfl)
      try simp only [Act.put, List.setIfInBounds_toArray, List.set_cons_zero, List.set_cons_succ]
      refine Det.det_take (v := ?_) (by rfl) ?_ ?_
      rotate_left
      · (intro w hSw; go_simp; try with_reducible rfl)
      try simp only [Act.put, List.setIfInBounds_toArray, List.set_cons_zero, List.set_cons_succ]
      refine Det.det_take (v := ?_) (by rfl) ?_ ?_
      rotate_left
      · (intro w hSw; have cc : w.cell? ⟨bi, 2, none⟩ = some (.int .i64 im2) := (Bi.keep hSw).cell 2; go_simp; try with_reducible rfl)
      try simp only [Act.put, List.setIfInBounds_toArray, List.set_cons_zero, List.set_cons_succ]
      refine Det.det_take (v := ?_) (by rfl) ?_ ?_
      rotate_left
      · (intro w hSw; have ew := HP2.out.1; go_simp; try with_reducible rfl)
      try simp only [Act.put, List.setIfInBounds_toArray, List.set_cons_zero, List.set_cons_succ]
      refine Det.det_call (f := 32) (args := #[.int .i64 p2, .int .i64 256]) (v := .int .i64 f2) (by rfl) ?_ (fun w hS => (HT2.out w).mono fun e w' ⟨h1, h2⟩ => ⟨h1, bq_trans hS h2⟩) ?_
      · (intro w hSw; go_simp)
      try simp only [Act.put, List.setIfInBounds_toArray, List.set_cons_zero, List.set_cons_succ]
      refine Det.det_call (f := 37) (args := #[.int .i64 f2, .int .i64 (-512), .int .i64 512]) (v := .int .i64 M2) (by rfl) ?_ (fun w hS => (HW2.out w).mono fun e w' ⟨h1, h2⟩ => ⟨h1, bq_trans hS h2⟩) ?_
      · (intro w hSw; go_simp)
      try simp only [Act.put, List.setIfInBounds_toArray, List.set_cons_zero, List.set_cons_succ]
      refine Det.det_take (v := ?_) (by rfl) ?_ ?_
      rotate_left
      · (intro w hSw; go_simp; try with_reducible rfl)
      try simp only [Act.put, List.setIfInBounds_toArray, List.set_cons_zero, List.set_cons_succ]
      refine Det.det_take (v := ?_) (by rfl) ?_ ?_
      rotate_left
      · (intro w hSw; go_simp; try with_reducible rfl)
      try simp only [Act.put, List.setIfInBounds_toArray, List.set_cons_zero, List.set_cons_succ]
      refine Det.det_nil (fun W25 k25 => ?_)
      have Bm_25 := Bm.keep k25
      have Bi_25 := Bi.keep k25
      have Bo_25 := Bo.keep k25
      have Bt_25 := Bt.keep k25
      have Hw25 := bq_trans HwR k25
      clear k25 Bm Bi Bo Bt HwR
      (refine wl_set 3 _ _ rfl rfl bt 2 rfl (.int .i64 M2) rfl rfl szI _ _ Bt_25 (by decide : 2 < 8) ?_; intro W26 Bt_26 T26; have Bm_26 := T26.blk Bm_25 nmt; have Bi_26 := T26.blk Bi_25 nit; have Bo_26 := T26.blk Bo_25 not; have Hw26 := T26.below Hw25 gt; clear T26 Bm_25 Bi_25 Bo_25 Bt_25 Hw25; have Bt_26L : Blk W26 bt #[.int .i64 M0, .int .i64 M1, .int .i64 M2, .int .i64 0, .int .i64 N0, .int .i64 N1, .int .i64 0, .int .i64 0] 26 := Bt_26; clear Bt_26)
      go_upto_region 6 with (fail)
      refine Det.wp_region_last (S := fun w' => Below W26.heap.size W26 w') 19 (by kernel_rfl) (by kernel_rfl) (by kernel_rfl) rfl (bq_drew (bq_refl _)) ?_
      refine Det.det_take (v := ?_) (by rfl) ?_ ?_
      rotate_left
      · (intro w hSw; go_simp; try with_reducible rfl)
      try simp only [Act.put, List.setIfInBounds_toArray, List.set_cons_zero, List.set_cons_succ]
      refine Det.det_take (v := ?_) (by rfl) ?_ ?_
      rotate_left
      · (intro w hSw; go_simp; try with_reducible rfl)
      try simp only [Act.put, List.setIfInBounds_toArray, List.set_cons_zero, List.set_cons_succ]
      refine Det.det_take (v := ?_) (by rfl) ?_ ?_
      rotate_left
      · (intro w hSw; go_simp; try with_reducible rfl)
      try simp only [Act.put, List.setIfInBounds_toArray, List.set_cons_zero, List.set_cons_succ]
      refine Det.det_take (v := ?_) (by rfl) ?_ ?_
      rotate_left
      · (intro w hSw; go_simp; try with_reducible rfl)
      try simp only [Act.put, List.setIfInBounds_toArray, List.set_cons_zero, List.set_cons_succ]
      refine Det.det_take (v := ?_) (by rfl) ?_ ?_
      rotate_left
      · (intro w hSw; have cc : w.cell? ⟨bi, 6, none⟩ = some (.int .i64 id2) := (Bi_26.keep hSw).cell 6; go_simp; try with_reducible rfl)
      try simp only [Act.put, List.setIfInBounds_toArray, List.set_cons_zero, List.set_cons_succ]
      refine Det.det_take (v := ?_) (by rfl) ?_ ?_
      rotate_left
      · (intro w hSw; go_simp; try with_reducible rfl)
      try simp only [Act.put, List.setIfInBounds_toArray, List.set_cons_zero, List.set_cons_succ]
      refine Det.det_take (v := ?_) (by rfl) ?_ ?_
      rotate_left
      · (intro w hSw; go_simp; try with_reducible rfl)
      try simp only [Act.put, List.setIfInBounds_toArray, List.set_cons_zero, List.set_cons_succ]
      refine Det.det_take (v := ?_) (by rfl) ?_ ?_
      rotate_left
      · (intro w hSw; go_simp; try with_reducible rfl)
      try simp only [Act.put, List.setIfInBounds_toArray, List.set_cons_zero, List.set_cons_succ]
      refine Det.det_take (v := ?_) (by rfl) ?_ ?_
      rotate_left
      · (intro w hSw; have cc : w.cell? ⟨bm, 2, none⟩ = some (.int .i64 om2) := (Bm_26.keep hSw).cell 2; go_simp; try with_reducible rfl)
      try simp only [Act.put, List.setIfInBounds_toArray, List.set_cons_zero, List.set_cons_succ]
      refine Det.det_take (v := ?_) (by rfl) ?_ ?_
      rotate_left
      · (intro w hSw; have ew := HP2.out.2; go_simp; try with_reducible rfl)
      try simp only [Act.put, List.setIfInBounds_toArray, List.set_cons_zero, List.set_cons_succ]
      refine Det.det_call (f := 32) (args := #[.int .i64 q2, .int .i64 256]) (v := .int .i64 g2) (by rfl) ?_ (fun w hS => (HS2.out w).mono fun e w' ⟨h1, h2⟩ => ⟨h1, bq_trans hS h2⟩) ?_
      · (intro w hSw; go_simp)
      try simp only [Act.put, List.setIfInBounds_toArray, List.set_cons_zero, List.set_cons_succ]
      refine Det.det_take (v := ?_) (by rfl) ?_ ?_
      rotate_left
      · (intro w hSw; go_simp; try with_reducible rfl)
      try simp only [Act.put, List.setIfInBounds_toArray, List.set_cons_zero, List.set_cons_succ]
      refine Det.det_take (v := ?_) (by rfl) ?_ ?_
      rotate_left
      · (intro w hSw; go_simp; try with_reducible rfl)
      try simp only [Act.put, List.setIfInBounds_toArray, List.set_cons_zero, List.set_cons_succ]
      refine Det.det_take (v := ?_) (by rfl) ?_ ?_
      rotate_left
      · (intro w hSw; go_simp; try with_reducible rfl)
      try simp only [Act.put, List.setIfInBounds_toArray, List.set_cons_zero, List.set_cons_succ]
      refine Det.det_take (v := ?_) (by rfl) ?_ ?_
      rotate_left
      · (intro w hSw; have cc : w.cell? ⟨bm, 6, none⟩ = some (.int .i64 od2) := (Bm_26.keep hSw).cell 6; go_simp; try with_reducible rfl)
      try simp only [Act.put, List.setIfInBounds_toArray, List.set_cons_zero, List.set_cons_succ]
      refine Det.det_take (v := ?_) (by rfl) ?_ ?_
      rotate_left
      · (intro w hSw; have ew := HE2.out; go_simp; try with_reducible rfl)
      try simp only [Act.put, List.setIfInBounds_toArray, List.set_cons_zero, List.set_cons_succ]
      refine Det.det_call (f := 37) (args := #[.int .i64 (g2 + od2), .int .i64 (-255), .int .i64 255]) (v := .int .i64 N2) (by rfl) ?_ (fun w hS => (HV2.out w).mono fun e w' ⟨h1, h2⟩ => ⟨h1, bq_trans hS h2⟩) ?_
      · (intro w hSw; go_simp)
      try simp only [Act.put, List.setIfInBounds_toArray, List.set_cons_zero, List.set_cons_succ]
      refine Det.det_take (v := ?_) (by rfl) ?_ ?_
      rotate_left
      · (intro w hSw; go_simp; try with_reducible rfl)
      try simp only [Act.put, List.setIfInBounds_toArray, List.set_cons_zero, List.set_cons_succ]
      refine Det.det_take (v := ?_) (by rfl) ?_ ?_
      rotate_left
      · (intro w hSw; go_simp; try with_reducible rfl)
      try simp only [Act.put, List.setIfInBounds_toArray, List.set_cons_zero, List.set_cons_succ]
      refine Det.det_nil (fun W27 k27 => ?_)
      have Bm_27 := Bm_26.keep k27
      have Bi_27 := Bi_26.keep k27
      have Bo_27 := Bo_26.keep k27
      have Bt_27 := Bt_26L.keep k27
      have Hw27 := bq_trans Hw26 k27
      clear k27 Bm_26 Bi_26 Bo_26 Bt_26L Hw26
      (refine wl_set 3 _ _ rfl rfl bt 6 rfl (.int .i64 N2) rfl rfl szI _ _ Bt_27 (by decide : 6 < 8) ?_; intro W28 Bt_28 T28; have Bm_28 := T28.blk Bm_27 nmt; have Bi_28 := T28.blk Bi_27 nit; have Bo_28 := T28.blk Bo_27 not; have Hw28 := T28.below Hw27 gt; clear T28 Bm_27 Bi_27 Bo_27 Bt_27 Hw27; have Bt_28L : Blk W28 bt #[.int .i64 M0, .int .i64 M1, .int .i64 M2, .int .i64 0, .int .i64 N0, .int .i64 N1, .int .i64 N2, .int .i64 0] 26 := Bt_28; clear Bt_28)
      go_wp2_with fail
      go_roundw
      case rel => exact ⟨Or.inr (Or.inr (Or.inr (Or.inl ⟨rfl, Bt_28L⟩))), Bm_28, Bi_28, Bo_28, Hw28⟩
      case measure => simp [intOf]
    · skip
      go_upto_region 5 with (fail)
      refine Det.wp_region_last (S := fun w' => Below wr.heap.size wr w') 14 (by kernel_rfl) (by kernel_rfl) (by kernel_rfl) rfl (bq_drew (bq_refl _)) ?_
      refine Det.det_take (v := ?_) (by rfl) ?_ ?_
      rotate_left
      · (intro w hSw; go_simp; try with_reducible rfl)
      try simp only [Act.put, List.setIfInBounds_toArray, List.set_cons_zero, List.set_cons_succ]
      refine Det.det_take (v := ?_) (by rfl) ?_ ?_
      rotate_left
      · (intro w hSw; go_simp; try with_reducible rfl)
      try simp only [Act.put, List.setIfInBounds_toArray, List.set_cons_zero, List.set_cons_succ]
      refine Det.det_take (v := ?_) (by rfl) ?_ ?_
      rotate_left
      · (intro w hSw; go_simp; try with_reducible rfl)
      try simp only [Act.put, List.setIfInBounds_toArray, List.set_cons_zero, List.set_cons_succ]
      refine Det.det_take (v := ?_) (by rfl) ?_ ?_
      rotate_left
      · (intro w hSw; go_simp; try with_reducible rfl)
      try simp only [Act.put, List.setIfInBounds_toArray, List.set_cons_zero, List.set_cons_succ]
      refine Det.det_take (v := ?_) (by rfl) ?_ ?_
      rotate_left
      · (intro w hSw; have cc : w.cell? ⟨bm, 3, none⟩ = some (.int .i64 om3) := (Bm.keep hSw).cell 3; go_simp; try with_reducible rfl)
      try simp only [Act.put, List.setIfInBounds_toArray, List.set_cons_zero, List.set_cons_succ]
      refine Det.det_take (v := ?_) (by rfl) ?_ ?_
      rotate_left
      · (intro w hSw; go_simp; try with_reducible rfl)
      try simp only [Act.put, List.setIfInBounds_toArray, List.set_cons_zero, List.set_cons_succ]
      refine Det.det_take (v := ?_) (by rfl) ?_ ?_
      rotate_left
      · (intro w hSw; go_simp; try with_reducible rfl)
      try simp only [Act.put, List.setIfInBounds_toArray, List.set_cons_zero, List.set_cons_succ]
      refine Det.det_take (v := ?_) (by rfl) ?_ ?_
      rotate_left
      · (intro w hSw; go_simp; try with_reducible rfl)
      try simp only [Act.put, List.setIfInBounds_toArray, List.set_cons_zero, List.set_cons_succ]
      refine Det.det_take (v := ?_) (by rfl) ?_ ?_
      rotate_left
      · (intro w hSw; have cc : w.cell? ⟨bi, 3, none⟩ = some (.int .i64 im3) := (Bi.keep hSw).cell 3; go_simp; try with_reducible rfl)
      try simp only [Act.put, List.setIfInBounds_toArray, List.set_cons_zero, List.set_cons_succ]
      refine Det.det_take (v := ?_) (by rfl) ?_ ?_
      rotate_left
      · (intro w hSw; have ew := HP3.out.1; go_simp; try with_reducible rfl)
      try simp only [Act.put, List.setIfInBounds_toArray, List.set_cons_zero, List.set_cons_succ]
      refine Det.det_call (f := 32) (args := #[.int .i64 p3, .int .i64 256]) (v := .int .i64 f3) (by rfl) ?_ (fun w hS => (HT3.out w).mono fun e w' ⟨h1, h2⟩ => ⟨h1, bq_trans hS h2⟩) ?_
      · (intro w hSw; go_simp)
      try simp only [Act.put, List.setIfInBounds_toArray, List.set_cons_zero, List.set_cons_succ]
      refine Det.det_call (f := 37) (args := #[.int .i64 f3, .int .i64 (-512), .int .i64 512]) (v := .int .i64 M3) (by rfl) ?_ (fun w hS => (HW3.out w).mono fun e w' ⟨h1, h2⟩ => ⟨h1, bq_trans hS h2⟩) ?_
      · (intro w hSw; go_simp)
      try simp only [Act.put, List.setIfInBounds_toArray, List.set_cons_zero, List.set_cons_succ]
      refine Det.det_take (v := ?_) (by rfl) ?_ ?_
      rotate_left
      · (intro w hSw; go_simp; try with_reducible rfl)
      try simp only [Act.put, List.setIfInBounds_toArray, List.set_cons_zero, List.set_cons_succ]
      refine Det.det_take (v := ?_) (by rfl) ?_ ?_
      rotate_left
      · (intro w hSw; go_simp; try with_reducible rfl)
      try simp only [Act.put, List.setIfInBounds_toArray, List.set_cons_zero, List.set_cons_succ]
      refine Det.det_nil (fun W25 k25 => ?_)
      have Bm_25 := Bm.keep k25
      have Bi_25 := Bi.keep k25
      have Bo_25 := Bo.keep k25
      have Bt_25 := Bt.keep k25
      have Hw25 := bq_trans HwR k25
      clear k25 Bm Bi Bo Bt HwR
      (refine wl_set 3 _ _ rfl rfl bt 3 rfl (.int .i64 M3) rfl rfl szI _ _ Bt_25 (by decide : 3 < 8) ?_; intro W26 Bt_26 T26; have Bm_26 := T26.blk Bm_25 nmt; have Bi_26 := T26.blk Bi_25 nit; have Bo_26 := T26.blk Bo_25 not; have Hw26 := T26.below Hw25 gt; clear T26 Bm_25 Bi_25 Bo_25 Bt_25 Hw25; have Bt_26L : Blk W26 bt #[.int .i64 M0, .int .i64 M1, .int .i64 M2, .int .i64 M3, .int .i64 N0, .int .i64 N1, .int .i64 N2, .int .i64 0] 26 := Bt_26; clear Bt_26)
      go_upto_region 6 with (fail)
      refine Det.wp_region_last (S := fun w' => Below W26.heap.size W26 w') 19 (by kernel_rfl) (by kernel_rfl) (by kernel_rfl) rfl (bq_drew (bq_refl _)) ?_
      refine Det.det_take (v := ?_) (by rfl) ?_ ?_
      rotate_left
      · (intro w hSw; go_simp; try with_reducible rfl)
      try simp only [Act.put, List.setIfInBounds_toArray, List.set_cons_zero, List.set_cons_succ]
      refine Det.det_take (v := ?_) (by rfl) ?_ ?_
      rotate_left
      · (intro w hSw; go_simp; try with_reducible rfl)
      try simp only [Act.put, List.setIfInBounds_toArray, List.set_cons_zero, List.set_cons_succ]
      refine Det.det_take (v := ?_) (by rfl) ?_ ?_
      rotate_left
      · (intro w hSw; go_simp; try with_reducible rfl)
      try simp only [Act.put, List.setIfInBounds_toArray, List.set_cons_zero, List.set_cons_succ]
      refine Det.det_take (v := ?_) (by rfl) ?_ ?_
      rotate_left
      · (intro w hSw; go_simp; try with_reducible rfl)
      try simp only [Act.put, List.setIfInBounds_toArray, List.set_cons_zero, List.set_cons_succ]
      refine Det.det_take (v := ?_) (by rfl) ?_ ?_
      rotate_left
      · (intro w hSw; have cc : w.cell? ⟨bi, 7, none⟩ = some (.int .i64 id3) := (Bi_26.keep hSw).cell 7; go_simp; try with_reducible rfl)
      try simp only [Act.put, List.setIfInBounds_toArray, List.set_cons_zero, List.set_cons_succ]
      refine Det.det_take (v := ?_) (by rfl) ?_ ?_
      rotate_left
      · (intro w hSw; go_simp; try with_reducible rfl)
      try simp only [Act.put, List.setIfInBounds_toArray, List.set_cons_zero, List.set_cons_succ]
      refine Det.det_take (v := ?_) (by rfl) ?_ ?_
      rotate_left
      · (intro w hSw; go_simp; try with_reducible rfl)
      try simp only [Act.put, List.setIfInBounds_toArray, List.set_cons_zero, List.set_cons_succ]
      refine Det.det_take (v := ?_) (by rfl) ?_ ?_
      rotate_left
      · (intro w hSw; go_simp; try with_reducible rfl)
      try simp only [Act.put, List.setIfInBounds_toArray, List.set_cons_zero, List.set_cons_succ]
      refine Det.det_take (v := ?_) (by rfl) ?_ ?_
      rotate_left
      · (intro w hSw; have cc : w.cell? ⟨bm, 3, none⟩ = some (.int .i64 om3) := (Bm_26.keep hSw).cell 3; go_simp; try with_reducible rfl)
      try simp only [Act.put, List.setIfInBounds_toArray, List.set_cons_zero, List.set_cons_succ]
      refine Det.det_take (v := ?_) (by rfl) ?_ ?_
      rotate_left
      · (intro w hSw; have ew := HP3.out.2; go_simp; try with_reducible rfl)
      try simp only [Act.put, List.setIfInBounds_toArray, List.set_cons_zero, List.set_cons_succ]
      refine Det.det_call (f := 32) (args := #[.int .i64 q3, .int .i64 256]) (v := .int .i64 g3) (by rfl) ?_ (fun w hS => (HS3.out w).mono fun e w' ⟨h1, h2⟩ => ⟨h1, bq_trans hS h2⟩) ?_
      · (intro w hSw; go_simp)
      try simp only [Act.put, List.setIfInBounds_toArray, List.set_cons_zero, List.set_cons_succ]
      refine Det.det_take (v := ?_) (by rfl) ?_ ?_
      rotate_left
      · (intro w hSw; go_simp; try with_reducible rfl)
      try simp only [Act.put, List.setIfInBounds_toArray, List.set_cons_zero, List.set_cons_succ]
      refine Det.det_take (v := ?_) (by rfl) ?_ ?_
      rotate_left
      · (intro w hSw; go_simp; try with_reducible rfl)
      try simp only [Act.put, List.setIfInBounds_toArray, List.set_cons_zero, List.set_cons_succ]
      refine Det.det_take (v := ?_) (by rfl) ?_ ?_
      rotate_left
      · (intro w hSw; go_simp; try with_reducible rfl)
      try simp only [Act.put, List.setIfInBounds_toArray, List.set_cons_zero, List.set_cons_succ]
      refine Det.det_take (v := ?_) (by rfl) ?_ ?_
      rotate_left
      · (intro w hSw; have cc : w.cell? ⟨bm, 7, none⟩ = some (.int .i64 od3) := (Bm_26.keep hSw).cell 7; go_simp; try with_reducible rfl)
      try simp only [Act.put, List.setIfInBounds_toArray, List.set_cons_zero, List.set_cons_succ]
      refine Det.det_take (v := ?_) (by rfl) ?_ ?_
      rotate_left
      · (intro w hSw; have ew := HE3.out; go_simp; try with_reducible rfl)
      try simp only [Act.put, List.setIfInBounds_toArray, List.set_cons_zero, List.set_cons_succ]
      refine Det.det_call (f := 37) (args := #[.int .i64 (g3 + od3), .int .i64 (-255), .int .i64 255]) (v := .int .i64 N3) (by rfl) ?_ (fun w hS => (HV3.out w).mono fun e w' ⟨h1, h2⟩ => ⟨h1, bq_trans hS h2⟩) ?_
      · (intro w hSw; go_simp)
      try simp only [Act.put, List.setIfInBounds_toArray, List.set_cons_zero, List.set_cons_succ]
      refine Det.det_take (v := ?_) (by rfl) ?_ ?_
      rotate_left
      · (intro w hSw; go_simp; try with_reducible rfl)
      try simp only [Act.put, List.setIfInBounds_toArray, List.set_cons_zero, List.set_cons_succ]
      refine Det.det_take (v := ?_) (by rfl) ?_ ?_
      rotate_left
      · (intro w hSw; go_simp; try with_reducible rfl)
      try simp only [Act.put, List.setIfInBounds_toArray, List.set_cons_zero, List.set_cons_succ]
      refine Det.det_nil (fun W27 k27 => ?_)
      have Bm_27 := Bm_26.keep k27
      have Bi_27 := Bi_26.keep k27
      have Bo_27 := Bo_26.keep k27
      have Bt_27 := Bt_26L.keep k27
      have Hw27 := bq_trans Hw26 k27
      clear k27 Bm_26 Bi_26 Bo_26 Bt_26L Hw26
      (refine wl_set 3 _ _ rfl rfl bt 7 rfl (.int .i64 N3) rfl rfl szI _ _ Bt_27 (by decide : 7 < 8) ?_; intro W28 Bt_28 T28; have Bm_28 := T28.blk Bm_27 nmt; have Bi_28 := T28.blk Bi_27 nit; have Bo_28 := T28.blk Bo_27 not; have Hw28 := T28.below Hw27 gt; clear T28 Bm_27 Bi_27 Bo_27 Bt_27 Hw27; have Bt_28L : Blk W28 bt #[.int .i64 M0, .int .i64 M1, .int .i64 M2, .int .i64 M3, .int .i64 N0, .int .i64 N1, .int .i64 N2, .int .i64 N3] 26 := Bt_28; clear Bt_28)
      go_wp2_with fail
      go_roundw
      case rel => exact ⟨Or.inr (Or.inr (Or.inr (Or.inr (⟨rfl, Bt_28L⟩)))), Bm_28, Bi_28, Bo_28, Hw28⟩
      case measure => simp [intOf]
    · skip
      go_wp2_with (first
        | (refine wl_load 26 8 _ Try.underlying26 rfl szCx _ rfl rfl _ rfl _ _ Bt rfl ?_)
        | (refine wl_store 26 8 szCx _ _ rfl rfl _ rfl #[.int .i64 M0, .int .i64 M1, .int .i64 M2, .int .i64 M3, .int .i64 N0, .int .i64 N1, .int .i64 N2, .int .i64 N3] rfl _ _ Bo rfl rfl (by kernel_rfl) ?_; intro W25 Bo_25 T25; have Bm_25 := T25.blk Bm nmo; have Bi_25 := T25.blk Bi nio; have Bt_25 := T25.blk Bt (Ne.symm not); have Hw25 := T25.below HwR go; clear T25 Bm Bi Bt Bo HwR))
      exact post_cell Try.underlying26 rfl szCx Try.results13 Bo_25 rfl rfl rfl ⟨rfl, Hw25⟩
def cxOk8 (m0 m1 m2 m3 d0 d1 d2 d3 : Int) : Bool := cxOk [m0, m1, m2, m3] [d0, d1, d2, d3]
def ccxV (om0 om1 om2 om3 od0 od1 od2 od3 im0 im1 im2 im3 id0 id1 id2 id3 : Int) : Value := if cxOk8 om0 om1 om2 om3 od0 od1 od2 od3 && cxOk8 im0 im1 im2 im3 id0 id1 id2 id3 then .agg #[.int .i64 (cxM om0 im0), .int .i64 (cxM om1 im1), .int .i64 (cxM om2 im2), .int .i64 (cxM om3 im3), .int .i64 (cxA om0 id0 od0), .int .i64 (cxA om1 id1 od1), .int .i64 (cxA om2 id2 od2), .int .i64 (cxA om3 id3 od3)] else .agg #[.int .i64 0, .int .i64 0, .int .i64 0, .int .i64 0, .int .i64 0, .int .i64 0, .int .i64 0, .int .i64 0]
theorem ccxV_no {om0 om1 om2 om3 od0 od1 od2 od3 im0 im1 im2 im3 id0 id1 id2 id3 : Int} (h : (cxOk8 om0 om1 om2 om3 od0 od1 od2 od3 && cxOk8 im0 im1 im2 im3 id0 id1 id2 id3) = false) : ccxV om0 om1 om2 om3 od0 od1 od2 od3 im0 im1 im2 im3 id0 id1 id2 id3 = .agg #[.int .i64 0, .int .i64 0, .int .i64 0, .int .i64 0, .int .i64 0, .int .i64 0, .int .i64 0, .int .i64 0] := by unfold ccxV; rw [h]; rfl
theorem ccxV_yes {om0 om1 om2 om3 od0 od1 od2 od3 im0 im1 im2 im3 id0 id1 id2 id3 : Int} (h : cxOk8 om0 om1 om2 om3 od0 od1 od2 od3 = true) (h2 : cxOk8 im0 im1 im2 im3 id0 id1 id2 id3 = true) : ccxV om0 om1 om2 om3 od0 od1 od2 od3 im0 im1 im2 im3 id0 id1 id2 id3 = .agg #[.int .i64 (cxM om0 im0), .int .i64 (cxM om1 im1), .int .i64 (cxM om2 im2), .int .i64 (cxM om3 im3), .int .i64 (cxA om0 id0 od0), .int .i64 (cxA om1 id1 od1), .int .i64 (cxA om2 id2 od2), .int .i64 (cxA om3 id3 od3)] := by unfold ccxV; rw [h, h2]; rfl
theorem compcx14_any (om0 om1 om2 om3 od0 od1 od2 od3 im0 im1 im2 im3 id0 id1 id2 id3 : Int) (w : World) (ho : I64C om0 om1 om2 om3 od0 od1 od2 od3) (hi : I64C im0 im1 im2 im3 id0 id1 id2 id3) :
    Calls Try.prog 11 #[.agg #[.int .i64 om0, .int .i64 om1, .int .i64 om2, .int .i64 om3, .int .i64 od0, .int .i64 od1, .int .i64 od2, .int .i64 od3], .agg #[.int .i64 im0, .int .i64 im1, .int .i64 im2, .int .i64 im3, .int .i64 id0, .int .i64 id1, .int .i64 id2, .int .i64 id3]] w fun e w' => e = .returned (ccxV om0 om1 om2 om3 od0 od1 od2 od3 im0 im1 im2 im3 id0 id1 id2 id3) ∧ Below w.heap.size w w' := by
  have H1 := Lib.hid fun W => rightc ho W
  have H2 := Lib.hid fun W => rightc hi W
  cases q1 : cxOk8 om0 om1 om2 om3 od0 od1 od2 od3 with
  | false =>
    rw [ccxV_no (by rw [q1]; rfl)]
    exact compcx14_no om0 om1 om2 om3 od0 od1 od2 od3 im0 im1 im2 im3 id0 id1 id2 id3 false _ w (Or.inl rfl) (Lib.hid fun W => q1 ▸ H1.out W) H2
  | true =>
    cases q2 : cxOk8 im0 im1 im2 im3 id0 id1 id2 id3 with
    | false =>
      rw [ccxV_no (by rw [q1, q2]; rfl)]
      exact compcx14_no om0 om1 om2 om3 od0 od1 od2 od3 im0 im1 im2 im3 id0 id1 id2 id3 true false w (Or.inr ⟨rfl, rfl⟩) (Lib.hid fun W => q1 ▸ H1.out W) (Lib.hid fun W => q2 ▸ H2.out W)
    | true =>
      rw [ccxV_yes q1 q2]
      obtain ⟨a0, a1, a2, a3, b0, b1, b2, b3⟩ := cxOk_bd q1
      obtain ⟨c0, c1, c2, c3, e0, e1, e2, e3⟩ := cxOk_bd q2
      have t0 := mulF_bd im0 om0 c0 a0
      have s0 := mulF_bd id0 om0 (by omega) a0
      have t1 := mulF_bd im1 om1 c1 a1
      have s1 := mulF_bd id1 om1 (by omega) a1
      have t2 := mulF_bd im2 om2 c2 a2
      have s2 := mulF_bd id2 om2 (by omega) a2
      have t3 := mulF_bd im3 om3 c3 a3
      have s3 := mulF_bd id3 om3 (by omega) a3
      exact compcx14_yes om0 om1 om2 om3 od0 od1 od2 od3 im0 im1 im2 im3 id0 id1 id2 id3 _ _ _ _ _ _ _ _ _ _ _ _ _ _ _ _ w (Lib.hid fun W => q1 ▸ H1.out W) (Lib.hid fun W => q2 ▸ H2.out W) (Lib.hid fun W => times14_any im0 om0 W c0 a0) (Lib.hid fun W => times14_any id0 om0 W (by omega) a0) (Lib.hid fun W => within14_any _ _ _ W (by omega)) (Lib.hid fun W => within14_any _ _ _ W (by omega)) (wI _ (by omega)) (Lib.hid fun W => times14_any im1 om1 W c1 a1) (Lib.hid fun W => times14_any id1 om1 W (by omega) a1) (Lib.hid fun W => within14_any _ _ _ W (by omega)) (Lib.hid fun W => within14_any _ _ _ W (by omega)) (wI _ (by omega)) (Lib.hid fun W => times14_any im2 om2 W c2 a2) (Lib.hid fun W => times14_any id2 om2 W (by omega) a2) (Lib.hid fun W => within14_any _ _ _ W (by omega)) (Lib.hid fun W => within14_any _ _ _ W (by omega)) (wI _ (by omega)) (Lib.hid fun W => times14_any im3 om3 W c3 a3) (Lib.hid fun W => times14_any id3 om3 W (by omega) a3) (Lib.hid fun W => within14_any _ _ _ W (by omega)) (Lib.hid fun W => within14_any _ _ _ W (by omega)) (wI _ (by omega))
theorem rfl256 (v m : Int) (W : World) (hv : -512 ≤ v ∧ v ≤ 512) (hm : -512 ≤ m ∧ m ≤ 512) : Calls Try.prog 32 #[.int .i64 (v * m), .int .i64 256] W fun e w' => e = .returned (.int .i64 (mulF v m)) ∧ Below W.heap.size W w' := by
  have := mul_bd _ _ hv hm
  exact rfloor14_at _ _ W (by omega) (by omega) (by omega) (by omega)
theorem rcompcx14_any (om0 om1 om2 om3 od0 od1 od2 od3 im0 im1 im2 im3 id0 id1 id2 id3 : Int) (w : World) (q1 : cxOk8 om0 om1 om2 om3 od0 od1 od2 od3 = true) (q2 : cxOk8 im0 im1 im2 im3 id0 id1 id2 id3 = true) :
    Calls Try.prog 13 #[.agg #[.int .i64 om0, .int .i64 om1, .int .i64 om2, .int .i64 om3, .int .i64 od0, .int .i64 od1, .int .i64 od2, .int .i64 od3], .agg #[.int .i64 im0, .int .i64 im1, .int .i64 im2, .int .i64 im3, .int .i64 id0, .int .i64 id1, .int .i64 id2, .int .i64 id3]] w fun e w' => e = .returned (ccxV om0 om1 om2 om3 od0 od1 od2 od3 im0 im1 im2 im3 id0 id1 id2 id3) ∧ Below w.heap.size w w' := by
  rw [ccxV_yes q1 q2]
  obtain ⟨a0, a1, a2, a3, b0, b1, b2, b3⟩ := cxOk_bd q1
  obtain ⟨c0, c1, c2, c3, e0, e1, e2, e3⟩ := cxOk_bd q2
  have t0 := mulF_bd im0 om0 c0 a0
  have s0 := mulF_bd id0 om0 (by omega) a0
  have u0 := mul_bd _ _ c0 a0
  have v0 := mul_bd 512 512 (show -512 ≤ id0 ∧ id0 ≤ 512 by omega) a0
  have m0 : om0 * im0 = im0 * om0 := Int.mul_comm _ _
  have t1 := mulF_bd im1 om1 c1 a1
  have s1 := mulF_bd id1 om1 (by omega) a1
  have u1 := mul_bd _ _ c1 a1
  have v1 := mul_bd 512 512 (show -512 ≤ id1 ∧ id1 ≤ 512 by omega) a1
  have m1 : om1 * im1 = im1 * om1 := Int.mul_comm _ _
  have t2 := mulF_bd im2 om2 c2 a2
  have s2 := mulF_bd id2 om2 (by omega) a2
  have u2 := mul_bd _ _ c2 a2
  have v2 := mul_bd 512 512 (show -512 ≤ id2 ∧ id2 ≤ 512 by omega) a2
  have m2 : om2 * im2 = im2 * om2 := Int.mul_comm _ _
  have t3 := mulF_bd im3 om3 c3 a3
  have s3 := mulF_bd id3 om3 (by omega) a3
  have u3 := mul_bd _ _ c3 a3
  have v3 := mul_bd 512 512 (show -512 ≤ id3 ∧ id3 ≤ 512 by omega) a3
  have m3 : om3 * im3 = im3 * om3 := Int.mul_comm _ _
  exact rcompcx14_yes om0 om1 om2 om3 od0 od1 od2 od3 im0 im1 im2 im3 id0 id1 id2 id3 _ _ _ _ _ _ _ _ _ _ _ _ _ _ _ _ (im0 * om0) (id0 * om0) (im1 * om1) (id1 * om1) (im2 * om2) (id2 * om2) (im3 * om3) (id3 * om3) w ((wI _ (by omega)).trans m0) (wI _ (by omega)) (Lib.hid fun W => rfl256 im0 om0 W c0 a0) (Lib.hid fun W => rfl256 id0 om0 W (by omega) a0) (Lib.hid fun W => rend14_any _ _ _ W) (Lib.hid fun W => rend14_any _ _ _ W) (wI _ (by omega)) ((wI _ (by omega)).trans m1) (wI _ (by omega)) (Lib.hid fun W => rfl256 im1 om1 W c1 a1) (Lib.hid fun W => rfl256 id1 om1 W (by omega) a1) (Lib.hid fun W => rend14_any _ _ _ W) (Lib.hid fun W => rend14_any _ _ _ W) (wI _ (by omega)) ((wI _ (by omega)).trans m2) (wI _ (by omega)) (Lib.hid fun W => rfl256 im2 om2 W c2 a2) (Lib.hid fun W => rfl256 id2 om2 W (by omega) a2) (Lib.hid fun W => rend14_any _ _ _ W) (Lib.hid fun W => rend14_any _ _ _ W) (wI _ (by omega)) ((wI _ (by omega)).trans m3) (wI _ (by omega)) (Lib.hid fun W => rfl256 im3 om3 W c3 a3) (Lib.hid fun W => rfl256 id3 om3 W (by omega) a3) (Lib.hid fun W => rend14_any _ _ _ W) (Lib.hid fun W => rend14_any _ _ _ W) (wI _ (by omega))
set_option maxHeartbeats 1000000 in
theorem color14_no (m0 m1 m2 m3 d0 d1 d2 d3 kr kg kb ka : Int) (q1 q2 : Bool) (w : World) (hq : q1 = false ∨ q1 = true ∧ q2 = false) (H1 : Hid (∀ W, Calls Try.prog 33 #[.agg #[.int .i64 m0, .int .i64 m1, .int .i64 m2, .int .i64 m3, .int .i64 d0, .int .i64 d1, .int .i64 d2, .int .i64 d3]] W fun e w' => e = .returned (.bool q1) ∧ Below W.heap.size W w')) (H2 : Hid (∀ W, Calls Try.prog 44 #[.agg #[.int .i64 kr, .int .i64 kg, .int .i64 kb, .int .i64 ka]] W fun e w' => e = .returned (.bool q2) ∧ Below W.heap.size W w')) :
    Calls Try.prog 26 #[.agg #[.int .i64 m0, .int .i64 m1, .int .i64 m2, .int .i64 m3, .int .i64 d0, .int .i64 d1, .int .i64 d2, .int .i64 d3], .agg #[.int .i64 kr, .int .i64 kg, .int .i64 kb, .int .i64 ka]] w fun e w' => e = .returned (.agg #[.int .i64 0, .int .i64 0, .int .i64 0, .int .i64 0]) ∧ Below w.heap.size w w' := by
  rcases hq with rfl | ⟨rfl, rfl⟩
  · go_enter Try.func26, Try.ntmps26
    go_wp2_with (first
      | (refine wl_box 26 _ _ rfl rfl (show _ = Value.agg #[.int .i64 m0, .int .i64 m1, .int .i64 m2, .int .i64 m3, .int .i64 d0, .int .i64 d1, .int .i64 d2, .int .i64 d3] from rfl) ?_; intro W1 bc Bc_1 l1 k1; have gc : w.heap.size ≤ bc := l1; have Hw1 := k1; clear l1 k1)
      | (refine wl_box 48 _ _ rfl rfl (show _ = Value.agg #[.int .i64 kr, .int .i64 kg, .int .i64 kb, .int .i64 ka] from rfl) ?_; intro W2 bk Bk_2 l2 k2; have gk : w.heap.size ≤ bk := Nat.le_trans Hw1.size l2; have nck : bc ≠ bk := Nat.ne_of_lt (Nat.lt_of_lt_of_le Bc_1.lt l2); have Bc_2 := Bc_1.keep k2; have Hw2 := bq_trans Hw1 k2; clear l2 k2 Bc_1 Hw1)
      | (refine wl_alloc 48 _ zeRg rfl rfl ?_; intro W3 bo Bo_3 l3 k3; have go : w.heap.size ≤ bo := Nat.le_trans Hw2.size l3; have nco : bc ≠ bo := Nat.ne_of_lt (Nat.lt_of_lt_of_le Bc_2.lt l3); have nko : bk ≠ bo := Nat.ne_of_lt (Nat.lt_of_lt_of_le Bk_2.lt l3); have Bc_3 := Bc_2.keep k3; have Bk_3 := Bk_2.keep k3; have Hw3 := bq_trans Hw2 k3; clear l3 k3 Bc_2 Bk_2 Hw2)
      | (refine wl_load 26 8 _ Try.underlying26 rfl szCx _ rfl rfl _ rfl _ _ Bc_3 rfl ?_)
      | (go_at_call 33; (with_reducible refine (H1.out _).mono ?_); rintro e W4 ⟨rfl, k4⟩; have Bc_4 := Bc_3.keep k4; have Bk_4 := Bk_3.keep k4; have Bo_4 := Bo_3.keep k4; have Hw4 := bq_trans Hw3 k4; clear k4 Bc_3 Bk_3 Bo_3 Hw3)
      | (refine wl_store 48 4 szRg _ _ rfl rfl _ rfl #[.int .i64 0, .int .i64 0, .int .i64 0, .int .i64 0] rfl _ _ Bo_4 rfl rfl (by kernel_rfl) ?_; intro W5 Bo_5 T5; have Bc_5 := T5.blk Bc_4 nco; have Bk_5 := T5.blk Bk_4 nko; have Hw5 := T5.below Hw4 go; clear T5 Bc_4 Bk_4 Bo_4 Hw4))
    exact post_cell Try.underlying48 rfl szRg Try.results26 Bo_5 rfl rfl rfl ⟨rfl, Hw5⟩
  · go_enter Try.func26, Try.ntmps26
    go_wp2_with (first
      | (refine wl_box 26 _ _ rfl rfl (show _ = Value.agg #[.int .i64 m0, .int .i64 m1, .int .i64 m2, .int .i64 m3, .int .i64 d0, .int .i64 d1, .int .i64 d2, .int .i64 d3] from rfl) ?_; intro W1 bc Bc_1 l1 k1; have gc : w.heap.size ≤ bc := l1; have Hw1 := k1; clear l1 k1)
      | (refine wl_box 48 _ _ rfl rfl (show _ = Value.agg #[.int .i64 kr, .int .i64 kg, .int .i64 kb, .int .i64 ka] from rfl) ?_; intro W2 bk Bk_2 l2 k2; have gk : w.heap.size ≤ bk := Nat.le_trans Hw1.size l2; have nck : bc ≠ bk := Nat.ne_of_lt (Nat.lt_of_lt_of_le Bc_1.lt l2); have Bc_2 := Bc_1.keep k2; have Hw2 := bq_trans Hw1 k2; clear l2 k2 Bc_1 Hw1)
      | (refine wl_alloc 48 _ zeRg rfl rfl ?_; intro W3 bo Bo_3 l3 k3; have go : w.heap.size ≤ bo := Nat.le_trans Hw2.size l3; have nco : bc ≠ bo := Nat.ne_of_lt (Nat.lt_of_lt_of_le Bc_2.lt l3); have nko : bk ≠ bo := Nat.ne_of_lt (Nat.lt_of_lt_of_le Bk_2.lt l3); have Bc_3 := Bc_2.keep k3; have Bk_3 := Bk_2.keep k3; have Hw3 := bq_trans Hw2 k3; clear l3 k3 Bc_2 Bk_2 Hw2)
      | (refine wl_load 26 8 _ Try.underlying26 rfl szCx _ rfl rfl _ rfl _ _ Bc_3 rfl ?_)
      | (go_at_call 33; (with_reducible refine (H1.out _).mono ?_); rintro e W4 ⟨rfl, k4⟩; have Bc_4 := Bc_3.keep k4; have Bk_4 := Bk_3.keep k4; have Bo_4 := Bo_3.keep k4; have Hw4 := bq_trans Hw3 k4; clear k4 Bc_3 Bk_3 Bo_3 Hw3)
      | (refine wlg_load 48 4 _ Try.underlying48 rfl szRg _ rfl rfl _ rfl _ _ Bk_4 rfl ?_)
      | (go_at_call 44; (with_reducible refine (H2.out _).mono ?_); rintro e W5 ⟨rfl, k5⟩; have Bc_5 := Bc_4.keep k5; have Bk_5 := Bk_4.keep k5; have Bo_5 := Bo_4.keep k5; have Hw5 := bq_trans Hw4 k5; clear k5 Bc_4 Bk_4 Bo_4 Hw4)
      | (refine wl_store 48 4 szRg _ _ rfl rfl _ rfl #[.int .i64 0, .int .i64 0, .int .i64 0, .int .i64 0] rfl _ _ Bo_5 rfl rfl (by kernel_rfl) ?_; intro W6 Bo_6 T6; have Bc_6 := T6.blk Bc_5 nco; have Bk_6 := T6.blk Bk_5 nko; have Hw6 := T6.below Hw5 go; clear T6 Bc_5 Bk_5 Bo_5 Hw5))
    exact post_cell Try.underlying48 rfl szRg Try.results26 Bo_6 rfl rfl rfl ⟨rfl, Hw6⟩
set_option maxHeartbeats 2000000 in
theorem color14_yes (m0 m1 m2 m3 d0 d1 d2 d3 kr kg kb ka r0 r1 r2 r3 : Int) (w : World) (H1 : Hid (∀ W, Calls Try.prog 33 #[.agg #[.int .i64 m0, .int .i64 m1, .int .i64 m2, .int .i64 m3, .int .i64 d0, .int .i64 d1, .int .i64 d2, .int .i64 d3]] W fun e w' => e = .returned (.bool true) ∧ Below W.heap.size W w')) (H2 : Hid (∀ W, Calls Try.prog 44 #[.agg #[.int .i64 kr, .int .i64 kg, .int .i64 kb, .int .i64 ka]] W fun e w' => e = .returned (.bool true) ∧ Below W.heap.size W w')) (HP0 : Hid (∀ W, Calls Try.prog 45 #[.agg #[.int .i64 m0, .int .i64 m1, .int .i64 m2, .int .i64 m3, .int .i64 d0, .int .i64 d1, .int .i64 d2, .int .i64 d3], .int .i64 0, .int .i64 kr] W fun e w' => e = .returned (.int .i64 r0) ∧ Below W.heap.size W w')) (HP1 : Hid (∀ W, Calls Try.prog 45 #[.agg #[.int .i64 m0, .int .i64 m1, .int .i64 m2, .int .i64 m3, .int .i64 d0, .int .i64 d1, .int .i64 d2, .int .i64 d3], .int .i64 1, .int .i64 kg] W fun e w' => e = .returned (.int .i64 r1) ∧ Below W.heap.size W w')) (HP2 : Hid (∀ W, Calls Try.prog 45 #[.agg #[.int .i64 m0, .int .i64 m1, .int .i64 m2, .int .i64 m3, .int .i64 d0, .int .i64 d1, .int .i64 d2, .int .i64 d3], .int .i64 2, .int .i64 kb] W fun e w' => e = .returned (.int .i64 r2) ∧ Below W.heap.size W w')) (HP3 : Hid (∀ W, Calls Try.prog 45 #[.agg #[.int .i64 m0, .int .i64 m1, .int .i64 m2, .int .i64 m3, .int .i64 d0, .int .i64 d1, .int .i64 d2, .int .i64 d3], .int .i64 3, .int .i64 ka] W fun e w' => e = .returned (.int .i64 r3) ∧ Below W.heap.size W w')) :
    Calls Try.prog 26 #[.agg #[.int .i64 m0, .int .i64 m1, .int .i64 m2, .int .i64 m3, .int .i64 d0, .int .i64 d1, .int .i64 d2, .int .i64 d3], .agg #[.int .i64 kr, .int .i64 kg, .int .i64 kb, .int .i64 ka]] w fun e w' => e = .returned (.agg #[.int .i64 r0, .int .i64 r1, .int .i64 r2, .int .i64 r3]) ∧ Below w.heap.size w w' := by
  go_enter Try.func26, Try.ntmps26
  go_upto_region 3 with (go_big_may; first
    | (refine wl_box 26 _ _ rfl rfl (show _ = Value.agg #[.int .i64 m0, .int .i64 m1, .int .i64 m2, .int .i64 m3, .int .i64 d0, .int .i64 d1, .int .i64 d2, .int .i64 d3] from rfl) ?_; intro W1 bc Bc_1 l1 k1; have gc : w.heap.size ≤ bc := l1; have Hw1 := k1; clear l1 k1)
    | (refine wl_box 48 _ _ rfl rfl (show _ = Value.agg #[.int .i64 kr, .int .i64 kg, .int .i64 kb, .int .i64 ka] from rfl) ?_; intro W2 bk Bk_2 l2 k2; have gk : w.heap.size ≤ bk := Nat.le_trans Hw1.size l2; have nck : bc ≠ bk := Nat.ne_of_lt (Nat.lt_of_lt_of_le Bc_1.lt l2); have Bc_2 := Bc_1.keep k2; have Hw2 := bq_trans Hw1 k2; clear l2 k2 Bc_1 Hw1)
    | (refine wl_alloc 48 _ zeRg rfl rfl ?_; intro W3 bo Bo_3 l3 k3; have go : w.heap.size ≤ bo := Nat.le_trans Hw2.size l3; have nco : bc ≠ bo := Nat.ne_of_lt (Nat.lt_of_lt_of_le Bc_2.lt l3); have nko : bk ≠ bo := Nat.ne_of_lt (Nat.lt_of_lt_of_le Bk_2.lt l3); have Bc_3 := Bc_2.keep k3; have Bk_3 := Bk_2.keep k3; have Hw3 := bq_trans Hw2 k3; clear l3 k3 Bc_2 Bk_2 Hw2)
    | (refine wl_load 26 8 _ Try.underlying26 rfl szCx _ rfl rfl _ rfl _ _ Bc_3 rfl ?_)
    | (go_at_call 33; (with_reducible refine (H1.out _).mono ?_); rintro e W4 ⟨rfl, k4⟩; have Bc_4 := Bc_3.keep k4; have Bk_4 := Bk_3.keep k4; have Bo_4 := Bo_3.keep k4; have Hw4 := bq_trans Hw3 k4; clear k4 Bc_3 Bk_3 Bo_3 Hw3)
    | (refine wlg_load 48 4 _ Try.underlying48 rfl szRg _ rfl rfl _ rfl _ _ Bk_4 rfl ?_)
    | (go_at_call 44; (with_reducible refine (H2.out _).mono ?_); rintro e W5 ⟨rfl, k5⟩; have Bc_5 := Bc_4.keep k5; have Bk_5 := Bk_4.keep k5; have Bo_5 := Bo_4.keep k5; have Hw5 := bq_trans Hw4 k5; clear k5 Bc_4 Bk_4 Bo_4 Hw4))
  refine Det.wp_region_last (S := fun w' => Below W5.heap.size W5 w') 17 (by kernel_rfl) (by kernel_rfl) (by kernel_rfl) rfl (bq_drew (bq_refl _)) ?_
  refine Det.det_load 26 8 _ Try.underlying26 rfl szCx _ rfl (by rfl) _ rfl _ _ (fun w hS => Bc_5.keep hS) rfl ?_
  try simp only [Act.put, List.setIfInBounds_toArray, List.set_cons_zero, List.set_cons_succ]
  refine Det.det_take (v := ?_) (by rfl) ?_ ?_
  rotate_left
  · (intro w hSw; go_simp; try with_reducible rfl)
  try simp only [Act.put, List.setIfInBounds_toArray, List.set_cons_zero, List.set_cons_succ]
  refine Det.det_take (v := ?_) (by rfl) ?_ ?_
  rotate_left
  · (intro w hSw; have cc : w.cell? ⟨bk, 0, none⟩ = some (.int .i64 kr) := (Bk_5.keep hSw).cell 0; go_simp; try with_reducible rfl)
  try simp only [Act.put, List.setIfInBounds_toArray, List.set_cons_zero, List.set_cons_succ]
  refine Det.det_call (f := 45) (args := #[.agg #[.int .i64 m0, .int .i64 m1, .int .i64 m2, .int .i64 m3, .int .i64 d0, .int .i64 d1, .int .i64 d2, .int .i64 d3], .int .i64 0, .int .i64 kr]) (v := .int .i64 r0) (by rfl) ?_ (fun w hS => (HP0.out w).mono fun e w' ⟨h1, h2⟩ => ⟨h1, bq_trans hS h2⟩) ?_
  · (intro w hSw; go_simp)
  try simp only [Act.put, List.setIfInBounds_toArray, List.set_cons_zero, List.set_cons_succ]
  refine Det.det_load 26 8 _ Try.underlying26 rfl szCx _ rfl (by rfl) _ rfl _ _ (fun w hS => Bc_5.keep hS) rfl ?_
  try simp only [Act.put, List.setIfInBounds_toArray, List.set_cons_zero, List.set_cons_succ]
  refine Det.det_take (v := ?_) (by rfl) ?_ ?_
  rotate_left
  · (intro w hSw; go_simp; try with_reducible rfl)
  try simp only [Act.put, List.setIfInBounds_toArray, List.set_cons_zero, List.set_cons_succ]
  refine Det.det_take (v := ?_) (by rfl) ?_ ?_
  rotate_left
  · (intro w hSw; have cc : w.cell? ⟨bk, 1, none⟩ = some (.int .i64 kg) := (Bk_5.keep hSw).cell 1; go_simp; try with_reducible rfl)
  try simp only [Act.put, List.setIfInBounds_toArray, List.set_cons_zero, List.set_cons_succ]
  refine Det.det_call (f := 45) (args := #[.agg #[.int .i64 m0, .int .i64 m1, .int .i64 m2, .int .i64 m3, .int .i64 d0, .int .i64 d1, .int .i64 d2, .int .i64 d3], .int .i64 1, .int .i64 kg]) (v := .int .i64 r1) (by rfl) ?_ (fun w hS => (HP1.out w).mono fun e w' ⟨h1, h2⟩ => ⟨h1, bq_trans hS h2⟩) ?_
  · (intro w hSw; go_simp)
  try simp only [Act.put, List.setIfInBounds_toArray, List.set_cons_zero, List.set_cons_succ]
  refine Det.det_load 26 8 _ Try.underlying26 rfl szCx _ rfl (by rfl) _ rfl _ _ (fun w hS => Bc_5.keep hS) rfl ?_
  try simp only [Act.put, List.setIfInBounds_toArray, List.set_cons_zero, List.set_cons_succ]
  refine Det.det_take (v := ?_) (by rfl) ?_ ?_
  rotate_left
  · (intro w hSw; go_simp; try with_reducible rfl)
  try simp only [Act.put, List.setIfInBounds_toArray, List.set_cons_zero, List.set_cons_succ]
  refine Det.det_take (v := ?_) (by rfl) ?_ ?_
  rotate_left
  · (intro w hSw; have cc : w.cell? ⟨bk, 2, none⟩ = some (.int .i64 kb) := (Bk_5.keep hSw).cell 2; go_simp; try with_reducible rfl)
  try simp only [Act.put, List.setIfInBounds_toArray, List.set_cons_zero, List.set_cons_succ]
  refine Det.det_call (f := 45) (args := #[.agg #[.int .i64 m0, .int .i64 m1, .int .i64 m2, .int .i64 m3, .int .i64 d0, .int .i64 d1, .int .i64 d2, .int .i64 d3], .int .i64 2, .int .i64 kb]) (v := .int .i64 r2) (by rfl) ?_ (fun w hS => (HP2.out w).mono fun e w' ⟨h1, h2⟩ => ⟨h1, bq_trans hS h2⟩) ?_
  · (intro w hSw; go_simp)
  try simp only [Act.put, List.setIfInBounds_toArray, List.set_cons_zero, List.set_cons_succ]
  refine Det.det_load 26 8 _ Try.underlying26 rfl szCx _ rfl (by rfl) _ rfl _ _ (fun w hS => Bc_5.keep hS) rfl ?_
  try simp only [Act.put, List.setIfInBounds_toArray, List.set_cons_zero, List.set_cons_succ]
  refine Det.det_take (v := ?_) (by rfl) ?_ ?_
  rotate_left
  · (intro w hSw; go_simp; try with_reducible rfl)
  try simp only [Act.put, List.setIfInBounds_toArray, List.set_cons_zero, List.set_cons_succ]
  refine Det.det_take (v := ?_) (by rfl) ?_ ?_
  rotate_left
  · (intro w hSw; have cc : w.cell? ⟨bk, 3, none⟩ = some (.int .i64 ka) := (Bk_5.keep hSw).cell 3; go_simp; try with_reducible rfl)
  try simp only [Act.put, List.setIfInBounds_toArray, List.set_cons_zero, List.set_cons_succ]
  refine Det.det_call (f := 45) (args := #[.agg #[.int .i64 m0, .int .i64 m1, .int .i64 m2, .int .i64 m3, .int .i64 d0, .int .i64 d1, .int .i64 d2, .int .i64 d3], .int .i64 3, .int .i64 ka]) (v := .int .i64 r3) (by rfl) ?_ (fun w hS => (HP3.out w).mono fun e w' ⟨h1, h2⟩ => ⟨h1, bq_trans hS h2⟩) ?_
  · (intro w hSw; go_simp)
  try simp only [Act.put, List.setIfInBounds_toArray, List.set_cons_zero, List.set_cons_succ]
  refine Det.det_take (v := ?_) (by rfl) ?_ ?_
  rotate_left
  · (intro w hSw; go_simp; try with_reducible rfl)
  try simp only [Act.put, List.setIfInBounds_toArray, List.set_cons_zero, List.set_cons_succ]
  refine Det.det_nil (fun W6 k6 => ?_)
  have Bc_6 := Bc_5.keep k6
  have Bk_6 := Bk_5.keep k6
  have Bo_6 := Bo_5.keep k6
  have Hw6 := bq_trans Hw5 k6
  clear k6 Bc_5 Bk_5 Bo_5 Hw5
  (refine wl_store 48 4 szRg _ _ rfl rfl _ rfl #[.int .i64 r0, .int .i64 r1, .int .i64 r2, .int .i64 r3] rfl _ _ Bo_6 rfl rfl (by kernel_rfl) ?_; intro W7 Bo_7 T7; have Bc_7 := T7.blk Bc_6 nco; have Bk_7 := T7.blk Bk_6 nko; have Hw7 := T7.below Hw6 go; clear T7 Bc_6 Bk_6 Bo_6 Hw6)
  go_wp2_with fail
  exact post_cell Try.underlying48 rfl szRg Try.results26 Bo_7 rfl rfl rfl ⟨rfl, Hw7⟩
set_option maxHeartbeats 4000000 in
theorem rcolor14_yes (m0 m1 m2 m3 d0 d1 d2 d3 kr kg kb ka p0 f0 r0 p1 f1 r1 p2 f2 r2 p3 f3 r3 : Int) (w : World)
    (hp0 : IntKind.i64.wrap (kr * m0) = p0) (hg0 : IntKind.i64.wrap (f0 + d0) = f0 + d0) (HT0 : Hid (∀ W, Calls Try.prog 32 #[.int .i64 p0, .int .i64 256] W fun e w' => e = .returned (.int .i64 f0) ∧ Below W.heap.size W w')) (HW0 : Hid (∀ W, Calls Try.prog 37 #[.int .i64 (f0 + d0), .int .i64 0, .int .i64 255] W fun e w' => e = .returned (.int .i64 r0) ∧ Below W.heap.size W w'))
    (hp1 : IntKind.i64.wrap (kg * m1) = p1) (hg1 : IntKind.i64.wrap (f1 + d1) = f1 + d1) (HT1 : Hid (∀ W, Calls Try.prog 32 #[.int .i64 p1, .int .i64 256] W fun e w' => e = .returned (.int .i64 f1) ∧ Below W.heap.size W w')) (HW1 : Hid (∀ W, Calls Try.prog 37 #[.int .i64 (f1 + d1), .int .i64 0, .int .i64 255] W fun e w' => e = .returned (.int .i64 r1) ∧ Below W.heap.size W w'))
    (hp2 : IntKind.i64.wrap (kb * m2) = p2) (hg2 : IntKind.i64.wrap (f2 + d2) = f2 + d2) (HT2 : Hid (∀ W, Calls Try.prog 32 #[.int .i64 p2, .int .i64 256] W fun e w' => e = .returned (.int .i64 f2) ∧ Below W.heap.size W w')) (HW2 : Hid (∀ W, Calls Try.prog 37 #[.int .i64 (f2 + d2), .int .i64 0, .int .i64 255] W fun e w' => e = .returned (.int .i64 r2) ∧ Below W.heap.size W w'))
    (hp3 : IntKind.i64.wrap (ka * m3) = p3) (hg3 : IntKind.i64.wrap (f3 + d3) = f3 + d3) (HT3 : Hid (∀ W, Calls Try.prog 32 #[.int .i64 p3, .int .i64 256] W fun e w' => e = .returned (.int .i64 f3) ∧ Below W.heap.size W w')) (HW3 : Hid (∀ W, Calls Try.prog 37 #[.int .i64 (f3 + d3), .int .i64 0, .int .i64 255] W fun e w' => e = .returned (.int .i64 r3) ∧ Below W.heap.size W w'))
    : Calls Try.prog 25 #[.agg #[.int .i64 m0, .int .i64 m1, .int .i64 m2, .int .i64 m3, .int .i64 d0, .int .i64 d1, .int .i64 d2, .int .i64 d3], .agg #[.int .i64 kr, .int .i64 kg, .int .i64 kb, .int .i64 ka]] w fun e w' => e = .returned (.agg #[.int .i64 r0, .int .i64 r1, .int .i64 r2, .int .i64 r3]) ∧ Below w.heap.size w w' := by
  have HE0 := Lib.hid (And.intro hp0 hg0)
  have HE1 := Lib.hid (And.intro hp1 hg1)
  have HE2 := Lib.hid (And.intro hp2 hg2)
  have HE3 := Lib.hid (And.intro hp3 hg3)
  clear hp0 hg0 hp1 hg1 hp2 hg2 hp3 hg3
  go_enter Try.func25, Try.ntmps25
  go_wp2_with (first
    | (refine wl_box 26 _ _ rfl rfl (show _ = Value.agg #[.int .i64 m0, .int .i64 m1, .int .i64 m2, .int .i64 m3, .int .i64 d0, .int .i64 d1, .int .i64 d2, .int .i64 d3] from rfl) ?_; intro W1 bc Bc_1 l1 k1; have gc : w.heap.size ≤ bc := l1; have Hw1 := k1; clear l1 k1)
    | (refine wl_box 48 _ _ rfl rfl (show _ = Value.agg #[.int .i64 kr, .int .i64 kg, .int .i64 kb, .int .i64 ka] from rfl) ?_; intro W2 bk Bk_2 l2 k2; have gk : w.heap.size ≤ bk := Nat.le_trans Hw1.size l2; have nck : bc ≠ bk := Nat.ne_of_lt (Nat.lt_of_lt_of_le Bc_1.lt l2); have Bc_2 := Bc_1.keep k2; have Hw2 := bq_trans Hw1 k2; clear l2 k2 Bc_1 Hw1)
    | (refine wl_alloc 48 _ zeRg rfl rfl ?_; intro W3 bo Bo_3 l3 k3; have go : w.heap.size ≤ bo := Nat.le_trans Hw2.size l3; have nco : bc ≠ bo := Nat.ne_of_lt (Nat.lt_of_lt_of_le Bc_2.lt l3); have nko : bk ≠ bo := Nat.ne_of_lt (Nat.lt_of_lt_of_le Bk_2.lt l3); have Bc_3 := Bc_2.keep k3; have Bk_3 := Bk_2.keep k3; have Hw3 := bq_trans Hw2 k3; clear l3 k3 Bc_2 Bk_2 Hw2; have ck_0_3 : W3.cell? ⟨bk, 0, none⟩ = some (.int .i64 kr) := Bk_3.cell 0; have ck_1_3 : W3.cell? ⟨bk, 1, none⟩ = some (.int .i64 kg) := Bk_3.cell 1; have ck_2_3 : W3.cell? ⟨bk, 2, none⟩ = some (.int .i64 kb) := Bk_3.cell 2; have ck_3_3 : W3.cell? ⟨bk, 3, none⟩ = some (.int .i64 ka) := Bk_3.cell 3)
    | (refine wlg_slice 63 3 4 _ _ (ints4_run kr kg kb ka) _ rfl rfl rfl ?_; intro W4 bl Bl_4 l4 k4; have gl : w.heap.size ≤ bl := Nat.le_trans Hw3.size l4; have ncl : bc ≠ bl := Nat.ne_of_lt (Nat.lt_of_lt_of_le Bc_3.lt l4); have nkl : bk ≠ bl := Nat.ne_of_lt (Nat.lt_of_lt_of_le Bk_3.lt l4); have nol : bo ≠ bl := Nat.ne_of_lt (Nat.lt_of_lt_of_le Bo_3.lt l4); have Bc_4 := Bc_3.keep k4; have Bk_4 := Bk_3.keep k4; have Bo_4 := Bo_3.keep k4; have Hw4 := bq_trans Hw3 k4; clear l4 k4 Bc_3 Bk_3 Bo_3 ck_0_3 ck_1_3 ck_2_3 ck_3_3 Hw3; have Bl_4L : Blk W4 bl #[.int .i64 kr, .int .i64 kg, .int .i64 kb, .int .i64 ka] 3 := Bl_4; clear Bl_4))
  go_loopw [6] (fun i wr => ((i = .int .i64 0 ∧ Blk wr bl #[.int .i64 kr, .int .i64 kg, .int .i64 kb, .int .i64 ka] 3) ∨ (i = .int .i64 1 ∧ Blk wr bl #[.int .i64 r0, .int .i64 kg, .int .i64 kb, .int .i64 ka] 3) ∨ (i = .int .i64 2 ∧ Blk wr bl #[.int .i64 r0, .int .i64 r1, .int .i64 kb, .int .i64 ka] 3) ∨ (i = .int .i64 3 ∧ Blk wr bl #[.int .i64 r0, .int .i64 r1, .int .i64 r2, .int .i64 ka] 3) ∨ (i = .int .i64 4 ∧ Blk wr bl #[.int .i64 r0, .int .i64 r1, .int .i64 r2, .int .i64 r3] 3)) ∧ Blk wr bc #[.int .i64 m0, .int .i64 m1, .int .i64 m2, .int .i64 m3, .int .i64 d0, .int .i64 d1, .int .i64 d2, .int .i64 d3] 26 ∧ Blk wr bk #[.int .i64 kr, .int .i64 kg, .int .i64 kb, .int .i64 ka] 48 ∧ Blk wr bo #[.int .i64 0, .int .i64 0, .int .i64 0, .int .i64 0] 48 ∧ Below w.heap.size w wr) (fun i _ => 4 - (intOf i).toNat)
  case atStart => exact ⟨Or.inl ⟨rfl, Bl_4L⟩, Bc_4, Bk_4, Bo_4, Hw4⟩
  case round =>
    obtain ⟨hd, Bc, Bk, Bo, HwR⟩ := hrel
    clear Bc_4 Bk_4 Bo_4 Bl_4L Hw4
    rcases hd with ⟨rfl, Bl⟩ | ⟨rfl, Bl⟩ | ⟨rfl, Bl⟩ | ⟨rfl, Bl⟩ | ⟨rfl, Bl⟩
    · skip
      go_upto_region 5 with (fail)
      refine Det.wp_region_last (S := fun w' => Below wr.heap.size wr w') 19 (by kernel_rfl) (by kernel_rfl) (by kernel_rfl) rfl (bq_drew (bq_refl _)) ?_
      refine Det.det_take (v := ?_) (by rfl) ?_ ?_
      rotate_left
      · (intro w hSw; go_simp; try with_reducible rfl)
      try simp only [Act.put, List.setIfInBounds_toArray, List.set_cons_zero, List.set_cons_succ]
      refine Det.det_take (v := ?_) (by rfl) ?_ ?_
      rotate_left
      · (intro w hSw; go_simp; try with_reducible rfl)
      try simp only [Act.put, List.setIfInBounds_toArray, List.set_cons_zero, List.set_cons_succ]
      refine Det.det_take (v := ?_) (by rfl) ?_ ?_
      rotate_left
      · (intro w hSw; go_simp; try with_reducible rfl)
      try simp only [Act.put, List.setIfInBounds_toArray, List.set_cons_zero, List.set_cons_succ]
      refine Det.det_take (v := ?_) (by rfl) ?_ ?_
      rotate_left
      · (intro w hSw; go_simp; try with_reducible rfl)
      try simp only [Act.put, List.setIfInBounds_toArray, List.set_cons_zero, List.set_cons_succ]
      refine Det.det_take (v := ?_) (by rfl) ?_ ?_
      rotate_left
      · (intro w hSw; go_simp; try with_reducible rfl)
      try simp only [Act.put, List.setIfInBounds_toArray, List.set_cons_zero, List.set_cons_succ]
      refine Det.det_take (v := ?_) (by rfl) ?_ ?_
      rotate_left
      · (intro w hSw; have cc : w.cell? ⟨bl, 0, none⟩ = some (.int .i64 kr) := (Bl.keep hSw).cell 0; go_simp; try with_reducible rfl)
      try simp only [Act.put, List.setIfInBounds_toArray, List.set_cons_zero, List.set_cons_succ]
      refine Det.det_take (v := ?_) (by rfl) ?_ ?_
      rotate_left
      · (intro w hSw; go_simp; try with_reducible rfl)
      try simp only [Act.put, List.setIfInBounds_toArray, List.set_cons_zero, List.set_cons_succ]
      refine Det.det_take (v := ?_) (by rfl) ?_ ?_
      rotate_left
      · (intro w hSw; go_simp; try with_reducible rfl)
      try simp only [Act.put, List.setIfInBounds_toArray, List.set_cons_zero, List.set_cons_succ]
      refine Det.det_take (v := ?_) (by rfl) ?_ ?_
      rotate_left
      · (intro w hSw; go_simp; try with_reducible rfl)
      try simp only [Act.put, List.setIfInBounds_toArray, List.set_cons_zero, List.set_cons_succ]
      refine Det.det_take (v := ?_) (by rfl) ?_ ?_
      rotate_left
      · (intro w hSw; have cc : w.cell? ⟨bc, 0, none⟩ = some (.int .i64 m0) := (Bc.keep hSw).cell 0; go_simp; try with_reducible rfl)
      try simp only [Act.put, List.setIfInBounds_toArray, List.set_cons_zero, List.set_cons_succ]
      refine Det.det_take (v := ?_) (by rfl) ?_ ?_
      rotate_left
      · (intro w hSw; have ew := HE0.out.1; go_simp; try with_reducible rfl)
      try simp only [Act.put, List.setIfInBounds_toArray, List.set_cons_zero, List.set_cons_succ]
      refine Det.det_call (f := 32) (args := #[.int .i64 p0, .int .i64 256]) (v := .int .i64 f0) (by rfl) ?_ (fun w hS => (HT0.out w).mono fun e w' ⟨h1, h2⟩ => ⟨h1, bq_trans hS h2⟩) ?_
      · (intro w hSw; go_simp)
      try simp only [Act.put, List.setIfInBounds_toArray, List.set_cons_zero, List.set_cons_succ]
      refine Det.det_take (v := ?_) (by rfl) ?_ ?_
      rotate_left
      · (intro w hSw; go_simp; try with_reducible rfl)
      try simp only [Act.put, List.setIfInBounds_toArray, List.set_cons_zero, List.set_cons_succ]
      refine Det.det_take (v := ?_) (by rfl) ?_ ?_
      rotate_left
      · (intro w hSw; go_simp; try with_reducible rfl)
      try simp only [Act.put, List.setIfInBounds_toArray, List.set_cons_zero, List.set_cons_succ]
      refine Det.det_take (v := ?_) (by rfl) ?_ ?_
      rotate_left
      · (intro w hSw; go_simp; try with_reducible rfl)
      try simp only [Act.put, List.setIfInBounds_toArray, List.set_cons_zero, List.set_cons_succ]
      refine Det.det_take (v := ?_) (by rfl) ?_ ?_
      rotate_left
      · (intro w hSw; have cc : w.cell? ⟨bc, 4, none⟩ = some (.int .i64 d0) := (Bc.keep hSw).cell 4; go_simp; try with_reducible rfl)
      try simp only [Act.put, List.setIfInBounds_toArray, List.set_cons_zero, List.set_cons_succ]
      refine Det.det_take (v := ?_) (by rfl) ?_ ?_
      rotate_left
      · (intro w hSw; have ew := HE0.out.2; go_simp; try with_reducible rfl)
      try simp only [Act.put, List.setIfInBounds_toArray, List.set_cons_zero, List.set_cons_succ]
      refine Det.det_call (f := 37) (args := #[.int .i64 (f0 + d0), .int .i64 0, .int .i64 255]) (v := .int .i64 r0) (by rfl) ?_ (fun w hS => (HW0.out w).mono fun e w' ⟨h1, h2⟩ => ⟨h1, bq_trans hS h2⟩) ?_
      · (intro w hSw; go_simp)
      try simp only [Act.put, List.setIfInBounds_toArray, List.set_cons_zero, List.set_cons_succ]
      refine Det.det_take (v := ?_) (by rfl) ?_ ?_
      rotate_left
      · (intro w hSw; go_simp; try with_reducible rfl)
      try simp only [Act.put, List.setIfInBounds_toArray, List.set_cons_zero, List.set_cons_succ]
      refine Det.det_nil (fun W25 k25 => ?_)
      have Bc_25 := Bc.keep k25
      have Bk_25 := Bk.keep k25
      have Bo_25 := Bo.keep k25
      have Bl_25 := Bl.keep k25
      have Hw25 := bq_trans HwR k25
      clear k25 Bc Bk Bo Bl HwR
      (refine wl_set 3 _ _ rfl rfl bl 0 rfl (.int .i64 r0) rfl rfl szI _ _ Bl_25 (by decide : 0 < 4) ?_; intro W26 Bl_26 T26; have Bc_26 := T26.blk Bc_25 ncl; have Bk_26 := T26.blk Bk_25 nkl; have Bo_26 := T26.blk Bo_25 nol; have Hw26 := T26.below Hw25 gl; clear T26 Bc_25 Bk_25 Bo_25 Bl_25 Hw25; have Bl_26L : Blk W26 bl #[.int .i64 r0, .int .i64 kg, .int .i64 kb, .int .i64 ka] 3 := Bl_26; clear Bl_26)
      go_wp2_with fail
      go_roundw
      case rel => exact ⟨Or.inr (Or.inl ⟨rfl, Bl_26L⟩), Bc_26, Bk_26, Bo_26, Hw26⟩
      case measure => simp [intOf]
    · skip
      go_upto_region 5 with (fail)
      refine Det.wp_region_last (S := fun w' => Below wr.heap.size wr w') 19 (by kernel_rfl) (by kernel_rfl) (by kernel_rfl) rfl (bq_drew (bq_refl _)) ?_
      refine Det.det_take (v := ?_) (by rfl) ?_ ?_
      rotate_left
      · (intro w hSw; go_simp; try with_reducible rfl)
      try simp only [Act.put, List.setIfInBounds_toArray, List.set_cons_zero, List.set_cons_succ]
      refine Det.det_take (v := ?_) (by rfl) ?_ ?_
      rotate_left
      · (intro w hSw; go_simp; try with_reducible rfl)
      try simp only [Act.put, List.setIfInBounds_toArray, List.set_cons_zero, List.set_cons_succ]
      refine Det.det_take (v := ?_) (by rfl) ?_ ?_
      rotate_left
      · (intro w hSw; go_simp; try with_reducible rfl)
      try simp only [Act.put, List.setIfInBounds_toArray, List.set_cons_zero, List.set_cons_succ]
      refine Det.det_take (v := ?_) (by rfl) ?_ ?_
      rotate_left
      · (intro w hSw; go_simp; try with_reducible rfl)
      try simp only [Act.put, List.setIfInBounds_toArray, List.set_cons_zero, List.set_cons_succ]
      refine Det.det_take (v := ?_) (by rfl) ?_ ?_
      rotate_left
      · (intro w hSw; go_simp; try with_reducible rfl)
      try simp only [Act.put, List.setIfInBounds_toArray, List.set_cons_zero, List.set_cons_succ]
      refine Det.det_take (v := ?_) (by rfl) ?_ ?_
      rotate_left
      · (intro w hSw; have cc : w.cell? ⟨bl, 1, none⟩ = some (.int .i64 kg) := (Bl.keep hSw).cell 1; go_simp; try with_reducible rfl)
      try simp only [Act.put, List.setIfInBounds_toArray, List.set_cons_zero, List.set_cons_succ]
      refine Det.det_take (v := ?_) (by rfl) ?_ ?_
      rotate_left
      · (intro w hSw; go_simp; try with_reducible rfl)
      try simp only [Act.put, List.setIfInBounds_toArray, List.set_cons_zero, List.set_cons_succ]
      refine Det.det_take (v := ?_) (by rfl) ?_ ?_
      rotate_left
      · (intro w hSw; go_simp; try with_reducible rfl)
      try simp only [Act.put, List.setIfInBounds_toArray, List.set_cons_zero, List.set_cons_succ]
      refine Det.det_take (v := ?_) (by rfl) ?_ ?_
      rotate_left
      · (intro w hSw; go_simp; try with_reducible rfl)
      try simp only [Act.put, List.setIfInBounds_toArray, List.set_cons_zero, List.set_cons_succ]
      refine Det.det_take (v := ?_) (by rfl) ?_ ?_
      rotate_left
      · (intro w hSw; have cc : w.cell? ⟨bc, 1, none⟩ = some (.int .i64 m1) := (Bc.keep hSw).cell 1; go_simp; try with_reducible rfl)
      try simp only [Act.put, List.setIfInBounds_toArray, List.set_cons_zero, List.set_cons_succ]
      refine Det.det_take (v := ?_) (by rfl) ?_ ?_
      rotate_left
      · (intro w hSw; have ew := HE1.out.1; go_simp; try with_reducible rfl)
      try simp only [Act.put, List.setIfInBounds_toArray, List.set_cons_zero, List.set_cons_succ]
      refine Det.det_call (f := 32) (args := #[.int .i64 p1, .int .i64 256]) (v := .int .i64 f1) (by rfl) ?_ (fun w hS => (HT1.out w).mono fun e w' ⟨h1, h2⟩ => ⟨h1, bq_trans hS h2⟩) ?_
      · (intro w hSw; go_simp)
      try simp only [Act.put, List.setIfInBounds_toArray, List.set_cons_zero, List.set_cons_succ]
      refine Det.det_take (v := ?_) (by rfl) ?_ ?_
      rotate_left
      · (intro w hSw; go_simp; try with_reducible rfl)
      try simp only [Act.put, List.setIfInBounds_toArray, List.set_cons_zero, List.set_cons_succ]
      refine Det.det_take (v := ?_) (by rfl) ?_ ?_
      rotate_left
      · (intro w hSw; go_simp; try with_reducible rfl)
      try simp only [Act.put, List.setIfInBounds_toArray, List.set_cons_zero, List.set_cons_succ]
      refine Det.det_take (v := ?_) (by rfl) ?_ ?_
      rotate_left
      · (intro w hSw; go_simp; try with_reducible rfl)
      try simp only [Act.put, List.setIfInBounds_toArray, List.set_cons_zero, List.set_cons_succ]
      refine Det.det_take (v := ?_) (by rfl) ?_ ?_
      rotate_left
      · (intro w hSw; have cc : w.cell? ⟨bc, 5, none⟩ = some (.int .i64 d1) := (Bc.keep hSw).cell 5; go_simp; try with_reducible rfl)
      try simp only [Act.put, List.setIfInBounds_toArray, List.set_cons_zero, List.set_cons_succ]
      refine Det.det_take (v := ?_) (by rfl) ?_ ?_
      rotate_left
      · (intro w hSw; have ew := HE1.out.2; go_simp; try with_reducible rfl)
      try simp only [Act.put, List.setIfInBounds_toArray, List.set_cons_zero, List.set_cons_succ]
      refine Det.det_call (f := 37) (args := #[.int .i64 (f1 + d1), .int .i64 0, .int .i64 255]) (v := .int .i64 r1) (by rfl) ?_ (fun w hS => (HW1.out w).mono fun e w' ⟨h1, h2⟩ => ⟨h1, bq_trans hS h2⟩) ?_
      · (intro w hSw; go_simp)
      try simp only [Act.put, List.setIfInBounds_toArray, List.set_cons_zero, List.set_cons_succ]
      refine Det.det_take (v := ?_) (by rfl) ?_ ?_
      rotate_left
      · (intro w hSw; go_simp; try with_reducible rfl)
      try simp only [Act.put, List.setIfInBounds_toArray, List.set_cons_zero, List.set_cons_succ]
      refine Det.det_nil (fun W25 k25 => ?_)
      have Bc_25 := Bc.keep k25
      have Bk_25 := Bk.keep k25
      have Bo_25 := Bo.keep k25
      have Bl_25 := Bl.keep k25
      have Hw25 := bq_trans HwR k25
      clear k25 Bc Bk Bo Bl HwR
      (refine wl_set 3 _ _ rfl rfl bl 1 rfl (.int .i64 r1) rfl rfl szI _ _ Bl_25 (by decide : 1 < 4) ?_; intro W26 Bl_26 T26; have Bc_26 := T26.blk Bc_25 ncl; have Bk_26 := T26.blk Bk_25 nkl; have Bo_26 := T26.blk Bo_25 nol; have Hw26 := T26.below Hw25 gl; clear T26 Bc_25 Bk_25 Bo_25 Bl_25 Hw25; have Bl_26L : Blk W26 bl #[.int .i64 r0, .int .i64 r1, .int .i64 kb, .int .i64 ka] 3 := Bl_26; clear Bl_26)
      go_wp2_with fail
      go_roundw
      case rel => exact ⟨Or.inr (Or.inr (Or.inl ⟨rfl, Bl_26L⟩)), Bc_26, Bk_26, Bo_26, Hw26⟩
      case measure => simp [intOf]
    · skip
      go_upto_region 5 with (fail)
      refine Det.wp_region_last (S := fun w' => Below wr.heap.size wr w') 19 (by kernel_rfl) (by kernel_rfl) (by kernel_rfl) rfl (bq_drew (bq_refl _)) ?_
      refine Det.det_take (v := ?_) (by rfl) ?_ ?_
      rotate_left
      · (intro w hSw; go_simp; try with_reducible rfl)
      try simp only [Act.put, List.setIfInBounds_toArray, List.set_cons_zero, List.set_cons_succ]
      refine Det.det_take (v := ?_) (by rfl) ?_ ?_
      rotate_left
      · (intro w hSw; go_simp; try with_reducible rfl)
      try simp only [Act.put, List.setIfInBounds_toArray, List.set_cons_zero, List.set_cons_succ]
      refine Det.det_take (v := ?_) (by rfl) ?_ ?_
      rotate_left
      · (intro w hSw; go_simp; try with_reducible rfl)
      try simp only [Act.put, List.setIfInBounds_toArray, List.set_cons_zero, List.set_cons_succ]
      refine Det.det_take (v := ?_) (by rfl) ?_ ?_
      rotate_left
      · (intro w hSw; go_simp; try with_reducible rfl)
      try simp only [Act.put, List.setIfInBounds_toArray, List.set_cons_zero, List.set_cons_succ]
      refine Det.det_take (v := ?_) (by rfl) ?_ ?_
      rotate_left
      · (intro w hSw; go_simp; try with_reducible rfl)
      try simp only [Act.put, List.setIfInBounds_toArray, List.set_cons_zero, List.set_cons_succ]
      refine Det.det_take (v := ?_) (by rfl) ?_ ?_
      rotate_left
      · (intro w hSw; have cc : w.cell? ⟨bl, 2, none⟩ = some (.int .i64 kb) := (Bl.keep hSw).cell 2; go_simp; try with_reducible rfl)
      try simp only [Act.put, List.setIfInBounds_toArray, List.set_cons_zero, List.set_cons_succ]
      refine Det.det_take (v := ?_) (by rfl) ?_ ?_
      rotate_left
      · (intro w hSw; go_simp; try with_reducible rfl)
      try simp only [Act.put, List.setIfInBounds_toArray, List.set_cons_zero, List.set_cons_succ]
      refine Det.det_take (v := ?_) (by rfl) ?_ ?_
      rotate_left
      · (intro w hSw; go_simp; try with_reducible rfl)
      try simp only [Act.put, List.setIfInBounds_toArray, List.set_cons_zero, List.set_cons_succ]
      refine Det.det_take (v := ?_) (by rfl) ?_ ?_
      rotate_left
      · (intro w hSw; go_simp; try with_reducible rfl)
      try simp only [Act.put, List.setIfInBounds_toArray, List.set_cons_zero, List.set_cons_succ]
      refine Det.det_take (v := ?_) (by rfl) ?_ ?_
      rotate_left
      · (intro w hSw; have cc : w.cell? ⟨bc, 2, none⟩ = some (.int .i64 m2) := (Bc.keep hSw).cell 2; go_simp; try with_reducible rfl)
      try simp only [Act.put, List.setIfInBounds_toArray, List.set_cons_zero, List.set_cons_succ]
      refine Det.det_take (v := ?_) (by rfl) ?_ ?_
      rotate_left
      · (intro w hSw; have ew := HE2.out.1; go_simp; try with_reducible rfl)
      try simp only [Act.put, List.setIfInBounds_toArray, List.set_cons_zero, List.set_cons_succ]
      refine Det.det_call (f := 32) (args := #[.int .i64 p2, .int .i64 256]) (v := .int .i64 f2) (by rfl) ?_ (fun w hS => (HT2.out w).mono fun e w' ⟨h1, h2⟩ => ⟨h1, bq_trans hS h2⟩) ?_
      · (intro w hSw; go_simp)
      try simp only [Act.put, List.setIfInBounds_toArray, List.set_cons_zero, List.set_cons_succ]
      refine Det.det_take (v := ?_) (by rfl) ?_ ?_
      rotate_left
      · (intro w hSw; go_simp; try with_reducible rfl)
      try simp only [Act.put, List.setIfInBounds_toArray, List.set_cons_zero, List.set_cons_succ]
      refine Det.det_take (v := ?_) (by rfl) ?_ ?_
      rotate_left
      · (intro w hSw; go_simp; try with_reducible rfl)
      try simp only [Act.put, List.setIfInBounds_toArray, List.set_cons_zero, List.set_cons_succ]
      refine Det.det_take (v := ?_) (by rfl) ?_ ?_
      rotate_left
      · (intro w hSw; go_simp; try with_reducible rfl)
      try simp only [Act.put, List.setIfInBounds_toArray, List.set_cons_zero, List.set_cons_succ]
      refine Det.det_take (v := ?_) (by rfl) ?_ ?_
      rotate_left
      · (intro w hSw; have cc : w.cell? ⟨bc, 6, none⟩ = some (.int .i64 d2) := (Bc.keep hSw).cell 6; go_simp; try with_reducible rfl)
      try simp only [Act.put, List.setIfInBounds_toArray, List.set_cons_zero, List.set_cons_succ]
      refine Det.det_take (v := ?_) (by rfl) ?_ ?_
      rotate_left
      · (intro w hSw; have ew := HE2.out.2; go_simp; try with_reducible rfl)
      try simp only [Act.put, List.setIfInBounds_toArray, List.set_cons_zero, List.set_cons_succ]
      refine Det.det_call (f := 37) (args := #[.int .i64 (f2 + d2), .int .i64 0, .int .i64 255]) (v := .int .i64 r2) (by rfl) ?_ (fun w hS => (HW2.out w).mono fun e w' ⟨h1, h2⟩ => ⟨h1, bq_trans hS h2⟩) ?_
      · (intro w hSw; go_simp)
      try simp only [Act.put, List.setIfInBounds_toArray, List.set_cons_zero, List.set_cons_succ]
      refine Det.det_take (v := ?_) (by rfl) ?_ ?_
      rotate_left
      · (intro w hSw; go_simp; try with_reducible rfl)
      try simp only [Act.put, List.setIfInBounds_toArray, List.set_cons_zero, List.set_cons_succ]
      refine Det.det_nil (fun W25 k25 => ?_)
      have Bc_25 := Bc.keep k25
      have Bk_25 := Bk.keep k25
      have Bo_25 := Bo.keep k25
      have Bl_25 := Bl.keep k25
      have Hw25 := bq_trans HwR k25
      clear k25 Bc Bk Bo Bl HwR
      (refine wl_set 3 _ _ rfl rfl bl 2 rfl (.int .i64 r2) rfl rfl szI _ _ Bl_25 (by decide : 2 < 4) ?_; intro W26 Bl_26 T26; have Bc_26 := T26.blk Bc_25 ncl; have Bk_26 := T26.blk Bk_25 nkl; have Bo_26 := T26.blk Bo_25 nol; have Hw26 := T26.below Hw25 gl; clear T26 Bc_25 Bk_25 Bo_25 Bl_25 Hw25; have Bl_26L : Blk W26 bl #[.int .i64 r0, .int .i64 r1, .int .i64 r2, .int .i64 ka] 3 := Bl_26; clear Bl_26)
      go_wp2_with fail
      go_roundw
      case rel => exact ⟨Or.inr (Or.inr (Or.inr (Or.inl ⟨rfl, Bl_26L⟩))), Bc_26, Bk_26, Bo_26, Hw26⟩
      case measure => simp [intOf]
    · skip
      go_upto_region 5 with (fail)
      refine Det.wp_region_last (S := fun w' => Below wr.heap.size wr w') 19 (by kernel_rfl) (by kernel_rfl) (by kernel_rfl) rfl (bq_drew (bq_refl _)) ?_
      refine Det.det_take (v := ?_) (by rfl) ?_ ?_
      rotate_left
      · (intro w hSw; go_simp; try with_reducible rfl)
      try simp only [Act.put, List.setIfInBounds_toArray, List.set_cons_zero, List.set_cons_succ]
      refine Det.det_take (v := ?_) (by rfl) ?_ ?_
      rotate_left
      · (intro w hSw; go_simp; try with_reducible rfl)
      try simp only [Act.put, List.setIfInBounds_toArray, List.set_cons_zero, List.set_cons_succ]
      refine Det.det_take (v := ?_) (by rfl) ?_ ?_
      rotate_left
      · (intro w hSw; go_simp; try with_reducible rfl)
      try simp only [Act.put, List.setIfInBounds_toArray, List.set_cons_zero, List.set_cons_succ]
      refine Det.det_take (v := ?_) (by rfl) ?_ ?_
      rotate_left
      · (intro w hSw; go_simp; try with_reducible rfl)
      try simp only [Act.put, List.setIfInBounds_toArray, List.set_cons_zero, List.set_cons_succ]
      refine Det.det_take (v := ?_) (by rfl) ?_ ?_
      rotate_left
      · (intro w hSw; go_simp; try with_reducible rfl)
      try simp only [Act.put, List.setIfInBounds_toArray, List.set_cons_zero, List.set_cons_succ]
      refine Det.det_take (v := ?_) (by rfl) ?_ ?_
      rotate_left
      · (intro w hSw; have cc : w.cell? ⟨bl, 3, none⟩ = some (.int .i64 ka) := (Bl.keep hSw).cell 3; go_simp; try with_reducible rfl)
      try simp only [Act.put, List.setIfInBounds_toArray, List.set_cons_zero, List.set_cons_succ]
      refine Det.det_take (v := ?_) (by rfl) ?_ ?_
      rotate_left
      · (intro w hSw; go_simp; try with_reducible rfl)
      try simp only [Act.put, List.setIfInBounds_toArray, List.set_cons_zero, List.set_cons_succ]
      refine Det.det_take (v := ?_) (by rfl) ?_ ?_
      rotate_left
      · (intro w hSw; go_simp; try with_reducible rfl)
      try simp only [Act.put, List.setIfInBounds_toArray, List.set_cons_zero, List.set_cons_succ]
      refine Det.det_take (v := ?_) (by rfl) ?_ ?_
      rotate_left
      · (intro w hSw; go_simp; try with_reducible rfl)
      try simp only [Act.put, List.setIfInBounds_toArray, List.set_cons_zero, List.set_cons_succ]
      refine Det.det_take (v := ?_) (by rfl) ?_ ?_
      rotate_left
      · (intro w hSw; have cc : w.cell? ⟨bc, 3, none⟩ = some (.int .i64 m3) := (Bc.keep hSw).cell 3; go_simp; try with_reducible rfl)
      try simp only [Act.put, List.setIfInBounds_toArray, List.set_cons_zero, List.set_cons_succ]
      refine Det.det_take (v := ?_) (by rfl) ?_ ?_
      rotate_left
      · (intro w hSw; have ew := HE3.out.1; go_simp; try with_reducible rfl)
      try simp only [Act.put, List.setIfInBounds_toArray, List.set_cons_zero, List.set_cons_succ]
      refine Det.det_call (f := 32) (args := #[.int .i64 p3, .int .i64 256]) (v := .int .i64 f3) (by rfl) ?_ (fun w hS => (HT3.out w).mono fun e w' ⟨h1, h2⟩ => ⟨h1, bq_trans hS h2⟩) ?_
      · (intro w hSw; go_simp)
      try simp only [Act.put, List.setIfInBounds_toArray, List.set_cons_zero, List.set_cons_succ]
      refine Det.det_take (v := ?_) (by rfl) ?_ ?_
      rotate_left
      · (intro w hSw; go_simp; try with_reducible rfl)
      try simp only [Act.put, List.setIfInBounds_toArray, List.set_cons_zero, List.set_cons_succ]
      refine Det.det_take (v := ?_) (by rfl) ?_ ?_
      rotate_left
      · (intro w hSw; go_simp; try with_reducible rfl)
      try simp only [Act.put, List.setIfInBounds_toArray, List.set_cons_zero, List.set_cons_succ]
      refine Det.det_take (v := ?_) (by rfl) ?_ ?_
      rotate_left
      · (intro w hSw; go_simp; try with_reducible rfl)
      try simp only [Act.put, List.setIfInBounds_toArray, List.set_cons_zero, List.set_cons_succ]
      refine Det.det_take (v := ?_) (by rfl) ?_ ?_
      rotate_left
      · (intro w hSw; have cc : w.cell? ⟨bc, 7, none⟩ = some (.int .i64 d3) := (Bc.keep hSw).cell 7; go_simp; try with_reducible rfl)
      try simp only [Act.put, List.setIfInBounds_toArray, List.set_cons_zero, List.set_cons_succ]
      refine Det.det_take (v := ?_) (by rfl) ?_ ?_
      rotate_left
      · (intro w hSw; have ew := HE3.out.2; go_simp; try with_reducible rfl)
      try simp only [Act.put, List.setIfInBounds_toArray, List.set_cons_zero, List.set_cons_succ]
      refine Det.det_call (f := 37) (args := #[.int .i64 (f3 + d3), .int .i64 0, .int .i64 255]) (v := .int .i64 r3) (by rfl) ?_ (fun w hS => (HW3.out w).mono fun e w' ⟨h1, h2⟩ => ⟨h1, bq_trans hS h2⟩) ?_
      · (intro w hSw; go_simp)
      try simp only [Act.put, List.setIfInBounds_toArray, List.set_cons_zero, List.set_cons_succ]
      refine Det.det_take (v := ?_) (by rfl) ?_ ?_
      rotate_left
      · (intro w hSw; go_simp; try with_reducible rfl)
      try simp only [Act.put, List.setIfInBounds_toArray, List.set_cons_zero, List.set_cons_succ]
      refine Det.det_nil (fun W25 k25 => ?_)
      have Bc_25 := Bc.keep k25
      have Bk_25 := Bk.keep k25
      have Bo_25 := Bo.keep k25
      have Bl_25 := Bl.keep k25
      have Hw25 := bq_trans HwR k25
      clear k25 Bc Bk Bo Bl HwR
      (refine wl_set 3 _ _ rfl rfl bl 3 rfl (.int .i64 r3) rfl rfl szI _ _ Bl_25 (by decide : 3 < 4) ?_; intro W26 Bl_26 T26; have Bc_26 := T26.blk Bc_25 ncl; have Bk_26 := T26.blk Bk_25 nkl; have Bo_26 := T26.blk Bo_25 nol; have Hw26 := T26.below Hw25 gl; clear T26 Bc_25 Bk_25 Bo_25 Bl_25 Hw25; have Bl_26L : Blk W26 bl #[.int .i64 r0, .int .i64 r1, .int .i64 r2, .int .i64 r3] 3 := Bl_26; clear Bl_26)
      go_wp2_with fail
      go_roundw
      case rel => exact ⟨Or.inr (Or.inr (Or.inr (Or.inr (⟨rfl, Bl_26L⟩)))), Bc_26, Bk_26, Bo_26, Hw26⟩
      case measure => simp [intOf]
    · skip
      go_upto_region 6 with (fail)
      refine Det.wp_region_last (S := fun w' => Below wr.heap.size wr w') 13 (by kernel_rfl) (by kernel_rfl) (by kernel_rfl) rfl (bq_drew (bq_refl _)) ?_
      refine Det.det_take (v := ?_) (by rfl) ?_ ?_
      rotate_left
      · (intro w hSw; go_simp; try with_reducible rfl)
      try simp only [Act.put, List.setIfInBounds_toArray, List.set_cons_zero, List.set_cons_succ]
      refine Det.det_take (v := ?_) (by rfl) ?_ ?_
      rotate_left
      · (intro w hSw; go_simp; try with_reducible rfl)
      try simp only [Act.put, List.setIfInBounds_toArray, List.set_cons_zero, List.set_cons_succ]
      refine Det.det_take (v := ?_) (by rfl) ?_ ?_
      rotate_left
      · (intro w hSw; have cc : w.cell? ⟨bl, 0, none⟩ = some (.int .i64 r0) := (Bl.keep hSw).cell 0; go_simp; try with_reducible rfl)
      try simp only [Act.put, List.setIfInBounds_toArray, List.set_cons_zero, List.set_cons_succ]
      refine Det.det_take (v := ?_) (by rfl) ?_ ?_
      rotate_left
      · (intro w hSw; go_simp; try with_reducible rfl)
      try simp only [Act.put, List.setIfInBounds_toArray, List.set_cons_zero, List.set_cons_succ]
      refine Det.det_take (v := ?_) (by rfl) ?_ ?_
      rotate_left
      · (intro w hSw; go_simp; try with_reducible rfl)
      try simp only [Act.put, List.setIfInBounds_toArray, List.set_cons_zero, List.set_cons_succ]
      refine Det.det_take (v := ?_) (by rfl) ?_ ?_
      rotate_left
      · (intro w hSw; have cc : w.cell? ⟨bl, 1, none⟩ = some (.int .i64 r1) := (Bl.keep hSw).cell 1; go_simp; try with_reducible rfl)
      try simp only [Act.put, List.setIfInBounds_toArray, List.set_cons_zero, List.set_cons_succ]
      refine Det.det_take (v := ?_) (by rfl) ?_ ?_
      rotate_left
      · (intro w hSw; go_simp; try with_reducible rfl)
      try simp only [Act.put, List.setIfInBounds_toArray, List.set_cons_zero, List.set_cons_succ]
      refine Det.det_take (v := ?_) (by rfl) ?_ ?_
      rotate_left
      · (intro w hSw; go_simp; try with_reducible rfl)
      try simp only [Act.put, List.setIfInBounds_toArray, List.set_cons_zero, List.set_cons_succ]
      refine Det.det_take (v := ?_) (by rfl) ?_ ?_
      rotate_left
      · (intro w hSw; have cc : w.cell? ⟨bl, 2, none⟩ = some (.int .i64 r2) := (Bl.keep hSw).cell 2; go_simp; try with_reducible rfl)
      try simp only [Act.put, List.setIfInBounds_toArray, List.set_cons_zero, List.set_cons_succ]
      refine Det.det_take (v := ?_) (by rfl) ?_ ?_
      rotate_left
      · (intro w hSw; go_simp; try with_reducible rfl)
      try simp only [Act.put, List.setIfInBounds_toArray, List.set_cons_zero, List.set_cons_succ]
      refine Det.det_take (v := ?_) (by rfl) ?_ ?_
      rotate_left
      · (intro w hSw; go_simp; try with_reducible rfl)
      try simp only [Act.put, List.setIfInBounds_toArray, List.set_cons_zero, List.set_cons_succ]
      refine Det.det_take (v := ?_) (by rfl) ?_ ?_
      rotate_left
      · (intro w hSw; have cc : w.cell? ⟨bl, 3, none⟩ = some (.int .i64 r3) := (Bl.keep hSw).cell 3; go_simp; try with_reducible rfl)
      try simp only [Act.put, List.setIfInBounds_toArray, List.set_cons_zero, List.set_cons_succ]
      refine Det.det_take (v := ?_) (by rfl) ?_ ?_
      rotate_left
      · (intro w hSw; go_simp; try with_reducible rfl)
      try simp only [Act.put, List.setIfInBounds_toArray, List.set_cons_zero, List.set_cons_succ]
      refine Det.det_nil (fun W25 k25 => ?_)
      have Bc_25 := Bc.keep k25
      have Bk_25 := Bk.keep k25
      have Bo_25 := Bo.keep k25
      have Bl_25 := Bl.keep k25
      have Hw25 := bq_trans HwR k25
      clear k25 Bc Bk Bo Bl HwR
      (refine wl_store 48 4 szRg _ _ rfl rfl _ rfl #[.int .i64 r0, .int .i64 r1, .int .i64 r2, .int .i64 r3] rfl _ _ Bo_25 rfl rfl (by kernel_rfl) ?_; intro W26 Bo_26 T26; have Bc_26 := T26.blk Bc_25 nco; have Bk_26 := T26.blk Bk_25 nko; have Bl_26 := T26.blk Bl_25 (Ne.symm nol); have Hw26 := T26.below Hw25 go; clear T26 Bc_25 Bk_25 Bl_25 Bo_25 Hw25)
      go_wp2_with fail
      exact post_cell Try.underlying48 rfl szRg Try.results25 Bo_26 rfl rfl rfl ⟨rfl, Hw26⟩
def colV (m0 m1 m2 m3 d0 d1 d2 d3 kr kg kb ka : Int) : Value := if cxOk8 m0 m1 m2 m3 d0 d1 d2 d3 && rgbaOk kr kg kb ka then .agg #[.int .i64 (colP kr m0 d0), .int .i64 (colP kg m1 d1), .int .i64 (colP kb m2 d2), .int .i64 (colP ka m3 d3)] else .agg #[.int .i64 0, .int .i64 0, .int .i64 0, .int .i64 0]
theorem colV_no {m0 m1 m2 m3 d0 d1 d2 d3 kr kg kb ka : Int} (h : (cxOk8 m0 m1 m2 m3 d0 d1 d2 d3 && rgbaOk kr kg kb ka) = false) : colV m0 m1 m2 m3 d0 d1 d2 d3 kr kg kb ka = .agg #[.int .i64 0, .int .i64 0, .int .i64 0, .int .i64 0] := by unfold colV; rw [h]; rfl
theorem colV_yes {m0 m1 m2 m3 d0 d1 d2 d3 kr kg kb ka : Int} (h : cxOk8 m0 m1 m2 m3 d0 d1 d2 d3 = true) (h2 : rgbaOk kr kg kb ka = true) : colV m0 m1 m2 m3 d0 d1 d2 d3 kr kg kb ka = .agg #[.int .i64 (colP kr m0 d0), .int .i64 (colP kg m1 d1), .int .i64 (colP kb m2 d2), .int .i64 (colP ka m3 d3)] := by unfold colV; rw [h, h2]; rfl
theorem color14_any (m0 m1 m2 m3 d0 d1 d2 d3 kr kg kb ka : Int) (w : World) (ho : I64C m0 m1 m2 m3 d0 d1 d2 d3) (h0 : I64 kr) (h1 : I64 kg) (h2 : I64 kb) (h3 : I64 ka) :
    Calls Try.prog 26 #[.agg #[.int .i64 m0, .int .i64 m1, .int .i64 m2, .int .i64 m3, .int .i64 d0, .int .i64 d1, .int .i64 d2, .int .i64 d3], .agg #[.int .i64 kr, .int .i64 kg, .int .i64 kb, .int .i64 ka]] w fun e w' => e = .returned (colV m0 m1 m2 m3 d0 d1 d2 d3 kr kg kb ka) ∧ Below w.heap.size w w' := by
  have H1 := Lib.hid fun W => rightc ho W
  have H2 := Lib.hid fun W => rightrgba_any kr kg kb ka W h0 h1 h2 h3
  cases q1 : cxOk8 m0 m1 m2 m3 d0 d1 d2 d3 with
  | false =>
    rw [colV_no (by rw [q1]; rfl)]
    exact color14_no m0 m1 m2 m3 d0 d1 d2 d3 kr kg kb ka false _ w (Or.inl rfl) (Lib.hid fun W => q1 ▸ H1.out W) H2
  | true =>
    cases q2 : rgbaOk kr kg kb ka with
    | false =>
      rw [colV_no (by rw [q1, q2]; rfl)]
      rw [q2] at H2
      exact color14_no m0 m1 m2 m3 d0 d1 d2 d3 kr kg kb ka true false w (Or.inr ⟨rfl, rfl⟩) (Lib.hid fun W => q1 ▸ H1.out W) H2
    | true =>
      rw [colV_yes q1 q2]
      rw [q2] at H2
      obtain ⟨a0, a1, a2, a3, b0, b1, b2, b3⟩ := cxOk_bd q1
      obtain ⟨c0, c1, c2, c3⟩ := rgbaOk_bd q2
      have t0 := mulF_bd kr m0 (by omega) a0
      have t1 := mulF_bd kg m1 (by omega) a1
      have t2 := mulF_bd kb m2 (by omega) a2
      have t3 := mulF_bd ka m3 (by omega) a3
      exact color14_yes m0 m1 m2 m3 d0 d1 d2 d3 kr kg kb ka _ _ _ _ w (Lib.hid fun W => q1 ▸ H1.out W) H2 (Lib.hid fun W => part14_core0 m0 m1 m2 m3 d0 d1 d2 d3 _ _ _ W (by omega) (Lib.hid fun W => times14_any kr m0 W (by omega) a0) (Lib.hid fun W => within14_any _ _ _ W (by omega))) (Lib.hid fun W => part14_core1 m0 m1 m2 m3 d0 d1 d2 d3 _ _ _ W (by omega) (Lib.hid fun W => times14_any kg m1 W (by omega) a1) (Lib.hid fun W => within14_any _ _ _ W (by omega))) (Lib.hid fun W => part14_core2 m0 m1 m2 m3 d0 d1 d2 d3 _ _ _ W (by omega) (Lib.hid fun W => times14_any kb m2 W (by omega) a2) (Lib.hid fun W => within14_any _ _ _ W (by omega))) (Lib.hid fun W => part14_core3 m0 m1 m2 m3 d0 d1 d2 d3 _ _ _ W (by omega) (Lib.hid fun W => times14_any ka m3 W (by omega) a3) (Lib.hid fun W => within14_any _ _ _ W (by omega)))
theorem rcolor14_any (m0 m1 m2 m3 d0 d1 d2 d3 kr kg kb ka : Int) (w : World) (q1 : cxOk8 m0 m1 m2 m3 d0 d1 d2 d3 = true) (q2 : rgbaOk kr kg kb ka = true) :
    Calls Try.prog 25 #[.agg #[.int .i64 m0, .int .i64 m1, .int .i64 m2, .int .i64 m3, .int .i64 d0, .int .i64 d1, .int .i64 d2, .int .i64 d3], .agg #[.int .i64 kr, .int .i64 kg, .int .i64 kb, .int .i64 ka]] w fun e w' => e = .returned (colV m0 m1 m2 m3 d0 d1 d2 d3 kr kg kb ka) ∧ Below w.heap.size w w' := by
  rw [colV_yes q1 q2]
  obtain ⟨a0, a1, a2, a3, b0, b1, b2, b3⟩ := cxOk_bd q1
  obtain ⟨c0, c1, c2, c3⟩ := rgbaOk_bd q2
  have t0 := mulF_bd kr m0 (by omega) a0
  have u0 := mul_bd 512 512 (show -512 ≤ kr ∧ kr ≤ 512 by omega) a0
  have t1 := mulF_bd kg m1 (by omega) a1
  have u1 := mul_bd 512 512 (show -512 ≤ kg ∧ kg ≤ 512 by omega) a1
  have t2 := mulF_bd kb m2 (by omega) a2
  have u2 := mul_bd 512 512 (show -512 ≤ kb ∧ kb ≤ 512 by omega) a2
  have t3 := mulF_bd ka m3 (by omega) a3
  have u3 := mul_bd 512 512 (show -512 ≤ ka ∧ ka ≤ 512 by omega) a3
  exact rcolor14_yes m0 m1 m2 m3 d0 d1 d2 d3 kr kg kb ka _ _ _ _ _ _ _ _ _ _ _ _ w (wI _ (by omega)) (wI _ (by omega)) (Lib.hid fun W => rfl256 kr m0 W (by omega) a0) (Lib.hid fun W => rend14_any _ _ _ W) (wI _ (by omega)) (wI _ (by omega)) (Lib.hid fun W => rfl256 kg m1 W (by omega) a1) (Lib.hid fun W => rend14_any _ _ _ W) (wI _ (by omega)) (wI _ (by omega)) (Lib.hid fun W => rfl256 kb m2 W (by omega) a2) (Lib.hid fun W => rend14_any _ _ _ W) (wI _ (by omega)) (wI _ (by omega)) (Lib.hid fun W => rfl256 ka m3 W (by omega) a3) (Lib.hid fun W => rend14_any _ _ _ W)
end Go.Proofs.Ythcejmbjagpjcaa
