import Derived.Test.YthlnjipefeglpaaZU41
import Derived.Test.YthlnjipefeglpaaZU21
namespace Go.Proofs.Ythlnjipefeglpaa
open Go.RowKit
set_option linter.unusedVariables false
set_option linter.unusedSimpArgs false
set_option maxRecDepth 100000
set_option maxHeartbeats 2000000 in
theorem styleRights_cells (fk fr fg fb fa fm0 fm1 fm2 fm3 fm4 fm5 fsp fid gk gr gg gb ga gm0 gm1 gm2 gm3 gm4 gm5 gsp gid z0 z1 z2 z3 z4 : Int) (fst gst : List (List Int)) (fsa gsa : Option Addr) (fsc gsc : Nat) (w : World) (hF : (⟨fk, [fr, fg, fb, fa], [fm0, fm1, fm2, fm3, fm4, fm5], fsp, fst, fid⟩ : FV).Fit) (hG : (⟨gk, [gr, gg, gb, ga], [gm0, gm1, gm2, gm3, gm4, gm5], gsp, gst, gid⟩ : FV).Fit) (h1 : Stops w (.slice fsa fst.length fsc) fst) (h2 : Stops w (.slice gsa gst.length gsc) gst) (hb : ∀ v ∈ [z0, z1, z2, z3, z4], I64 v) :
    Calls Try.prog 3 #[.agg #[.int .i64 fk, .int .i64 fr, .int .i64 fg, .int .i64 fb, .int .i64 fa, .int .i64 fm0, .int .i64 fm1, .int .i64 fm2, .int .i64 fm3, .int .i64 fm4, .int .i64 fm5, .int .i64 fsp, .slice fsa fst.length fsc, .int .i64 fid], .agg #[.int .i64 gk, .int .i64 gr, .int .i64 gg, .int .i64 gb, .int .i64 ga, .int .i64 gm0, .int .i64 gm1, .int .i64 gm2, .int .i64 gm3, .int .i64 gm4, .int .i64 gm5, .int .i64 gsp, .slice gsa gst.length gsc, .int .i64 gid], .agg #[.int .i64 z0, .int .i64 z1, .int .i64 z2, .int .i64 z3, .int .i64 z4]] w fun e w' => e = .returned (.bool true) ∧ Below w.heap.size w w' := by
  have HA := Lib.hid awake8_any
  by_cases n1 : 20 < fst.length
  · have q1 : decide ((20 : Int) < (fst.length : Int)) = true := decide_eq_true (by omega)
    clear h1 h2 hF hG hb
    go_enter Try.func3, Try.ntmps3
    go_wp2_with (first
      | (refine wl_box 28 _ _ rfl rfl (show _ = Value.agg #[.int .i64 fk, .int .i64 fr, .int .i64 fg, .int .i64 fb, .int .i64 fa, .int .i64 fm0, .int .i64 fm1, .int .i64 fm2, .int .i64 fm3, .int .i64 fm4, .int .i64 fm5, .int .i64 fsp, .slice fsa fst.length fsc, .int .i64 fid] from rfl) ?_; intro W1 bx Bx_1 l1 k1; have gx : w.heap.size ≤ bx := l1; have Hw1 := k1; clear l1 k1)
      | (refine wl_box 28 _ _ rfl rfl (show _ = Value.agg #[.int .i64 gk, .int .i64 gr, .int .i64 gg, .int .i64 gb, .int .i64 ga, .int .i64 gm0, .int .i64 gm1, .int .i64 gm2, .int .i64 gm3, .int .i64 gm4, .int .i64 gm5, .int .i64 gsp, .slice gsa gst.length gsc, .int .i64 gid] from rfl) ?_; intro W2 bu Bu_2 l2 k2; have gu : w.heap.size ≤ bu := Nat.le_trans Hw1.size l2; have nxu : bx ≠ bu := Nat.ne_of_lt (Nat.lt_of_lt_of_le Bx_1.lt l2); have Bx_2 := Bx_1.keep k2; have Hw2 := bq_trans Hw1 k2; clear l2 k2 Bx_1 Hw1)
      | (refine wl_box 30 _ _ rfl rfl (show _ = Value.agg #[.int .i64 z0, .int .i64 z1, .int .i64 z2, .int .i64 z3, .int .i64 z4] from rfl) ?_; intro W3 bq Bq_3 l3 k3; have gq : w.heap.size ≤ bq := Nat.le_trans Hw2.size l3; have nxq : bx ≠ bq := Nat.ne_of_lt (Nat.lt_of_lt_of_le Bx_2.lt l3); have nuq : bu ≠ bq := Nat.ne_of_lt (Nat.lt_of_lt_of_le Bu_2.lt l3); have Bx_3 := Bx_2.keep k3; have Bu_3 := Bu_2.keep k3; have Hw3 := bq_trans Hw2 k3; clear l3 k3 Bx_2 Bu_2 Hw2; have cx_12_3 : W3.cell? ⟨bx, 12, none⟩ = some (.slice fsa fst.length fsc) := Bx_3.cell 12; have cu_12_3 : W3.cell? ⟨bu, 12, none⟩ = some (.slice gsa gst.length gsc) := Bu_3.cell 12)
      | (go_at_call 8; (with_reducible refine (HA.out _).mono ?_); rintro e W4 ⟨rfl, k4⟩; have Bx_4 := Bx_3.keep k4; have Bu_4 := Bu_3.keep k4; have Bq_4 := Bq_3.keep k4; have Hw4 := bq_trans Hw3 k4; clear k4 Bx_3 Bu_3 Bq_3 cx_12_3 cu_12_3 Hw3))
    go_ret
    exact ⟨rfl, Hw4⟩
  have q1 : decide ((20 : Int) < (fst.length : Int)) = false := decide_eq_false (by omega)
  by_cases n2 : 20 < gst.length
  · have q2 : decide ((20 : Int) < (gst.length : Int)) = true := decide_eq_true (by omega)
    clear h1 h2 hF hG hb
    go_enter Try.func3, Try.ntmps3
    go_wp2_with (first
      | (refine wl_box 28 _ _ rfl rfl (show _ = Value.agg #[.int .i64 fk, .int .i64 fr, .int .i64 fg, .int .i64 fb, .int .i64 fa, .int .i64 fm0, .int .i64 fm1, .int .i64 fm2, .int .i64 fm3, .int .i64 fm4, .int .i64 fm5, .int .i64 fsp, .slice fsa fst.length fsc, .int .i64 fid] from rfl) ?_; intro W1 bx Bx_1 l1 k1; have gx : w.heap.size ≤ bx := l1; have Hw1 := k1; clear l1 k1)
      | (refine wl_box 28 _ _ rfl rfl (show _ = Value.agg #[.int .i64 gk, .int .i64 gr, .int .i64 gg, .int .i64 gb, .int .i64 ga, .int .i64 gm0, .int .i64 gm1, .int .i64 gm2, .int .i64 gm3, .int .i64 gm4, .int .i64 gm5, .int .i64 gsp, .slice gsa gst.length gsc, .int .i64 gid] from rfl) ?_; intro W2 bu Bu_2 l2 k2; have gu : w.heap.size ≤ bu := Nat.le_trans Hw1.size l2; have nxu : bx ≠ bu := Nat.ne_of_lt (Nat.lt_of_lt_of_le Bx_1.lt l2); have Bx_2 := Bx_1.keep k2; have Hw2 := bq_trans Hw1 k2; clear l2 k2 Bx_1 Hw1)
      | (refine wl_box 30 _ _ rfl rfl (show _ = Value.agg #[.int .i64 z0, .int .i64 z1, .int .i64 z2, .int .i64 z3, .int .i64 z4] from rfl) ?_; intro W3 bq Bq_3 l3 k3; have gq : w.heap.size ≤ bq := Nat.le_trans Hw2.size l3; have nxq : bx ≠ bq := Nat.ne_of_lt (Nat.lt_of_lt_of_le Bx_2.lt l3); have nuq : bu ≠ bq := Nat.ne_of_lt (Nat.lt_of_lt_of_le Bu_2.lt l3); have Bx_3 := Bx_2.keep k3; have Bu_3 := Bu_2.keep k3; have Hw3 := bq_trans Hw2 k3; clear l3 k3 Bx_2 Bu_2 Hw2; have cx_12_3 : W3.cell? ⟨bx, 12, none⟩ = some (.slice fsa fst.length fsc) := Bx_3.cell 12; have cu_12_3 : W3.cell? ⟨bu, 12, none⟩ = some (.slice gsa gst.length gsc) := Bu_3.cell 12)
      | (go_at_call 8; (with_reducible refine (HA.out _).mono ?_); rintro e W4 ⟨rfl, k4⟩; have Bx_4 := Bx_3.keep k4; have Bu_4 := Bu_3.keep k4; have Bq_4 := Bq_3.keep k4; have Hw4 := bq_trans Hw3 k4; clear k4 Bx_3 Bu_3 Bq_3 cx_12_3 cu_12_3 Hw3))
    go_ret
    exact ⟨rfl, Hw4⟩
  have q2 : decide ((20 : Int) < (gst.length : Int)) = false := decide_eq_false (by omega)
  have H1 : Hid (∀ W, Below w.heap.size w W → Calls Try.prog 9 #[.agg #[.int .i64 fk, .int .i64 fr, .int .i64 fg, .int .i64 fb, .int .i64 fa, .int .i64 fm0, .int .i64 fm1, .int .i64 fm2, .int .i64 fm3, .int .i64 fm4, .int .i64 fm5, .int .i64 fsp, .slice fsa fst.length fsc, .int .i64 fid]] W fun e w' => e = .returned (.bool (fillOk (⟨fk, [fr, fg, fb, fa], [fm0, fm1, fm2, fm3, fm4, fm5], fsp, fst, fid⟩ : FV))) ∧ Below W.heap.size W w') := Lib.hid fun W hW => pfill_any (⟨fk, [fr, fg, fb, fa], [fm0, fm1, fm2, fm3, fm4, fm5], fsp, fst, fid⟩ : FV) (.slice fsa fst.length fsc) W hF (Sl.keep num5_lasts h1 hW)
  have H2 : Hid (∀ W, Below w.heap.size w W → Calls Try.prog 10 #[.agg #[.int .i64 fk, .int .i64 fr, .int .i64 fg, .int .i64 fb, .int .i64 fa, .int .i64 fm0, .int .i64 fm1, .int .i64 fm2, .int .i64 fm3, .int .i64 fm4, .int .i64 fm5, .int .i64 fsp, .slice fsa fst.length fsc, .int .i64 fid]] W fun e w' => e = .returned (.bool (fillOk (⟨fk, [fr, fg, fb, fa], [fm0, fm1, fm2, fm3, fm4, fm5], fsp, fst, fid⟩ : FV))) ∧ Below W.heap.size W w') := Lib.hid fun W hW => reffill_any (⟨fk, [fr, fg, fb, fa], [fm0, fm1, fm2, fm3, fm4, fm5], fsp, fst, fid⟩ : FV) (.slice fsa fst.length fsc) W hF (Sl.keep num5_lasts h1 hW)
  have H3 : Hid (∀ W, Below w.heap.size w W → Calls Try.prog 11 #[.agg #[.int .i64 z0, .int .i64 z1, .int .i64 z2, .int .i64 z3, .int .i64 z4]] W fun e w' => e = .returned (.bool (strokeL [z0, z1, z2, z3, z4])) ∧ Below W.heap.size W w') := Lib.hid fun W hW => pstroke_l [z0, z1, z2, z3, z4] W rfl hb
  have H4 : Hid (∀ W, Below w.heap.size w W → Calls Try.prog 12 #[.agg #[.int .i64 z0, .int .i64 z1, .int .i64 z2, .int .i64 z3, .int .i64 z4]] W fun e w' => e = .returned (.bool (strokeL [z0, z1, z2, z3, z4])) ∧ Below W.heap.size W w') := Lib.hid fun W hW => refstroke_l [z0, z1, z2, z3, z4] W rfl hb
  have H5 : Hid (∀ W, Below w.heap.size w W → Calls Try.prog 13 #[.agg #[.int .i64 fk, .int .i64 fr, .int .i64 fg, .int .i64 fb, .int .i64 fa, .int .i64 fm0, .int .i64 fm1, .int .i64 fm2, .int .i64 fm3, .int .i64 fm4, .int .i64 fm5, .int .i64 fsp, .slice fsa fst.length fsc, .int .i64 fid], .agg #[.int .i64 gk, .int .i64 gr, .int .i64 gg, .int .i64 gb, .int .i64 ga, .int .i64 gm0, .int .i64 gm1, .int .i64 gm2, .int .i64 gm3, .int .i64 gm4, .int .i64 gm5, .int .i64 gsp, .slice gsa gst.length gsc, .int .i64 gid]] W fun e w' => e = .returned (.bool (sameF (⟨fk, [fr, fg, fb, fa], [fm0, fm1, fm2, fm3, fm4, fm5], fsp, fst, fid⟩ : FV) (⟨gk, [gr, gg, gb, ga], [gm0, gm1, gm2, gm3, gm4, gm5], gsp, gst, gid⟩ : FV))) ∧ Below W.heap.size W w') := Lib.hid fun W hW => psame_any (⟨fk, [fr, fg, fb, fa], [fm0, fm1, fm2, fm3, fm4, fm5], fsp, fst, fid⟩ : FV) (⟨gk, [gr, gg, gb, ga], [gm0, gm1, gm2, gm3, gm4, gm5], gsp, gst, gid⟩ : FV) (.slice fsa fst.length fsc) (.slice gsa gst.length gsc) W hF hG (Sl.keep num5_lasts h1 hW) (Sl.keep num5_lasts h2 hW)
  have H6 : Hid (∀ W, Below w.heap.size w W → Calls Try.prog 14 #[.agg #[.int .i64 fk, .int .i64 fr, .int .i64 fg, .int .i64 fb, .int .i64 fa, .int .i64 fm0, .int .i64 fm1, .int .i64 fm2, .int .i64 fm3, .int .i64 fm4, .int .i64 fm5, .int .i64 fsp, .slice fsa fst.length fsc, .int .i64 fid], .agg #[.int .i64 gk, .int .i64 gr, .int .i64 gg, .int .i64 gb, .int .i64 ga, .int .i64 gm0, .int .i64 gm1, .int .i64 gm2, .int .i64 gm3, .int .i64 gm4, .int .i64 gm5, .int .i64 gsp, .slice gsa gst.length gsc, .int .i64 gid]] W fun e w' => e = .returned (.bool (sameF (⟨fk, [fr, fg, fb, fa], [fm0, fm1, fm2, fm3, fm4, fm5], fsp, fst, fid⟩ : FV) (⟨gk, [gr, gg, gb, ga], [gm0, gm1, gm2, gm3, gm4, gm5], gsp, gst, gid⟩ : FV))) ∧ Below W.heap.size W w') := Lib.hid fun W hW => refsame_any (⟨fk, [fr, fg, fb, fa], [fm0, fm1, fm2, fm3, fm4, fm5], fsp, fst, fid⟩ : FV) (⟨gk, [gr, gg, gb, ga], [gm0, gm1, gm2, gm3, gm4, gm5], gsp, gst, gid⟩ : FV) (.slice fsa fst.length fsc) (.slice gsa gst.length gsc) W hF hG (Sl.keep num5_lasts h1 hW) (Sl.keep num5_lasts h2 hW)
  have e7 : sameF (⟨fk, [fr, fg, fb, fa], [fm0, fm1, fm2, fm3, fm4, fm5], fsp, fst, fid⟩ : FV) (⟨fk, [fr, fg, fb, fa], [fm0, fm1, fm2, fm3, fm4, fm5], fsp, fst, fid⟩ : FV) = true := (FV.same _ _).2 rfl
  have H7 : Hid (∀ W, Below w.heap.size w W → Calls Try.prog 13 #[.agg #[.int .i64 fk, .int .i64 fr, .int .i64 fg, .int .i64 fb, .int .i64 fa, .int .i64 fm0, .int .i64 fm1, .int .i64 fm2, .int .i64 fm3, .int .i64 fm4, .int .i64 fm5, .int .i64 fsp, .slice fsa fst.length fsc, .int .i64 fid], .agg #[.int .i64 fk, .int .i64 fr, .int .i64 fg, .int .i64 fb, .int .i64 fa, .int .i64 fm0, .int .i64 fm1, .int .i64 fm2, .int .i64 fm3, .int .i64 fm4, .int .i64 fm5, .int .i64 fsp, .slice fsa fst.length fsc, .int .i64 fid]] W fun e w' => e = .returned (.bool true) ∧ Below W.heap.size W w') := Lib.hid fun W hW => e7 ▸ psame_any (⟨fk, [fr, fg, fb, fa], [fm0, fm1, fm2, fm3, fm4, fm5], fsp, fst, fid⟩ : FV) (⟨fk, [fr, fg, fb, fa], [fm0, fm1, fm2, fm3, fm4, fm5], fsp, fst, fid⟩ : FV) (.slice fsa fst.length fsc) (.slice fsa fst.length fsc) W hF hF (Sl.keep num5_lasts h1 hW) (Sl.keep num5_lasts h1 hW)
  clear h1 h2 hF hG hb e7
  generalize fillOk (⟨fk, [fr, fg, fb, fa], [fm0, fm1, fm2, fm3, fm4, fm5], fsp, fst, fid⟩ : FV) = pF at *
  generalize strokeL [z0, z1, z2, z3, z4] = pS at *
  generalize sameF (⟨fk, [fr, fg, fb, fa], [fm0, fm1, fm2, fm3, fm4, fm5], fsp, fst, fid⟩ : FV) (⟨gk, [gr, gg, gb, ga], [gm0, gm1, gm2, gm3, gm4, gm5], gsp, gst, gid⟩ : FV) = pE at *
  have p1 : (pF == pF) = true := by cases pF <;> rfl
  have p2 : (pS == pS) = true := by cases pS <;> rfl
  have p3 : (pE == pE) = true := by cases pE <;> rfl
  go_enter Try.func3, Try.ntmps3
  go_upto_region 3 with (go_big_may; first
    | (refine wl_box 28 _ _ rfl rfl (show _ = Value.agg #[.int .i64 fk, .int .i64 fr, .int .i64 fg, .int .i64 fb, .int .i64 fa, .int .i64 fm0, .int .i64 fm1, .int .i64 fm2, .int .i64 fm3, .int .i64 fm4, .int .i64 fm5, .int .i64 fsp, .slice fsa fst.length fsc, .int .i64 fid] from rfl) ?_; intro W1 bx Bx_1 l1 k1; have gx : w.heap.size ≤ bx := l1; have Hw1 := k1; clear l1 k1)
    | (refine wl_box 28 _ _ rfl rfl (show _ = Value.agg #[.int .i64 gk, .int .i64 gr, .int .i64 gg, .int .i64 gb, .int .i64 ga, .int .i64 gm0, .int .i64 gm1, .int .i64 gm2, .int .i64 gm3, .int .i64 gm4, .int .i64 gm5, .int .i64 gsp, .slice gsa gst.length gsc, .int .i64 gid] from rfl) ?_; intro W2 bu Bu_2 l2 k2; have gu : w.heap.size ≤ bu := Nat.le_trans Hw1.size l2; have nxu : bx ≠ bu := Nat.ne_of_lt (Nat.lt_of_lt_of_le Bx_1.lt l2); have Bx_2 := Bx_1.keep k2; have Hw2 := bq_trans Hw1 k2; clear l2 k2 Bx_1 Hw1)
    | (refine wl_box 30 _ _ rfl rfl (show _ = Value.agg #[.int .i64 z0, .int .i64 z1, .int .i64 z2, .int .i64 z3, .int .i64 z4] from rfl) ?_; intro W3 bq Bq_3 l3 k3; have gq : w.heap.size ≤ bq := Nat.le_trans Hw2.size l3; have nxq : bx ≠ bq := Nat.ne_of_lt (Nat.lt_of_lt_of_le Bx_2.lt l3); have nuq : bu ≠ bq := Nat.ne_of_lt (Nat.lt_of_lt_of_le Bu_2.lt l3); have Bx_3 := Bx_2.keep k3; have Bu_3 := Bu_2.keep k3; have Hw3 := bq_trans Hw2 k3; clear l3 k3 Bx_2 Bu_2 Hw2; have cx_12_3 : W3.cell? ⟨bx, 12, none⟩ = some (.slice fsa fst.length fsc) := Bx_3.cell 12; have cu_12_3 : W3.cell? ⟨bu, 12, none⟩ = some (.slice gsa gst.length gsc) := Bu_3.cell 12))
  clear cx_12_3 cu_12_3
  refine Det.wp_region_det (S := fun w' => Below W3.heap.size W3 w') (by kernel_rfl) (by kernel_rfl) (bq_drew (bq_refl _)) ?_
  refine Det.det_load 28 14 _ Try.underlying28 rfl sizeFL _ rfl (by rfl) _ rfl _ _ (fun w hS => Bx_3.keep hS) rfl ?_
  try simp only [Act.put, List.setIfInBounds_toArray, List.set_cons_zero, List.set_cons_succ]
  refine Det.det_call (f := 9) (args := #[.agg #[.int .i64 fk, .int .i64 fr, .int .i64 fg, .int .i64 fb, .int .i64 fa, .int .i64 fm0, .int .i64 fm1, .int .i64 fm2, .int .i64 fm3, .int .i64 fm4, .int .i64 fm5, .int .i64 fsp, .slice fsa fst.length fsc, .int .i64 fid]]) (v := .bool pF) (by rfl) ?_ (fun w hS => (H1.out w (bq_trans Hw3 hS)).mono fun e w' ⟨h1, h2⟩ => ⟨h1, bq_trans hS h2⟩) ?_
  · (intro w hSw; go_simp)
  try simp only [Act.put, List.setIfInBounds_toArray, List.set_cons_zero, List.set_cons_succ]
  refine Det.det_load 28 14 _ Try.underlying28 rfl sizeFL _ rfl (by rfl) _ rfl _ _ (fun w hS => Bx_3.keep hS) rfl ?_
  try simp only [Act.put, List.setIfInBounds_toArray, List.set_cons_zero, List.set_cons_succ]
  refine Det.det_call (f := 10) (args := #[.agg #[.int .i64 fk, .int .i64 fr, .int .i64 fg, .int .i64 fb, .int .i64 fa, .int .i64 fm0, .int .i64 fm1, .int .i64 fm2, .int .i64 fm3, .int .i64 fm4, .int .i64 fm5, .int .i64 fsp, .slice fsa fst.length fsc, .int .i64 fid]]) (v := .bool pF) (by rfl) ?_ (fun w hS => (H2.out w (bq_trans Hw3 hS)).mono fun e w' ⟨h1, h2⟩ => ⟨h1, bq_trans hS h2⟩) ?_
  · (intro w hSw; go_simp)
  try simp only [Act.put, List.setIfInBounds_toArray, List.set_cons_zero, List.set_cons_succ]
  refine Det.det_take (v := ?_) (by rfl) ?_ ?_
  rotate_left
  · (intro w hSw; go_simp; try with_reducible rfl)
  try simp only [Act.put, List.setIfInBounds_toArray, List.set_cons_zero, List.set_cons_succ]
  refine Det.det_take (v := ?_) (by rfl) ?_ ?_
  rotate_left
  · (intro w hSw; go_simp; try with_reducible rfl)
  try simp only [Act.put, List.setIfInBounds_toArray, List.set_cons_zero, List.set_cons_succ]
  refine Det.det_load 30 5 _ Try.underlying30 rfl sizeSK _ rfl (by rfl) _ rfl _ _ (fun w hS => Bq_3.keep hS) rfl ?_
  try simp only [Act.put, List.setIfInBounds_toArray, List.set_cons_zero, List.set_cons_succ]
  refine Det.det_call (f := 11) (args := #[.agg #[.int .i64 z0, .int .i64 z1, .int .i64 z2, .int .i64 z3, .int .i64 z4]]) (v := .bool pS) (by rfl) ?_ (fun w hS => (H3.out w (bq_trans Hw3 hS)).mono fun e w' ⟨h1, h2⟩ => ⟨h1, bq_trans hS h2⟩) ?_
  · (intro w hSw; go_simp)
  try simp only [Act.put, List.setIfInBounds_toArray, List.set_cons_zero, List.set_cons_succ]
  refine Det.det_load 30 5 _ Try.underlying30 rfl sizeSK _ rfl (by rfl) _ rfl _ _ (fun w hS => Bq_3.keep hS) rfl ?_
  try simp only [Act.put, List.setIfInBounds_toArray, List.set_cons_zero, List.set_cons_succ]
  refine Det.det_call (f := 12) (args := #[.agg #[.int .i64 z0, .int .i64 z1, .int .i64 z2, .int .i64 z3, .int .i64 z4]]) (v := .bool pS) (by rfl) ?_ (fun w hS => (H4.out w (bq_trans Hw3 hS)).mono fun e w' ⟨h1, h2⟩ => ⟨h1, bq_trans hS h2⟩) ?_
  · (intro w hSw; go_simp)
  try simp only [Act.put, List.setIfInBounds_toArray, List.set_cons_zero, List.set_cons_succ]
  refine Det.det_take (v := ?_) (by rfl) ?_ ?_
  rotate_left
  · (intro w hSw; go_simp; try with_reducible rfl)
  try simp only [Act.put, List.setIfInBounds_toArray, List.set_cons_zero, List.set_cons_succ]
  refine Det.det_take (v := ?_) (by rfl) ?_ ?_
  rotate_left
  · (intro w hSw; go_simp; try with_reducible rfl)
  try simp only [Act.put, List.setIfInBounds_toArray, List.set_cons_zero, List.set_cons_succ]
  refine Det.det_take (v := ?_) (by rfl) ?_ ?_
  rotate_left
  · (intro w hSw; go_simp; try with_reducible rfl)
  try simp only [Act.put, List.setIfInBounds_toArray, List.set_cons_zero, List.set_cons_succ]
  refine Det.det_load 28 14 _ Try.underlying28 rfl sizeFL _ rfl (by rfl) _ rfl _ _ (fun w hS => Bx_3.keep hS) rfl ?_
  try simp only [Act.put, List.setIfInBounds_toArray, List.set_cons_zero, List.set_cons_succ]
  refine Det.det_load 28 14 _ Try.underlying28 rfl sizeFL _ rfl (by rfl) _ rfl _ _ (fun w hS => Bu_3.keep hS) rfl ?_
  try simp only [Act.put, List.setIfInBounds_toArray, List.set_cons_zero, List.set_cons_succ]
  refine Det.det_call (f := 13) (args := #[.agg #[.int .i64 fk, .int .i64 fr, .int .i64 fg, .int .i64 fb, .int .i64 fa, .int .i64 fm0, .int .i64 fm1, .int .i64 fm2, .int .i64 fm3, .int .i64 fm4, .int .i64 fm5, .int .i64 fsp, .slice fsa fst.length fsc, .int .i64 fid], .agg #[.int .i64 gk, .int .i64 gr, .int .i64 gg, .int .i64 gb, .int .i64 ga, .int .i64 gm0, .int .i64 gm1, .int .i64 gm2, .int .i64 gm3, .int .i64 gm4, .int .i64 gm5, .int .i64 gsp, .slice gsa gst.length gsc, .int .i64 gid]]) (v := .bool pE) (by rfl) ?_ (fun w hS => (H5.out w (bq_trans Hw3 hS)).mono fun e w' ⟨h1, h2⟩ => ⟨h1, bq_trans hS h2⟩) ?_
  · (intro w hSw; go_simp)
  try simp only [Act.put, List.setIfInBounds_toArray, List.set_cons_zero, List.set_cons_succ]
  refine Det.det_load 28 14 _ Try.underlying28 rfl sizeFL _ rfl (by rfl) _ rfl _ _ (fun w hS => Bx_3.keep hS) rfl ?_
  try simp only [Act.put, List.setIfInBounds_toArray, List.set_cons_zero, List.set_cons_succ]
  refine Det.det_load 28 14 _ Try.underlying28 rfl sizeFL _ rfl (by rfl) _ rfl _ _ (fun w hS => Bu_3.keep hS) rfl ?_
  try simp only [Act.put, List.setIfInBounds_toArray, List.set_cons_zero, List.set_cons_succ]
  refine Det.det_call (f := 14) (args := #[.agg #[.int .i64 fk, .int .i64 fr, .int .i64 fg, .int .i64 fb, .int .i64 fa, .int .i64 fm0, .int .i64 fm1, .int .i64 fm2, .int .i64 fm3, .int .i64 fm4, .int .i64 fm5, .int .i64 fsp, .slice fsa fst.length fsc, .int .i64 fid], .agg #[.int .i64 gk, .int .i64 gr, .int .i64 gg, .int .i64 gb, .int .i64 ga, .int .i64 gm0, .int .i64 gm1, .int .i64 gm2, .int .i64 gm3, .int .i64 gm4, .int .i64 gm5, .int .i64 gsp, .slice gsa gst.length gsc, .int .i64 gid]]) (v := .bool pE) (by rfl) ?_ (fun w hS => (H6.out w (bq_trans Hw3 hS)).mono fun e w' ⟨h1, h2⟩ => ⟨h1, bq_trans hS h2⟩) ?_
  · (intro w hSw; go_simp)
  try simp only [Act.put, List.setIfInBounds_toArray, List.set_cons_zero, List.set_cons_succ]
  refine Det.det_take (v := ?_) (by rfl) ?_ ?_
  rotate_left
  · (intro w hSw; go_simp; try with_reducible rfl)
  try simp only [Act.put, List.setIfInBounds_toArray, List.set_cons_zero, List.set_cons_succ]
  refine Det.det_take (v := ?_) (by rfl) ?_ ?_
  rotate_left
  · (intro w hSw; go_simp; try with_reducible rfl)
  try simp only [Act.put, List.setIfInBounds_toArray, List.set_cons_zero, List.set_cons_succ]
  refine Det.det_take (v := ?_) (by rfl) ?_ ?_
  rotate_left
  · (intro w hSw; go_simp; try with_reducible rfl)
  try simp only [Act.put, List.setIfInBounds_toArray, List.set_cons_zero, List.set_cons_succ]
  refine Det.det_load 28 14 _ Try.underlying28 rfl sizeFL _ rfl (by rfl) _ rfl _ _ (fun w hS => Bx_3.keep hS) rfl ?_
  try simp only [Act.put, List.setIfInBounds_toArray, List.set_cons_zero, List.set_cons_succ]
  refine Det.det_load 28 14 _ Try.underlying28 rfl sizeFL _ rfl (by rfl) _ rfl _ _ (fun w hS => Bx_3.keep hS) rfl ?_
  try simp only [Act.put, List.setIfInBounds_toArray, List.set_cons_zero, List.set_cons_succ]
  refine Det.det_call (f := 13) (args := #[.agg #[.int .i64 fk, .int .i64 fr, .int .i64 fg, .int .i64 fb, .int .i64 fa, .int .i64 fm0, .int .i64 fm1, .int .i64 fm2, .int .i64 fm3, .int .i64 fm4, .int .i64 fm5, .int .i64 fsp, .slice fsa fst.length fsc, .int .i64 fid], .agg #[.int .i64 fk, .int .i64 fr, .int .i64 fg, .int .i64 fb, .int .i64 fa, .int .i64 fm0, .int .i64 fm1, .int .i64 fm2, .int .i64 fm3, .int .i64 fm4, .int .i64 fm5, .int .i64 fsp, .slice fsa fst.length fsc, .int .i64 fid]]) (v := .bool true) (by rfl) ?_ (fun w hS => (H7.out w (bq_trans Hw3 hS)).mono fun e w' ⟨h1, h2⟩ => ⟨h1, bq_trans hS h2⟩) ?_
  · (intro w hSw; go_simp)
  try simp only [Act.put, List.setIfInBounds_toArray, List.set_cons_zero, List.set_cons_succ]
  refine Det.det_take (v := ?_) (by rfl) ?_ ?_
  rotate_left
  · (intro w hSw; go_simp; try with_reducible rfl)
  try simp only [Act.put, List.setIfInBounds_toArray, List.set_cons_zero, List.set_cons_succ]
  refine Det.det_take (v := ?_) (by rfl) ?_ ?_
  rotate_left
  · (intro w hSw; go_simp; try with_reducible rfl)
  try simp only [Act.put, List.setIfInBounds_toArray, List.set_cons_zero, List.set_cons_succ]
  refine Det.det_call (f := 8) (args := #[]) (v := .bool true) (by rfl) ?_ (fun w hS => (HA.out w).mono fun e w' ⟨h1, h2⟩ => ⟨h1, bq_trans hS h2⟩) ?_
  · (intro w hSw; go_simp)
  try simp only [Act.put, List.setIfInBounds_toArray, List.set_cons_zero, List.set_cons_succ]
  refine Det.det_take (v := ?_) (by rfl) ?_ ?_
  rotate_left
  · (intro w hSw; go_simp; try with_reducible rfl)
  try simp only [Act.put, List.setIfInBounds_toArray, List.set_cons_zero, List.set_cons_succ]
  refine Det.det_take (v := ?_) (by rfl) ?_ ?_
  rotate_left
  · (intro w hSw; go_simp; try with_reducible rfl)
  try simp only [Act.put, List.setIfInBounds_toArray, List.set_cons_zero, List.set_cons_succ]
  refine Det.det_nil (fun W4 k4 => ?_)
  have Bx_4 := Bx_3.keep k4
  have Bu_4 := Bu_3.keep k4
  have Bq_4 := Bq_3.keep k4
  have Hw4 := bq_trans Hw3 k4
  clear k4 Bx_3 Bu_3 Bq_3 Hw3
  go_wp2_with fail
  go_ret
  exact ⟨rfl, Hw4⟩
theorem styleRights_walk (F G : FV) (s1 s2 : Value) (x : List Int) (w : World) (hF : F.Fit) (hG : G.Fit) (h1 : Stops w s1 F.st) (h2 : Stops w s2 G.st) (h5 : x.length = 5) (hb : ∀ v ∈ x, I64 v) :
    Calls Try.prog 3 #[.agg (fillC F s1).toArray, .agg (fillC G s2).toArray, .agg (iL x).toArray] w fun e w' => e = .returned (.bool true) ∧ Below w.heap.size w w' := by
  obtain ⟨fk, c, m, fsp, fst, fid⟩ := F
  obtain ⟨gk, d, n, gsp, gst, gid⟩ := G
  have lc := hF.c
  have lm := hF.m
  have ld := hG.c
  have ln := hG.m
  dsimp only at lc lm ld ln h1 h2
  obtain ⟨fr, fg, fb, fa, rfl⟩ := list4 c lc
  obtain ⟨fm0, fm1, fm2, fm3, fm4, fm5, rfl⟩ := list6 m lm
  obtain ⟨gr, gg, gb, ga, rfl⟩ := list4 d ld
  obtain ⟨gm0, gm1, gm2, gm3, gm4, gm5, rfl⟩ := list6 n ln
  obtain ⟨z0, z1, z2, z3, z4, rfl⟩ := list5 x h5
  have k1 := h1
  have k2 := h2
  obtain ⟨fsa, fsc, _, _, rfl, _, _⟩ := h1.get
  obtain ⟨gsa, gsc, _, _, rfl, _, _⟩ := h2.get
  exact styleRights_cells fk fr fg fb fa fm0 fm1 fm2 fm3 fm4 fm5 fsp fid gk gr gg gb ga gm0 gm1 gm2 gm3 gm4 gm5 gsp gid z0 z1 z2 z3 z4 fst gst fsa gsa fsc gsc w hF hG k1 k2 hb
end Go.Proofs.Ythlnjipefeglpaa
