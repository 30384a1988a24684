import Derived.Test.YthlnjipefeglpaaZU23
namespace Go.Proofs.Ythlnjipefeglpaa
open Go.RowKit
set_option linter.unusedVariables false
set_option linter.unusedSimpArgs false
set_option maxRecDepth 100000
theorem FV.same (A B : FV) : sameF A B = true ↔ A = B := by
  obtain ⟨ak, c, m, asp, ast, aid⟩ := A
  obtain ⟨bk, d, n, bsp, bst, bid⟩ := B
  simp only [sameF, Bool.and_eq_true, decide_eq_true_eq, FV.mk.injEq]
  constructor
  · rintro ⟨⟨⟨⟨⟨h1, h2⟩, h3⟩, h4⟩, h5⟩, h6⟩
    exact ⟨h1, h2, h3, h4, h6, h5⟩
  · rintro ⟨h1, h2, h3, h4, h6, h5⟩
    exact ⟨⟨⟨⟨⟨h1, h2⟩, h3⟩, h4⟩, h5⟩, h6⟩
instance : DecidableEq FV := fun A B => decidable_of_iff (sameF A B = true) (FV.same A B)
theorem takeG {α : Type} (xs ys : List α) (k : Nat) (hx : k < xs.length) (hy : k < ys.length) (h : xs.take k = ys.take k) (h2 : xs[k] = ys[k]) : xs.take (k + 1) = ys.take (k + 1) := by
  rw [List.take_succ_eq_append_getElem hx, List.take_succ_eq_append_getElem hy, h, h2]
theorem neG {α : Type} (xs ys : List α) (k : Nat) (hx : k < xs.length) (hy : k < ys.length) (h2 : xs[k] ≠ ys[k]) : xs ≠ ys := fun h => by
  subst h; exact h2 rfl
def SlRel {α : Type} (w : World) (xs ys : List α) (i : Value) (wr : World) : Prop := ∃ k : Nat, k ≤ xs.length ∧ i = .int .i64 k ∧ xs.take k = ys.take k ∧ Below w.heap.size w wr
set_option maxHeartbeats 4000000 in
theorem refsamelists_any (A B : List FV) (xs ys : List (List Int)) (fa fb sa sb : Value) (w : World) (hA : Fills w fa A) (hB : Fills w fb B) (hX : Strokes w sa xs) (hY : Strokes w sb ys) :
    Calls Try.prog 21 #[fa, fb, sa, sb] w fun e w' => e = .returned (.bool (decide (A = B ∧ xs = ys))) ∧ Below w.heap.size w w' := by
  obtain ⟨faa, fac, pfb, pfo, rfl, la, pget⟩ := hA.get
  obtain ⟨fba, fbc, qfb, qfo, rfl, lb, qget⟩ := hB.get
  obtain ⟨saa, sac, pb, po, rfl, lx, xget⟩ := hX.get
  obtain ⟨sba, sbc, qb, qo, rfl, ly, yget⟩ := hY.get
  have PG := Lib.hid pget
  have QG := Lib.hid qget
  have XG := Lib.hid xget
  have YG := Lib.hid yget
  clear hA hB hX hY pget qget xget yget
  by_cases n1 : A.length = B.length
  rotate_left
  · have e : decide (A = B ∧ xs = ys) = false := decide_eq_false fun h => n1 (by rw [h.1])
    have q1 : ((A.length : Int) != (B.length : Int)) = true := by rw [bne_iff_ne]; omega
    rw [e]
    clear e
    go_enter Try.func21, Try.ntmps21
    go_wp2_with fail
    go_ret
    exact ⟨rfl, bq_refl w⟩
  have q1 : ((A.length : Int) != (B.length : Int)) = false := by rw [n1]; simp
  by_cases n2 : xs.length = ys.length
  rotate_left
  · have e : decide (A = B ∧ xs = ys) = false := decide_eq_false fun h => n2 (by rw [h.2])
    have q2 : ((xs.length : Int) != (ys.length : Int)) = true := by rw [bne_iff_ne]; omega
    rw [e]
    clear e n1
    go_enter Try.func21, Try.ntmps21
    go_wp2_with fail
    go_ret
    exact ⟨rfl, bq_refl w⟩
  have q2 : ((xs.length : Int) != (ys.length : Int)) = false := by rw [n2]; simp
  have N1 := Lib.hid n1
  have N2 := Lib.hid n2
  clear n1 n2
  go_enter Try.func21, Try.ntmps21
  go_upto_region 3 with (fail)
  clear q1 q2
  go_wp2_with fail
  go_loopw [9] (fun i wr => SlRel w A B i wr) (fun i _ => A.length - (intOf i).toNat)
  case atStart => exact ⟨0, by omega, rfl, rfl, bq_refl w⟩
  case round =>
    obtain ⟨k, hk, rfl, hst, hbel⟩ := hrel
    have HS := Lib.hid hst
    have HB := Lib.hid hbel
    clear hst hbel
    by_cases hlt : k < A.length
    · have hlt2 : k < B.length := by rw [← N1.out]; exact hlt
      obtain ⟨rfl, _, cs, _, ⟨hf1, s, rfl, hs1⟩, hrg⟩ := PG.out k hlt
      obtain ⟨rfl, _, cs2, _, ⟨hf2, t, rfl, hs2⟩, hrg2⟩ := QG.out k hlt2
      have rg := rangeAt_keep hrg HB.out
      have rg2 := rangeAt_keep hrg2 HB.out
      have hk1 : Stops wr s A[k].st := Sl.keep num5_lasts hs1 HB.out
      have hk2 : Stops wr t B[k].st := Sl.keep num5_lasts hs2 HB.out
      have HC : Hid (∀ W, Below wr.heap.size wr W → Calls Try.prog 14 #[.agg (fillC A[k] s).toArray, .agg (fillC B[k] t).toArray] W fun e w' => e = .returned (.bool (sameF A[k] B[k])) ∧ Below W.heap.size W w') := Lib.hid fun W hW => refsame_any A[k] B[k] s t W hf1 hf2 (Sl.keep num5_lasts hk1 hW) (Sl.keep num5_lasts hk2 hW)
      have szX := size28f hf1 s
      have szY := size28f hf2 t
      have HT := Lib.hid (takeG A B k hlt hlt2 HS.out)
      have HNe := Lib.hid (neG A B k hlt hlt2)
      have i1 : (0 : Int) ≤ (k : Int) := by omega
      have i2 : (k : Int) < (A.length : Int) := by omega
      have i3 : (k : Int) < (B.length : Int) := by omega
      clear hrg hrg2 hs1 hs2 hf1 hf2 HS PG QG XG YG hk1 hk2
      generalize A[k] = X at *
      generalize B[k] = Y at *
      cases qq : sameF X Y
      · rw [qq] at HC
        have HL : Hid (decide (A = B ∧ xs = ys) = false) := Lib.hid (decide_eq_false fun h => HNe.out (fun h2 => by rw [(FV.same X Y).2 h2] at qq; cases qq) h.1)
        clear HT HNe qq
        go_upto_region 6 with (fail)
        refine Det.wp_region_det (S := fun w' => Below wr.heap.size wr w') (by kernel_rfl) (by kernel_rfl) (bq_drew (bq_refl _)) ?_
        refine Det.det_take (v := ?_) (by rfl) ?_ ?_
        rotate_left
        · (intro w hSw; go_simp; try with_reducible rfl)
        try simp only [Act.put, List.setIfInBounds_toArray, List.set_cons_zero, List.set_cons_succ]
        refine Det.det_take (v := ?_) (by rfl) ?_ ?_
        rotate_left
        · (intro w hSw; go_simp; try with_reducible rfl)
        try simp only [Act.put, List.setIfInBounds_toArray, List.set_cons_zero, List.set_cons_succ]
        refine Det.det_take (v := ?_) (by rfl) ?_ ?_
        rotate_left
        · (intro w hSw; go_simp; try with_reducible rfl)
        try simp only [Act.put, List.setIfInBounds_toArray, List.set_cons_zero, List.set_cons_succ]
        refine Det.det_mid 28 _ rfl (by rfl) _ _ rfl (fillC X s) _ (fun w hS => rangeAt_keep rg hS) Try.underlying28 rfl szX ?_
        try simp only [Act.put, List.setIfInBounds_toArray, List.set_cons_zero, List.set_cons_succ]
        refine Det.det_take (v := ?_) (by rfl) ?_ ?_
        rotate_left
        · (intro w hSw; go_simp; try with_reducible rfl)
        try simp only [Act.put, List.setIfInBounds_toArray, List.set_cons_zero, List.set_cons_succ]
        refine Det.det_take (v := ?_) (by rfl) ?_ ?_
        rotate_left
        · (intro w hSw; go_simp; try with_reducible rfl)
        try simp only [Act.put, List.setIfInBounds_toArray, List.set_cons_zero, List.set_cons_succ]
        refine Det.det_take (v := ?_) (by rfl) ?_ ?_
        rotate_left
        · (intro w hSw; go_simp; try with_reducible rfl)
        try simp only [Act.put, List.setIfInBounds_toArray, List.set_cons_zero, List.set_cons_succ]
        refine Det.det_mid 28 _ rfl (by rfl) _ _ rfl (fillC Y t) _ (fun w hS => rangeAt_keep rg2 hS) Try.underlying28 rfl szY ?_
        try simp only [Act.put, List.setIfInBounds_toArray, List.set_cons_zero, List.set_cons_succ]
        refine Det.det_call (f := 14) (args := #[.agg (fillC X s).toArray, .agg (fillC Y t).toArray]) (v := .bool false) (by rfl) ?_ (fun w hS => (HC.out w hS).mono fun e w' ⟨h1, h2⟩ => ⟨h1, bq_trans hS h2⟩) ?_
        · (intro w hSw; go_simp)
        try simp only [Act.put, List.setIfInBounds_toArray, List.set_cons_zero, List.set_cons_succ]
        refine Det.det_take (v := ?_) (by rfl) ?_ ?_
        rotate_left
        · (intro w hSw; go_simp; try with_reducible rfl)
        try simp only [Act.put, List.setIfInBounds_toArray, List.set_cons_zero, List.set_cons_succ]
        refine Det.det_nil (fun W21 k21 => ?_)
        have Hw21 := k21
        clear k21 
        go_wp2_with fail
        go_ret
        exact ⟨ret_bool HL.out.symm, bq_trans HB.out Hw21⟩
      · rw [qq] at HC
        have HL := Lib.hid (HT.out ((FV.same X Y).1 qq))
        clear HT HNe qq
        go_upto_region 6 with (fail)
        refine Det.wp_region_det (S := fun w' => Below wr.heap.size wr w') (by kernel_rfl) (by kernel_rfl) (bq_drew (bq_refl _)) ?_
        refine Det.det_take (v := ?_) (by rfl) ?_ ?_
        rotate_left
        · (intro w hSw; go_simp; try with_reducible rfl)
        try simp only [Act.put, List.setIfInBounds_toArray, List.set_cons_zero, List.set_cons_succ]
        refine Det.det_take (v := ?_) (by rfl) ?_ ?_
        rotate_left
        · (intro w hSw; go_simp; try with_reducible rfl)
        try simp only [Act.put, List.setIfInBounds_toArray, List.set_cons_zero, List.set_cons_succ]
        refine Det.det_take (v := ?_) (by rfl) ?_ ?_
        rotate_left
        · (intro w hSw; go_simp; try with_reducible rfl)
        try simp only [Act.put, List.setIfInBounds_toArray, List.set_cons_zero, List.set_cons_succ]
        refine Det.det_mid 28 _ rfl (by rfl) _ _ rfl (fillC X s) _ (fun w hS => rangeAt_keep rg hS) Try.underlying28 rfl szX ?_
        try simp only [Act.put, List.setIfInBounds_toArray, List.set_cons_zero, List.set_cons_succ]
        refine Det.det_take (v := ?_) (by rfl) ?_ ?_
        rotate_left
        · (intro w hSw; go_simp; try with_reducible rfl)
        try simp only [Act.put, List.setIfInBounds_toArray, List.set_cons_zero, List.set_cons_succ]
        refine Det.det_take (v := ?_) (by rfl) ?_ ?_
        rotate_left
        · (intro w hSw; go_simp; try with_reducible rfl)
        try simp only [Act.put, List.setIfInBounds_toArray, List.set_cons_zero, List.set_cons_succ]
        refine Det.det_take (v := ?_) (by rfl) ?_ ?_
        rotate_left
        · (intro w hSw; go_simp; try with_reducible rfl)
        try simp only [Act.put, List.setIfInBounds_toArray, List.set_cons_zero, List.set_cons_succ]
        refine Det.det_mid 28 _ rfl (by rfl) _ _ rfl (fillC Y t) _ (fun w hS => rangeAt_keep rg2 hS) Try.underlying28 rfl szY ?_
        try simp only [Act.put, List.setIfInBounds_toArray, List.set_cons_zero, List.set_cons_succ]
        refine Det.det_call (f := 14) (args := #[.agg (fillC X s).toArray, .agg (fillC Y t).toArray]) (v := .bool true) (by rfl) ?_ (fun w hS => (HC.out w hS).mono fun e w' ⟨h1, h2⟩ => ⟨h1, bq_trans hS h2⟩) ?_
        · (intro w hSw; go_simp)
        try simp only [Act.put, List.setIfInBounds_toArray, List.set_cons_zero, List.set_cons_succ]
        refine Det.det_take (v := ?_) (by rfl) ?_ ?_
        rotate_left
        · (intro w hSw; go_simp; try with_reducible rfl)
        try simp only [Act.put, List.setIfInBounds_toArray, List.set_cons_zero, List.set_cons_succ]
        refine Det.det_nil (fun W21 k21 => ?_)
        have Hw21 := k21
        clear k21 
        go_wp2_with fail
        go_roundw
        case rel => exact ⟨k + 1, by omega, by go_num, HL.out, bq_trans HB.out Hw21⟩
        case measure => simp [intOf]; omega
    · obtain rfl : k = A.length := by omega
      have HAB : Hid (A = B) := Lib.hid (by
        have h1 := HS.out
        rw [List.take_length] at h1
        rw [h1, N1.out, List.take_length])
      clear HS PG QG
      go_wp2_with fail
      go_loopw [10] (fun i wq => SlRel w xs ys i wq) (fun i _ => xs.length - (intOf i).toNat)
      case atStart => exact ⟨0, by omega, rfl, rfl, HB.out⟩
      case round =>
        obtain ⟨j, hj, rfl, hst, hbel⟩ := hrel
        have HS := Lib.hid hst
        have HB2 := Lib.hid hbel
        clear hst hbel
        by_cases hlt : j < xs.length
        · have hlt2 : j < ys.length := by rw [← N2.out]; exact hlt
          obtain ⟨rfl, _, cs, _, ⟨h5, rfl, _⟩, hrg⟩ := XG.out j hlt
          obtain ⟨rfl, _, cs2, _, ⟨h52, rfl, _⟩, hrg2⟩ := YG.out j hlt2
          have rg := rangeAt_keep hrg HB2.out
          have rg2 := rangeAt_keep hrg2 HB2.out
          have HT := Lib.hid (takeG xs ys j hlt hlt2 HS.out)
          have HNe := Lib.hid (neG xs ys j hlt hlt2)
          obtain ⟨x0, x1, x2, x3, x4, hx⟩ := list5 _ h5
          obtain ⟨y0, y1, y2, y3, y4, hy⟩ := list5 _ h52
          rw [hx] at rg HT HNe
          rw [hy] at rg2 HT HNe
          have r0 : wr.cell? ⟨pb, po + j * 5, none⟩ = some (.int .i64 x0) := rg 0 _ rfl
          have t0 : wr.cell? ⟨qb, qo + j * 5, none⟩ = some (.int .i64 y0) := rg2 0 _ rfl
          have r1 : wr.cell? ⟨pb, po + j * 5 + 1, none⟩ = some (.int .i64 x1) := rg 1 _ rfl
          have t1 : wr.cell? ⟨qb, qo + j * 5 + 1, none⟩ = some (.int .i64 y1) := rg2 1 _ rfl
          have r2 : wr.cell? ⟨pb, po + j * 5 + 2, none⟩ = some (.int .i64 x2) := rg 2 _ rfl
          have t2 : wr.cell? ⟨qb, qo + j * 5 + 2, none⟩ = some (.int .i64 y2) := rg2 2 _ rfl
          have r3 : wr.cell? ⟨pb, po + j * 5 + 3, none⟩ = some (.int .i64 x3) := rg 3 _ rfl
          have t3 : wr.cell? ⟨qb, qo + j * 5 + 3, none⟩ = some (.int .i64 y3) := rg2 3 _ rfl
          have r4 : wr.cell? ⟨pb, po + j * 5 + 4, none⟩ = some (.int .i64 x4) := rg 4 _ rfl
          have t4 : wr.cell? ⟨qb, qo + j * 5 + 4, none⟩ = some (.int .i64 y4) := rg2 4 _ rfl
          have q0 := fun W => qSK x0 x1 x2 x3 x4 y0 y1 y2 y3 y4 W
          have i1 : (0 : Int) ≤ (j : Int) := by omega
          have i2 : (j : Int) < (xs.length : Int) := by omega
          have i3 : (j : Int) < (ys.length : Int) := by omega
          clear hrg hrg2 hx hy rg rg2 h5 h52 HS XG YG
          cases qq : decide ([x0, x1, x2, x3, x4] = [y0, y1, y2, y3, y4])
          · rw [qq] at q0
            have HL : Hid (decide (A = B ∧ xs = ys) = false) := Lib.hid (decide_eq_false fun h => HNe.out (of_decide_eq_false qq) h.2)
            clear HT HNe qq
            go_wp2_with fail
            go_quiet (fail)
            have hb9 : Below wr.heap.size wr (wr.drewN nq) := bq_drewN (bq_refl wr) nq
            go_wp2_with fail
            go_ret
            exact ⟨ret_bool HL.out.symm, bq_trans HB2.out hb9⟩
          · rw [qq] at q0
            have HL := Lib.hid (HT.out (of_decide_eq_true qq))
            clear HT HNe qq
            go_wp2_with fail
            go_quiet (fail)
            have hb9 : Below wr.heap.size wr (wr.drewN nq) := bq_drewN (bq_refl wr) nq
            go_wp2_with fail
            go_roundw
            case rel => exact ⟨j + 1, by omega, by go_num, HL.out, bq_trans HB2.out hb9⟩
            case measure => simp [intOf]; omega
        · obtain rfl : j = xs.length := by omega
          have HL : Hid (decide (A = B ∧ xs = ys) = true) := Lib.hid (decide_eq_true ⟨HAB.out, by
            have h1 := HS.out
            rw [List.take_length] at h1
            rw [h1, N2.out, List.take_length]⟩)
          clear HS XG YG
          go_wp2_with fail
          go_ret
          exact ⟨ret_bool HL.out.symm, HB2.out⟩
end Go.Proofs.Ythlnjipefeglpaa
