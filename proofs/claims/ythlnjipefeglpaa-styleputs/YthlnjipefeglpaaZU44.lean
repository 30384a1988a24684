import Derived.Test.YthlnjipefeglpaaZU43
namespace Go.Proofs.Ythlnjipefeglpaa
open Go.RowKit
set_option linter.unusedVariables false
theorem sgV_wd (s : ByteArray) (a n : Int) (hn : 0 ≤ n) : wd (sgV s a n) ≤ n.toNat := by
  by_cases hv : sgV s a n = 0
  · rw [hv]; exact Nat.zero_le _
  by_cases he : plE s.size a n = 0
  · have hn2 : n ≤ 31 := by
      unfold plE at he
      split at he
      · omega
      · cases he
    have hp : plV s a n < B.P2 n.toNat := (RS.plV_bd s a n).2.2 hn
    have hp0 : 0 ≤ plV s a n := (RS.plV_bd s a n).1
    obtain ⟨k, hk⟩ : ∃ k, n.toNat = k := ⟨_, rfl⟩
    have h31 : k ≤ 31 := by omega
    have hb := RS.sgV_bd s a n
    unfold sgV at hv hb ⊢
    simp only [hk] at hv hb hp ⊢
    generalize plV s a n = p at *
    cases k with
    | zero =>
      have : p = 0 := by have h1 : B.P2 0 = 1 := rfl; omega
      have h0 : ¬ (0 < n) := by omega
      rw [if_neg (fun h => h0 h.1)] at hv
      exact absurd this hv
    | succ k =>
      have hP := B.P2_succ k
      refine (wd_iff _ k hv (by omega) (by omega) (by omega)).2 ?_
      split
      · omega
      · rename_i h
        have : ¬ (B.P2 (k + 1) ≤ 2 * p.toNat) := fun hh => h ⟨by omega, hh⟩
        omega
  · have : plV s a n = 0 := if_neg he
    exfalso
    apply hv
    unfold sgV
    rw [this]
    have := B.P2_pos n.toNat
    rw [if_neg (by omega)]
namespace RS
theorem sg_wd (x : RS) (n : Int) (hn : 0 ≤ n) : wd (x.sg n) ≤ n.toNat := by
  unfold sg
  split
  · exact sgV_wd _ _ _ hn
  · exact Nat.zero_le _
theorem l_wd (x : RS) (n : Int) (k : Nat) (hn : 0 ≤ n) : ∀ v ∈ x.l n k, wd v ≤ n.toNat := by
  induction k with
  | zero => intro v hv; simp [l] at hv
  | succ k ih =>
    intro v hv
    rw [l, List.mem_append] at hv
    rcases hv with hv | hv
    · exact ih v hv
    · rw [List.mem_singleton] at hv; rw [hv]; exact sg_wd _ _ hn
def At (x : RS) (s : ByteArray) (a : Int) : Prop := x.e = 0 ∧ x.s = s ∧ x.a = a ∧ 0 ≤ a ∧ a ≤ 8 * s.size
theorem go_at {x : RS} {n : Int} (h : (x.go n).e = 0) : 0 ≤ n ∧ x.e = 0 ∧ (x.go n).At x.s (x.a + n) ∧ 0 ≤ x.a ∧ x.a ≤ 8 * x.s.size := by
  unfold go at h ⊢
  by_cases hx : x.e = 0
  · rw [if_pos hx] at h ⊢
    have h' : plE x.s.size x.a n = 0 := h
    have hb : (0 ≤ x.a ∧ x.a ≤ 8 * x.s.size ∧ 0 ≤ n ∧ n ≤ 31) ∧ ¬ (8 * x.s.size - x.a < n) := by
      unfold plE at h'
      split at h'
      · rename_i hh
        split at h'
        · cases h'
        · rename_i h2; exact ⟨hh, h2⟩
      · cases h'
    refine ⟨hb.1.2.2.1, hx, ⟨h', ?_, ?_, by omega, by omega⟩, hb.1.1, hb.1.2.1⟩
    · show plS _ _ _ = _; exact if_pos h'
    · show plA _ _ _ = _; exact if_pos h'
  · rw [if_neg hx] at h
    exact absurd h hx
theorem on_at {x : RS} {n : Int} {k : Nat} (h : (x.on n (k + 1)).e = 0) : 0 ≤ n ∧ x.e = 0 ∧ (x.on n (k + 1)).At x.s (x.a + (k + 1 : Nat) * n) ∧ 0 ≤ x.a ∧ x.a ≤ 8 * x.s.size := by
  induction k with
  | zero =>
    have := go_at (x := x) (n := n) h
    rw [show ((0 + 1 : Nat) : Int) * n = n by simp]
    exact this
  | succ k ih =>
    obtain ⟨h1, h2, ⟨a1, a2, a3, a4, a5⟩, h4, h5⟩ := go_at (x := x.on n (k + 1)) (n := n) h
    obtain ⟨i1, i2, ⟨j1, j2, j3, j4, j5⟩, i4, i5⟩ := ih h2
    refine ⟨h1, i2, ⟨a1, a2.trans j2, ?_, ?_, ?_⟩, i4, i5⟩
    · have e : ((x.on n (k + 1)).go n).a = (x.on n (k + 1)).a + n := a3
      show ((x.on n (k + 1)).go n).a = _
      rw [e, j3]
      rw [show ((k + 1 + 1 : Nat) : Int) = ((k + 1 : Nat) : Int) + 1 by omega, Int.add_mul]
      omega
    · have e : (x.on n (k + 1)).a + n = x.a + (k + 1 + 1 : Nat) * n := by
        rw [j3, show ((k + 1 + 1 : Nat) : Int) = ((k + 1 : Nat) : Int) + 1 by omega, Int.add_mul]
        omega
      rw [← e]; exact a4
    · have e : (x.on n (k + 1)).a + n = x.a + (k + 1 + 1 : Nat) * n := by
        rw [j3, show ((k + 1 + 1 : Nat) : Int) = ((k + 1 : Nat) : Int) + 1 by omega, Int.add_mul]
        omega
      rw [← e, ← j2]; exact a5
theorem sev_at {x : RS} {h : Int} {k : Nat} (he : (x.sevS h (k + 1)).e = 0) : x.e = 0 ∧ 0 ≤ x.pl h ∧ (x.sevS h (k + 1)).At x.s (x.a + h + (k + 1 : Nat) * x.pl h) ∧ mxW (x.sevL h (k + 1)) ≤ (x.pl h).toNat := by
  obtain ⟨h1, h2, h3, h4, h5⟩ := on_at he
  obtain ⟨i1, i2, ⟨j1, j2, j3, j4, j5⟩, i4, i5⟩ := go_at h2
  rw [j2, j3] at h3
  exact ⟨i2, h1, h3, F.mxW_le (l_wd _ _ _ h1)⟩
theorem fin_at {x : RS} {b : Bool} {s : ByteArray} {a : Int} (h : (x.fin b).e = 0) (hx : x.e = 0 → x.At s a) : b = true ∧ (x.fin b).a = (a + 7) / 8 * 8 := by
  unfold fin at h ⊢
  by_cases he : x.e = 0
  · obtain ⟨a1, a2, a3, a4, a5⟩ := hx he
    rw [if_pos he] at h ⊢
    cases b
    · cases h
    · refine ⟨rfl, ?_⟩
      show alA x.s.size x.a = _
      rw [a2, a3]
      exact if_pos ⟨a4, a5⟩
  · rw [if_neg he] at h
    exact absurd h he
theorem fin_e {x : RS} {b : Bool} (h : (x.fin b).e = 0) : x.e = 0 := by
  apply Decidable.byContradiction
  intro he
  unfold fin at h
  rw [if_neg he] at h
  exact he h
end RS
theorem mx2_at {y : RS} (h : (mx2 y).e = 0) : y.e = 0 ∧ 0 ≤ (y.go 1).pl 5 ∧ (mx2 y).At y.s (y.a + 1 + (if mB1 y = true then 5 + 2 * (y.go 1).pl 5 else 0)) ∧ (mB1 y = true → mxW ((y.go 1).sevL 5 2) ≤ ((y.go 1).pl 5).toNat) := by
  unfold mx2 at h ⊢
  cases hq : mB1 y
  · rw [if_neg (by rw [hq]; decide)] at h
    rw [if_neg (by decide), if_neg (by decide)]
    obtain ⟨h1, h2, h3, h4, h5⟩ := RS.go_at h
    refine ⟨h2, (RS.pl_bd _ _).1, ?_, (fun h => by cases h)⟩
    rw [Int.add_zero]
    exact h3
  · rw [if_pos hq] at h
    rw [if_pos rfl, if_pos rfl]
    obtain ⟨h1, h2, h3, h4⟩ := RS.sev_at h
    obtain ⟨i1, i2, ⟨j1, j2, j3, j4, j5⟩, i4, i5⟩ := RS.go_at h1
    refine ⟨i2, h2, ?_, fun _ => h4⟩
    rw [j2, j3] at h3
    have e : y.a + 1 + (5 + 2 * (y.go 1).pl 5) = y.a + 1 + 5 + ((1 + 1 : Nat) : Int) * (y.go 1).pl 5 := by omega
    rw [e]
    exact h3
theorem pair_eq (l : List Int) (h : l.length = 2) : l = [l.getD 0 0, l.getD 1 0] := by
  match l, h with
  | [a, b], _ => rfl
end Go.Proofs.Ythlnjipefeglpaa
namespace Go.Proofs.Ythlnjipefeglpaa
open Go.RowKit
set_option linter.unusedVariables false
set_option maxRecDepth 100000
theorem again_matrix_at (x : RS) (P : Nat) (z1 : x.a = ((8 * P : Nat) : Int)) (h : (matS x).e = 0) : ∃ a b c d e f, matV x = [a, b, c, d, e, f] ∧ matOk a b c d e f = true ∧ (8 * ((P + (F.bys (matF a b c d e f)).length : Nat) : Int) ≤ (matS x).a) ∧ ∃ Q : Nat, (matS x).a = ((8 * Q : Nat) : Int) := by
  have h5 : (mx5 x).e = 0 := RS.fin_e h
  obtain ⟨h4, n4, A5, w5⟩ := RS.sev_at h5
  obtain ⟨h3, n3, A4, w4⟩ := mx2_at h4
  obtain ⟨h2, n2, A3, w3⟩ := mx2_at h3
  obtain ⟨f1, f2⟩ := RS.fin_at h (fun _ => A5)
  have hQ : ∃ Q : Nat, (matS x).a = ((8 * Q : Nat) : Int) := by
    have e : (matS x).a = ((mx2 (mx2 x)).a + 5 + ((1 + 1 : Nat) : Int) * (mx2 (mx2 x)).pl 5 + 7) / 8 * 8 := f2
    have ha0 : 0 ≤ (mx2 (mx2 x)).a + 5 + ((1 + 1 : Nat) : Int) * (mx2 (mx2 x)).pl 5 := by
      rw [A4.2.2.1, A3.2.2.1, z1]
      have p1 := (RS.pl_bd (mx2 (mx2 x)) 5).1
      have p2 := (RS.pl_bd (x.go 1) 5).1
      have p3 := (RS.pl_bd ((mx2 x).go 1) 5).1
      split <;> split <;> omega
    refine ⟨(((mx2 (mx2 x)).a + 5 + ((1 + 1 : Nat) : Int) * (mx2 (mx2 x)).pl 5 + 7) / 8).toNat, ?_⟩
    rw [e]
    omega
  refine ⟨_, _, _, _, _, _, ?_, f1, ?_, hQ⟩
  · unfold matV; rw [if_pos h]; rfl
  · have e : (matS x).a = ((mx2 (mx2 x)).a + 5 + ((1 + 1 : Nat) : Int) * (mx2 (mx2 x)).pl 5 + 7) / 8 * 8 := f2
    rw [e, A4.2.2.1, A3.2.2.1, z1, F.bys_len]
    have hxy : mxW [((mx2 (mx2 x)).sevL 5 2).getD 0 0, ((mx2 (mx2 x)).sevL 5 2).getD 1 0] ≤ ((mx2 (mx2 x)).pl 5).toNat := by
      rw [← pair_eq _ (sevL_len _ 5 2)]; exact w5
    have ha : (F.len (mF2 ((mAD x).getD 0 0) ((mAD x).getD 1 0)) : Int) ≤ 1 + (if mB1 x = true then 5 + 2 * (x.go 1).pl 5 else 0) := by
      unfold mF2
      cases hq : mB1 x
      · have e : mAD x = [65536, 65536] := if_neg (by rw [hq]; decide)
        rw [e]
        simp only [Bool.false_eq_true, if_false]
        decide +kernel
      · have e : mAD x = (x.go 1).sevL 5 2 := if_pos hq
        have hw := w3 hq
        rw [e, if_pos rfl]
        have hw' : mxW [((x.go 1).sevL 5 2).getD 0 0, ((x.go 1).sevL 5 2).getD 1 0] ≤ ((x.go 1).pl 5).toNat := by
          rw [← pair_eq _ (sevL_len _ 5 2)]; exact hw
        split
        · rw [F.len_app, nums2_len]
          have e1 : F.len ([] ++ [(b01 (q65 (((x.go 1).sevL 5 2).getD 0 0) (((x.go 1).sevL 5 2).getD 1 0)), 1)]) = 1 := rfl
          rw [e1]
          omega
        · have e1 : F.len ([] ++ [(b01 (q65 (((x.go 1).sevL 5 2).getD 0 0) (((x.go 1).sevL 5 2).getD 1 0)), 1)]) = 1 := rfl
          rw [e1]
          omega
    have hb : ((1 + (if qnz ((mBC (mx2 x)).getD 0 0) ((mBC (mx2 x)).getD 1 0) = true then 5 + 2 * mxW [(mBC (mx2 x)).getD 0 0, (mBC (mx2 x)).getD 1 0] else 0) : Nat) : Int) ≤ 1 + (if mB1 (mx2 x) = true then 5 + 2 * ((mx2 x).go 1).pl 5 else 0) := by
      cases hq : mB1 (mx2 x)
      · have e : mBC (mx2 x) = [0, 0] := if_neg (by rw [hq]; decide)
        rw [e]
        simp only [Bool.false_eq_true, if_false]
        decide +kernel
      · have e : mBC (mx2 x) = ((mx2 x).go 1).sevL 5 2 := if_pos hq
        have hw := w4 hq
        rw [e, if_pos rfl]
        have hw' : mxW [(((mx2 x).go 1).sevL 5 2).getD 0 0, (((mx2 x).go 1).sevL 5 2).getD 1 0] ≤ (((mx2 x).go 1).pl 5).toNat := by
          rw [← pair_eq _ (sevL_len _ 5 2)]; exact hw
        split <;> omega
    have hl : F.len (matF ((mAD x).getD 0 0) ((mBC (mx2 x)).getD 0 0) ((mBC (mx2 x)).getD 1 0) ((mAD x).getD 1 0) (((mx2 (mx2 x)).sevL 5 2).getD 0 0) (((mx2 (mx2 x)).sevL 5 2).getD 1 0)) = F.len (mF2 ((mAD x).getD 0 0) ((mAD x).getD 1 0)) + (1 + (if qnz ((mBC (mx2 x)).getD 0 0) ((mBC (mx2 x)).getD 1 0) = true then 5 + 2 * mxW [(mBC (mx2 x)).getD 0 0, (mBC (mx2 x)).getD 1 0] else 0)) + (5 + 2 * mxW [((mx2 (mx2 x)).sevL 5 2).getD 0 0, ((mx2 (mx2 x)).sevL 5 2).getD 1 0]) := by
      unfold matF mF4 mF3
      rw [F.len_app, nums2_len]
      split
      · rw [F.len_app, F.len_app, nums2_len]
        show _ + 1 + _ + _ = _
        omega
      · rw [F.len_app]
        show _ + 1 + _ = _
        omega
    rw [hl]
    generalize F.len (mF2 ((mAD x).getD 0 0) ((mAD x).getD 1 0)) = L1 at *
    generalize (1 + (if qnz ((mBC (mx2 x)).getD 0 0) ((mBC (mx2 x)).getD 1 0) = true then 5 + 2 * mxW [(mBC (mx2 x)).getD 0 0, (mBC (mx2 x)).getD 1 0] else 0)) = L2 at *
    generalize mxW [((mx2 (mx2 x)).sevL 5 2).getD 0 0, ((mx2 (mx2 x)).sevL 5 2).getD 1 0] = L3 at *
    generalize (if mB1 x = true then 5 + 2 * (x.go 1).pl 5 else 0) = R1 at *
    generalize (if mB1 (mx2 x) = true then 5 + 2 * ((mx2 x).go 1).pl 5 else 0) = R2 at *
    generalize (mx2 (mx2 x)).pl 5 = R3 at *
    omega
theorem liS_adv {x : RS} {N P : Nat} (h : (x.liS (N : Int)).e = 0) (ha : x.a = ((8 * P : Nat) : Int)) : (x.liS (N : Int)).a = ((8 * (P + N) : Nat) : Int) := by
  have he := liS_e h
  have e : x.liS (N : Int) = ⟨byS x.s x.a N, byA x.s x.a N, byE x.s.size x.a N⟩ := if_pos he
  rw [e] at h ⊢
  have h2 : byE x.s.size x.a (N : Int) = 0 := h
  show byA x.s x.a (N : Int) = _
  unfold byA
  rw [if_pos h2, ha]
  omega
theorem cvS_adv {x : RS} {P : Nat} (h : x.cvS.e = 0) (ha : x.a = ((8 * P : Nat) : Int)) : x.cvS.a = ((8 * (P + 4) : Nat) : Int) := by
  have he := cvS_e h
  have e : x.cvS = ⟨byS x.s x.a 4, byA x.s x.a 4, byE x.s.size x.a 4⟩ := if_pos he
  rw [e] at h ⊢
  have h2 : byE x.s.size x.a 4 = 0 := h
  show byA x.s x.a 4 = _
  unfold byA
  rw [if_pos h2, ha]
  omega
theorem mvS_adv {x : RS} {P : Nat} (h : x.mvS.e = 0) (ha : x.a = ((8 * P : Nat) : Int)) : ∃ Q : Nat, x.mvS.a = ((8 * Q : Nat) : Int) ∧ P + (matB x.mv).length ≤ Q := by
  have he := (mvS_e h).1
  have e : x.mvS = matS (RS.begP x.s x.a) := if_pos he
  have e2 : x.mv = matV (RS.begP x.s x.a) := if_pos he
  rw [e] at h ⊢
  rw [e2]
  have z1 : (RS.begP x.s x.a).a = ((8 * P : Nat) : Int) := by
    show alA x.s.size x.a = _
    unfold alA
    rw [ha]
    split <;> omega
  obtain ⟨a, b, c, d, e, f, h1, _, h3, Q, hQ⟩ := again_matrix_at _ P z1 h
  refine ⟨Q, hQ, ?_⟩
  rw [h1]
  show P + (F.bys (matF a b c d e f)).length ≤ Q
  rw [hQ] at h3
  omega
theorem stops_adv (u : RS) (P : Nat) (ha : u.a = ((8 * P : Nat) : Int)) : ∀ k, (stopsT u k).2.e = 0 → (stopsT u k).2.a = ((8 * (P + 5 * k) : Nat) : Int)
  | 0, _ => by simpa [stopsT] using ha
  | k + 1, h => by
    obtain ⟨h1, h2, h3, h4, h5⟩ := stopStep_e (st := stopsT u k) h
    have ih := stops_adv u P ha k h1
    have e1 : stopsT u (k + 1) = _ := h4
    rw [e1]
    have l := liS_adv (N := 1) h2 ih
    have c := cvS_adv h5 l
    show ((stopsT u k).2.liS 1).cvS.a = _
    rw [c]
    omega
theorem fillT_adv (x : RS) (P : Nat) (ha : x.a = ((8 * P : Nat) : Int)) (h : (fillT x).2.e = 0) : ∃ Q : Nat, (fillT x).2.a = ((8 * Q : Nat) : Int) ∧ P + (fillB (fillT x).1).length ≤ Q := by
  have l1 : ∀ n, (by1 n).length = 1 := fun n => rfl
  have l2 : ∀ n, (by2 n).length = 2 := fun n => rfl
  by_cases k0 : x.li 1 = 0
  · have ef : fillT x = (⟨0, (x.liS 1).cv, [0, 0, 0, 0, 0, 0], 0, [], 0⟩, (x.liS 1).cvS) := if_pos k0
    rw [ef] at h ⊢
    have a1 := liS_adv (N := 1) (cvS_e h) ha
    have a2 := cvS_adv h a1
    refine ⟨P + 1 + 4, a2, ?_⟩
    show P + (by1 0 ++ by4L (x.liS 1).cv).length ≤ _
    have := by4L_len (x.liS 1).cv
    rw [List.length_append, l1]
    omega
  by_cases k64 : x.li 1 = 64 ∨ x.li 1 = 65
  · have ef : fillT x = (⟨x.li 1, [0, 0, 0, 0], ((x.liS 1).liS 2).mv, 0, [], (x.liS 1).li 2⟩, ((x.liS 1).liS 2).mvS) := (if_neg k0).trans (if_pos k64)
    rw [ef] at h ⊢
    have e2 := (mvS_e h).1
    have a1 := liS_adv (N := 1) (liS_e e2) ha
    have a2 := liS_adv (N := 2) e2 a1
    obtain ⟨Q, q1, q2⟩ := mvS_adv h a2
    refine ⟨Q, q1, ?_⟩
    unfold fillB
    dsimp only
    rw [if_neg k0, if_pos k64, List.length_append, List.length_append, l1, l2]
    omega
  by_cases k16 : x.li 1 = 16 ∨ x.li 1 = 18
  · have ef : fillT x = (⟨x.li 1, [0, 0, 0, 0], (x.liS 1).mv, (x.liS 1).mvS.li 1 / 64, (stopsT (grX (x.liS 1)) ((x.liS 1).mvS.li 1 % 16).toNat).1, 0⟩, (stopsT (grX (x.liS 1)) ((x.liS 1).mvS.li 1 % 16).toNat).2) := (if_neg k0).trans ((if_neg k64).trans (if_pos k16))
    rw [ef] at h ⊢
    obtain ⟨h1, h2, h3⟩ := stops_right _ _ h
    obtain ⟨g1, g2, g3, g4⟩ := grX_e h3
    have h3' : ((x.liS 1).mvS.liS 1).e = 0 := by rw [← g4]; exact h3
    have hm := liS_e h3'
    have a1 := liS_adv (N := 1) g1 ha
    obtain ⟨Q, q1, q2⟩ := mvS_adv hm a1
    have a2 := liS_adv (N := 1) h3' q1
    have a3 : (grX (x.liS 1)).a = ((8 * (Q + 1) : Nat) : Int) := by rw [g4]; exact a2
    have a4 := stops_adv _ _ a3 _ h
    refine ⟨_, a4, ?_⟩
    have hs := flat_len stopB (stopsT (grX (x.liS 1)) ((x.liS 1).mvS.li 1 % 16).toNat).1 5 fun y _ => stopB_len y
    rw [h2] at hs
    unfold fillB
    dsimp only
    rw [if_neg k0, if_neg k64, List.length_append, List.length_append, List.length_append, l1, l1]
    omega
  · have ef : fillT x = (⟨x.li 1, [0, 0, 0, 0], [0, 0, 0, 0, 0, 0], 0, [], 0⟩, (x.liS 1).dem true 3) := (if_neg k0).trans ((if_neg k64).trans (if_neg k16))
    rw [ef] at h
    obtain ⟨_, h2, _⟩ := dem_e h (by decide)
    cases h2
theorem fills_adv (u : RS) (P : Nat) (ha : u.a = ((8 * P : Nat) : Int)) : ∀ k, (fillsT u k).2.e = 0 → ∃ Q : Nat, (fillsT u k).2.a = ((8 * Q : Nat) : Int) ∧ P + ((fillsT u k).1.flatMap fillB).length ≤ Q
  | 0, _ => ⟨P, ha, by simp [fillsT]⟩
  | k + 1, h => by
    have hs : (fillStep (fillsT u k)).2.e = 0 := h
    by_cases he : (fillsT u k).2.e = 0
    · obtain ⟨Q, q1, q2⟩ := fills_adv u P ha k he
      have e1 : fillsT u (k + 1) = ((fillsT u k).1 ++ [(fillT (fillsT u k).2).1], (fillT (fillsT u k).2).2) := if_pos he
      rw [e1] at h ⊢
      obtain ⟨R, r1, r2⟩ := fillT_adv _ Q q1 h
      refine ⟨R, r1, ?_⟩
      rw [List.flatMap_append, List.length_append]
      simp only [List.flatMap_cons, List.flatMap_nil, List.append_nil]
      omega
    · have e1 : fillStep (fillsT u k) = fillsT u k := if_neg he
      rw [e1] at hs
      exact absurd hs he
theorem lines_adv (u : RS) (P : Nat) (ha : u.a = ((8 * P : Nat) : Int)) : ∀ k, (linesT u k).2.e = 0 → (linesT u k).2.a = ((8 * (P + 6 * k) : Nat) : Int)
  | 0, _ => by simpa [linesT] using ha
  | k + 1, h => by
    have hs : (lineStep (linesT u k)).2.e = 0 := h
    by_cases he : (linesT u k).2.e = 0
    · have ih := lines_adv u P ha k he
      have e1 : linesT u (k + 1) = ((linesT u k).1 ++ [(linesT u k).2.li 2 :: ((linesT u k).2.liS 2).cv], ((linesT u k).2.liS 2).cvS) := if_pos he
      rw [e1] at h ⊢
      have h' : ((linesT u k).2.liS 2).cvS.e = 0 := h
      have l := liS_adv (N := 2) (cvS_e h') ih
      have c := cvS_adv h' l
      show ((linesT u k).2.liS 2).cvS.a = _
      rw [c]
      omega
    · have e1 : lineStep (linesT u k) = linesT u k := if_neg he
      rw [e1] at hs
      exact absurd hs he
theorem take_adv (s : ByteArray) (h : (takeE ⟨s, 0, 0⟩).e = 0) : 8 * ((listB (takeF ⟨s, 0, 0⟩) (takeL ⟨s, 0, 0⟩)).length : Int) ≤ (takeX ⟨s, 0, 0⟩).a := by
  obtain ⟨_, r1, r2, r3, e1, e2, e3⟩ := take_right _ h
  obtain ⟨c1, c2, c3⟩ := cntX_e e2
  obtain ⟨d1, d2, d3⟩ := cntX_e e3
  have a0 : (⟨s, 0, 0⟩ : RS).a = ((8 * 0 : Nat) : Int) := rfl
  have a1 := liS_adv (N := 1) c1 a0
  have a1' : (cntX ⟨s, 0, 0⟩).a = ((8 * 1 : Nat) : Int) := by rw [c3]; exact a1
  obtain ⟨Q, q1, q2⟩ := fills_adv _ _ a1' _ e1
  have a2 := liS_adv (N := 1) d1 q1
  have a2' : (cntX (fillsX ⟨s, 0, 0⟩).2).a = ((8 * (Q + 1) : Nat) : Int) := by rw [d3]; exact a2
  have a3 := lines_adv _ _ a2' _ h
  obtain ⟨_, l2, _⟩ := lines_right _ _ h
  rw [r1, r2, r3]
  have e4 : (takeE ⟨s, 0, 0⟩).a = ((8 * (Q + 1 + 6 * ((fillsX ⟨s, 0, 0⟩).2.li 1).toNat) : Nat) : Int) := a3
  rw [e4]
  have hl := flat_len lineB (linesX (fillsX ⟨s, 0, 0⟩).2).1 6 fun y _ => lineB_len y
  have l2' : (linesX (fillsX ⟨s, 0, 0⟩).2).1.length = ((fillsX ⟨s, 0, 0⟩).2.li 1).toNat := l2
  rw [l2'] at hl
  have q2' : 1 + ((fillsX ⟨s, 0, 0⟩).1.flatMap fillB).length ≤ Q := q2
  unfold listB
  rw [List.length_append, List.length_append, List.length_append]
  have b1 : ∀ n, (by1 n).length = 1 := fun n => rfl
  rw [b1, b1]
  omega
end Go.Proofs.Ythlnjipefeglpaa
