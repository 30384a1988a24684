import Derived.Test.YtfaipbdkkkhacaaYR
import Derived.Test.YtfaipbdkkkhacaaYT0
import Derived.Test.YtfaipbdkkkhacaaYT1
import Derived.Test.YtfaipbdkkkhacaaYS
/- Plain facts: what was read is no wider than the width that was read; written again it has no more bytes. -/
namespace Go.Proofs.Ytfaipbdkkkhacaa
open Go.RowKit
set_option linter.unusedVariables false

theorem sgV_wd (s : ByteArray) (a n : Int) (hn : 0 ≤ n) : wd (sgV s a n) ≤ n.toNat := by
  by_cases hv : sgV s a n = 0
  · rw [hv]; exact Nat.zero_le _
  by_cases he : plE s.size a n = 0
  · have hn2 : n ≤ 31 := by
      unfold plE at he
      split at he
      · omega
      · cases he
    have hp : plV s a n < B.P2 n.toNat := (RS.plV_bd s a n).2.2 hn
    have hp0 : 0 ≤ plV s a n := (RS.plV_bd s a n).1
    obtain ⟨k, hk⟩ : ∃ k, n.toNat = k := ⟨_, rfl⟩
    have h31 : k ≤ 31 := by omega
    have hb := RS.sgV_bd s a n
    unfold sgV at hv hb ⊢
    simp only [hk] at hv hb hp ⊢
    generalize plV s a n = p at *
    cases k with
    | zero =>
      have : p = 0 := by have h1 : B.P2 0 = 1 := rfl; omega
      have h0 : ¬ (0 < n) := by omega
      rw [if_neg (fun h => h0 h.1)] at hv
      exact absurd this hv
    | succ k =>
      have hP := B.P2_succ k
      refine (wd_iff _ k hv (by omega) (by omega) (by omega)).2 ?_
      split
      · omega
      · rename_i h
        have : ¬ (B.P2 (k + 1) ≤ 2 * p.toNat) := fun hh => h ⟨by omega, hh⟩
        omega
  · have : plV s a n = 0 := if_neg he
    exfalso
    apply hv
    unfold sgV
    rw [this]
    have := B.P2_pos n.toNat
    rw [if_neg (by omega)]
namespace RS
theorem sg_wd (x : RS) (n : Int) (hn : 0 ≤ n) : wd (x.sg n) ≤ n.toNat := by
  unfold sg
  split
  · exact sgV_wd _ _ _ hn
  · exact Nat.zero_le _
theorem l_wd (x : RS) (n : Int) (k : Nat) (hn : 0 ≤ n) : ∀ v ∈ x.l n k, wd v ≤ n.toNat := by
  induction k with
  | zero => intro v hv; simp [l] at hv
  | succ k ih =>
    intro v hv
    rw [l, List.mem_append] at hv
    rcases hv with hv | hv
    · exact ih v hv
    · rw [List.mem_singleton] at hv; rw [hv]; exact sg_wd _ _ hn
/-- a reader that stands within its bits, without an error -/
def At (x : RS) (s : ByteArray) (a : Int) : Prop := x.e = 0 ∧ x.s = s ∧ x.a = a ∧ 0 ≤ a ∧ a ≤ 8 * s.size
theorem go_at {x : RS} {n : Int} (h : (x.go n).e = 0) : 0 ≤ n ∧ x.e = 0 ∧ (x.go n).At x.s (x.a + n) ∧ 0 ≤ x.a ∧ x.a ≤ 8 * x.s.size := by
  unfold go at h ⊢
  by_cases hx : x.e = 0
  · rw [if_pos hx] at h ⊢
    have h' : plE x.s.size x.a n = 0 := h
    have hb : (0 ≤ x.a ∧ x.a ≤ 8 * x.s.size ∧ 0 ≤ n ∧ n ≤ 31) ∧ ¬ (8 * x.s.size - x.a < n) := by
      unfold plE at h'
      split at h'
      · rename_i hh
        split at h'
        · cases h'
        · rename_i h2; exact ⟨hh, h2⟩
      · cases h'
    refine ⟨hb.1.2.2.1, hx, ⟨h', ?_, ?_, by omega, by omega⟩, hb.1.1, hb.1.2.1⟩
    · show plS _ _ _ = _; exact if_pos h'
    · show plA _ _ _ = _; exact if_pos h'
  · rw [if_neg hx] at h
    exact absurd h hx
theorem on_at {x : RS} {n : Int} {k : Nat} (h : (x.on n (k + 1)).e = 0) : 0 ≤ n ∧ x.e = 0 ∧ (x.on n (k + 1)).At x.s (x.a + (k + 1 : Nat) * n) ∧ 0 ≤ x.a ∧ x.a ≤ 8 * x.s.size := by
  induction k with
  | zero =>
    have := go_at (x := x) (n := n) h
    rw [show ((0 + 1 : Nat) : Int) * n = n by simp]
    exact this
  | succ k ih =>
    obtain ⟨h1, h2, ⟨a1, a2, a3, a4, a5⟩, h4, h5⟩ := go_at (x := x.on n (k + 1)) (n := n) h
    obtain ⟨i1, i2, ⟨j1, j2, j3, j4, j5⟩, i4, i5⟩ := ih h2
    refine ⟨h1, i2, ⟨a1, a2.trans j2, ?_, ?_, ?_⟩, i4, i5⟩
    · have e : ((x.on n (k + 1)).go n).a = (x.on n (k + 1)).a + n := a3
      show ((x.on n (k + 1)).go n).a = _
      rw [e, j3]
      rw [show ((k + 1 + 1 : Nat) : Int) = ((k + 1 : Nat) : Int) + 1 by omega, Int.add_mul]
      omega
    · have e : (x.on n (k + 1)).a + n = x.a + (k + 1 + 1 : Nat) * n := by
        rw [j3, show ((k + 1 + 1 : Nat) : Int) = ((k + 1 : Nat) : Int) + 1 by omega, Int.add_mul]
        omega
      rw [← e]; exact a4
    · have e : (x.on n (k + 1)).a + n = x.a + (k + 1 + 1 : Nat) * n := by
        rw [j3, show ((k + 1 + 1 : Nat) : Int) = ((k + 1 : Nat) : Int) + 1 by omega, Int.add_mul]
        omega
      rw [← e, ← j2]; exact a5
theorem sev_at {x : RS} {h : Int} {k : Nat} (he : (x.sevS h (k + 1)).e = 0) : x.e = 0 ∧ 0 ≤ x.pl h ∧ (x.sevS h (k + 1)).At x.s (x.a + h + (k + 1 : Nat) * x.pl h) ∧ mxW (x.sevL h (k + 1)) ≤ (x.pl h).toNat := by
  obtain ⟨h1, h2, h3, h4, h5⟩ := on_at he
  obtain ⟨i1, i2, ⟨j1, j2, j3, j4, j5⟩, i4, i5⟩ := go_at h2
  rw [j2, j3] at h3
  exact ⟨i2, h1, h3, F.mxW_le (l_wd _ _ _ h1)⟩
theorem fin_at {x : RS} {b : Bool} {s : ByteArray} {a : Int} (h : (x.fin b).e = 0) (hx : x.e = 0 → x.At s a) : b = true ∧ (x.fin b).a = (a + 7) / 8 * 8 := by
  unfold fin at h ⊢
  by_cases he : x.e = 0
  · obtain ⟨a1, a2, a3, a4, a5⟩ := hx he
    rw [if_pos he] at h ⊢
    cases b
    · cases h
    · refine ⟨rfl, ?_⟩
      show alA x.s.size x.a = _
      rw [a2, a3]
      exact if_pos ⟨a4, a5⟩
  · rw [if_neg he] at h
    exact absurd h he
theorem fin_e {x : RS} {b : Bool} (h : (x.fin b).e = 0) : x.e = 0 := by
  apply Decidable.byContradiction
  intro he
  unfold fin at h
  rw [if_neg he] at h
  exact he h
end RS
theorem beg_zero (s : ByteArray) : (RS.begP s 0).a = 0 ∧ (RS.begP s 0).s = s ∧ (RS.begP s 0).e = 0 := by
  refine ⟨?_, rfl, rfl⟩
  show alA s.size 0 = 0
  unfold alA
  split <;> rfl
/-- a rectangle -/
theorem again_rect (s : ByteArray) (h : (rectS (RS.begP s 0)).e = 0) : ∃ l r t b, rectV (RS.begP s 0) = [l, r, t, b] ∧ rectOk l r t b = true ∧ (8 * ((F.bys (rectF l r t b)).length : Int) ≤ (rectS (RS.begP s 0)).a) := by
  obtain ⟨z1, z2, z3⟩ := beg_zero s
  generalize RS.begP s 0 = x at *
  obtain ⟨l, r, t, b, hl⟩ := list4 _ (sevL_len x 5 4)
  refine ⟨l, r, t, b, ?_, ?_, ?_⟩
  · unfold rectV; rw [if_pos h, hl]
  · unfold rectS at h
    have := (RS.fin_at h (fun he => (RS.sev_at he).2.2.1)).1
    rw [hl] at this
    exact this
  · obtain ⟨f1, f2⟩ := RS.fin_at h (fun he => (RS.sev_at he).2.2.1)
    obtain ⟨_, n0, _, hw⟩ := RS.sev_at (RS.fin_e h)
    have e : (rectS x).a = (x.a + 5 + ((3 + 1 : Nat) : Int) * x.pl 5 + 7) / 8 * 8 := f2
    rw [e, z1, F.bys_len, rectF_len]
    have hw' : mxW [l, r, t, b] ≤ (x.pl 5).toNat := by rw [← hl]; exact hw
    generalize x.pl 5 = n at *
    generalize mxW [l, r, t, b] = m at *
    omega
/-- a matrix -/
theorem mx2_at {y : RS} (h : (mx2 y).e = 0) : y.e = 0 ∧ 0 ≤ (y.go 1).pl 5 ∧ (mx2 y).At y.s (y.a + 1 + (if mB1 y = true then 5 + 2 * (y.go 1).pl 5 else 0)) ∧ (mB1 y = true → mxW ((y.go 1).sevL 5 2) ≤ ((y.go 1).pl 5).toNat) := by
  unfold mx2 at h ⊢
  cases hq : mB1 y
  · rw [if_neg (by rw [hq]; decide)] at h
    rw [if_neg (by decide), if_neg (by decide)]
    obtain ⟨h1, h2, h3, h4, h5⟩ := RS.go_at h
    refine ⟨h2, (RS.pl_bd _ _).1, ?_, (fun h => by cases h)⟩
    rw [Int.add_zero]
    exact h3
  · rw [if_pos hq] at h
    rw [if_pos rfl, if_pos rfl]
    obtain ⟨h1, h2, h3, h4⟩ := RS.sev_at h
    obtain ⟨i1, i2, ⟨j1, j2, j3, j4, j5⟩, i4, i5⟩ := RS.go_at h1
    refine ⟨i2, h2, ?_, fun _ => h4⟩
    rw [j2, j3] at h3
    have e : y.a + 1 + (5 + 2 * (y.go 1).pl 5) = y.a + 1 + 5 + ((1 + 1 : Nat) : Int) * (y.go 1).pl 5 := by omega
    rw [e]
    exact h3
theorem pair_eq (l : List Int) (h : l.length = 2) : l = [l.getD 0 0, l.getD 1 0] := by
  match l, h with
  | [a, b], _ => rfl
theorem again_matrix (s : ByteArray) (h : (matS (RS.begP s 0)).e = 0) : ∃ a b c d x y, matV (RS.begP s 0) = [a, b, c, d, x, y] ∧ matOk a b c d x y = true ∧ (8 * ((F.bys (matF a b c d x y)).length : Int) ≤ (matS (RS.begP s 0)).a) := by
  obtain ⟨z1, z2, z3⟩ := beg_zero s
  generalize RS.begP s 0 = x at *
  have h5 : (mx5 x).e = 0 := RS.fin_e h
  obtain ⟨h4, n4, A5, w5⟩ := RS.sev_at h5
  obtain ⟨h3, n3, A4, w4⟩ := mx2_at h4
  obtain ⟨h2, n2, A3, w3⟩ := mx2_at h3
  obtain ⟨f1, f2⟩ := RS.fin_at h (fun _ => A5)
  refine ⟨_, _, _, _, _, _, ?_, f1, ?_⟩
  · unfold matV; rw [if_pos h]; rfl
  · have e : (matS x).a = ((mx2 (mx2 x)).a + 5 + ((1 + 1 : Nat) : Int) * (mx2 (mx2 x)).pl 5 + 7) / 8 * 8 := f2
    rw [e, A4.2.2.1, A3.2.2.1, z1, F.bys_len]
    have hxy : mxW [((mx2 (mx2 x)).sevL 5 2).getD 0 0, ((mx2 (mx2 x)).sevL 5 2).getD 1 0] ≤ ((mx2 (mx2 x)).pl 5).toNat := by
      rw [← pair_eq _ (sevL_len _ 5 2)]; exact w5
    have ha : (F.len (mF2 ((mAD x).getD 0 0) ((mAD x).getD 1 0)) : Int) ≤ 1 + (if mB1 x = true then 5 + 2 * (x.go 1).pl 5 else 0) := by
      unfold mF2
      cases hq : mB1 x
      · have e : mAD x = [65536, 65536] := if_neg (by rw [hq]; decide)
        rw [e]
        simp only [Bool.false_eq_true, if_false]
        decide +kernel
      · have e : mAD x = (x.go 1).sevL 5 2 := if_pos hq
        have hw := w3 hq
        rw [e, if_pos rfl]
        have hw' : mxW [((x.go 1).sevL 5 2).getD 0 0, ((x.go 1).sevL 5 2).getD 1 0] ≤ ((x.go 1).pl 5).toNat := by
          rw [← pair_eq _ (sevL_len _ 5 2)]; exact hw
        split
        · rw [F.len_app, nums2_len]
          have e1 : F.len ([] ++ [(b01 (q65 (((x.go 1).sevL 5 2).getD 0 0) (((x.go 1).sevL 5 2).getD 1 0)), 1)]) = 1 := rfl
          rw [e1]
          omega
        · have e1 : F.len ([] ++ [(b01 (q65 (((x.go 1).sevL 5 2).getD 0 0) (((x.go 1).sevL 5 2).getD 1 0)), 1)]) = 1 := rfl
          rw [e1]
          omega
    have hb : ((1 + (if qnz ((mBC (mx2 x)).getD 0 0) ((mBC (mx2 x)).getD 1 0) = true then 5 + 2 * mxW [(mBC (mx2 x)).getD 0 0, (mBC (mx2 x)).getD 1 0] else 0) : Nat) : Int) ≤ 1 + (if mB1 (mx2 x) = true then 5 + 2 * ((mx2 x).go 1).pl 5 else 0) := by
      cases hq : mB1 (mx2 x)
      · have e : mBC (mx2 x) = [0, 0] := if_neg (by rw [hq]; decide)
        rw [e]
        simp only [Bool.false_eq_true, if_false]
        decide +kernel
      · have e : mBC (mx2 x) = ((mx2 x).go 1).sevL 5 2 := if_pos hq
        have hw := w4 hq
        rw [e, if_pos rfl]
        have hw' : mxW [(((mx2 x).go 1).sevL 5 2).getD 0 0, (((mx2 x).go 1).sevL 5 2).getD 1 0] ≤ (((mx2 x).go 1).pl 5).toNat := by
          rw [← pair_eq _ (sevL_len _ 5 2)]; exact hw
        split <;> omega
    have hl : F.len (matF ((mAD x).getD 0 0) ((mBC (mx2 x)).getD 0 0) ((mBC (mx2 x)).getD 1 0) ((mAD x).getD 1 0) (((mx2 (mx2 x)).sevL 5 2).getD 0 0) (((mx2 (mx2 x)).sevL 5 2).getD 1 0)) = F.len (mF2 ((mAD x).getD 0 0) ((mAD x).getD 1 0)) + (1 + (if qnz ((mBC (mx2 x)).getD 0 0) ((mBC (mx2 x)).getD 1 0) = true then 5 + 2 * mxW [(mBC (mx2 x)).getD 0 0, (mBC (mx2 x)).getD 1 0] else 0)) + (5 + 2 * mxW [((mx2 (mx2 x)).sevL 5 2).getD 0 0, ((mx2 (mx2 x)).sevL 5 2).getD 1 0]) := by
      unfold matF mF4 mF3
      rw [F.len_app, nums2_len]
      split
      · rw [F.len_app, F.len_app, nums2_len]
        show _ + 1 + _ + _ = _
        omega
      · rw [F.len_app]
        show _ + 1 + _ = _
        omega
    rw [hl]
    generalize F.len (mF2 ((mAD x).getD 0 0) ((mAD x).getD 1 0)) = L1 at *
    generalize (1 + (if qnz ((mBC (mx2 x)).getD 0 0) ((mBC (mx2 x)).getD 1 0) = true then 5 + 2 * mxW [(mBC (mx2 x)).getD 0 0, (mBC (mx2 x)).getD 1 0] else 0)) = L2 at *
    generalize mxW [((mx2 (mx2 x)).sevL 5 2).getD 0 0, ((mx2 (mx2 x)).sevL 5 2).getD 1 0] = L3 at *
    generalize (if mB1 x = true then 5 + 2 * (x.go 1).pl 5 else 0) = R1 at *
    generalize (if mB1 (mx2 x) = true then 5 + 2 * ((mx2 x).go 1).pl 5 else 0) = R2 at *
    generalize (mx2 (mx2 x)).pl 5 = R3 at *
    omega
/-- a change -/
theorem again_cx (s : ByteArray) (h : (cxS (RS.begP s 0)).e = 0) : ∃ m d : List Int, m.length = 4 ∧ d.length = 4 ∧ cxV (RS.begP s 0) = m ++ d ∧ cxOk m d = true ∧ (8 * ((F.bys (cxF m d)).length : Int) ≤ (cxS (RS.begP s 0)).a) := by
  obtain ⟨z1, z2, z3⟩ := beg_zero s
  generalize RS.begP s 0 = x at *
  have h5 : (cx5 x).e = 0 := RS.fin_e h
  have n0 : 0 ≤ cN x := (RS.pl_bd _ _).1
  have H5 : (cx4 x).e = 0 ∧ (cx5 x).a = (cx4 x).a + (if cAd x = true then 4 * cN x else 0) ∧ ((cx5 x).s = (cx4 x).s) ∧ (cAd x = true → 0 ≤ (cx5 x).a ∧ (cx5 x).a ≤ 8 * (cx5 x).s.size) ∧ (cAd x = true → ∀ v ∈ cDs x, wd v ≤ (cN x).toNat) ∧ (cAd x = false → cx5 x = cx4 x) := by
    unfold cx5 cDs at *
    cases hq : cAd x
    · rw [if_neg (by rw [hq]; decide)] at h5
      rw [if_neg (by decide), if_neg (by decide)]
      exact ⟨h5, by omega, rfl, (fun h => by cases h), (fun h => by cases h), fun _ => rfl⟩
    · rw [if_pos hq] at h5
      rw [if_pos rfl, if_pos rfl, if_pos rfl]
      obtain ⟨i1, i2, ⟨j1, j2, j3, j4, j5⟩, i4, i5⟩ := RS.on_at h5
      have j3' : ((cx4 x).on (cN x) 4).a = (cx4 x).a + ((3 + 1 : Nat) : Int) * cN x := j3
      have j2' : ((cx4 x).on (cN x) 4).s = (cx4 x).s := j2
      refine ⟨i2, by omega, j2', fun _ => ⟨by omega, ?_⟩, (fun _ => RS.l_wd _ _ _ n0), (fun h => by cases h)⟩
      rw [j2', j3']; exact j5
  obtain ⟨h4, a5, s5, b5, w5, q5⟩ := H5
  have H4 : (cx3 x).e = 0 ∧ (cx4 x).a = (cx3 x).a + (if cMu x = true then 4 * cN x else 0) ∧ ((cx4 x).s = (cx3 x).s) ∧ (cMu x = true → 0 ≤ (cx4 x).a ∧ (cx4 x).a ≤ 8 * (cx4 x).s.size) ∧ (cMu x = true → ∀ v ∈ cMs x, wd v ≤ (cN x).toNat) ∧ (cMu x = false → cx4 x = cx3 x) := by
    unfold cx4 cMs at *
    cases hq : cMu x
    · rw [if_neg (by rw [hq]; decide)] at h4
      rw [if_neg (by decide), if_neg (by decide)]
      exact ⟨h4, by omega, rfl, (fun h => by cases h), (fun h => by cases h), fun _ => rfl⟩
    · rw [if_pos hq] at h4
      rw [if_pos rfl, if_pos rfl, if_pos rfl]
      obtain ⟨i1, i2, ⟨j1, j2, j3, j4, j5⟩, i4, i5⟩ := RS.on_at h4
      have j3' : ((cx3 x).on (cN x) 4).a = (cx3 x).a + ((3 + 1 : Nat) : Int) * cN x := j3
      have j2' : ((cx3 x).on (cN x) 4).s = (cx3 x).s := j2
      refine ⟨i2, by omega, j2', fun _ => ⟨by omega, ?_⟩, (fun _ => RS.l_wd _ _ _ n0), (fun h => by cases h)⟩
      rw [j2', j3']; exact j5
  obtain ⟨h3, a4, s4, b4, w4, q4⟩ := H4
  obtain ⟨c1, c2, ⟨c3, c4, c5, c6, c7⟩, c8, c9⟩ := RS.go_at h3
  obtain ⟨d1, d2, ⟨d3, d4, d5, d6, d7⟩, d8, d9⟩ := RS.go_at c2
  obtain ⟨e1, e2, ⟨e3, e4, e5, e6, e7⟩, e8, e9⟩ := RS.go_at d2
  have a3 : (cx3 x).a = 6 := by
    have : (cx3 x).a = ((x.go 1).go 1).a + 4 := c5
    rw [this, d5, e5, z1]; rfl
  have b3 : (0 : Int) ≤ (cx3 x).a ∧ (cx3 x).a ≤ 8 * (cx3 x).s.size := by
    have e : (cx3 x).a = ((x.go 1).go 1).a + 4 := c5
    have e' : (cx3 x).s = ((x.go 1).go 1).s := c4
    rw [e', e]; exact ⟨c6, c7⟩
  have B4 : (0 : Int) ≤ (cx4 x).a ∧ (cx4 x).a ≤ 8 * (cx4 x).s.size := by
    cases hq : cMu x
    · rw [q4 hq]; exact b3
    · exact b4 hq
  have B5 : (0 : Int) ≤ (cx5 x).a ∧ (cx5 x).a ≤ 8 * (cx5 x).s.size := by
    cases hq : cAd x
    · rw [q5 hq]; exact B4
    · exact b5 hq
  obtain ⟨f1, f2⟩ := RS.fin_at (s := (cx5 x).s) (a := (cx5 x).a) h (fun he => ⟨he, rfl, rfl, B5.1, B5.2⟩)
  refine ⟨cMs x, cDs x, cMs_len x, cDs_len x, ?_, f1, ?_⟩
  · unfold cxV; rw [if_pos h]
  · have e : (cxS x).a = ((cx5 x).a + 7) / 8 * 8 := f2
    rw [e, F.bys_len, cxF_len, a5, a4, a3]
    have mm : ∀ v ∈ (if cMs x = [256, 256, 256, 256] then [] else cMs x), wd v ≤ (cN x).toNat := by
      intro v hv
      cases hq : cMu x
      · have e : cMs x = [256, 256, 256, 256] := if_neg (by rw [hq]; decide)
        rw [if_pos e] at hv
        simp at hv
      · split at hv
        · simp at hv
        · exact w4 hq v hv
    have dd : ∀ v ∈ (if cDs x = [0, 0, 0, 0] then [] else cDs x), wd v ≤ (cN x).toNat := by
      intro v hv
      cases hq : cAd x
      · have e : cDs x = [0, 0, 0, 0] := if_neg (by rw [hq]; decide)
        rw [if_pos e] at hv
        simp at hv
      · split at hv
        · simp at hv
        · exact w5 hq v hv
    have hw : mxW (tells (cMs x) (cDs x)) ≤ (cN x).toNat := F.mxW_le fun v hv => by
      unfold tells at hv
      rcases List.mem_append.1 hv with hv | hv
      · exact mm v hv
      · exact dd v hv
    have hl : (tells (cMs x) (cDs x)).length = (if cMs x = [256, 256, 256, 256] then [] else cMs x).length + (if cDs x = [0, 0, 0, 0] then [] else cDs x).length := by unfold tells; rw [List.length_append]
    have l1 : (if cMs x = [256, 256, 256, 256] then [] else cMs x).length ≤ (if cMu x = true then 4 else 0) := by
      cases hq : cMu x
      · have e : cMs x = [256, 256, 256, 256] := if_neg (by rw [hq]; decide)
        rw [if_pos e]; exact Nat.le_refl _
      · split
        · exact Nat.zero_le _
        · rw [cMs_len]; exact Nat.le_refl _
    have l2 : (if cDs x = [0, 0, 0, 0] then [] else cDs x).length ≤ (if cAd x = true then 4 else 0) := by
      cases hq : cAd x
      · have e : cDs x = [0, 0, 0, 0] := if_neg (by rw [hq]; decide)
        rw [if_pos e]; exact Nat.le_refl _
      · split
        · exact Nat.zero_le _
        · rw [cDs_len]; exact Nat.le_refl _
    obtain ⟨N, hN⟩ : ∃ N : Nat, cN x = (N : Int) := ⟨(cN x).toNat, by omega⟩
    rw [hN] at hw ⊢
    rw [Int.toNat_natCast] at hw
    rw [hl]
    generalize mxW (tells (cMs x) (cDs x)) = M at *
    generalize (if cMs x = [256, 256, 256, 256] then [] else cMs x).length = p at *
    generalize (if cDs x = [0, 0, 0, 0] then [] else cDs x).length = q at *
    have hp : p * M ≤ (if cMu x = true then 4 else 0) * N := Nat.mul_le_mul l1 hw
    have hq : q * M ≤ (if cAd x = true then 4 else 0) * N := Nat.mul_le_mul l2 hw
    rw [Nat.add_mul]
    generalize p * M = P at *
    generalize q * M = Q at *
    clear hw hl l1 l2 mm dd
    clear a5 a4 b5 b4 b3 B4 B5 f1 f2
    revert hp hq
    cases cMu x <;> cases cAd x <;> simp only [if_true, Bool.false_eq_true, if_false, Nat.zero_mul] <;> intro hp hq <;> omega
end Go.Proofs.Ytfaipbdkkkhacaa
/- Layer 7: FieldAgain. -/
namespace Go.Proofs.Ytfaipbdkkkhacaa
open Go.RowKit
set_option linter.unusedVariables false

theorem again1 (s : ByteArray) (hs : s.size ≤ 1024) :
    (∃ (l r t b a1 z1 : Int) (s1 : ByteArray), (Hid (∀ W, Calls Try.prog 26 #[.agg #[.string s, .int .i64 0]] W fun e w' => e = .returned (.tuple #[.agg #[.int .i64 l, .int .i64 r, .int .i64 t, .int .i64 b], .agg #[.string s1, .int .i64 a1], .int .i64 z1]) ∧ Below W.heap.size W w')) ∧ (z1 == 0) = false) ∨
    (∃ (l r t b a1 b1 : Int) (s1 u1 v1 : ByteArray), (Hid (∀ W, Calls Try.prog 26 #[.agg #[.string s, .int .i64 0]] W fun e w' => e = .returned (.tuple #[.agg #[.int .i64 l, .int .i64 r, .int .i64 t, .int .i64 b], .agg #[.string s1, .int .i64 a1], .int .i64 0]) ∧ Below W.heap.size W w')) ∧ (Hid (∀ W, Calls Try.prog 9 #[.agg #[.string ⟨#[]⟩, .int .i64 0], .agg #[.int .i64 l, .int .i64 r, .int .i64 t, .int .i64 b]] W fun e w' => e = .returned (.tuple #[.agg #[.string u1, .int .i64 0], .int .i64 0]) ∧ Below W.heap.size W w')) ∧ (Hid (∀ W, Calls Try.prog 26 #[.agg #[.string u1, .int .i64 0]] W fun e w' => e = .returned (.tuple #[.agg #[.int .i64 l, .int .i64 r, .int .i64 t, .int .i64 b], .agg #[.string v1, .int .i64 b1], .int .i64 0]) ∧ Below W.heap.size W w')) ∧ u1.size ≤ 1000 ∧ 8 * (u1.size : Int) ≤ a1) := by
  by_cases h : (rectS (RS.begP s 0)).e = 0
  · right
    obtain ⟨l, r, t, b, hv, hok, hle⟩ := again_rect s h
    refine ⟨l, r, t, b, (rectS (RS.begP s 0)).a, ((8 * (([] : List UInt8).length + (F.bys (rectF l r t b)).length) : Nat) : Int), (rectS (RS.begP s 0)).s, bs (F.bys (rectF l r t b)), bs (F.bys (rectF l r t b)), Lib.hid fun W => ?_, Lib.hid fun W => ?_, Lib.hid fun W => ?_, ?_, ?_⟩
    · have := takerect_any s 0 W (by omega)
      rw [hv, h] at this
      exact this
    · have := putrect_ok ⟨#[]⟩ 0 l r t b W (by decide) hok
      rw [nil_app] at this
      exact this
    · have k := back_rect [] [] l r t b hok
      have e : [] ++ F.bys (rectF l r t b) ++ [] = F.bys (rectF l r t b) := by rw [List.nil_append, List.append_nil]
      have := takerect_any (bs ([] ++ F.bys (rectF l r t b) ++ [])) ((8 * ([] : List UInt8).length : Nat) : Int) W (by rw [e, bs_size]; have := rect_bytes hok; omega)
      rw [k.1, k.2] at this
      rw [e] at this
      exact this
    · rw [bs_size]; have := rect_bytes hok; omega
    · rw [bs_size]; exact hle
  · left
    obtain ⟨l, r, t, b, hv⟩ := list4 _ (rectV_len (RS.begP s 0))
    refine ⟨l, r, t, b, (rectS (RS.begP s 0)).a, (rectS (RS.begP s 0)).e, (rectS (RS.begP s 0)).s, Lib.hid fun W => ?_, ?_⟩
    · have := takerect_any s 0 W (by omega)
      rw [hv] at this
      exact this
    · simpa using h
theorem again2 (s : ByteArray) (hs : s.size ≤ 1024) :
    (∃ (ma mb mc md mx my a2 z2 : Int) (s2 : ByteArray), (Hid (∀ W, Calls Try.prog 27 #[.agg #[.string s, .int .i64 0]] W fun e w' => e = .returned (.tuple #[.agg #[.int .i64 ma, .int .i64 mb, .int .i64 mc, .int .i64 md, .int .i64 mx, .int .i64 my], .agg #[.string s2, .int .i64 a2], .int .i64 z2]) ∧ Below W.heap.size W w')) ∧ (z2 == 0) = false) ∨
    (∃ (ma mb mc md mx my a2 b2 : Int) (s2 u2 v2 : ByteArray), (Hid (∀ W, Calls Try.prog 27 #[.agg #[.string s, .int .i64 0]] W fun e w' => e = .returned (.tuple #[.agg #[.int .i64 ma, .int .i64 mb, .int .i64 mc, .int .i64 md, .int .i64 mx, .int .i64 my], .agg #[.string s2, .int .i64 a2], .int .i64 0]) ∧ Below W.heap.size W w')) ∧ (Hid (∀ W, Calls Try.prog 10 #[.agg #[.string ⟨#[]⟩, .int .i64 0], .agg #[.int .i64 ma, .int .i64 mb, .int .i64 mc, .int .i64 md, .int .i64 mx, .int .i64 my]] W fun e w' => e = .returned (.tuple #[.agg #[.string u2, .int .i64 0], .int .i64 0]) ∧ Below W.heap.size W w')) ∧ (Hid (∀ W, Calls Try.prog 27 #[.agg #[.string u2, .int .i64 0]] W fun e w' => e = .returned (.tuple #[.agg #[.int .i64 ma, .int .i64 mb, .int .i64 mc, .int .i64 md, .int .i64 mx, .int .i64 my], .agg #[.string v2, .int .i64 b2], .int .i64 0]) ∧ Below W.heap.size W w')) ∧ u2.size ≤ 1000 ∧ 8 * (u2.size : Int) ≤ a2) := by
  by_cases h : (matS (RS.begP s 0)).e = 0
  · right
    obtain ⟨ma, mb, mc, md, mx, my, hv, hok, hle⟩ := again_matrix s h
    refine ⟨ma, mb, mc, md, mx, my, (matS (RS.begP s 0)).a, ((8 * (([] : List UInt8).length + (F.bys (matF ma mb mc md mx my)).length) : Nat) : Int), (matS (RS.begP s 0)).s, bs (F.bys (matF ma mb mc md mx my)), bs (F.bys (matF ma mb mc md mx my)), Lib.hid fun W => ?_, Lib.hid fun W => ?_, Lib.hid fun W => ?_, ?_, ?_⟩
    · have := takematrix_any s 0 W (by omega)
      rw [hv, h] at this
      exact this
    · have := putmatrix_ok ⟨#[]⟩ 0 ma mb mc md mx my W (by decide) hok
      rw [nil_app] at this
      exact this
    · have k := back_matrix [] [] ma mb mc md mx my hok
      have e : [] ++ F.bys (matF ma mb mc md mx my) ++ [] = F.bys (matF ma mb mc md mx my) := by rw [List.nil_append, List.append_nil]
      have := takematrix_any (bs ([] ++ F.bys (matF ma mb mc md mx my) ++ [])) ((8 * ([] : List UInt8).length : Nat) : Int) W (by rw [e, bs_size]; have := mat_bytes hok; omega)
      rw [k.1, k.2] at this
      rw [e] at this
      exact this
    · rw [bs_size]; have := mat_bytes hok; omega
    · rw [bs_size]; exact hle
  · left
    obtain ⟨ma, mb, mc, md, mx, my, hv⟩ := list6 _ (matV_len (RS.begP s 0))
    refine ⟨ma, mb, mc, md, mx, my, (matS (RS.begP s 0)).a, (matS (RS.begP s 0)).e, (matS (RS.begP s 0)).s, Lib.hid fun W => ?_, ?_⟩
    · have := takematrix_any s 0 W (by omega)
      rw [hv] at this
      exact this
    · simpa using h
theorem again3 (s : ByteArray) (hs : s.size ≤ 1024) :
    (∃ (c0 c1 c2 c3 d0 d1 d2 d3 a3 z3 : Int) (s3 : ByteArray), (Hid (∀ W, Calls Try.prog 28 #[.agg #[.string s, .int .i64 0]] W fun e w' => e = .returned (.tuple #[.agg #[.int .i64 c0, .int .i64 c1, .int .i64 c2, .int .i64 c3, .int .i64 d0, .int .i64 d1, .int .i64 d2, .int .i64 d3], .agg #[.string s3, .int .i64 a3], .int .i64 z3]) ∧ Below W.heap.size W w')) ∧ (z3 == 0) = false) ∨
    (∃ (c0 c1 c2 c3 d0 d1 d2 d3 a3 b3 : Int) (s3 u3 v3 : ByteArray), (Hid (∀ W, Calls Try.prog 28 #[.agg #[.string s, .int .i64 0]] W fun e w' => e = .returned (.tuple #[.agg #[.int .i64 c0, .int .i64 c1, .int .i64 c2, .int .i64 c3, .int .i64 d0, .int .i64 d1, .int .i64 d2, .int .i64 d3], .agg #[.string s3, .int .i64 a3], .int .i64 0]) ∧ Below W.heap.size W w')) ∧ (Hid (∀ W, Calls Try.prog 11 #[.agg #[.string ⟨#[]⟩, .int .i64 0], .agg #[.int .i64 c0, .int .i64 c1, .int .i64 c2, .int .i64 c3, .int .i64 d0, .int .i64 d1, .int .i64 d2, .int .i64 d3]] W fun e w' => e = .returned (.tuple #[.agg #[.string u3, .int .i64 0], .int .i64 0]) ∧ Below W.heap.size W w')) ∧ (Hid (∀ W, Calls Try.prog 28 #[.agg #[.string u3, .int .i64 0]] W fun e w' => e = .returned (.tuple #[.agg #[.int .i64 c0, .int .i64 c1, .int .i64 c2, .int .i64 c3, .int .i64 d0, .int .i64 d1, .int .i64 d2, .int .i64 d3], .agg #[.string v3, .int .i64 b3], .int .i64 0]) ∧ Below W.heap.size W w')) ∧ u3.size ≤ 1000 ∧ 8 * (u3.size : Int) ≤ a3) := by
  by_cases h : (cxS (RS.begP s 0)).e = 0
  · right
    obtain ⟨m, d, lm, ld, hv, hok, hle⟩ := again_cx s h
    obtain ⟨c0, c1, c2, c3, rfl⟩ := list4 m lm
    obtain ⟨d0, d1, d2, d3, rfl⟩ := list4 d ld
    have hv : cxV (RS.begP s 0) = [c0, c1, c2, c3, d0, d1, d2, d3] := hv
    refine ⟨c0, c1, c2, c3, d0, d1, d2, d3, (cxS (RS.begP s 0)).a, ((8 * (([] : List UInt8).length + (F.bys (cxF [c0, c1, c2, c3] [d0, d1, d2, d3])).length) : Nat) : Int), (cxS (RS.begP s 0)).s, bs (F.bys (cxF [c0, c1, c2, c3] [d0, d1, d2, d3])), bs (F.bys (cxF [c0, c1, c2, c3] [d0, d1, d2, d3])), Lib.hid fun W => ?_, Lib.hid fun W => ?_, Lib.hid fun W => ?_, ?_, ?_⟩
    · have := takecx_any s 0 W (by omega)
      rw [hv, h] at this
      exact this
    · have := putcx_ok ⟨#[]⟩ 0 c0 c1 c2 c3 d0 d1 d2 d3 W (by decide) hok
      rw [nil_app] at this
      exact this
    · have k := back_cx [] [] [c0, c1, c2, c3] [d0, d1, d2, d3] rfl rfl hok
      have e : [] ++ F.bys (cxF [c0, c1, c2, c3] [d0, d1, d2, d3]) ++ [] = F.bys (cxF [c0, c1, c2, c3] [d0, d1, d2, d3]) := by rw [List.nil_append, List.append_nil]
      have := takecx_any (bs ([] ++ F.bys (cxF [c0, c1, c2, c3] [d0, d1, d2, d3]) ++ [])) ((8 * ([] : List UInt8).length : Nat) : Int) W (by rw [e, bs_size]; have := cx_bytes hok rfl rfl; omega)
      rw [k.1, k.2] at this
      rw [e] at this
      exact this
    · rw [bs_size]; have := cx_bytes hok rfl rfl; omega
    · rw [bs_size]; exact hle
  · left
    obtain ⟨c0, c1, c2, c3, d0, d1, d2, d3, hv⟩ := list8 _ (cxV_len (RS.begP s 0))
    refine ⟨c0, c1, c2, c3, d0, d1, d2, d3, (cxS (RS.begP s 0)).a, (cxS (RS.begP s 0)).e, (cxS (RS.begP s 0)).s, Lib.hid fun W => ?_, ?_⟩
    · have := takecx_any s 0 W (by omega)
      rw [hv] at this
      exact this
    · simpa using h
theorem fieldAgain_walk (s : ByteArray) (w : World) :
    Calls Try.prog 6 #[.string s] w fun e w' => e = .returned (.bool true) ∧ Below w.heap.size w w' := by
  by_cases hs : s.size ≤ 1024
  · rcases again1 s hs with ⟨l, r, t, b, a1, z1, s1, T1, hz1⟩ | ⟨l, r, t, b, a1, b1, s1, u1, v1, T1, P1, U1, hu1, hh1⟩ <;> rcases again2 s hs with ⟨ma, mb, mc, md, mx, my, a2, z2, s2, T2, hz2⟩ | ⟨ma, mb, mc, md, mx, my, a2, b2, s2, u2, v2, T2, P2, U2, hu2, hh2⟩ <;> rcases again3 s hs with ⟨c0, c1, c2, c3, d0, d1, d2, d3, a3, z3, s3, T3, hz3⟩ | ⟨c0, c1, c2, c3, d0, d1, d2, d3, a3, b3, s3, u3, v3, T3, P3, U3, hu3, hh3⟩
    · exact fagain_000 l r t b a1 z1 ma mb mc md mx my a2 z2 c0 c1 c2 c3 d0 d1 d2 d3 a3 z3 s s1 s2 s3 w hs T1 hz1 T2 hz2 T3 hz3
    · exact fagain_001 l r t b a1 z1 ma mb mc md mx my a2 z2 c0 c1 c2 c3 d0 d1 d2 d3 a3 b3 s s1 s2 s3 u3 v3 w hs T1 hz1 T2 hz2 T3 P3 U3 hu3 hh3
    · exact fagain_010 l r t b a1 z1 ma mb mc md mx my a2 b2 c0 c1 c2 c3 d0 d1 d2 d3 a3 z3 s s1 s2 s3 u2 v2 w hs T1 hz1 T2 P2 U2 hu2 hh2 T3 hz3
    · exact fagain_011 l r t b a1 z1 ma mb mc md mx my a2 b2 c0 c1 c2 c3 d0 d1 d2 d3 a3 b3 s s1 s2 s3 u2 v2 u3 v3 w hs T1 hz1 T2 P2 U2 hu2 hh2 T3 P3 U3 hu3 hh3
    · exact fagain_100 l r t b a1 b1 ma mb mc md mx my a2 z2 c0 c1 c2 c3 d0 d1 d2 d3 a3 z3 s s1 s2 s3 u1 v1 w hs T1 P1 U1 hu1 hh1 T2 hz2 T3 hz3
    · exact fagain_101 l r t b a1 b1 ma mb mc md mx my a2 z2 c0 c1 c2 c3 d0 d1 d2 d3 a3 b3 s s1 s2 s3 u1 v1 u3 v3 w hs T1 P1 U1 hu1 hh1 T2 hz2 T3 P3 U3 hu3 hh3
    · exact fagain_110 l r t b a1 b1 ma mb mc md mx my a2 b2 c0 c1 c2 c3 d0 d1 d2 d3 a3 z3 s s1 s2 s3 u1 v1 u2 v2 w hs T1 P1 U1 hu1 hh1 T2 P2 U2 hu2 hh2 T3 hz3
    · exact fagain_111 l r t b a1 b1 ma mb mc md mx my a2 b2 c0 c1 c2 c3 d0 d1 d2 d3 a3 b3 s s1 s2 s3 u1 v1 u2 v2 u3 v3 w hs T1 P1 U1 hu1 hh1 T2 P2 U2 hu2 hh2 T3 P3 U3 hu3 hh3
  · exact fagain_big s w (by omega)
end Go.Proofs.Ytfaipbdkkkhacaa
