import Derived.Test.YtoofjcpapidgdaaBid
import Derived.Test.YtoofjcpapidgdaaBi7
/- Plain facts: fields that are written one behind the other stand where they are read. -/
namespace Go.Proofs.Ytoofjcpapidgdaa
open Go.RowKit
set_option linter.unusedVariables false
namespace B

/-- the first m bits of both are the same -/
def Agree (l l' : List UInt8) (m : Nat) : Prop := m ≤ 8 * l.length ∧ m ≤ 8 * l'.length ∧ bv l' / P2 (8 * l'.length - m) = bv l / P2 (8 * l.length - m)
theorem agree_refl (l : List UInt8) (m : Nat) (h : m ≤ 8 * l.length) : Agree l l m := ⟨h, h, rfl⟩
theorem agree_less {l l' : List UInt8} {m k : Nat} (h : Agree l l' m) (hk : k ≤ m) : Agree l l' k := by
  obtain ⟨h1, h2, h3⟩ := h
  refine ⟨by omega, by omega, ?_⟩
  have e1 : 8 * l'.length - k = (8 * l'.length - m) + (m - k) := by omega
  have e2 : 8 * l.length - k = (8 * l.length - m) + (m - k) := by omega
  rw [e1, e2, ← div_div, ← div_div, h3]
theorem agree_trans {l l' l'' : List UInt8} {m k : Nat} (h : Agree l l' m) (h' : Agree l' l'' k) (hk : m ≤ k) : Agree l l'' m := by
  have h2 := agree_less h' hk
  exact ⟨h.1, h2.2.1, h2.2.2.trans h.2.2⟩
theorem agree_fld {l l' : List UInt8} {m : Nat} (h : Agree l l' m) (p n : Nat) (hp : p + n ≤ m) : fld l' p n = fld l p n := by
  have h2 := (agree_less h hp).2.2
  unfold fld
  rw [h2]
theorem agree_take {l l' : List UInt8} (h : Agree l l' (8 * l.length)) : l'.take l.length = l := by
  obtain ⟨_, h2, h3⟩ := h
  apply bv_inj
  · rw [List.length_take]; omega
  · rw [bv_take, show 8 * (l'.length - l.length) = 8 * l'.length - 8 * l.length by omega, h3, Nat.sub_self, P2_zero, Nat.div_one]
theorem putL_agree (l : List UInt8) (f v n : Nat) (hf : f ≤ 8 * l.length) (hv : v < P2 n) : Agree l (putL l f v n) (8 * l.length - f) := by
  have hN := putN_eq l.length f n
  refine ⟨by omega, by rw [putL_len]; omega, ?_⟩
  have hh := putL_head l f v n hf hv
  rw [putL_len, show 8 * putN l.length f n - (8 * l.length - f) = putF l.length f n + n by omega, ← div_div, hh, mul_add_div _ _ _ hv, show 8 * l.length - (8 * l.length - f) = f by omega]
theorem putL_fld (l : List UInt8) (f v n : Nat) (hf : f ≤ 8 * l.length) (hv : v < P2 n) : fld (putL l f v n) (8 * l.length - f) n = v := by
  have hN := putN_eq l.length f n
  have hh := putL_head l f v n hf hv
  unfold fld
  rw [putL_len, show 8 * putN l.length f n - (8 * l.length - f + n) = putF l.length f n by omega, hh, mul_add_mod _ _ _ hv]
theorem app_agree (l t : List UInt8) (f : Nat) : Agree l (l ++ t) (8 * l.length - f) := by
  refine agree_less (m := 8 * l.length) ⟨by omega, by rw [List.length_append]; omega, ?_⟩ (by omega)
  rw [List.length_append, bv_append, show 8 * (l.length + t.length) - 8 * l.length = 8 * t.length by omega, mul_add_div _ _ _ (bv_lt t), Nat.sub_self, P2_zero, Nat.div_one]
end B

/-- a field as the law has it -/
structure Fd where
  k : Int
  v : Int
  n : Int
def Fd.kind (p : Fd) : Nat := (p.k % 4).toNat
theorem Fd.kind_lt (p : Fd) : p.kind < 4 := by unfold Fd.kind; omega
/-- is it written -/
def Fd.ok (p : Fd) : Bool := if p.kind = 0 then ppOk p.v p.n else if p.kind = 1 then psOk p.v p.n else if p.kind = 2 then ltOk p.v p.n else true
/-- the writer behind it -/
def Fd.put (p : Fd) (x : List UInt8 × Nat) : List UInt8 × Nat :=
  if p.kind = 0 then (B.putL x.1 x.2 p.v.toNat p.n.toNat, B.putF x.1.length x.2 p.n.toNat)
  else if p.kind = 1 then (B.putL x.1 x.2 (sgU p.v p.n.toNat) p.n.toNat, B.putF x.1.length x.2 p.n.toNat)
  else if p.kind = 2 then (x.1 ++ B.le p.n.toNat p.v.toNat, 0) else (x.1, 0)
def Fd.fit (p : Fd) : Prop := -9223372036854775808 ≤ p.v ∧ p.v ≤ 9223372036854775807
/-- all of them behind each other -/
def wrF (ps : List Fd) : List UInt8 × Nat := ps.foldl (fun x p => p.put x) ([], 0)
theorem wr_snoc (ps : List Fd) (p : Fd) : wrF (ps ++ [p]) = p.put (wrF ps) := by simp [wrF]
/-- how many bits were written -/
def pos (x : List UInt8 × Nat) : Nat := 8 * x.1.length - x.2

theorem ppOk_iff {v n : Int} (h : ppOk v n = true) : 0 ≤ n ∧ n ≤ 31 ∧ 0 ≤ v ∧ v.toNat < B.P2 n.toNat := by
  simp [ppOk] at h; omega
theorem psOk_iff {v n : Int} (h : psOk v n = true) : 0 ≤ n ∧ n ≤ 31 ∧ (wd v : Int) ≤ n := by
  simp [psOk] at h; omega
theorem ltOk_iff {v n : Int} (h : ltOk v n = true) : 1 ≤ n ∧ n ≤ 4 ∧ 0 ≤ v ∧ v.toNat < B.P2 (8 * n.toNat) := by
  simp [ltOk] at h; omega
/-- what one field does: the writer stays sound, what was there stays -/
theorem put_facts (p : Fd) (x : List UInt8 × Nat) (hs : B.Snd x.1 x.2) (ho : p.ok = true) (hf : p.fit) :
    B.Snd (p.put x).1 (p.put x).2 ∧ B.Agree x.1 (p.put x).1 (pos x) ∧ pos x ≤ pos (p.put x) ∧ (p.put x).1.length ≤ x.1.length + 5 := by
  have hs2 := hs.2.1
  unfold Fd.ok at ho
  unfold Fd.put pos
  have snd0 : ∀ l : List UInt8, B.Snd l 0 := fun l => ⟨by omega, by omega, by rw [B.P2_zero, Nat.mod_one]⟩
  by_cases h0 : p.kind = 0
  · rw [if_pos h0] at ho
    simp only [if_pos h0]
    obtain ⟨_, _, _, hv⟩ := ppOk_iff ho
    have hN := B.putN_eq x.1.length x.2 p.n.toNat
    have hF := B.putF_le x.1.length x.2 p.n.toNat
    exact ⟨B.putL_snd _ _ _ _ hs2 hv, B.putL_agree _ _ _ _ hs2 hv, by rw [B.putL_len]; omega, by rw [B.putL_len]; omega⟩
  · rw [if_neg h0] at ho
    simp only [if_neg h0]
    by_cases h1 : p.kind = 1
    · rw [if_pos h1] at ho
      simp only [if_pos h1]
      obtain ⟨_, _, hw⟩ := psOk_iff ho
      have hv := (sgU_lt p.v p.n.toNat hf.1 hf.2 (by omega) (by omega)).1
      have hN := B.putN_eq x.1.length x.2 p.n.toNat
      have hF := B.putF_le x.1.length x.2 p.n.toNat
      exact ⟨B.putL_snd _ _ _ _ hs2 hv, B.putL_agree _ _ _ _ hs2 hv, by rw [B.putL_len]; omega, by rw [B.putL_len]; omega⟩
    · rw [if_neg h1] at ho
      simp only [if_neg h1]
      by_cases h2 : p.kind = 2
      · rw [if_pos h2] at ho
        simp only [if_pos h2]
        have hh := ltOk_iff ho
        refine ⟨snd0 _, B.app_agree _ _ _, ?_, ?_⟩
        · simp only [List.length_append]; omega
        · simp only [List.length_append, B.le_len]; omega
      · simp only [if_neg h2]
        exact ⟨snd0 _, B.agree_refl _ _ (by omega), by omega, by omega⟩
/-- all that is written: sound, each beginning stands at the end -/
theorem wr_facts (ps : List Fd) (ho : ∀ p ∈ ps, p.ok = true ∧ p.fit) : ∀ k, k ≤ ps.length →
    B.Snd (wrF (ps.take k)).1 (wrF (ps.take k)).2 ∧ (wrF (ps.take k)).1.length ≤ 5 * k := by
  intro k
  induction k with
  | zero => intro _; exact ⟨⟨by simp [wrF], by simp [wrF], by simp [wrF, B.P2_zero, Nat.mod_one]⟩, by simp [wrF]⟩
  | succ k ih =>
    intro hk
    obtain ⟨i1, i2⟩ := ih (by omega)
    rw [List.take_succ_eq_append_getElem (by omega), wr_snoc]
    have hm := ho ps[k] (List.getElem_mem _)
    obtain ⟨f1, f2, f3, f4⟩ := put_facts ps[k] _ i1 hm.1 hm.2
    exact ⟨f1, by omega⟩
theorem wr_agree (ps : List Fd) (ho : ∀ p ∈ ps, p.ok = true ∧ p.fit) (k : Nat) (hk : k ≤ ps.length) : ∀ d, k + d ≤ ps.length →
    B.Agree (wrF (ps.take k)).1 (wrF (ps.take (k + d))).1 (pos (wrF (ps.take k))) ∧ pos (wrF (ps.take k)) ≤ pos (wrF (ps.take (k + d))) := by
  intro d
  induction d with
  | zero => intro _; exact ⟨B.agree_refl _ _ (by unfold pos; omega), Nat.le_refl _⟩
  | succ d ih =>
    intro hd
    obtain ⟨i1, i2⟩ := ih (by omega)
    obtain ⟨s1, _⟩ := wr_facts ps ho (k + d) (by omega)
    rw [← Nat.add_assoc, List.take_succ_eq_append_getElem (by omega), wr_snoc]
    have hm := ho ps[k + d] (List.getElem_mem _)
    obtain ⟨f1, f2, f3, f4⟩ := put_facts ps[k + d] _ s1 hm.1 hm.2
    exact ⟨B.agree_trans i1 f2 i2, by omega⟩
theorem wr_end (ps : List Fd) (ho : ∀ p ∈ ps, p.ok = true ∧ p.fit) (k : Nat) (hk : k ≤ ps.length) : B.Agree (wrF (ps.take k)).1 (wrF ps).1 (pos (wrF (ps.take k))) := by
  have h := (wr_agree ps ho k hk (ps.length - k) (by omega)).1
  rw [show k + (ps.length - k) = ps.length by omega, List.take_length] at h
  exact h
end Go.Proofs.Ytoofjcpapidgdaa
