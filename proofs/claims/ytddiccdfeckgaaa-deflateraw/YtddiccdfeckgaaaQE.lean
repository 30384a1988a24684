import Derived.Test.YtddiccdfeckgaaaQ0
import Derived.Test.YtddiccdfeckgaaaQ5
/- Layer 6: where three bytes stood, plain. -/
namespace Go.Proofs.Ytddiccdfeckgaaa.D
set_option linter.unusedVariables false
/-- the three bytes at a place -/
def tri (s : ByteArray) (i : Nat) : Nat × Nat × Nat := (at8 s i, at8 s (i + 1), at8 s (i + 2))
theorem at8_lt (s : ByteArray) (k : Nat) : at8 s k < 256 := by
  unfold at8
  split
  · exact s[k].toNat_lt
  · omega
/-- one more than the last one of the first k places with the three bytes of place i; 0: there is none -/
def pn (s : ByteArray) : Nat → Nat → Nat
  | 0, _ => 0
  | k + 1, i => if k + 3 ≤ s.size ∧ tri s k = tri s i then k + 1 else pn s k i
theorem pn_le (s : ByteArray) : ∀ k i, pn s k i ≤ k
  | 0, i => Nat.le_refl _
  | k + 1, i => by
    rw [pn]
    split
    · exact Nat.le_refl _
    · have := pn_le s k i; omega
theorem pn_hit (s : ByteArray) : ∀ k i, pn s k i ≠ 0 → pn s k i + 2 ≤ s.size ∧ tri s (pn s k i - 1) = tri s i
  | 0, i, h => absurd rfl h
  | k + 1, i, h => by
    rw [pn] at h ⊢
    split at h
    · rename_i c
      rw [if_pos c]
      exact ⟨by omega, c.2⟩
    · rename_i c
      rw [if_neg c]
      exact pn_hit s k i h
theorem pn_gap (s : ByteArray) : ∀ k i p, pn s k i ≤ p → p < k → p + 3 ≤ s.size → tri s p ≠ tri s i
  | 0, i, p, h, h2, h3 => by omega
  | k + 1, i, p, h, h2, h3 => by
    rw [pn] at h
    split at h
    · omega
    · rename_i c
      by_cases e : p = k
      · subst e
        exact fun e2 => c ⟨h3, e2⟩
      · exact pn_gap s k i p h (by omega) h3
/-- what stands behind a place; 0 too where there are no three bytes -/
def pq (s : ByteArray) (i : Nat) : Nat := if i + 3 ≤ s.size then pn s i i else 0
theorem pq_le (s : ByteArray) (i : Nat) : pq s i ≤ i := by
  unfold pq
  split
  · exact pn_le s i i
  · omega
theorem pq_le2 (s : ByteArray) (i : Nat) : pq s i ≤ s.size := by
  unfold pq
  split
  · have := pn_le s i i; omega
  · omega
theorem mt_tri (s : ByteArray) (a d : Nat) (hd : d ≤ a) (h : tri s (a - d) ≠ tri s a) : mt s a d < 3 := by
  refine Nat.lt_of_not_le fun h3 => h ?_
  have e0 := (mt_all s a d (k := 0) (by omega)).2
  have e1 := (mt_all s a d (k := 1) (by omega)).2
  have e2 := (mt_all s a d (k := 2) (by omega)).2
  unfold tri
  rw [show a - d + 1 = a + 1 - d by omega, show a - d + 2 = a + 2 - d by omega, ← e1, ← e2]
  rw [Nat.add_zero] at e0
  rw [← e0]
theorem held_flat (s : ByteArray) (a k : Nat) (h : mt s a (k + 1) < 3) : held (best s a (k + 1)) = held (best s a k) := by
  have := held_ge (best s a k)
  rw [held_step, if_neg (by omega)]
theorem held_flats (s : ByteArray) (a : Nat) : ∀ (n k : Nat), (∀ d, k < d → d ≤ k + n → mt s a d < 3) → held (best s a (k + n)) = held (best s a k)
  | 0, k, h => rfl
  | n + 1, k, h => by
    rw [← Nat.add_assoc, held_flat s a (k + n) (h _ (by omega) (by omega))]
    exact held_flats s a n k (fun d h1 h2 => h d h1 (by omega))
/-- the search's way back: what it holds at place q - 1 (q = 0: none is left) -/
def Way (s : ByteArray) (a q : Nat) (h : Nat × Nat) : Prop := ∃ lo, lo ≤ min a 32768 ∧ (q = 0 ∨ lo + q ≤ a) ∧ ∀ j, lo ≤ j → j + q ≤ a → held (best s a j) = h
theorem way_start (s : ByteArray) (a : Nat) (ha : a < s.size) : Way s a (pq s a) (2, 0) := by
  refine ⟨0, Nat.zero_le _, ?_, fun j _ hj => ?_⟩
  · have := pq_le s a; omega
  · have h0 : held (best s a 0) = (2, 0) := rfl
    rw [← h0]
    have := held_flats s a j 0 (fun d h1 h2 => ?_)
    · rw [Nat.zero_add] at this; exact this
    · by_cases h3 : a + 3 ≤ s.size
      · refine mt_tri s a d (by omega) ?_
        have hq : pq s a = pn s a a := by unfold pq; rw [if_pos h3]
        rw [hq] at hj
        exact pn_gap s a a (a - d) (by omega) (by omega) (by omega)
      · have := mt_size s a d ha
        omega
theorem way_next (s : ByteArray) (a q : Nat) (h : Nat × Nat) (h3 : a + 3 ≤ s.size) (hq : q ≠ 0) (ht : tri s (q - 1) = tri s a) (hqa : q ≤ a) (hf : a - (q - 1) ≤ 32768) (hw : Way s a q h) :
    Way s a (pq s (q - 1)) (if h.1 < mt s a (a - (q - 1)) then (mt s a (a - (q - 1)), a - (q - 1)) else h) := by
  obtain ⟨lo, hlo, hlq, hj⟩ := hw
  have hpq : pq s (q - 1) = pn s (q - 1) (q - 1) := by unfold pq; rw [if_pos (by omega)]
  have hle := pq_le s (q - 1)
  refine ⟨a - (q - 1), by omega, ?_, fun j h1 h2 => ?_⟩
  · by_cases h0 : pq s (q - 1) = 0
    · exact Or.inl h0
    · right; omega
  · have hb := hj (a - q) (by omega) (by omega)
    have hs := held_step s a (a - q)
    rw [show a - q + 1 = a - (q - 1) by omega, hb] at hs
    rw [← hs]
    have := held_flats s a (j - (a - (q - 1))) (a - (q - 1)) (fun d h4 h5 => ?_)
    · rw [show a - (q - 1) + (j - (a - (q - 1))) = j by omega] at this; exact this
    · refine mt_tri s a d (by omega) ?_
      rw [← ht]
      refine pn_gap s (q - 1) (q - 1) (a - d) (by omega) (by omega) (by omega)
theorem way_end (s : ByteArray) (a q : Nat) (h : Nat × Nat) (ha : a < s.size) (hw : Way s a q h) (he : q = 0 ∨ 32768 < a - (q - 1) ∨ min 258 (s.size - a) ≤ h.1) (hqa : q ≤ a) : told h = run s a := by
  obtain ⟨lo, hlo, hlq, hj⟩ := hw
  unfold run
  rw [← told_held]
  congr 1
  by_cases hd : min 258 (s.size - a) ≤ h.1
  · have hb : held (best s a lo) = h := hj lo (Nat.le_refl _) (by omega)
    have := held_top s a lo ha (by rw [hb]; exact hd) (min a 32768 - lo)
    rw [show lo + (min a 32768 - lo) = min a 32768 by omega, hb] at this
    exact this.symm
  · exact (hj (min a 32768) hlo (by omega)).symm
/-- how many symbols, of what -/
def lenOf (v : Nat) : Nat := if v = 0 then 0 else Nat.log2 v + 1
def splN (v u : Nat) : Nat := lenOf v - u
def splS (v u : Nat) : Nat := two (u - 1) * splN v u + v / two (splN v u)
def splR (v u : Nat) : Nat := v % two (splN v u)
end Go.Proofs.Ytddiccdfeckgaaa.D
