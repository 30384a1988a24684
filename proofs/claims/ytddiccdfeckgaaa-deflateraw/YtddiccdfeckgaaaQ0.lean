import Derived.Test.YtddiccdfeckgaaaU1
/- Layer 6: runs, plain. -/
namespace Go.Proofs.Ytddiccdfeckgaaa.D
/-- a byte, as a number -/
def at8 (s : ByteArray) (k : Nat) : Nat := if h : k < s.size then s[k].toNat else 0
theorem at8_at (s : ByteArray) (k : Nat) (h : k < s.size) : at8 s k = s[k].toNat := by unfold at8; rw [dif_pos h]
/-- whether the n-th byte from a on is that d further back -/
def eqn (s : ByteArray) (a d n : Nat) : Prop := a + n < s.size ∧ at8 s (a + n) = at8 s (a + n - d)
instance (s : ByteArray) (a d n : Nat) : Decidable (eqn s a d n) := inferInstanceAs (Decidable (_ ∧ _))
/-- how many bytes from a on are those d further back: from n on, f more at most -/
def mtF (s : ByteArray) (a d : Nat) : Nat → Nat → Nat
  | 0, n => n
  | f + 1, n => if eqn s a d n then mtF s a d f (n + 1) else n
def mt (s : ByteArray) (a d : Nat) : Nat := mtF s a d 258 0
theorem mtF_le (s : ByteArray) (a d : Nat) : ∀ f n, n ≤ mtF s a d f n ∧ mtF s a d f n ≤ n + f
  | 0, n => ⟨Nat.le_refl _, Nat.le_refl _⟩
  | f + 1, n => by
    rw [mtF]
    split
    · have := mtF_le s a d f (n + 1); omega
    · omega
theorem mtF_all (s : ByteArray) (a d : Nat) : ∀ f n k, n ≤ k → k < mtF s a d f n → eqn s a d k
  | 0, n, k, h1, h2 => by rw [mtF] at h2; omega
  | f + 1, n, k, h1, h2 => by
    rw [mtF] at h2
    split at h2
    · by_cases h : k = n
      · subst h; assumption
      · exact mtF_all s a d f (n + 1) k (by omega) h2
    · omega
theorem mtF_end (s : ByteArray) (a d : Nat) : ∀ f n, mtF s a d f n = n + f ∨ ¬ eqn s a d (mtF s a d f n)
  | 0, n => Or.inl rfl
  | f + 1, n => by
    rw [mtF]
    split
    · rcases mtF_end s a d f (n + 1) with h | h
      · left; omega
      · right; exact h
    · right; assumption
theorem mt_le (s : ByteArray) (a d : Nat) : mt s a d ≤ 258 := by have := mtF_le s a d 258 0; unfold mt; omega
theorem mt_all (s : ByteArray) (a d : Nat) {k : Nat} (h : k < mt s a d) : eqn s a d k := mtF_all s a d 258 0 k (Nat.zero_le _) h
theorem mt_size (s : ByteArray) (a d : Nat) (ha : a < s.size) : mt s a d ≤ s.size - a := by
  by_cases h : mt s a d = 0
  · omega
  · have := (mt_all s a d (k := mt s a d - 1) (by omega)).1
    omega
/-- a byte that differs ends it -/
theorem mt_skip (s : ByteArray) (a d : Nat) {k : Nat} (h : at8 s (a + k) ≠ at8 s (a + k - d)) : mt s a d ≤ k := by
  refine Nat.le_of_not_lt fun hk => ?_
  exact h (mt_all s a d hk).2
/-- the longest one of the first k distances, the nearest of these -/
def best (s : ByteArray) (a : Nat) : Nat → Nat × Nat
  | 0 => (0, 0)
  | k + 1 => if (best s a k).1 < mt s a (k + 1) then (mt s a (k + 1), k + 1) else best s a k
/-- a run's length and distance -/
def cut3 (b : Nat × Nat) : Nat × Nat := if b.1 < 3 then (0, 0) else b
def run (s : ByteArray) (a : Nat) : Nat × Nat := cut3 (best s a (min a 32768))
/-- what a search holds -/
def held (b : Nat × Nat) : Nat × Nat := if b.1 < 3 then (2, 0) else b
theorem best_far (s : ByteArray) (a : Nat) : ∀ k, (best s a k).2 ≤ k ∧ ((best s a k).1 = 0 ∨ 1 ≤ (best s a k).2) ∧ (best s a k).1 ≤ 258
  | 0 => ⟨Nat.le_refl _, Or.inl rfl, by show 0 ≤ 258; omega⟩
  | k + 1 => by
    have ih := best_far s a k
    rw [best]
    split
    · have := mt_le s a (k + 1)
      exact ⟨Nat.le_refl _, Or.inr (by show 1 ≤ k + 1; omega), this⟩
    · exact ⟨by omega, ih.2.1, ih.2.2⟩
/-- it is there -/
theorem best_mt (s : ByteArray) (a : Nat) : ∀ k, (best s a k).1 = 0 ∨ mt s a (best s a k).2 = (best s a k).1
  | 0 => Or.inl rfl
  | k + 1 => by
    rw [best]
    split
    · exact Or.inr rfl
    · exact best_mt s a k
/-- no other is longer, nor one as long nearer -/
theorem best_top (s : ByteArray) (a : Nat) : ∀ k d, 1 ≤ d → d ≤ k → mt s a d ≤ (best s a k).1 ∧ (mt s a d = (best s a k).1 → (best s a k).2 ≤ d)
  | 0, d, h1, h2 => by omega
  | k + 1, d, h1, h2 => by
    rw [best]
    by_cases hd : d = k + 1
    · subst hd
      split
      · exact ⟨Nat.le_refl _, fun _ => Nat.le_refl _⟩
      · have := best_far s a k
        refine ⟨by omega, fun _ => by omega⟩
    · have ih := best_top s a k d h1 (by omega)
      split
      · exact ⟨by show _ ≤ mt s a (k + 1); omega, fun h => by have h : mt s a d = mt s a (k + 1) := h; omega⟩
      · exact ih
theorem held_step (s : ByteArray) (a k : Nat) : held (best s a (k + 1)) = if (held (best s a k)).1 < mt s a (k + 1) then (mt s a (k + 1), k + 1) else held (best s a k) := by
  unfold held
  rw [best]
  split <;> split <;> (try split) <;> (try split) <;> simp_all <;> omega
theorem held_ge (b : Nat × Nat) : 2 ≤ (held b).1 := by
  unfold held
  split
  · exact Nat.le_refl 2
  · omega
theorem held_top (s : ByteArray) (a k : Nat) (ha : a < s.size) (h : min 258 (s.size - a) ≤ (held (best s a k)).1) : ∀ j, held (best s a (k + j)) = held (best s a k)
  | 0 => rfl
  | j + 1 => by
    have ih := held_top s a k ha h j
    rw [← Nat.add_assoc, held_step, ih, if_neg]
    have h1 := mt_le s a (k + j + 1)
    have h2 := mt_size s a (k + j + 1) ha
    omega
/-- what a search tells -/
def told (h : Nat × Nat) : Nat × Nat := if h.2 = 0 then (0, 0) else h
theorem told_held (s : ByteArray) (a k : Nat) : told (held (best s a k)) = cut3 (best s a k) := by
  have := best_far s a k
  unfold told held cut3
  split
  · rename_i h
    rw [if_pos rfl]
  · rename_i h
    rw [if_neg (by omega)]
end Go.Proofs.Ytddiccdfeckgaaa.D
