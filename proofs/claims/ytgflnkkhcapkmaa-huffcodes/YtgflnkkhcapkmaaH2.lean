import Derived.Test.YtgflnkkhcapkmaaH1
/- Plain facts: the symbols in the order of their codes. -/
namespace Go.Proofs.Ytgflnkkhcapkmaa.Hf
set_option linter.unusedVariables false

/-- where a symbol stands among all in the order of their codes -/
def pos (zs : List Int) (i : Nat) : Nat := st zs (zs.getD i 0).toNat + cn (zs.take i) (zs.getD i 0).toNat
theorem pos_at (zs : List Int) (i m : Nat) (h : i < zs.length) (hm : zs[i] = (m : Int)) : pos zs i = st zs m + cn (zs.take i) m := by
  unfold pos; rw [getD_eq zs i h, hm, Int.toNat_natCast]
theorem pos_lt (zs : List Int) (i m : Nat) (h : i < zs.length) (hm : zs[i] = (m : Int)) (h0 : 0 < m) : pos zs i < st zs (m + 1) := by
  rw [pos_at zs i m h hm, st_succ]
  have := cn_lt zs i h (by omega)
  rw [hm, Int.toNat_natCast] at this
  omega
theorem pos_ne_lt (zs : List Int) (i j : Nat) (hij : i < j) (hj : j < zs.length) (h0 : 0 < zs[i]) (h1 : 0 < zs[j]) : pos zs i ≠ pos zs j := by
  have hi : i < zs.length := by omega
  obtain ⟨m, hm⟩ : ∃ m : Nat, zs[i] = (m : Int) := ⟨zs[i].toNat, by omega⟩
  obtain ⟨n, hn⟩ : ∃ n : Nat, zs[j] = (n : Int) := ⟨zs[j].toNat, by omega⟩
  rcases Nat.lt_trichotomy m n with h | h | h
  · have a := pos_lt zs i m hi hm (by omega)
    have b := st_mono zs (a := m + 1) (b := n) (by omega)
    rw [pos_at zs j n hj hn]
    omega
  · subst h
    rw [pos_at zs i m hi hm, pos_at zs j m hj hn]
    have := cn_lt2 zs i j hij hj h0
    rw [hm, Int.toNat_natCast] at this
    omega
  · have a := pos_lt zs j n hj hn (by omega)
    have b := st_mono zs (a := n + 1) (b := m) (by omega)
    rw [pos_at zs i m hi hm]
    omega
def sy (zs : List Int) : Nat → Nat → Nat
  | 0, _ => 0
  | k + 1, p => if 0 < zs.getD k 0 ∧ p = pos zs k then k else sy zs k p
theorem sy_zero (zs : List Int) (p : Nat) : sy zs 0 p = 0 := rfl
theorem sy_pos (zs : List Int) (k : Nat) (h : k < zs.length) (h0 : 0 < zs[k]) (p : Nat) : sy zs (k + 1) p = if p = pos zs k then k else sy zs k p := by
  rw [sy, getD_eq zs k h]
  by_cases e : p = pos zs k
  · rw [if_pos ⟨h0, e⟩, if_pos e]
  · rw [if_neg (by omega), if_neg e]
theorem sy_none (zs : List Int) (k : Nat) (h : k < zs.length) (h0 : ¬ 0 < zs[k]) (p : Nat) : sy zs (k + 1) p = sy zs k p := by
  rw [sy, getD_eq zs k h, if_neg (by omega)]
theorem sy_at (zs : List Int) (i : Nat) (h : i < zs.length) (h0 : 0 < zs[i]) : ∀ k, k ≤ zs.length → i < k → sy zs k (pos zs i) = i := by
  intro k
  induction k with
  | zero => intro _ h; omega
  | succ k ih =>
    intro hk hi
    by_cases e : i = k
    · subst e; rw [sy_pos zs i h h0, if_pos rfl]
    · by_cases hz : 0 < zs[k]
      · rw [sy_pos zs k (by omega) hz, if_neg (pos_ne_lt zs i k (by omega) (by omega) h0 hz), ih (by omega) (by omega)]
      · rw [sy_none zs k (by omega) hz, ih (by omega) (by omega)]
theorem sy_sym (zs : List Int) (n j : Nat) (h : j < cn zs n) : sy zs zs.length (st zs n + j) = sym zs n j := by
  obtain ⟨k, hk, h1, h2, h3⟩ := rank_sur zs n j h
  have e := sym_at zs k n hk h2 h1
  rw [h3] at e
  rw [e, ← h3, ← pos_at zs k n hk h1]
  exact sy_at zs k hk (by omega) zs.length (Nat.le_refl _) hk
end Go.Proofs.Ytgflnkkhcapkmaa.Hf
