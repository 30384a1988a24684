/- Plain facts on square roots, bit by bit. No program is named here. -/
namespace Go.Proofs.Ythcejmbjagpjcab.M3

/-- the root by its k lower bits, above what is known of it -/
def rt : Nat → Nat → Nat → Nat
  | 0, r, _ => r
  | k + 1, r, n => if (r + 2 ^ k) * (r + 2 ^ k) ≤ n then rt k (r + 2 ^ k) n else rt k r n

theorem rt_spec (k r n : Nat) (h1 : r * r ≤ n) (h2 : n < (r + 2 ^ k) * (r + 2 ^ k)) : rt k r n * rt k r n ≤ n ∧ n < (rt k r n + 1) * (rt k r n + 1) := by
  induction k generalizing r with
  | zero => exact ⟨h1, by simpa [rt] using h2⟩
  | succ k ih =>
    unfold rt
    split
    · rename_i h
      exact ih _ h (by rw [Nat.add_assoc, ← Nat.two_mul, ← Nat.pow_succ']; exact h2)
    · rename_i h
      exact ih _ h1 (by omega)

def root (n : Nat) : Nat := rt 32 0 n
theorem root_spec (n : Nat) (h : n < 18446744073709551616) : root n * root n ≤ n ∧ n < (root n + 1) * (root n + 1) := rt_spec 32 0 n (by omega) (by omega)
theorem sq_lt {a b : Nat} (h : a * a < b * b) : a < b := by
  rcases Nat.lt_or_ge a b with h1 | h1
  · exact h1
  · have := Nat.mul_le_mul h1 h1; omega
theorem root_small (n : Nat) (h : n < 9223372036854775808) : root n ≤ 3037000499 := by
  have ⟨h1, _⟩ := root_spec n (by omega)
  rcases Nat.lt_or_ge 3037000499 (root n) with h2 | h2
  · have := Nat.mul_le_mul (show 3037000500 ≤ root n by omega) (show 3037000500 ≤ root n by omega); omega
  · exact h2
theorem or_add (r j a : Nat) (h : r = 2 ^ (j + 1) * a) : r ||| 2 ^ j = r + 2 ^ j := by
  subst h
  rw [← Nat.two_pow_add_eq_or_of_lt]
  rw [Nat.pow_succ]
  have := Nat.two_pow_pos j
  omega
theorem sq_small (m n : Nat) (h : n < 9223372036854775808) (h2 : 3037000499 < m) : n < m * m := by
  have := Nat.mul_le_mul (show 3037000500 ≤ m by omega) (show 3037000500 ≤ m by omega)
  omega
end Go.Proofs.Ythcejmbjagpjcab.M3
