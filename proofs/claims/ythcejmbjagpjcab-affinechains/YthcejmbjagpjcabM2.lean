import Derived.Test.YthcejmbjagpjcabM1
/- Plain facts on products in two words. No program is named here. -/
namespace Go.Proofs.Ythcejmbjagpjcab.M2

theorem neg_iff (a b : Int) : decide (a * b < 0) = ((decide (a < 0) != decide (b < 0)) && (a != 0) && (b != 0)) := by
  have hz : a = 0 ∨ b = 0 → a * b = 0 := by rintro (h | h) <;> subst h <;> simp
  rcases Int.lt_trichotomy a 0 with h | h | h <;> rcases Int.lt_trichotomy b 0 with k | k | k
  · have := Int.mul_pos_of_neg_of_neg h k
    have e1 : decide (a < 0) = true := by simpa using h
    have e2 : decide (b < 0) = true := by simpa using k
    have e3 : decide (a * b < 0) = false := by simp; omega
    simp [e1, e2, e3]
  · subst k; simp
  · have := Int.mul_neg_of_neg_of_pos h k
    have e1 : decide (a < 0) = true := by simpa using h
    have e2 : decide (b < 0) = false := by simp; omega
    have e3 : decide (a * b < 0) = true := by simpa using this
    have e4 : (a != 0) = true := by simp; omega
    have e5 : (b != 0) = true := by simp; omega
    simp [e1, e2, e3, e4, e5]
  · subst h; simp
  · subst h; simp
  · subst h; simp
  · have := Int.mul_neg_of_pos_of_neg h k
    have e1 : decide (a < 0) = false := by simp; omega
    have e2 : decide (b < 0) = true := by simpa using k
    have e3 : decide (a * b < 0) = true := by simpa using this
    have e4 : (a != 0) = true := by simp; omega
    have e5 : (b != 0) = true := by simp; omega
    simp [e1, e2, e3, e4, e5]
  · subst k; simp
  · have := Int.mul_pos h k
    have e1 : decide (a < 0) = false := by simp; omega
    have e2 : decide (b < 0) = false := by simp; omega
    have e3 : decide (a * b < 0) = false := by simp; omega
    simp [e1, e2, e3]

theorem size_lt (a b : Int) (a0 : -9223372036854775808 ≤ a) (a1 : a ≤ 9223372036854775807) (b0 : -9223372036854775808 ≤ b) (b1 : b ≤ 9223372036854775807) :
    a.natAbs * b.natAbs ≤ 85070591730234615865843651857942052864 := Nat.mul_le_mul (show a.natAbs ≤ 9223372036854775808 by omega) (show b.natAbs ≤ 9223372036854775808 by omega)

/-- the floor of n by c out of the division of their sizes -/
theorem fdiv_sizes (n c : Int) (hc : c ≠ 0) (q r : Nat) (e : n.natAbs = q * c.natAbs + r) (hr : r < c.natAbs) :
    n.fdiv c = if decide (n < 0) != decide (c < 0) then (if r = 0 then -(q : Int) else -((q : Int) + 1)) else (q : Int) := by
  have hp : (q : Int) * (c.natAbs : Int) = ((q * c.natAbs : Nat) : Int) := by push_cast; rfl
  generalize hP : q * c.natAbs = P at *
  by_cases h1 : n < 0 <;> by_cases h2 : c < 0
  · have hcc : (c.natAbs : Int) = -c := by omega
    rw [hcc] at hp
    have hp2 : c * (q : Int) = -(P : Int) := by rw [← hp, Int.mul_neg, Int.mul_comm]; omega
    rw [if_neg (by simp [h1, h2])]
    exact (M1.fdiv_unique n c q (-(r : Int)) hc (by omega) (by omega) (by omega)).1
  · have hcc : (c.natAbs : Int) = c := by omega
    rw [hcc] at hp
    have hp2 : c * (q : Int) = (P : Int) := by rw [← hp, Int.mul_comm]
    rw [if_pos (by simp [h1, h2])]
    split
    · exact (M1.fdiv_unique n c (-(q : Int)) 0 hc (by rw [Int.mul_neg]; omega) (by omega) (by omega)).1
    · exact (M1.fdiv_unique n c (-((q : Int) + 1)) (c - r) hc (by rw [Int.mul_neg, Int.mul_add]; omega) (by omega) (by omega)).1
  · have hcc : (c.natAbs : Int) = -c := by omega
    rw [hcc] at hp
    have hp2 : c * (q : Int) = -(P : Int) := by rw [← hp, Int.mul_neg, Int.mul_comm]; omega
    rw [if_pos (by simp [h1, h2])]
    split
    · exact (M1.fdiv_unique n c (-(q : Int)) 0 hc (by rw [Int.mul_neg]; omega) (by omega) (by omega)).1
    · exact (M1.fdiv_unique n c (-((q : Int) + 1)) (r + c) hc (by rw [Int.mul_neg, Int.mul_add]; omega) (by omega) (by omega)).1
  · have hcc : (c.natAbs : Int) = c := by omega
    rw [hcc] at hp
    have hp2 : c * (q : Int) = (P : Int) := by rw [← hp, Int.mul_comm]
    rw [if_neg (by simp [h1, h2])]
    exact (M1.fdiv_unique n c q r hc (by omega) (by omega) (by omega)).1
end Go.Proofs.Ythcejmbjagpjcab.M2
