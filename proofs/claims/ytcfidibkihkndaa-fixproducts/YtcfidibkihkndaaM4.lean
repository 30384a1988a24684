/- Plain facts on the division of two words by one, digit by digit. No program is named here. -/
namespace Go.Proofs.Ytcfidibkihkndaa.M4

/-- one digit: what is known of U, c, Y = a K + b, with K = 2^32 -/
structure Digit (U c Y a b : Nat) : Prop where
  hY : Y = a * 4294967296 + b
  hb : b < 4294967296
  ha : 2147483648 ≤ a
  ha1 : a < 4294967296
  hU : U < Y
  hc : c < 4294967296

def quo (U c Y : Nat) : Nat := (U * 4294967296 + c) / Y
def rem (U c Y : Nat) : Nat := (U * 4294967296 + c) % Y

theorem quo_le {U c Y q : Nat} (h0 : 0 < Y) (h : q * Y ≤ U * 4294967296 + c) : q ≤ quo U c Y := (Nat.le_div_iff_mul_le h0).2 h
theorem quo_lt {U c Y q : Nat} (h0 : 0 < Y) (h : U * 4294967296 + c < q * Y) : quo U c Y < q := (Nat.div_lt_iff_lt_mul h0).2 h

theorem split (q a b : Nat) : q * (a * 4294967296 + b) = (q * a) * 4294967296 + q * b := by rw [Nat.mul_add, Nat.mul_assoc]

theorem start {U c Y a b : Nat} (D : Digit U c Y a b) : quo U c Y ≤ U / a ∧ U / a * a + U % a = U ∧ U % a < a ∧ U / a ≤ 4294967298 := by
  obtain ⟨hY, hb, ha, ha1, hU, hc⟩ := D
  refine ⟨?_, Nat.div_add_mod' U a, Nat.mod_lt _ (by omega), ?_⟩
  · rw [Nat.le_div_iff_mul_le (by omega)]
    have h := Nat.div_mul_le_self (U * 4294967296 + c) Y
    show quo U c Y * a ≤ U
    unfold quo
    rw [hY, split] at h
    rw [hY]
    generalize (U * 4294967296 + c) / (a * 4294967296 + b) * a = p at *
    omega
  · have h := Nat.div_mul_le_self U a
    rcases Nat.lt_or_ge 4294967298 (U / a) with h1 | h1
    · have := Nat.mul_le_mul (show 4294967299 ≤ U / a from h1) (Nat.le_refl a)
      omega
    · exact h1

theorem small {U c Y a b : Nat} (D : Digit U c Y a b) : quo U c Y < 4294967296 := by
  obtain ⟨hY, hb, ha, ha1, hU, hc⟩ := D
  exact quo_lt (by omega) (by omega)

theorem more {U c Y a b q r : Nat} (D : Digit U c Y a b) (hq : q * a + r = U) (h : 4294967296 ≤ q ∨ 4294967296 * r + c < q * b) : quo U c Y < q := by
  rcases h with h | h
  · have := small D; omega
  · obtain ⟨hY, hb, ha, ha1, hU, hc⟩ := D
    refine quo_lt (by omega) ?_
    rw [hY, split]
    generalize q * a = p at *
    generalize q * b = m at *
    omega

theorem done {U c Y a b q r : Nat} (D : Digit U c Y a b) (hq : q * a + r = U) (h : q * b ≤ 4294967296 * r + c) : q ≤ quo U c Y := by
  obtain ⟨hY, hb, ha, ha1, hU, hc⟩ := D
  refine quo_le (by omega) ?_
  rw [hY, split]
  generalize q * a = p at *
  generalize q * b = m at *
  omega

theorem brk {U c Y a b q r : Nat} (D : Digit U c Y a b) (hq : q * a + r = U) (h : 4294967296 ≤ r) : q ≤ quo U c Y := by
  refine done D hq ?_
  obtain ⟨hY, hb, ha, ha1, hU, hc⟩ := D
  have hlt : q < 4294967296 := by
    rcases Nat.lt_or_ge q 4294967296 with h1 | h1
    · exact h1
    · have := Nat.mul_le_mul h1 (Nat.le_refl a)
      omega
  have := Nat.mul_le_mul (show q ≤ 4294967296 by omega) (show b ≤ r by omega)
  omega

theorem less {q r a U : Nat} (hq : (q + 1) * a + r = U) : q * a + (r + a) = U := by
  rw [Nat.add_mul] at hq
  omega

theorem parts (U c Y : Nat) : U * 4294967296 + c = quo U c Y * Y + rem U c Y := (Nat.div_add_mod' _ _).symm
theorem rem_lt {U c Y a b : Nat} (D : Digit U c Y a b) : rem U c Y < Y := by
  obtain ⟨hY, hb, ha, ha1, hU, hc⟩ := D
  exact Nat.mod_lt _ (by omega)

theorem wide_eq (U c d : Nat) : U * 18446744073709551616 + (c * 4294967296 + d) = (U * 4294967296 + c) * 4294967296 + d := by
  rw [Nat.add_mul, Nat.mul_assoc, Nat.add_assoc]
theorem carry_eq (A r K d : Nat) : (A + r) * K + d = A * K + (r * K + d) := by rw [Nat.add_mul, Nat.add_assoc]

theorem both_plain (U c d Y q r p m : Nat) (e1 : U * 4294967296 + c = q * Y + r) (e2 : r * 4294967296 + d = p * Y + m) (l : m < Y) :
    (U * 18446744073709551616 + (c * 4294967296 + d)) / Y = q * 4294967296 + p ∧ (U * 18446744073709551616 + (c * 4294967296 + d)) % Y = m := by
  have e : U * 18446744073709551616 + (c * 4294967296 + d) = m + (q * 4294967296 + p) * Y := by
    rw [wide_eq, e1, carry_eq, e2, Nat.add_mul, Nat.mul_right_comm, ← Nat.add_assoc, Nat.add_comm]
  rw [e]
  exact ⟨by rw [Nat.add_mul_div_right _ _ (by omega), Nat.div_eq_of_lt l, Nat.zero_add], by rw [Nat.add_mul_mod_self_right, Nat.mod_eq_of_lt l]⟩

/-- both digits -/
theorem both {U c d Y a b : Nat} (D : Digit U c Y a b) (hd : d < 4294967296) :
    (U * 18446744073709551616 + (c * 4294967296 + d)) / Y = quo U c Y * 4294967296 + quo (rem U c Y) d Y ∧
    (U * 18446744073709551616 + (c * 4294967296 + d)) % Y = rem (rem U c Y) d Y := by
  have D2 : Digit (rem U c Y) d Y a b := ⟨D.hY, D.hb, D.ha, D.ha1, rem_lt D, hd⟩
  exact both_plain U c d Y _ _ _ _ (parts U c Y) (parts (rem U c Y) d Y) (rem_lt D2)

/-- shifted by s bits -/
theorem shifted (N y s : Nat) : N * 2 ^ s / (y * 2 ^ s) = N / y ∧ N * 2 ^ s % (y * 2 ^ s) / 2 ^ s = N % y := by
  have h2 := Nat.two_pow_pos s
  refine ⟨Nat.mul_div_mul_right _ _ h2, ?_⟩
  rw [Nat.mul_mod_mul_right, Nat.mul_div_cancel _ h2]
end Go.Proofs.Ytcfidibkihkndaa.M4
