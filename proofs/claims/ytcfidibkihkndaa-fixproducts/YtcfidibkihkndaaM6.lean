import Derived.Test.YtcfidibkihkndaaM5
/- Plain facts on the division of sizes, bit by bit. No program is named here. -/
namespace Go.Proofs.Ytcfidibkihkndaa.M6
open M5

theorem dg_val (l : List Nat) (k : Nat) (hd : Dig l) : dg l k = val l / 65536 ^ k % 65536 := by
  rcases Nat.lt_or_ge k l.length with h | h
  · have h1 : val (l.take k) < 65536 ^ k := by
      have := val_lt (l.take k) (dig_take hd k)
      rwa [List.length_take, Nat.min_eq_left (by omega)] at this
    have hp : 0 < 65536 ^ k := Nat.pow_pos (by omega)
    rw [val_split l k (by omega), Nat.add_mul_div_left _ _ hp, Nat.div_eq_of_lt h1, val_drop l k h]
    have := dig_at hd k
    omega
  · have h1 := val_lt l hd
    have h2 : 65536 ^ l.length ≤ 65536 ^ k := Nat.pow_le_pow_right (by omega) h
    rw [dg_out l k h, Nat.div_eq_of_lt (by omega)]

theorem pow_split (m : Nat) (hm : m ≤ 15) : 65536 = 2 ^ m * (2 * 2 ^ (15 - m)) ∧ 0 < 2 ^ m ∧ 0 < 2 ^ (15 - m) := by
  have e : 2 ^ m * (2 * 2 ^ (15 - m)) = 2 ^ (m + (1 + (15 - m))) := by rw [Nat.pow_add, Nat.pow_add]
  rw [show m + (1 + (15 - m)) = 16 by omega] at e
  exact ⟨by rw [e], Nat.two_pow_pos _, Nat.two_pow_pos _⟩

theorem bit_at (N m : Nat) (hm : m ≤ 15) : N % 65536 / 2 ^ m % 2 = N / 2 ^ m % 2 := by
  have ⟨e, h1, h2⟩ := pow_split m hm
  have h3 := Nat.div_add_mod N 65536
  have h4 : N / 2 ^ m = N % 65536 / 2 ^ m + 2 * (2 ^ (15 - m) * (N / 65536)) := by
    conv => lhs; rw [← h3]
    rw [e, Nat.mul_assoc, Nat.mul_add_div h1, ← e, Nat.mul_assoc, Nat.add_comm]
  omega

/-- a digit that is a multiple has room for half of it -/
theorem room (l : List Nat) (k m Z : Nat) (hd : Dig l) (hm : m ≤ 15) (h : val l = Z * (65536 ^ k * 2 ^ (m + 1))) : dg l k + 2 ^ m < 65536 := by
  have ⟨e, h1, h2⟩ := pow_split m hm
  have hp : 0 < 65536 ^ k := Nat.pow_pos (by omega)
  have e1 : val l / 65536 ^ k = Z * 2 ^ (m + 1) := by
    rw [h, Nat.mul_comm (65536 ^ k), ← Nat.mul_assoc, Nat.mul_div_cancel _ hp]
  rw [dg_val l k hd, e1, Nat.pow_succ]
  have e2 : 65536 = 2 ^ m * 2 * 2 ^ (15 - m) := by rw [Nat.mul_assoc]; exact e
  have e3 : Z * (2 ^ m * 2) % 65536 = 2 ^ m * 2 * (Z % 2 ^ (15 - m)) := by
    conv => lhs; rw [e2, Nat.mul_comm Z]
    rw [Nat.mul_mod_mul_left]
  rw [e3]
  have h5 : Z % 2 ^ (15 - m) + 1 ≤ 2 ^ (15 - m) := Nat.mod_lt _ h2
  have h6 := Nat.mul_le_mul (Nat.le_refl (2 ^ m * 2)) h5
  rw [← e2, Nat.mul_add] at h6
  omega

theorem step (A D p : Nat) (hD : 0 < D) : A / p = 2 * (A / (p * 2)) + A / p % 2 ∧
    (D ≤ 2 * (A / (p * 2) % D) + A / p % 2 → A / p / D = 2 * (A / (p * 2) / D) + 1 ∧ A / p % D = 2 * (A / (p * 2) % D) + A / p % 2 - D) ∧
    (2 * (A / (p * 2) % D) + A / p % 2 < D → A / p / D = 2 * (A / (p * 2) / D) ∧ A / p % D = 2 * (A / (p * 2) % D) + A / p % 2) := by
  rw [← Nat.div_div_eq_div_mul]
  generalize A / p = N
  have h1 : N = 2 * (N / 2) + N % 2 := by omega
  generalize N / 2 = H at *
  have h2 := Nat.div_add_mod H D
  have h3 := Nat.mod_lt H hD
  generalize H / D = Q at *
  generalize H % D = R at *
  refine ⟨h1, fun h => ?_, fun h => ?_⟩
  · have e : N = (2 * R + N % 2 - D) + D * (2 * Q + 1) := by
      rw [Nat.mul_add, Nat.mul_left_comm]; omega
    have l : 2 * R + N % 2 - D < D := by omega
    constructor
    · conv => lhs; rw [e]
      rw [Nat.add_mul_div_left _ _ hD, Nat.div_eq_of_lt l, Nat.zero_add]
    · conv => lhs; rw [e]
      rw [Nat.add_mul_mod_self_left, Nat.mod_eq_of_lt l]
  · have e : N = (2 * R + N % 2) + D * (2 * Q) := by
      rw [Nat.mul_left_comm]; omega
    constructor
    · conv => lhs; rw [e]
      rw [Nat.add_mul_div_left _ _ hD, Nat.div_eq_of_lt h, Nat.zero_add]
    · conv => lhs; rw [e]
      rw [Nat.add_mul_mod_self_left, Nat.mod_eq_of_lt h]

/-- a size that has a shorter value, cut -/
theorem val_cut (l : List Nat) (n : Nat) (hn : n ≤ l.length) (h : val l < 65536 ^ n) : val (l.take n) = val l := by
  have e := val_split l n hn
  rcases Nat.eq_zero_or_pos (val (l.drop n)) with h1 | h1
  · rw [h1] at e; omega
  · have : 65536 ^ n * 1 ≤ 65536 ^ n * val (l.drop n) := Nat.mul_le_mul (Nat.le_refl _) h1
    omega

/-- an even size, and one more -/
theorem val_inc (l : List Nat) (hd : Dig l) (h0 : 0 < l.length) (he : val l % 2 = 0) : dg l 0 + 1 < 65536 ∧ val (l.set 0 (dg l 0 + 1)) = val l + 1 ∧ Dig (l.set 0 (dg l 0 + 1)) := by
  have h1 := dg_val l 0 hd
  have h2 := dig_at hd 0
  rw [Nat.pow_zero, Nat.div_one] at h1
  have h3 : dg l 0 + 1 < 65536 := by omega
  have h4 := val_set l 0 (dg l 0 + 1) h0
  rw [Nat.pow_zero] at h4
  exact ⟨h3, by omega, dig_set hd _ _ h3⟩
end Go.Proofs.Ytcfidibkihkndaa.M6
