import Derived.Test.YtgflnkkhcapkmaaH2
/- Plain facts: a code laid down bit by bit, in two bytes. -/
namespace Go.Proofs.Ytgflnkkhcapkmaa.Hf
set_option linter.unusedVariables false
open Go.Proofs.Ytgflnkkhcapkmaa.B (P2 P2_zero P2_succ P2_pos P2_add P2_le P2_lt P2_sub)
def bb (q L m : Nat) : Nat := q / P2 (L - 1 - m) % 2
theorem bb_lt (q L m : Nat) : bb q L m < 2 := Nat.mod_lt _ (by omega)
def VV (q L : Nat) : Nat → Nat
  | 0 => 0
  | i + 1 => VV q L i + bb q L i * P2 i
theorem VV_succ (q L i : Nat) : VV q L (i + 1) = VV q L i + bb q L i * P2 i := rfl
theorem VV_one (q L i : Nat) (h : bb q L i = 1) : VV q L (i + 1) = VV q L i + P2 i := by rw [VV_succ, h, Nat.one_mul]
theorem VV_zero (q L i : Nat) (h : bb q L i = 0) : VV q L (i + 1) = VV q L i := by rw [VV_succ, h, Nat.zero_mul]; rfl
theorem VV_lt (q L i : Nat) : VV q L i < P2 i := by
  induction i with
  | zero => rw [P2_zero]; exact Nat.zero_lt_one
  | succ i ih =>
    rw [VV_succ, P2_succ]
    have h := bb_lt q L i
    have : bb q L i = 0 ∨ bb q L i = 1 := by omega
    rcases this with h | h <;> rw [h] <;> omega
theorem VV_bit (q L i m : Nat) (h : m < i) : VV q L i / P2 m % 2 = bb q L m := by
  induction i with
  | zero => omega
  | succ i ih =>
    rw [VV_succ]
    by_cases e : m = i
    · subst e
      have h1 := VV_lt q L m
      have h2 := bb_lt q L m
      rw [Nat.add_mul_div_right _ _ (P2_pos m), Nat.div_eq_of_lt h1]
      omega
    · have h1 := ih (by omega)
      have e1 : P2 i = P2 m * (2 * P2 (i - m - 1)) := by rw [← P2_succ, ← P2_add]; congr 1; omega
      have e2 : bb q L i * P2 i = bb q L i * (2 * P2 (i - m - 1)) * P2 m := by rw [e1, Nat.mul_assoc (bb q L i), Nat.mul_comm (P2 m)]
      have e3 : bb q L i * (2 * P2 (i - m - 1)) = 2 * (bb q L i * P2 (i - m - 1)) := Nat.mul_left_comm _ _ _
      rw [e2, Nat.add_mul_div_right _ _ (P2_pos m), e3]
      omega
/-- two bytes of a number -/
def lb (V : Nat) : List UInt8 := [UInt8.ofNat (V % 256), UInt8.ofNat (V / 256)]
theorem lb_len (V : Nat) : (lb V).length = 2 := rfl
theorem ofNat_toNat (x : Nat) (h : x < 256) : (UInt8.ofNat x).toNat = x := by rw [UInt8.toNat_ofNat']; exact Nat.mod_eq_of_lt h
theorem lb_at (V i : Nat) (hV : V < 65536) (h : i / 8 < (lb V).length) : (lb V)[i / 8].toNat = V / P2 (8 * (i / 8)) % 256 := by
  rw [lb_len] at h
  have : i / 8 = 0 ∨ i / 8 = 1 := by omega
  rcases this with e | e
  · simp only [e]
    show (UInt8.ofNat (V % 256)).toNat = _
    rw [ofNat_toNat _ (by omega)]
    simp [P2_zero]
  · simp only [e]
    show (UInt8.ofNat (V / 256)).toNat = _
    rw [ofNat_toNat _ (by omega), show P2 (8 * 1) = 256 from rfl]
    omega
theorem or_P2 (x k : Nat) (h : x < P2 k) : x ||| P2 k = x + P2 k := by
  have := Nat.two_pow_add_eq_or_of_lt (i := k) (b := x) h 1
  unfold P2
  rw [Nat.or_comm]
  rw [Nat.mul_one] at this
  rw [← this, Nat.add_comm]
theorem lb_or (V i : Nat) (hi : i < 15) (hV : V < P2 i) (h : i / 8 < (lb V).length) : (lb V).set (i / 8) (UInt8.ofNat ((lb V)[i / 8].toNat ||| P2 (i % 8))) = lb (V + P2 i) := by
  have hV2 : V < 65536 := Nat.lt_of_lt_of_le hV (P2_le (b := 16) (by omega))
  rw [lb_at V i hV2 h]
  by_cases h8 : i < 8
  · have e1 : i / 8 = 0 := by omega
    have e2 : i % 8 = i := by omega
    have b1 : P2 i ≤ 128 := P2_le (b := 7) (by omega)
    have e3 : V / P2 (8 * (i / 8)) % 256 = V := by rw [e1]; simp [P2_zero]; omega
    rw [e3, e2, or_P2 V i hV]
    unfold lb
    rw [show (V + P2 i) % 256 = V + P2 i by omega, show (V + P2 i) / 256 = V / 256 by omega]
    simp [e1]
  · have e1 : i / 8 = 1 := by omega
    have e2 : i % 8 = i - 8 := by omega
    have e4 : P2 i = 256 * P2 (i - 8) := by rw [show (256 : Nat) = P2 8 from rfl, ← P2_add]; congr 1; omega
    have b1 : P2 (i - 8) ≤ 64 := P2_le (b := 6) (by omega)
    have e3 : V / P2 (8 * (i / 8)) % 256 = V / 256 := by rw [e1, show P2 (8 * 1) = 256 from rfl]; omega
    have hq : V / 256 < P2 (i - 8) := by omega
    rw [e3, e2, or_P2 _ _ hq]
    unfold lb
    rw [show (V + P2 i) % 256 = V % 256 by omega, show (V + P2 i) / 256 = V / 256 + P2 (i - 8) by omega]
    simp [e1]
theorem lb_bit (V m : Nat) (hV : V < 65536) (hm : m < 16) (h : m / 8 < (lb V).length) : (lb V)[m / 8].toNat / P2 (m % 8) % 2 = V / P2 m % 2 := by
  rw [lb_at V m hV h]
  have : m / 8 = 0 ∨ m / 8 = 1 := by omega
  have hp : P2 (m % 8) ≤ 128 := P2_le (b := 7) (by omega)
  rcases this with e | e
  · have e2 : m % 8 = m := by omega
    rw [e, e2, show P2 (8 * 0) = 1 from rfl, Nat.div_one]
    have e3 : (256 : Nat) = P2 m * (2 * P2 (7 - m)) := by rw [← P2_succ, ← P2_add, show m + (7 - m + 1) = 8 by omega]; rfl
    rw [e3, Nat.mod_mul_right_div_self]
    rw [Nat.mod_mul_right_mod]
  · have e2 : m % 8 = m - 8 := by omega
    have e4 : P2 m = 256 * P2 (m - 8) := by rw [show (256 : Nat) = P2 8 from rfl, ← P2_add]; congr 1; omega
    rw [e, e2, show P2 (8 * 1) = 256 from rfl, e4, ← Nat.div_div_eq_div_mul, Nat.mod_eq_of_lt (by omega : V / 256 < 256)]
end Go.Proofs.Ytgflnkkhcapkmaa.Hf
