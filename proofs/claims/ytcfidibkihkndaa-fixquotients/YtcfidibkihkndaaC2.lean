import Derived.Test.YtcfidibkihkndaaC1
namespace Go.Proofs.Ytcfidibkihkndaa
open Go.RowKit
set_option linter.unusedVariables false

theorem divided (a b c : Int) (W : World) (c0 : -9223372036854775808 ≤ c) (c1 : c ≤ 9223372036854775807) (hl : phi a b < (c.natAbs : Int)) :
    Calls Try.prog 35 #[.int .u64 (phi a b), .int .u64 (plo a b), .int .u64 (c.natAbs : Int)] W fun e w' =>
      e = .returned (.tuple #[.int .u64 (((a.natAbs * b.natAbs) / c.natAbs : Nat) : Int), .int .u64 (((a.natAbs * b.natAbs) % c.natAbs : Nat) : Int)]) ∧ ∃ n, w' = W.drewN n := by
  unfold phi plo at *
  have h := div64_any (a.natAbs * b.natAbs / 18446744073709551616) (a.natAbs * b.natAbs % 18446744073709551616) c.natAbs W (by omega) (by omega) (Nat.mod_lt _ (by omega))
  rw [Nat.div_add_mod'] at h
  exact h

def fits (x : Int) : Bool := decide (-9223372036854775808 ≤ x) && decide (x ≤ 9223372036854775807)

theorem signed_of (t : Bool) (n : Int) (W : World) (h0 : 0 ≤ n) (h1 : n < 18446744073709551616) :
    Calls Try.prog 26 #[.bool t, .int .u64 n] W fun e w' => e = .returned (.tuple #[.int .i64 (if fits (if t then -n else n) then (if t then -n else n) else 0), .bool (fits (if t then -n else n))]) ∧ W = w' := by
  cases t
  · simp only [Bool.false_eq_true, if_false]
    by_cases h : n ≤ 9223372036854775807
    · rw [show fits n = true by simp [fits]; omega, if_pos rfl]
      exact signed_pos n W h0 (by omega)
    · rw [show fits n = false by simp [fits]; omega, if_neg (by decide)]
      exact signed_no false n W (.inr ⟨rfl, by omega⟩)
  · simp only [if_true]
    by_cases h : n ≤ 9223372036854775808
    · rw [show fits (-n) = true by simp [fits]; omega, if_pos rfl]
      exact signed_neg n W h0 h
    · rw [show fits (-n) = false by simp [fits]; omega, if_neg (by decide)]
      exact signed_no true n W (.inl ⟨rfl, by omega⟩)

theorem muldiv_zero (a b : Int) (w : World) (a0 : -9223372036854775808 ≤ a) (a1 : a ≤ 9223372036854775807) (b0 : -9223372036854775808 ≤ b) (b1 : b ≤ 9223372036854775807) :
    Calls Try.prog 20 #[.int .i64 a, .int .i64 b, .int .i64 0] w fun e w' => e = .returned (.tuple #[.int .i64 0, .bool false]) ∧ Below w.heap.size w w' :=
  muldiv_core_no a b 0 w a0 a1 b0 b1 (by omega) (by omega) (by have := (p_bounds a b).1; simpa using this)

theorem muldiv_any (a b c : Int) (w : World) (a0 : -9223372036854775808 ≤ a) (a1 : a ≤ 9223372036854775807) (b0 : -9223372036854775808 ≤ b) (b1 : b ≤ 9223372036854775807)
    (c0 : -9223372036854775808 ≤ c) (c1 : c ≤ 9223372036854775807) (hc : c ≠ 0) :
    Calls Try.prog 20 #[.int .i64 a, .int .i64 b, .int .i64 c] w fun e w' => e = .returned (.tuple #[.int .i64 (if fits ((a * b).fdiv c) then (a * b).fdiv c else 0), .bool (fits ((a * b).fdiv c))]) ∧ Below w.heap.size w w' := by
  have hn : (a * b).natAbs = a.natAbs * b.natAbs := Int.natAbs_mul a b
  have hd := Nat.div_add_mod' (a * b).natAbs c.natAbs
  have hm : (a * b).natAbs % c.natAbs < c.natAbs := Nat.mod_lt _ (by omega)
  have hf := M2.fdiv_sizes (a * b) c hc _ _ hd.symm hm
  by_cases hk : (c.natAbs : Int) ≤ phi a b
  · have hq : 18446744073709551616 ≤ (a * b).natAbs / c.natAbs := by
      rw [Nat.le_div_iff_mul_le (by omega), hn]
      unfold phi at hk
      have : c.natAbs ≤ a.natAbs * b.natAbs / 18446744073709551616 := by exact_mod_cast hk
      have := (Nat.le_div_iff_mul_le (by omega)).1 this
      rw [Nat.mul_comm]; exact this
    have hx : fits ((a * b).fdiv c) = false := by
      rw [hf]
      generalize (a * b).natAbs / c.natAbs = q at *
      unfold fits
      split
      · split <;> (simp; omega)
      · simp; omega
    rw [hx, if_neg (by decide)]
    exact muldiv_core_no a b c w a0 a1 b0 b1 c0 c1 (by simpa using hk)
  · have hq : (a * b).natAbs / c.natAbs < 18446744073709551616 := by
      rw [Nat.div_lt_iff_lt_mul (by omega), hn]
      unfold phi at hk
      have : a.natAbs * b.natAbs / 18446744073709551616 < c.natAbs := by omega
      have := (Nat.div_lt_iff_lt_mul (by omega)).1 this
      rw [Nat.mul_comm 18446744073709551616]; exact this
    have DV := fun W => divided a b c W c0 c1 (by omega)
    rw [← hn] at DV
    generalize hQ : (a * b).natAbs / c.natAbs = q at *
    generalize hR : (a * b).natAbs % c.natAbs = r at *
    refine muldiv_core a b c w a0 a1 b0 b1 c0 c1 (by simpa using hk) q r (by omega) (by omega) (Lib.hid DV) _ _ _ _ rfl rfl rfl rfl _ _ (Lib.hid ?_) (Lib.hid ?_)
    · intro h
      rw [p_sign] at h
      simp only [Bool.and_eq_true] at h
      obtain ⟨⟨h1, h2⟩, h3⟩ := h
      have hr0 : ¬ r = 0 := by simpa using h2
      have hqm : (q : Int) = 18446744073709551615 := by simpa using h3
      have hx : fits ((a * b).fdiv c) = false := by
        rw [hf, if_pos h1, if_neg hr0, hqm]
        decide
      rw [hx]
      exact ⟨by rw [if_neg (by decide)], rfl⟩
    · intro W h
      rw [p_sign] at h ⊢
      have hx : (a * b).fdiv c = if (decide (a * b < 0) != decide (c < 0)) then -(if (decide (a * b < 0) != decide (c < 0)) && ((r : Int) != 0) then (q : Int) + 1 else (q : Int)) else (if (decide (a * b < 0) != decide (c < 0)) && ((r : Int) != 0) then (q : Int) + 1 else (q : Int)) := by
        rw [hf]
        by_cases h1 : (decide (a * b < 0) != decide (c < 0)) = true
        · rw [if_pos h1, if_pos h1, h1]
          by_cases h2 : r = 0
          · rw [if_pos h2, if_neg (by simp [h2])]
          · rw [if_neg h2, if_pos (by simpa using h2)]
        · rw [if_neg h1, if_neg h1]
          have h1' : (decide (a * b < 0) != decide (c < 0)) = false := by simpa using h1
          rw [h1', if_neg (by simp)]
      rw [hx]
      refine signed_of _ _ W ?_ ?_
      · split <;> omega
      · split
        · rename_i h4
          rw [h4] at h
          simp only [Bool.true_and] at h
          have : (q : Int) ≠ 18446744073709551615 := by simpa using h
          omega
        · omega

end Go.Proofs.Ytcfidibkihkndaa
