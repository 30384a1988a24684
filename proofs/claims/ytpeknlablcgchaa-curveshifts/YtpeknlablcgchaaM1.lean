/- Plain facts on whole numbers: floors, remainders, products in two words. No program is named here. -/
namespace Go.Proofs.Ytpeknlablcgchaa.M1
theorem mul_small (b d r : Int) (h : b * d = r) (h1 : r.natAbs < b.natAbs) : d = 0 := by
  have := congrArg Int.natAbs h
  rw [Int.natAbs_mul] at this
  rcases Nat.eq_zero_or_pos d.natAbs with h0 | h0
  · omega
  · have := Nat.le_mul_of_pos_right b.natAbs h0; omega
theorem fdiv_unique (a b q r : Int) (hb : b ≠ 0) (h : b * q + r = a) (h1 : 0 < b → 0 ≤ r ∧ r < b) (h2 : b < 0 → b < r ∧ r ≤ 0) : a.fdiv b = q ∧ a.fmod b = r := by
  have e := Int.mul_fdiv_add_fmod a b
  have hf : (0 < b → 0 ≤ a.fmod b ∧ a.fmod b < b) ∧ (b < 0 → b < a.fmod b ∧ a.fmod b ≤ 0) := by
    refine ⟨fun hp => ⟨Int.fmod_nonneg_of_pos a hp, Int.fmod_lt_of_pos a hp⟩, fun hn => ?_⟩
    rw [Int.fmod_eq_emod]
    have := Int.emod_nonneg a hb
    have := Int.emod_lt_of_neg a hn
    split
    · rename_i hh
      rcases hh with hh | hh
      · omega
      · have := Int.emod_eq_zero_of_dvd hh; omega
    · rename_i hh
      have : a % b ≠ 0 := fun hz => hh (.inr (Int.dvd_of_emod_eq_zero hz))
      omega
  have hd : b * (a.fdiv b - q) = r - a.fmod b := by rw [Int.mul_sub]; omega
  have := mul_small b _ _ hd (by omega)
  have hq : a.fdiv b = q := by omega
  rw [hq] at e
  exact ⟨hq, by omega⟩
theorem tq_facts (a b : Int) (hb : b ≠ 0) : b * a.tdiv b + a.tmod b = a ∧ (a.tmod b).natAbs < b.natAbs := by
  refine ⟨Int.mul_tdiv_add_tmod a b, ?_⟩
  rw [Int.natAbs_tmod]
  exact Nat.mod_lt _ (by omega)
theorem fdiv_same (a b : Int) (hb : b ≠ 0) (h : a.tmod b = 0 ∨ (a.tmod b < 0 ∧ b < 0) ∨ (0 < a.tmod b ∧ 0 < b)) : a.fdiv b = a.tdiv b ∧ a.fmod b = a.tmod b := by
  have ⟨e, l⟩ := tq_facts a b hb
  exact fdiv_unique a b _ _ hb e (by omega) (by omega)
theorem fdiv_less (a b : Int) (hb : b ≠ 0) (h : (a.tmod b < 0 ∧ 0 < b) ∨ (0 < a.tmod b ∧ b < 0)) : a.fdiv b = a.tdiv b - 1 ∧ a.fmod b = a.tmod b + b := by
  have ⟨e, l⟩ := tq_facts a b hb
  exact fdiv_unique a b _ _ hb (by rw [Int.mul_sub]; omega) (by omega) (by omega)
theorem tdiv_range (a b : Int) (a0 : -9223372036854775808 ≤ a) (a1 : a ≤ 9223372036854775807) (hb : b ≠ 0) (hm : -9223372036854775808 < a ∨ b < -1 ∨ -1 < b) :
   -9223372036854775808 ≤ a.tdiv b ∧ a.tdiv b ≤ 9223372036854775807 := by
  have e : (a.tdiv b).natAbs = a.natAbs / b.natAbs := Int.natAbs_tdiv ..
  by_cases h1 : b = 1
  · subst h1; simp; omega
  · by_cases h2 : b = -1
    · subst h2; simp; omega
    · have : a.natAbs / b.natAbs ≤ a.natAbs / 2 := Nat.div_le_div_left (by omega) (by omega)
      omega
theorem fdiv_range (a b : Int) (a0 : -9223372036854775808 ≤ a) (a1 : a ≤ 9223372036854775807) (b0 : -9223372036854775808 ≤ b) (b1 : b ≤ 9223372036854775807) (hb : b ≠ 0) (hm : -9223372036854775808 < a ∨ b < -1 ∨ -1 < b) :
    -9223372036854775808 ≤ a.fdiv b ∧ a.fdiv b ≤ 9223372036854775807 := by
  have t := tdiv_range a b a0 a1 hb hm
  have ⟨e, l⟩ := tq_facts a b hb
  by_cases h : (a.tmod b < 0 ∧ 0 < b) ∨ (0 < a.tmod b ∧ b < 0)
  · rw [(fdiv_less a b hb h).1]
    have : a.tdiv b ≠ -9223372036854775808 := by
      intro he
      have e' : (a.tdiv b).natAbs = a.natAbs / b.natAbs := Int.natAbs_tdiv ..
      have hb2 : 2 ≤ b.natAbs := by omega
      have : a.natAbs / b.natAbs ≤ a.natAbs / 2 := Nat.div_le_div_left hb2 (by omega)
      omega
    omega
  · rw [(fdiv_same a b hb (by omega)).1]; exact t

theorem fmod_facts (a b : Int) (hb : b ≠ 0) : (0 < b → 0 ≤ a.fmod b ∧ a.fmod b < b) ∧ (b < 0 → b < a.fmod b ∧ a.fmod b ≤ 0) ∧ b * a.fdiv b + a.fmod b = a := by
  have ⟨e, l⟩ := tq_facts a b hb
  by_cases h : (a.tmod b < 0 ∧ 0 < b) ∨ (0 < a.tmod b ∧ b < 0)
  · have ⟨h1, h2⟩ := fdiv_less a b hb h
    rw [h2, h1]
    refine ⟨by omega, by omega, ?_⟩
    rw [Int.mul_sub]; omega
  · have ⟨h1, h2⟩ := fdiv_same a b hb (by omega)
    rw [h2, h1]
    exact ⟨by omega, by omega, e⟩

/-- the floor of a quotient and one half -/
def rnd (a b : Int) : Int := (2 * a + b).fdiv (2 * b)

theorem rnd_eq (a b : Int) (hb : b ≠ 0) : rnd a b = if (b.natAbs : Int) ≤ 2 * ((a.fmod b).natAbs : Int) then a.fdiv b + 1 else a.fdiv b := by
  have ⟨p, n, e⟩ := fmod_facts a b hb
  unfold rnd
  split
  · refine (fdiv_unique (2 * a + b) (2 * b) (a.fdiv b + 1) (2 * a.fmod b - b) (by omega) ?_ (by omega) (by omega)).1
    rw [Int.mul_add, Int.mul_assoc]; omega
  · refine (fdiv_unique (2 * a + b) (2 * b) (a.fdiv b) (2 * a.fmod b + b) (by omega) ?_ (by omega) (by omega)).1
    rw [Int.mul_assoc]; omega

theorem up_range (a b : Int) (a0 : -9223372036854775808 ≤ a) (a1 : a ≤ 9223372036854775807) (hb : b ≠ 0) (h : (b.natAbs : Int) ≤ 2 * ((a.fmod b).natAbs : Int)) :
    -9223372036854775808 ≤ a.fdiv b + 1 ∧ a.fdiv b + 1 ≤ 9223372036854775807 := by
  have ⟨p, n, e⟩ := fmod_facts a b hb
  have e' : (a.tdiv b).natAbs = a.natAbs / b.natAbs := Int.natAbs_tdiv ..
  have hb2 : 2 ≤ b.natAbs := by omega
  have : a.natAbs / b.natAbs ≤ a.natAbs / 2 := Nat.div_le_div_left hb2 (by omega)
  by_cases h : (a.tmod b < 0 ∧ 0 < b) ∨ (0 < a.tmod b ∧ b < 0)
  · have := (fdiv_less a b hb h).1; omega
  · have ⟨_, l⟩ := tq_facts a b hb
    have := (fdiv_same a b hb (by omega)).1; omega

end Go.Proofs.Ytpeknlablcgchaa.M1
