import Derived.Test.YtpeknlablcgchaaM1
/- Layer 14, plain: products within bounds, floors, points, colours. -/
namespace Go.Proofs.Ytpeknlablcgchaa
theorem mul_bd {a b : Int} (M N : Int) (ha : -M ≤ a ∧ a ≤ M) (hb : -N ≤ b ∧ b ≤ N) : -(M * N) ≤ a * b ∧ a * b ≤ M * N := by
  obtain ⟨m, rfl⟩ := Int.eq_ofNat_of_zero_le (show 0 ≤ M by omega)
  obtain ⟨n, rfl⟩ := Int.eq_ofNat_of_zero_le (show 0 ≤ N by omega)
  have h1 : a.natAbs ≤ m := by omega
  have h2 : b.natAbs ≤ n := by omega
  have h3 : (a * b).natAbs ≤ m * n := by rw [Int.natAbs_mul]; exact Nat.mul_le_mul h1 h2
  have h4 : ((m : Int) * (n : Int)) = ((m * n : Nat) : Int) := by push_cast; rfl
  rw [h4]
  omega
theorem fdiv_pos (a b : Int) (hb : 0 < b) : a.fdiv b = a / b := Int.fdiv_eq_ediv_of_nonneg a (by omega)
theorem fdiv_neg2 (a b : Int) (hb : b ≠ 0) : (-a).fdiv (-b) = a.fdiv b := by
  have ⟨p, n, e⟩ := M1.fmod_facts (-a) (-b) (by omega)
  refine (M1.fdiv_unique a b ((-a).fdiv (-b)) (-((-a).fmod (-b))) hb ?_ (by omega) (by omega)).1.symm
  have : -b * (-a).fdiv (-b) = -(b * (-a).fdiv (-b)) := Int.neg_mul ..
  omega
/-- a quotient's floor is no greater than the number -/
theorem fdiv_small (a b : Int) (B : Int) (hb : b ≠ 0) (ha : -B ≤ a ∧ a ≤ B) : -B ≤ a.fdiv b ∧ a.fdiv b ≤ B := by
  have key : ∀ c d : Int, 0 < d → -B ≤ c → c ≤ B → -B ≤ c / d ∧ c / d ≤ B := by
    intro c d hd h1 h2
    refine ⟨(Int.le_ediv_iff_mul_le hd).2 ?_, ?_⟩
    · have : 0 ≤ B * (d - 1) := Int.mul_nonneg (by omega) (by omega)
      rw [Int.mul_sub] at this
      rw [Int.neg_mul]
      omega
    · by_cases h : 0 ≤ c
      · exact Int.le_trans (Int.ediv_le_self d h) h2
      · have := Int.ediv_neg_of_neg_of_pos (show c < 0 by omega) hd
        omega
  rcases (show b < 0 ∨ 0 < b by omega) with h | h
  · rw [← fdiv_neg2 a b hb, fdiv_pos _ _ (by omega)]
    exact key (-a) (-b) (by omega) (by omega) (by omega)
  · rw [fdiv_pos _ _ h]
    exact key a b h ha.1 ha.2
/-- brought to an end -/
def clp (lo hi v : Int) : Int := if v < lo then lo else if hi < v then hi else v
theorem clp_min (lo hi v : Int) (h : lo ≤ hi) : min (max v lo) hi = clp lo hi v := by unfold clp; split <;> (try split) <;> omega
theorem clp_bd (lo hi v : Int) (h : lo ≤ hi) : lo ≤ clp lo hi v ∧ clp lo hi v ≤ hi := by unfold clp; split <;> (try split) <;> omega
theorem clp_in (lo hi v : Int) (h1 : lo ≤ v) (h2 : v ≤ hi) : clp lo hi v = v := by unfold clp; split <;> (try split) <;> omega
/-- twips with 16 bits behind the point, on the grid -/
def gridV (t : Int) : Int := 2 * ((16 * t + 327680) / 655360)
theorem grid_rnd (t : Int) : 2 * M1.rnd (t * 8) 327680 = gridV t := by
  unfold M1.rnd gridV
  rw [fdiv_pos _ _ (by decide), show 2 * (t * 8) + 327680 = 16 * t + 327680 by omega]
  rfl
theorem grid_bd (t : Int) (h : -576460752303423488 ≤ t ∧ t ≤ 576460752303423488) : -28147497671066 ≤ gridV t ∧ gridV t ≤ 28147497671066 := by unfold gridV; omega
/-- what a colour's part becomes -/
def mulF (v m : Int) : Int := (v * m) / 256
theorem mulF_bd (v m : Int) (hv : -512 ≤ v ∧ v ≤ 512) (hm : -512 ≤ m ∧ m ≤ 512) : -1024 ≤ mulF v m ∧ mulF v m ≤ 1024 := by
  have := mul_bd 512 512 hv hm
  unfold mulF
  omega
def cxM (o i : Int) : Int := clp (-512) 512 (mulF i o)
def cxA (o i p : Int) : Int := clp (-255) 255 (mulF i o + p)
def colP (v m d : Int) : Int := clp 0 255 (mulF v m + d)
end Go.Proofs.Ytpeknlablcgchaa
