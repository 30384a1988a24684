import Derived.Test.YtmimndgjjafdmaaAd3
/- Layer 3: two sums joined; the document's sum; the fixed answer. -/
namespace Go.Proofs.Ytmimndgjjafdmaa
open Go.RowKit
set_option linter.unusedVariables false

def joI (x y n : Int) : Int := (A.join x y n : Nat)
theorem joI_eq (x y n : Int) : joI x y n = whI (mdI (loI y + mdI (loI x + 65520))) ((hiI x + hiI y + max n 0 % 65521 * mdI (loI x + 65520)) % 65521) := by
  unfold joI A.join
  rw [wh_nat]
  have e : mdI (loI x + 65520) = (((A.lo x + 65520) % 65521 : Nat) : Int) := by unfold mdI loI; omega
  rw [e]
  generalize (A.lo x + 65520) % 65521 = f
  have e1 : mdI (loI y + (f : Int)) = (((A.lo y + f) % 65521 : Nat) : Int) := by unfold mdI loI; omega
  rw [e1]
  have e2 : max n 0 % 65521 * (f : Int) = (((max n 0).toNat % 65521 * f : Nat) : Int) := by
    rw [Int.natCast_mul]
    congr 1
    omega
  rw [e2]
  unfold hiI
  generalize (max n 0).toNat % 65521 * f = r
  congr 1
theorem join_any (x y n : Int) (w : World) (h0 : -9223372036854775808 ≤ x) (h1 : x ≤ 9223372036854775807) (k0 : -9223372036854775808 ≤ y) (k1 : y ≤ 9223372036854775807) (n0 : -9223372036854775808 ≤ n) (n1 : n ≤ 9223372036854775807) :
    Calls Try.prog 13 #[.int .i64 x, .int .i64 y, .int .i64 n] w fun e w' => e = .returned (.int .i64 (joI x y n)) ∧ w = w' := by
  have HJ := Lib.hid (joI_eq x y n)
  obtain ⟨l1, l2⟩ := loI_bd x
  obtain ⟨l3, l4⟩ := hiI_bd x
  obtain ⟨l5, l6⟩ := loI_bd y
  obtain ⟨l7, l8⟩ := hiI_bd y
  obtain ⟨m1, m2⟩ := mdI_bd (loI x + 65520)
  obtain ⟨m3, m4⟩ := mdI_bd (loI y + mdI (loI x + 65520))
  have HM := Lib.hid (mul_bd (a := max n 0 % 65521) (b := mdI (loI x + 65520)) (A := 65520) (B := 65520) (by omega) (by omega) m1 (by omega))
  by_cases hn : n < 0
  · rw [show max n 0 = 0 by omega] at HJ HM
    go_enter Try.func13, Try.ntmps13
    go_wp2_with fail
    refine (parts_any x _ h0 h1).mono ?_
    rintro e w' ⟨rfl, rfl⟩
    go_wp2_with fail
    refine (parts_any y _ k0 k1).mono ?_
    rintro e w' ⟨rfl, rfl⟩
    go_wp2_with fail
    rw [show loI x + 65521 - 1 = loI x + 65520 by omega]
    refine (below_any _ _ (by omega) (by omega)).mono ?_
    rintro e w' ⟨rfl, rfl⟩
    go_wp2_with fail
    refine (below_any _ _ (by omega) (by omega)).mono ?_
    rintro e w' ⟨rfl, rfl⟩
    go_wp2_with fail
    refine (whole_any _ _ _ m3 m4 (by omega) (by omega)).mono ?_
    rintro e w' ⟨rfl, rfl⟩
    go_wp2
    go_ret
    exact ⟨ret_int (by rw [HJ.out]; exact congrArg (whI _) (by omega)), rfl⟩
  · rw [show max n 0 = n by omega] at HJ HM
    have HT : Hid ((wrap64 (hiI x + hiI y + wrap64 (n % 65521 * mdI (loI x + 65520)))).tmod 65521 = (hiI x + hiI y + n % 65521 * mdI (loI x + 65520)) % 65521) := by
      have hm := HM.out
      rw [i64_id (n % 65521 * mdI (loI x + 65520)) (by omega) (by omega), i64_id _ (by omega) (by omega), Int.tmod_eq_emod_of_nonneg (by omega)]
      exact Lib.hid rfl
    go_enter Try.func13, Try.ntmps13
    go_wp2_with fail
    refine (parts_any x _ h0 h1).mono ?_
    rintro e w' ⟨rfl, rfl⟩
    go_wp2_with fail
    refine (parts_any y _ k0 k1).mono ?_
    rintro e w' ⟨rfl, rfl⟩
    go_wp2_with fail
    rw [show loI x + 65521 - 1 = loI x + 65520 by omega]
    refine (below_any _ _ (by omega) (by omega)).mono ?_
    rintro e w' ⟨rfl, rfl⟩
    go_wp2_with fail
    refine (below_any _ _ (by omega) (by omega)).mono ?_
    rintro e w' ⟨rfl, rfl⟩
    go_wp2_with fail
    rw [HT.out]
    refine (whole_any _ _ _ m3 m4 (by omega) (by omega)).mono ?_
    rintro e w' ⟨rfl, rfl⟩
    go_wp2
    go_ret
    exact ⟨ret_int HJ.out.symm, rfl⟩
theorem refsum_any (s : ByteArray) (w : World) (hs : s.size ≤ 8192) :
    Calls Try.prog 10 #[.string s] w fun e w' => e = .returned (.int .i64 (moI 1 s)) ∧ w = w' := by
  go_enter Try.func10, Try.ntmps10
  go_wp2_with fail
  refine (refmore_any 1 s _ (by omega) (by omega) hs).mono ?_
  rintro e w' ⟨rfl, rfl⟩
  go_wp2
  go_ret
  exact ⟨rfl, rfl⟩
theorem aw1 : moI 1 ⟨#[]⟩ = 1 := by rfl
theorem aw2 : moI 1 ⟨#[97]⟩ = 6422626 := by rfl
theorem awake_any (w : World) : Calls Try.prog 8 #[] w fun e w' => e = .returned (.bool true) ∧ w = w' := by
  go_enter Try.func8, Try.ntmps8
  go_wp2_with fail
  refine (sum_any _ _ (by decide)).mono ?_
  rintro e w' ⟨rfl, rfl⟩
  rw [aw1]
  go_wp2_with fail
  refine (sum_any _ _ (by decide)).mono ?_
  rintro e w' ⟨rfl, rfl⟩
  rw [aw2]
  go_wp2
  go_ret
  exact ⟨rfl, rfl⟩
end Go.Proofs.Ytmimndgjjafdmaa
