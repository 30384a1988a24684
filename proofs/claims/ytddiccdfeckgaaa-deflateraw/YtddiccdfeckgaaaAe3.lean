import Derived.Test.YtddiccdfeckgaaaAe2
/- Layer 3: the document's bytes behind a sum; two sums joined; the fixed answer. -/
namespace Go.Proofs.Ytddiccdfeckgaaa.Ad
open Go.RowKit
set_option linter.unusedVariables false

theorem mul_bd {a b A B : Int} (h0 : 0 ≤ a) (h1 : a ≤ A) (k0 : 0 ≤ b) (k1 : b ≤ B) : 0 ≤ a * b ∧ a * b ≤ A * B :=
  ⟨Int.mul_nonneg h0 k0, Int.mul_le_mul h1 k1 k0 (Int.le_trans h0 h1)⟩
theorem ref_start (b n a : Nat) : (b : Int) + (n : Int) % 65521 * (a : Int) = ((b + n % 65521 * a + 0 : Nat) : Int) := by
  have e : ((n % 65521 * a : Nat) : Int) = ((n % 65521 : Nat) : Int) * (a : Int) := Int.natCast_mul _ _
  have e2 : ((n % 65521 : Nat) : Int) = (n : Int) % 65521 := by omega
  rw [e2] at e
  rw [← e]
  omega
theorem ref_whole (x : Int) (s : ByteArray) (p q : Int) (h : p = (A.lo x + A.S s.data.toList : Nat) ∧ q % 65521 = ((A.hi x + s.size % 65521 * A.lo x + A.U s.size s.data.toList) % 65521 : Nat)) : q % 65521 * 65536 + p % 65521 = moI x s := by
  have e := A.ref_b (A.lo x) (A.hi x) s.size s.data.toList (bytes_length s).symm
  rw [e] at h
  rw [h.2, h.1]
  unfold moI A.more
  rw [wh_nat]
  unfold whI A.pa
  omega
set_option maxHeartbeats 400000 in
theorem refmore_any (x : Int) (s : ByteArray) (w : World) (h0 : -9223372036854775808 ≤ x) (h1 : x ≤ 9223372036854775807) (hs : s.size ≤ 1048576) :
    Calls Try.prog 40 #[.int .i64 x, .string s] w fun e w' => e = .returned (.int .i64 (moI x s)) ∧ w = w' := by
  obtain ⟨l1, l2⟩ := loI_bd x
  obtain ⟨l3, l4⟩ := hiI_bd x
  have m1 := mul_bd (a := (s.size : Int) % 65521) (b := loI x) (A := 65520) (B := 65520) (by omega) (by omega) l1 (by omega)
  have E0 : Hid (wrap64 (hiI x + wrap64 ((s.size : Int) % 65521 * loI x)) = hiI x + (s.size : Int) % 65521 * loI x) := by
    rw [i64_id ((s.size : Int) % 65521 * loI x) (by omega) (by omega), i64_id _ (by omega) (by omega)]
    exact Lib.hid rfl
  have E1 : 0 ≤ hiI x + (s.size : Int) % 65521 * loI x ∧ hiI x + (s.size : Int) % 65521 * loI x < 4293000000 := by omega
  have HE1 := Lib.hid E1
  have E2 : Hid ((hiI x + (s.size : Int) % 65521 * loI x) % 65521 = ((A.hi x + s.size % 65521 * A.lo x + A.U s.size []) % 65521 : Nat)) := by
    refine Lib.hid ?_
    have e : hiI x + (s.size : Int) % 65521 * loI x = ((A.hi x + s.size % 65521 * A.lo x + A.U s.size [] : Nat) : Int) := by
      exact ref_start _ _ _
    rw [e]
    omega
  clear m1 E1
  go_enter Try.func40, Try.ntmps40
  go_wp2_with fail
  refine (low_any x _ h0 h1).mono ?_
  rintro e w' ⟨rfl, rfl⟩
  go_wp2_with fail
  refine (high_any x _ h0 h1).mono ?_
  rintro e w' ⟨rfl, rfl⟩
  go_wp2_with fail
  go_loop [5, 6, 8] (fun a b i => RefRel x s a b i) (fun _ _ i => s.size - (intOf i).toNat)
  case atStart => exact ⟨0, loI x, _, Nat.zero_le _, rfl, rfl, by rw [E0.out], l1, by omega, HE1.out.1, HE1.out.2, Lib.hid ⟨by rw [List.take_zero]; rfl, by rw [List.take_zero]; exact E2.out⟩⟩
  case round =>
    clear E0 HE1 E2
    obtain ⟨k, p, q, hk, rfl, rfl, rfl, p0, p1, q0, q1, HR⟩ := hrel
    by_cases hlt : k < s.size
    · have hc := s[k].toNat_lt
      have hw : wrap64 (s[k].toNat : Int) = (s[k].toNat : Int) := i64_id _ (by omega) (by omega)
      obtain ⟨c, hcc⟩ : ∃ c : Int, c = (s[k].toNat : Int) := ⟨_, rfl⟩
      rw [← hcc] at hw
      have HN := Lib.hid (ref_next x s k p q c hlt hcc HR.out)
      have c0 : 0 ≤ c := by omega
      have c1 : c < 256 := by omega
      have mb := mul_bd (a := c) (b := (s.size : Int) - (k : Int)) (A := 255) (B := 1048576) (by omega) (by omega) (by omega) (by omega)
      have HC := Lib.hid hcc
      have HW := Lib.hid hw
      have HM : Hid (wrap64 (q + wrap64 (c * ((s.size : Int) - (k : Int)))) = q + c * ((s.size : Int) - (k : Int)) ∧ wrap64 (p + c) = p + c ∧ 0 ≤ q + c * ((s.size : Int) - (k : Int))) := by
        rw [i64_id (c * ((s.size : Int) - (k : Int))) (by omega) (by omega), i64_id _ (by omega) (by omega), i64_id _ (by omega) (by omega)]
        exact Lib.hid ⟨rfl, rfl, by omega⟩
      obtain ⟨m3, m4⟩ := mdI_bd (q + c * ((s.size : Int) - (k : Int)))
      clear hcc hw hc mb
      go_wp2_with fail
      rw [← HC.out, HW.out, HM.out.1, HM.out.2.1]
      go_round
      case rel => exact ⟨k + 1, _, mdI (q + c * ((s.size : Int) - (k : Int))), by omega, by go_num, rfl, by rw [Int.tmod_eq_emod_of_nonneg HM.out.2.2]; rfl, by omega, by omega, m3, by omega, HN⟩
      case measure => simp [intOf]; omega
    · obtain rfl : k = s.size := by omega
      go_wp2
      go_ret
      refine ⟨ret_int ?_, rfl⟩
      have h := HR.out
      rw [List.take_of_length_le (by simp)] at h
      exact ref_whole x s p q h
end Go.Proofs.Ytddiccdfeckgaaa.Ad
