import Derived.Test.YtddiccdfeckgaaaAe1
/- Layer 3: bytes behind a sum, both; a sum of bytes; two sums joined. -/
namespace Go.Proofs.Ytddiccdfeckgaaa.Ad
open Go.RowKit
set_option linter.unusedVariables false

theorem bytes_getElem (s : ByteArray) (k : Nat) (h : k < s.size) (h' : k < s.data.toList.length) : s[k] = s.data.toList[k] := by simp; rfl
theorem bytes_length (s : ByteArray) : s.data.toList.length = s.size := by simp
theorem take_snoc (s : ByteArray) (k : Nat) (h : k < s.size) : s.data.toList.take (k + 1) = s.data.toList.take k ++ [s[k]] := by
  rw [List.take_succ_eq_append_getElem (by simpa using h)]; rfl
def moI (x : Int) (s : ByteArray) : Int := (A.more x s.data.toList : Nat)
theorem moI_bd (x : Int) (s : ByteArray) : 0 ≤ moI x s ∧ moI x s < 4293984256 := by have := A.more_lt x s.data.toList; unfold moI; omega

theorem wh_nat (a b : Nat) : ((A.whole a b : Nat) : Int) = whI a b := by unfold A.whole whI; omega
def MoRel (x : Int) (s : ByteArray) (a b i : Value) : Prop :=
  ∃ (k : Nat) (p q : Int), k ≤ s.size ∧ i = .int .i64 k ∧ a = .int .i64 p ∧ b = .int .i64 q ∧ 0 ≤ p ∧ p < 65521 ∧ 0 ≤ q ∧ q < 65521 ∧
    Hid (p = (A.pa (A.lo x) (s.data.toList.take k) : Nat) ∧ q = (A.pb (A.lo x) (A.hi x) (s.data.toList.take k) : Nat))
theorem mo_next (x : Int) (s : ByteArray) (k : Nat) (p q c : Int) (hk : k < s.size) (hc : c = s[k].toNat) (h : p = (A.pa (A.lo x) (s.data.toList.take k) : Nat) ∧ q = (A.pb (A.lo x) (A.hi x) (s.data.toList.take k) : Nat)) :
    mdI (p + c) = (A.pa (A.lo x) (s.data.toList.take (k + 1)) : Nat) ∧ mdI (q + mdI (p + c)) = (A.pb (A.lo x) (A.hi x) (s.data.toList.take (k + 1)) : Nat) := by
  rw [take_snoc s k hk]
  have e1 := A.pa_snoc (A.lo x) (s.data.toList.take k) s[k]
  have e2 := A.pb_snoc (A.lo x) (A.hi x) (s.data.toList.take k) s[k]
  have e3 : mdI (p + c) = (A.pa (A.lo x) (s.data.toList.take k ++ [s[k]]) : Nat) := by
    rw [e1, h.1, hc]; unfold mdI; omega
  refine ⟨e3, ?_⟩
  rw [e3, e2, h.2]
  unfold mdI
  omega
set_option maxHeartbeats 400000 in
theorem more_any (x : Int) (s : ByteArray) (w : World) (h0 : -9223372036854775808 ≤ x) (h1 : x ≤ 9223372036854775807) (hs : s.size ≤ maxLen) :
    Calls Try.prog 39 #[.int .i64 x, .string s] w fun e w' => e = .returned (.int .i64 (moI x s)) ∧ w = w' := by
  unfold maxLen at hs
  have l1 := loI_bd x
  have l2 := hiI_bd x
  go_enter Try.func39, Try.ntmps39
  go_wp2_with fail
  refine (parts_any x _ h0 h1).mono ?_
  rintro e w' ⟨rfl, rfl⟩
  go_wp2_with fail
  go_loop [5, 6, 15] (fun a b i => MoRel x s a b i) (fun _ _ i => s.size - (intOf i).toNat)
  case atStart => exact ⟨0, loI x, hiI x, Nat.zero_le _, rfl, rfl, rfl, l1.1, l1.2, l2.1, l2.2, Lib.hid ⟨by rw [List.take_zero, A.pa_nil _ (A.lo_lt x)]; rfl, by rw [List.take_zero, A.pb_nil _ _ (A.hi_lt x)]; rfl⟩⟩
  case round =>
    obtain ⟨k, p, q, hk, rfl, rfl, rfl, p0, p1, q0, q1, HR⟩ := hrel
    by_cases hlt : k < s.size
    · have hc := s[k].toNat_lt
      have hw : wrap64 (s[k].toNat : Int) = (s[k].toNat : Int) := i64_id _ (by omega) (by omega)
      obtain ⟨c, hcc⟩ : ∃ c : Int, c = (s[k].toNat : Int) := ⟨_, rfl⟩
      rw [← hcc] at hw
      have HN := Lib.hid (mo_next x s k p q c hlt hcc HR.out)
      have c0 : 0 ≤ c := by omega
      have c1 : c < 256 := by omega
      have HC := Lib.hid hcc
      have HW := Lib.hid hw
      obtain ⟨m1, m2⟩ := mdI_bd (p + c)
      obtain ⟨m3, m4⟩ := mdI_bd (q + mdI (p + c))
      clear hcc hw hc
      go_wp2_with fail
      rw [← HC.out, HW.out, i64_id (p + c) (by omega) (by omega)]
      refine (below_any _ _ (by omega) (by omega)).mono ?_
      rintro e w' ⟨rfl, rfl⟩
      go_wp2_with fail
      refine (below_any _ _ (by omega) (by omega)).mono ?_
      rintro e w' ⟨rfl, rfl⟩
      go_wp2_with fail
      go_round
      case rel => exact ⟨k + 1, _, _, by omega, by go_num, rfl, rfl, m1, m2, m3, m4, HN⟩
      case measure => simp [intOf]; omega
    · obtain rfl : k = s.size := by omega
      go_wp2_with fail
      refine (whole_any _ _ _ p0 p1 q0 q1).mono ?_
      rintro e w' ⟨rfl, rfl⟩
      go_wp2
      go_ret
      refine ⟨ret_int ?_, rfl⟩
      have h := HR.out
      rw [List.take_of_length_le (by simp)] at h
      rw [h.1, h.2]
      exact (wh_nat _ _).symm
theorem sum_any (s : ByteArray) (w : World) (hs : s.size ≤ maxLen) :
    Calls Try.prog 26 #[.string s] w fun e w' => e = .returned (.int .i64 (moI 1 s)) ∧ w = w' := by
  go_enter Try.func26, Try.ntmps26
  go_wp2_with fail
  refine (more_any 1 s _ (by omega) (by omega) hs).mono ?_
  rintro e w' ⟨rfl, rfl⟩
  go_wp2
  go_ret
  exact ⟨rfl, rfl⟩

def RefRel (x : Int) (s : ByteArray) (a b i : Value) : Prop :=
  ∃ (k : Nat) (p q : Int), k ≤ s.size ∧ i = .int .i64 k ∧ a = .int .i64 p ∧ b = .int .i64 q ∧ 0 ≤ p ∧ p ≤ 65520 + 255 * k ∧ 0 ≤ q ∧ q < 4293000000 ∧
    Hid (p = (A.lo x + A.S (s.data.toList.take k) : Nat) ∧ q % 65521 = ((A.hi x + s.size % 65521 * A.lo x + A.U s.size (s.data.toList.take k)) % 65521 : Nat))
theorem ref_next (x : Int) (s : ByteArray) (k : Nat) (p q c : Int) (hk : k < s.size) (hc : c = s[k].toNat) (h : p = (A.lo x + A.S (s.data.toList.take k) : Nat) ∧ q % 65521 = ((A.hi x + s.size % 65521 * A.lo x + A.U s.size (s.data.toList.take k)) % 65521 : Nat)) :
    p + c = (A.lo x + A.S (s.data.toList.take (k + 1)) : Nat) ∧ mdI (q + c * ((s.size : Int) - (k : Int))) % 65521 = ((A.hi x + s.size % 65521 * A.lo x + A.U s.size (s.data.toList.take (k + 1))) % 65521 : Nat) := by
  have hl : (s.data.toList.take k).length = k := by rw [List.length_take, bytes_length]; omega
  rw [take_snoc s k hk, A.S_append, A.U_snoc _ _ _ (by omega), hl]
  constructor
  · rw [h.1, hc]; simp only [A.S]; omega
  · have e : c * ((s.size : Int) - (k : Int)) = ((s[k].toNat * (s.size - k) : Nat) : Int) := by
      rw [hc]; push_cast; rw [Int.ofNat_sub (by omega)]
    rw [e]
    have h2 := h.2
    generalize s[k].toNat * (s.size - k) = r
    generalize A.hi x + s.size % 65521 * A.lo x + A.U s.size (s.data.toList.take k) = t at h2 ⊢
    unfold mdI
    omega
end Go.Proofs.Ytddiccdfeckgaaa.Ad
