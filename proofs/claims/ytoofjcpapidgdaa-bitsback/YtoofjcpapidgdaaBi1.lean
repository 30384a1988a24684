import Derived.Test.YtoofjcpapidgdaaProg
import Derived.Test.YtoofjcpapidgdaaU1
import Derived.Test.YtoofjcpapidgdaaBi0
import Derived.WalkKit
import Derived.WalkSpells
import Derived.WalkLawsBesides
import Derived.Laws.BitsAllLaws
import Derived.Lib.Hide
import Derived.Deep.QuietTactic
import Derived.BigQuiet
import Derived.Outline
/- Layer 2: the small tests, a power, a bit, a number of bits. -/
namespace Go.Proofs.Ytoofjcpapidgdaa
open Go.RowKit
set_option linter.unusedVariables false

theorem ret_int {k : IntKind} {a b : Int} (h : a = b) : Ending.returned (.int k a) = .returned (.int k b) := by rw [h]
theorem ret_bool {a b : Bool} (h : a = b) : Ending.returned (.bool a) = .returned (.bool b) := by rw [h]
theorem i64_id (x : Int) (h0 : -9223372036854775808 ≤ x) (h1 : x ≤ 9223372036854775807) : wrap64 x = x := by unfold wrap64; omega

theorem i64_wrap (x : Int) (h0 : -9223372036854775808 ≤ x) (h1 : x ≤ 9223372036854775807) : IntKind.i64.wrap x = x := by rw [IntKind.wrap_i64]; omega

theorem ofInt_i64 (a : Nat) (ha : a < 9223372036854775808) : (BitVec.ofInt 64 (a : Int)).toNat = a := by
  rw [BitVec.ofInt_natCast, BitVec.toNat_ofNat]; exact Nat.mod_eq_of_lt (by omega)
theorem i64_or_nat (a b : Nat) (ha : a < 9223372036854775808) (hb : b < 9223372036854775808) : bits .or .i64 (a : Int) (b : Int) = ((a ||| b : Nat) : Int) := by
  have hx : a ||| b < 2 ^ 63 := Nat.or_lt_two_pow (by omega) (by omega)
  show IntKind.i64.wrap ((BitVec.ofInt 64 (a : Int) ||| BitVec.ofInt 64 (b : Int)).toNat : Int) = _
  rw [BitVec.toNat_or, ofInt_i64 a ha, ofInt_i64 b hb, IntKind.wrap_i64]
  omega
theorem i64_and_nat (a b : Nat) (ha : a < 9223372036854775808) (hb : b < 9223372036854775808) : bits .and .i64 (a : Int) (b : Int) = ((a &&& b : Nat) : Int) := by
  have hx : a &&& b < 2 ^ 63 := Nat.and_lt_two_pow _ (by omega)
  show IntKind.i64.wrap ((BitVec.ofInt 64 (a : Int) &&& BitVec.ofInt 64 (b : Int)).toNat : Int) = _
  rw [BitVec.toNat_and, ofInt_i64 a ha, ofInt_i64 b hb, IntKind.wrap_i64]
  omega
theorem P2_cast (n : Nat) : (2 : Int) ^ n = (B.P2 n : Int) := by unfold B.P2; push_cast; rfl
theorem P2_bd {n : Nat} (h : n ≤ 62) : B.P2 n ≤ 4611686018427387904 := B.P2_le (b := 62) h
theorem or_join (x y n : Nat) (hy : y < B.P2 n) (h : x * B.P2 n + y < 9223372036854775808) : bits .or .i64 ((x * B.P2 n : Nat) : Int) (y : Int) = ((x * B.P2 n + y : Nat) : Int) := by
  have hj := nat_join n (x * B.P2 n) y (Nat.mul_mod_left _ _) hy
  rw [i64_or_nat _ _ (by omega) (by omega), hj]
theorem or_byte (x : Nat) (c : UInt8) (h : x ≤ 36028797018963000) : bits .or .i64 ((x : Int) * 256) (wrap64 (c.toNat : Int)) = ((256 * x + c.toNat : Nat) : Int) := by
  have hc := c.toNat_lt
  rw [i64_id _ (by omega) (by omega)]
  have := or_join x c.toNat 8 (by rw [B.P2_8]; omega) (by rw [B.P2_8]; omega)
  rw [B.P2_8] at this
  rw [show (x : Int) * 256 = ((x * 256 : Nat) : Int) by omega, this, Nat.mul_comm]
theorem and_mask (x n : Nat) (hx : x < 9223372036854775808) (hn : n ≤ 62) : bits .and .i64 (x : Int) (wrap64 (wrap64 (2 ^ n) - 1)) = ((x % B.P2 n : Nat) : Int) := by
  have h1 := B.P2_pos n
  have h2 := P2_bd hn
  rw [P2_cast, i64_id (B.P2 n : Int) (by omega) (by omega), i64_id ((B.P2 n : Int) - 1) (by omega) (by omega), show (B.P2 n : Int) - 1 = ((B.P2 n - 1 : Nat) : Int) by omega, i64_and_nat _ _ hx (by omega)]
  unfold B.P2
  rw [Nat.and_two_pow_sub_one_eq_mod]
theorem div_pow (x k : Nat) : (x : Int) / 2 ^ k = ((x / B.P2 k : Nat) : Int) := by rw [P2_cast]; push_cast; rfl

theorem isfield_any (n : Int) (w : World) :
    Calls Try.prog 34 #[.int .i64 n] w fun e w' => e = .returned (.bool (decide (0 ≤ n) && decide (n ≤ 31))) ∧ w = w' := by
  go_enter Try.func34, Try.ntmps34
  go_wp2
  all_goals (go_ret; exact ⟨ret_bool (by simp; try omega), rfl⟩)
theorem islittle_any (n : Int) (w : World) :
    Calls Try.prog 39 #[.int .i64 n] w fun e w' => e = .returned (.bool (decide (1 ≤ n) && decide (n ≤ 4))) ∧ w = w' := by
  go_enter Try.func39, Try.ntmps39
  go_wp2
  all_goals (go_ret; exact ⟨ret_bool (by simp; try omega), rfl⟩)
theorem isright_any (s : ByteArray) (a : Int) (w : World) (hs : s.size ≤ 1099511627776) :
    Calls Try.prog 33 #[.agg #[.string s, .int .i64 a]] w fun e w' => e = .returned (.bool (decide (0 ≤ a) && decide (a ≤ 8 * s.size))) ∧ Below w.heap.size w w' := by
  go_enter Try.func33, Try.ntmps33
  go_wp2
  all_goals (go_ret; exact ⟨ret_bool (by simp; try omega), bq_alloc (Below.refl _ _) _⟩)
theorem refright_any (s : ByteArray) (a : Int) (w : World) (hs : s.size ≤ 1099511627776) :
    Calls Try.prog 36 #[.agg #[.string s, .int .i64 a]] w fun e w' => e = .returned (.bool (decide (0 ≤ a) && decide (a ≤ 8 * s.size))) ∧ Below w.heap.size w w' := by
  go_enter Try.func36, Try.ntmps36
  go_wp2
  all_goals (go_ret; exact ⟨ret_bool (by simp; try omega), bq_alloc (Below.refl _ _) _⟩)
theorem rref_any (s : ByteArray) (a : Int) (w : World) :
    Calls Try.prog 13 #[.agg #[.string s, .int .i64 a]] w fun e w' => e = .returned (.agg #[.string s, .int .i64 a]) ∧ Below w.heap.size w w' := by
  go_enter Try.func13, Try.ntmps13
  go_wp2
  exact bodyPost_ret (v := .agg #[.string s, .int .i64 a]) (by simp [results, Try.results13, go_sem]) rfl ⟨rfl, bq_alloc (bq_alloc (Below.refl _ _) _) _⟩
theorem wref_any (s : ByteArray) (a : Int) (w : World) :
    Calls Try.prog 25 #[.agg #[.string s, .int .i64 a]] w fun e w' => e = .returned (.agg #[.string s, .int .i64 a]) ∧ Below w.heap.size w w' := by
  go_enter Try.func25, Try.ntmps25
  go_wp2
  exact bodyPost_ret (v := .agg #[.string s, .int .i64 a]) (by simp [results, Try.results25, go_sem]) rfl ⟨rfl, bq_alloc (bq_alloc (Below.refl _ _) _) _⟩
theorem putalign_any (s : ByteArray) (a : Int) (w : World) :
    Calls Try.prog 29 #[.agg #[.string s, .int .i64 a]] w fun e w' => e = .returned (.agg #[.string s, .int .i64 0]) ∧ Below w.heap.size w w' := by
  go_enter Try.func29, Try.ntmps29
  go_wp2
  exact bodyPost_ret (v := .agg #[.string s, .int .i64 0]) (by simp [results, Try.results29, go_sem]) rfl ⟨rfl, bq_alloc (bq_alloc (Below.refl _ _) _) _⟩
theorem putbytes_any (s t : ByteArray) (a : Int) (w : World) (hs : s.size ≤ 1099511627776) (ht : t.size ≤ 1099511627776) :
    Calls Try.prog 28 #[.agg #[.string s, .int .i64 a], .string t] w fun e w' => e = .returned (.agg #[.string (s ++ t), .int .i64 0]) ∧ Below w.heap.size w w' := by
  go_enter Try.func28, Try.ntmps28
  go_wp2
  exact bodyPost_ret (v := .agg #[.string (s ++ t), .int .i64 0]) (by simp [results, Try.results28, go_sem]) rfl ⟨rfl, bq_alloc (bq_alloc (Below.refl _ _) _) _⟩
theorem power_any (n : Nat) (w : World) (hn : n ≤ 62) :
    Calls Try.prog 38 #[.int .i64 n] w fun e w' => e = .returned (.int .i64 (B.P2 n : Int)) ∧ w = w' := by
  go_enter Try.func38, Try.ntmps38
  go_wp2
  go_loop [3, 4] (fun p i => ∃ k : Nat, k ≤ n ∧ i = .int .i64 k ∧ p = .int .i64 (B.P2 k : Int)) (fun _ i => n - (intOf i).toNat)
  case atStart => exact ⟨0, Nat.zero_le _, rfl, rfl⟩
  case round =>
    obtain ⟨k, hk, rfl, rfl⟩ := hrel
    have hb : B.P2 k ≤ 4611686018427387904 := P2_bd (by omega)
    by_cases hlt : k < n
    · have hb2 : B.P2 k ≤ 2305843009213693952 := B.P2_le (b := 61) (by omega)
      go_wp2
      go_round
      case rel => exact ⟨k + 1, by omega, by go_num, by rw [B.P2_succ]; go_num⟩
      case measure => simp [intOf]; omega
    · obtain rfl : k = n := by omega
      go_wp2
      go_ret
      exact ⟨rfl, rfl⟩

theorem bytes_getElem (s : ByteArray) (k : Nat) (h : k < s.size) (h' : k < s.data.toList.length) : s[k] = s.data.toList[k] := by simp; rfl
theorem bytes_length (s : ByteArray) : s.data.toList.length = s.size := by simp
theorem half_div (x k : Nat) : x / B.P2 k / 2 = x / B.P2 (k + 1) := by rw [Nat.div_div_eq_div_mul, B.P2_succ, Nat.mul_comm]

theorem bit_any (s : ByteArray) (i : Nat) (w : World) (hs : s.size ≤ 1099511627776) (hi : i < 8 * s.size) :
    Calls Try.prog 37 #[.string s, .int .i64 i] w fun e w' => e = .returned (.int .i64 (B.fld s.data.toList i 1 : Int)) ∧ w = w' := by
  have hi8 : i / 8 < s.size := by omega
  have hc : wrap64 (s[i / 8].toNat : Int) = (s[i / 8].toNat : Int) := by
    have := s[i / 8].toNat_lt
    exact i64_id _ (by omega) (by omega)
  have HF := Lib.hid (B.fld_bit s.data.toList i (by rw [bytes_length]; omega))
  rw [← bytes_getElem s (i / 8) hi8] at HF
  have hc2 := s[i / 8].toNat_lt
  obtain ⟨c, hcc⟩ : ∃ c : Nat, c = s[i / 8].toNat := ⟨_, rfl⟩
  rw [← hcc] at hc HF hc2
  have HC := Lib.hid hcc
  have HW := Lib.hid hc
  clear hcc hc
  go_enter Try.func37, Try.ntmps37
  go_wp2
  rw [← HC.out, HW.out]
  go_loop [5, 6] (fun x k => ∃ j y : Nat, j ≤ 7 ∧ k = .int .i64 j ∧ x = .int .i64 (y : Int) ∧ Hid (i % 8 ≤ j ∧ y = c / B.P2 (j - i % 8)) ∧ y < 256) (fun _ i => 8 - (intOf i).toNat)
  case atStart => exact ⟨i % 8, c, by omega, by go_num, rfl, Lib.hid ⟨by omega, by simp [B.P2_zero]⟩, by omega⟩
  case round =>
    obtain ⟨j, y, hj, rfl, rfl, hy, hy2⟩ := hrel
    by_cases hlt : j < 7
    · go_wp2
      go_round
      case rel => exact ⟨j + 1, y / 2, by omega, by go_num, by go_num, Lib.hid ⟨by have := hy.out.1; omega, by rw [hy.out.2, half_div]; congr 2; have := hy.out.1; omega⟩, by omega⟩
      case measure => simp [intOf]; omega
    · obtain rfl : j = 7 := by omega
      go_wp2
      go_ret
      exact ⟨ret_int (by rw [HF.out, ← hy.out.2]; omega), rfl⟩

theorem and_field (x k n : Nat) (hx : x < 9223372036854775808) (hn : n ≤ 62) : bits .and .i64 ((x : Int) / 2 ^ k) (wrap64 (wrap64 (2 ^ n) - 1)) = ((x / B.P2 k % B.P2 n : Nat) : Int) := by
  rw [div_pow]
  exact and_mask _ _ (Nat.lt_of_le_of_lt (Nat.div_le_self _ _) hx) hn

def NumRel (s : ByteArray) (a b : Nat) (p i : Value) : Prop := ∃ k x : Nat, a / 8 ≤ k ∧ (k ≤ (b + 7) / 8) ∧ i = .int .i64 k ∧ p = .int .i64 (x : Int) ∧ x = B.bv ((s.data.toList.take k).drop (a / 8))
set_option maxHeartbeats 400000 in
theorem number_any (s : ByteArray) (a b : Nat) (w : World) (hs : s.size ≤ 1099511627776) (hi : b ≤ 8 * s.size) (hab : a ≤ b) (hab2 : b ≤ a + 31) :
    Calls Try.prog 35 #[.string s, .int .i64 a, .int .i64 b] w fun e w' => e = .returned (.int .i64 (B.fld s.data.toList a (b - a) : Int)) ∧ ∃ n, w' = w.drewN n := by
  go_enter Try.func35, Try.ntmps35
  go_wp2
  go_loop [7, 9] (fun p i => NumRel s a b p i) (fun _ i => s.size + 1 - (intOf i).toNat)
  case atStart => exact ⟨a / 8, 0, by omega, by omega, by go_num, rfl, (B.bv_part_nil _ _).symm⟩
  case round =>
    obtain ⟨k, x, hk0, hk, rfl, rfl, hx⟩ := hrel
    have hx2 : x < B.P2 (8 * 5) := by rw [hx]; exact B.bv_part_lt _ _ _ 5 (by omega)
    have hx3 : x < 1099511627776 := hx2
    have HX := Lib.hid hx
    clear hx hx2
    by_cases hlt : k < (b + 7) / 8
    · have hk8 : k < s.size := by omega
      have hstep := B.bv_part_snoc s.data.toList (a / 8) k hk0 (by rw [bytes_length]; omega)
      rw [← HX.out, ← bytes_getElem s k hk8] at hstep
      have HS := Lib.hid hstep
      clear hstep
      have HO := Lib.hid (or_byte x s[k] (by omega))
      go_wp2
      go_round
      case rel => exact ⟨k + 1, 256 * x + s[k].toNat, by omega, by omega, by go_num, by rw [HO.out], HS.out.symm⟩
      case measure => simp [intOf]; omega
    · obtain rfl : k = (b + 7) / 8 := by omega
      have hf := B.fld_number s.data.toList a b hab (by rw [bytes_length]; omega)
      rw [← HX.out] at hf
      have HF := Lib.hid hf
      clear hf
      have HA := Lib.hid (and_field x (8 * ((b + 7) / 8) - b) (b - a) (by omega) (by omega))
      go_wp2
      go_quiet (fail)
      go_wp2
      go_ret
      exact ⟨ret_int (by rw [HA.out, HF.out]), _, rfl⟩
end Go.Proofs.Ytoofjcpapidgdaa
