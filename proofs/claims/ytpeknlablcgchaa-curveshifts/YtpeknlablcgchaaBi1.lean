import Derived.Test.YtpeknlablcgchaaProg
import Derived.Test.YtpeknlablcgchaaU1
import Derived.Test.YtpeknlablcgchaaBi0
import Derived.WalkKit
import Derived.WalkSpells
import Derived.WalkLawsBesides
import Derived.Laws.BitsAllLaws
import Derived.Lib.Hide
import Derived.Deep.QuietTactic
import Derived.BigQuiet
import Derived.Outline
/- Layer 2: the small tests, a power, a bit, a number of bits. -/
namespace Go.Proofs.Ytpeknlablcgchaa
open Go.RowKit
set_option linter.unusedVariables false

theorem ret_int {k : IntKind} {a b : Int} (h : a = b) : Ending.returned (.int k a) = .returned (.int k b) := by rw [h]
theorem ret_bool {a b : Bool} (h : a = b) : Ending.returned (.bool a) = .returned (.bool b) := by rw [h]
theorem i64_id (x : Int) (h0 : -9223372036854775808 ≤ x) (h1 : x ≤ 9223372036854775807) : wrap64 x = x := by unfold wrap64; omega

theorem i64_wrap (x : Int) (h0 : -9223372036854775808 ≤ x) (h1 : x ≤ 9223372036854775807) : IntKind.i64.wrap x = x := by rw [IntKind.wrap_i64]; omega

theorem ofInt_i64 (a : Nat) (ha : a < 9223372036854775808) : (BitVec.ofInt 64 (a : Int)).toNat = a := by
  rw [BitVec.ofInt_natCast, BitVec.toNat_ofNat]; exact Nat.mod_eq_of_lt (by omega)
theorem i64_or_nat (a b : Nat) (ha : a < 9223372036854775808) (hb : b < 9223372036854775808) : bits .or .i64 (a : Int) (b : Int) = ((a ||| b : Nat) : Int) := by
  have hx : a ||| b < 2 ^ 63 := Nat.or_lt_two_pow (by omega) (by omega)
  show IntKind.i64.wrap ((BitVec.ofInt 64 (a : Int) ||| BitVec.ofInt 64 (b : Int)).toNat : Int) = _
  rw [BitVec.toNat_or, ofInt_i64 a ha, ofInt_i64 b hb, IntKind.wrap_i64]
  omega
theorem i64_and_nat (a b : Nat) (ha : a < 9223372036854775808) (hb : b < 9223372036854775808) : bits .and .i64 (a : Int) (b : Int) = ((a &&& b : Nat) : Int) := by
  have hx : a &&& b < 2 ^ 63 := Nat.and_lt_two_pow _ (by omega)
  show IntKind.i64.wrap ((BitVec.ofInt 64 (a : Int) &&& BitVec.ofInt 64 (b : Int)).toNat : Int) = _
  rw [BitVec.toNat_and, ofInt_i64 a ha, ofInt_i64 b hb, IntKind.wrap_i64]
  omega
theorem P2_cast (n : Nat) : (2 : Int) ^ n = (B.P2 n : Int) := by unfold B.P2; push_cast; rfl
theorem P2_bd {n : Nat} (h : n ≤ 62) : B.P2 n ≤ 4611686018427387904 := B.P2_le (b := 62) h
theorem or_join (x y n : Nat) (hy : y < B.P2 n) (h : x * B.P2 n + y < 9223372036854775808) : bits .or .i64 ((x * B.P2 n : Nat) : Int) (y : Int) = ((x * B.P2 n + y : Nat) : Int) := by
  have hj := nat_join n (x * B.P2 n) y (Nat.mul_mod_left _ _) hy
  rw [i64_or_nat _ _ (by omega) (by omega), hj]
theorem or_byte (x : Nat) (c : UInt8) (h : x ≤ 36028797018963000) : bits .or .i64 ((x : Int) * 256) (wrap64 (c.toNat : Int)) = ((256 * x + c.toNat : Nat) : Int) := by
  have hc := c.toNat_lt
  rw [i64_id _ (by omega) (by omega)]
  have := or_join x c.toNat 8 (by rw [B.P2_8]; omega) (by rw [B.P2_8]; omega)
  rw [B.P2_8] at this
  rw [show (x : Int) * 256 = ((x * 256 : Nat) : Int) by omega, this, Nat.mul_comm]
theorem and_mask (x n : Nat) (hx : x < 9223372036854775808) (hn : n ≤ 62) : bits .and .i64 (x : Int) (wrap64 (wrap64 (2 ^ n) - 1)) = ((x % B.P2 n : Nat) : Int) := by
  have h1 := B.P2_pos n
  have h2 := P2_bd hn
  rw [P2_cast, i64_id (B.P2 n : Int) (by omega) (by omega), i64_id ((B.P2 n : Int) - 1) (by omega) (by omega), show (B.P2 n : Int) - 1 = ((B.P2 n - 1 : Nat) : Int) by omega, i64_and_nat _ _ hx (by omega)]
  unfold B.P2
  rw [Nat.and_two_pow_sub_one_eq_mod]
theorem div_pow (x k : Nat) : (x : Int) / 2 ^ k = ((x / B.P2 k : Nat) : Int) := by rw [P2_cast]; push_cast; rfl

theorem bytes_getElem (s : ByteArray) (k : Nat) (h : k < s.size) (h' : k < s.data.toList.length) : s[k] = s.data.toList[k] := by simp; rfl
theorem bytes_length (s : ByteArray) : s.data.toList.length = s.size := by simp
theorem half_div (x k : Nat) : x / B.P2 k / 2 = x / B.P2 (k + 1) := by rw [Nat.div_div_eq_div_mul, B.P2_succ, Nat.mul_comm]

theorem and_field (x k n : Nat) (hx : x < 9223372036854775808) (hn : n ≤ 62) : bits .and .i64 ((x : Int) / 2 ^ k) (wrap64 (wrap64 (2 ^ n) - 1)) = ((x / B.P2 k % B.P2 n : Nat) : Int) := by
  rw [div_pow]
  exact and_mask _ _ (Nat.lt_of_le_of_lt (Nat.div_le_self _ _) hx) hn

def NumRel (s : ByteArray) (a b : Nat) (p i : Value) : Prop := ∃ k x : Nat, a / 8 ≤ k ∧ (k ≤ (b + 7) / 8) ∧ i = .int .i64 k ∧ p = .int .i64 (x : Int) ∧ x = B.bv ((s.data.toList.take k).drop (a / 8))
end Go.Proofs.Ytpeknlablcgchaa
