import Derived.Test.YtddiccdfeckgaaaProg
import Derived.Test.YtddiccdfeckgaaaU1
import Derived.Test.YtddiccdfeckgaaaAd0
import Derived.WalkKit
import Derived.WalkSpells
import Derived.WalkLawsBesides
import Derived.Laws.BitsAllLaws
import Derived.Lib.Hide
import Derived.Outline
/- Layer 3: the parts of a sum, a sum out of parts. -/
namespace Go.Proofs.Ytddiccdfeckgaaa.Ad
open Go.RowKit
set_option linter.unusedVariables false

theorem ret_int {k : IntKind} {a b : Int} (h : a = b) : Ending.returned (.int k a) = .returned (.int k b) := by rw [h]
theorem ret_bool {a b : Bool} (h : a = b) : Ending.returned (.bool a) = .returned (.bool b) := by rw [h]
theorem i64_id (x : Int) (h0 : -9223372036854775808 ≤ x) (h1 : x ≤ 9223372036854775807) : wrap64 x = x := by unfold wrap64; omega
theorem i64_wrap (x : Int) (h0 : -9223372036854775808 ≤ x) (h1 : x ≤ 9223372036854775807) : IntKind.i64.wrap x = x := by rw [IntKind.wrap_i64]; omega

/-- numbers as the walk's integers -/
def mdI (x : Int) : Int := x % 65521
def loI (x : Int) : Int := (A.lo x : Nat)
def hiI (x : Int) : Int := (A.hi x : Nat)
def whI (a b : Int) : Int := b * 65536 + a
theorem loI_bd (x : Int) : 0 ≤ loI x ∧ loI x < 65521 := by have := A.lo_lt x; unfold loI; omega
theorem hiI_bd (x : Int) : 0 ≤ hiI x ∧ hiI x < 65521 := by have := A.hi_lt x; unfold hiI; omega
theorem mdI_bd (x : Int) : 0 ≤ mdI x ∧ mdI x < 65521 := by unfold mdI; omega
theorem and16 (x : Int) : bits .and .i64 x 65535 = x % 65536 := by
  show IntKind.i64.wrap ((BitVec.ofInt 64 x &&& BitVec.ofInt 64 65535).toNat : Int) = _
  rw [BitVec.toNat_and, BitVec.toNat_ofInt, show (BitVec.ofInt 64 65535).toNat = 2 ^ 16 - 1 by rfl, Nat.and_two_pow_sub_one_eq_mod, IntKind.wrap_i64]
  omega
theorem or16 (a b : Int) (ha : 0 ≤ a) (ha2 : a < 65536) (hb : 0 ≤ b) (hb2 : b < 65536) : bits .or .i64 (b * 65536) a = b * 65536 + a := by
  obtain ⟨m, rfl⟩ := Int.eq_ofNat_of_zero_le ha
  obtain ⟨n, rfl⟩ := Int.eq_ofNat_of_zero_le hb
  show IntKind.i64.wrap ((BitVec.ofInt 64 ((n : Int) * 65536) ||| BitVec.ofInt 64 (m : Int)).toNat : Int) = _
  have e : 2 ^ 16 * n ||| m = 2 ^ 16 * n + m := (Nat.two_pow_add_eq_or_of_lt (by omega) n).symm
  have h1 : (BitVec.ofInt 64 ((n : Int) * 65536)).toNat = 2 ^ 16 * n := by rw [BitVec.toNat_ofInt]; omega
  have h2 : (BitVec.ofInt 64 (m : Int)).toNat = m := by rw [BitVec.toNat_ofInt]; omega
  rw [BitVec.toNat_or, h1, h2, e, IntKind.wrap_i64]
  omega
theorem below_any (x : Int) (w : World) (h0 : 0 ≤ x) (hn : x < 131042) :
    Calls Try.prog 44 #[.int .i64 x] w fun e w' => e = .returned (.int .i64 (mdI x)) ∧ w = w' := by
  go_enter Try.func44, Try.ntmps44
  go_wp2
  all_goals (go_ret; exact ⟨ret_int (by unfold mdI; omega), rfl⟩)
theorem whole_any (a b : Int) (w : World) (ha : 0 ≤ a) (ha2 : a < 65521) (hb : 0 ≤ b) (hb2 : b < 65521) :
    Calls Try.prog 45 #[.int .i64 a, .int .i64 b] w fun e w' => e = .returned (.int .i64 (whI a b)) ∧ w = w' := by
  go_enter Try.func45, Try.ntmps45
  go_wp2
  go_ret
  exact ⟨ret_int (or16 a b ha (by omega) hb (by omega)), rfl⟩
theorem parts_any (x : Int) (w : World) (h0 : -9223372036854775808 ≤ x) (h1 : x ≤ 9223372036854775807) :
    Calls Try.prog 43 #[.int .i64 x] w fun e w' => e = .returned (.tuple #[.int .i64 (loI x), .int .i64 (hiI x)]) ∧ w = w' := by
  have E1 := Lib.hid (and16 x)
  have E2 := Lib.hid (and16 (x / 65536))
  have M1 : Hid (mdI (x % 65536) = loI x) := Lib.hid (by unfold mdI loI A.lo; omega)
  have M2 : Hid (mdI (x / 65536 % 65536) = hiI x) := Lib.hid (by unfold mdI hiI A.hi; omega)
  go_enter Try.func43, Try.ntmps43
  go_wp2_with fail
  rw [E1.out]
  refine (below_any _ _ (by omega) (by omega)).mono ?_
  rintro e w' ⟨rfl, rfl⟩
  rw [M1.out]
  go_wp2_with fail
  rw [E2.out]
  refine (below_any _ _ (by omega) (by omega)).mono ?_
  rintro e w' ⟨rfl, rfl⟩
  rw [M2.out]
  go_wp2
  go_ret2
  exact ⟨rfl, rfl⟩
theorem low_any (x : Int) (w : World) (h0 : -9223372036854775808 ≤ x) (h1 : x ≤ 9223372036854775807) :
    Calls Try.prog 46 #[.int .i64 x] w fun e w' => e = .returned (.int .i64 (loI x)) ∧ w = w' := by
  go_enter Try.func46, Try.ntmps46
  go_wp2
  go_ret
  exact ⟨ret_int (by unfold loI A.lo; omega), rfl⟩
theorem high_any (x : Int) (w : World) (h0 : -9223372036854775808 ≤ x) (h1 : x ≤ 9223372036854775807) :
    Calls Try.prog 47 #[.int .i64 x] w fun e w' => e = .returned (.int .i64 (hiI x)) ∧ w = w' := by
  go_enter Try.func47, Try.ntmps47
  go_wp2
  go_ret
  exact ⟨ret_int (by unfold hiI A.hi; omega), rfl⟩
end Go.Proofs.Ytddiccdfeckgaaa.Ad
