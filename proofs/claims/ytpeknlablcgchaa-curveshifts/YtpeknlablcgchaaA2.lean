import Derived.Test.YtpeknlablcgchaaA1
import Derived.Lib.Mul64
import Derived.Laws.Bits64b
namespace Go.Proofs.Ytpeknlablcgchaa
open Go.RowKit

theorem ret2 {k : IntKind} {a a' : Int} {c : Bool} (h : a = a') : Ending.returned (.tuple #[.int k a, .bool c]) = .returned (.tuple #[.int k a', .bool c]) := by rw [h]

set_option maxHeartbeats 1000000 in
theorem round_core (a b q l : Int) (w : World) (t : Bool) (l0 : -9223372036854775808 ≤ l) (l1 : l ≤ 9223372036854775807) (b0 : -9223372036854775808 ≤ b) (b1 : b ≤ 9223372036854775807)
    (ct : decide (IntKind.u64.wrap ((b.natAbs : Int) - (l.natAbs : Int)) ≤ (l.natAbs : Int)) = t) (x : Int) (hx : Hid (x = if t then wrap64 (q + 1) else q))
    (C : Hid (Calls Try.prog 28 #[.int .i64 a, .int .i64 b] w fun e w' => e = .returned (.tuple #[.int .i64 q, .int .i64 l, .bool true]) ∧ ∃ n, w' = w.drewN n)) :
    Calls Try.prog 26 #[.int .i64 a, .int .i64 b] w fun e w' => e = .returned (.tuple #[.int .i64 x, .bool true]) ∧ ∃ n, w' = w.drewN n := by
  cases t
  · have hx' := hx.out
    rw [if_neg (by decide)] at hx'
    subst hx'
    clear hx
    go_enter Try.func26, Try.ntmps26
    go_wp2_with (first | (go_at_call 28; refine C.out.mono ?_; rintro e w' ⟨rfl, n, rfl⟩) | (go_at_call 29; refine (size_any _ _ (by omega) (by omega)).mono ?_; rintro e w' ⟨rfl, rfl⟩))
    go_ret2
    exact ⟨rfl, _, rfl⟩
  · have hx' := hx.out
    rw [if_pos rfl] at hx'
    subst hx'
    clear hx
    go_enter Try.func26, Try.ntmps26
    go_wp2_with (first | (go_at_call 28; refine C.out.mono ?_; rintro e w' ⟨rfl, n, rfl⟩) | (go_at_call 29; refine (size_any _ _ (by omega) (by omega)).mono ?_; rintro e w' ⟨rfl, rfl⟩))
    go_ret2
    exact ⟨rfl, _, rfl⟩

theorem round_yes (a b : Int) (w : World) (a0 : -9223372036854775808 ≤ a) (a1 : a ≤ 9223372036854775807) (b0 : -9223372036854775808 ≤ b) (b1 : b ≤ 9223372036854775807)
    (hb : b < 0 ∨ 0 < b) (hm : -9223372036854775808 < a ∨ b < -1 ∨ -1 < b) :
    Calls Try.prog 26 #[.int .i64 a, .int .i64 b] w fun e w' => e = .returned (.tuple #[.int .i64 (M1.rnd a b), .bool true]) ∧ ∃ n, w' = w.drewN n := by
  have ⟨p, n, e⟩ := M1.fmod_facts a b (by omega)
  have u := M1.up_range a b a0 a1 (by omega)
  refine round_core a b _ _ w _ (by omega) (by omega) b0 b1 rfl _ (Lib.hid ?_) (Lib.hid (divide_yes a b w a0 a1 b0 b1 hb hm))
  have ew : IntKind.u64.wrap ((b.natAbs : Int) - ((a.fmod b).natAbs : Int)) = (b.natAbs : Int) - ((a.fmod b).natAbs : Int) := by rw [IntKind.wrap_u64]; omega
  rw [M1.rnd_eq a b (by omega), ew]
  by_cases h : (b.natAbs : Int) ≤ 2 * ((a.fmod b).natAbs : Int)
  · rw [if_pos h, if_pos (by simp; omega)]
    have := u h
    unfold wrap64; omega
  · rw [if_neg h, if_neg (by simp; omega)]

theorem round_no (a b : Int) (w : World) (h : (b == 0) = true ∨ (b == 0) = false ∧ (a == -9223372036854775808) = true ∧ (b == -1) = true) :
    Calls Try.prog 26 #[.int .i64 a, .int .i64 b] w fun e w' => e = .returned (.tuple #[.int .i64 0, .bool false]) ∧ ∃ n, w' = w.drewN n := by
  have c := divide_no a b w h
  have C := Lib.hid c
  clear c h
  go_enter Try.func26, Try.ntmps26
  go_wp2_with (go_at_call 28; refine C.out.mono ?_; rintro e w' ⟨rfl, n, rfl⟩)
  go_ret2
  exact ⟨rfl, _, rfl⟩

/-- the product: is it below nought, its size's high word, its low word -/
def pneg (a b : Int) : Bool := decide (a * b < 0)
def phi (a b : Int) : Int := ((a.natAbs * b.natAbs / 18446744073709551616 : Nat) : Int)
def plo (a b : Int) : Int := ((a.natAbs * b.natAbs % 18446744073709551616 : Nat) : Int)

namespace Words
theorem maskN (a : Nat) (ha : a < 18446744073709551616) : bits .and .u64 (a : Int) 4294967295 = ((a % 4294967296 : Nat) : Int) := by
  have h := bits_and_u64_nat a 4294967295 ha (by omega)
  rw [show a &&& 4294967295 = a % 4294967296 from Nat.and_two_pow_sub_one_eq_mod a 32] at h
  exact h
theorem halfN (a : Nat) : (a : Int) / 4294967296 = ((a / 4294967296 : Nat) : Int) := by omega
theorem mulN (a b : Nat) : (a : Int) * (b : Int) = ((a * b : Nat) : Int) := by push_cast; rfl
theorem addN (a b : Nat) : (a : Int) + (b : Int) = ((a + b : Nat) : Int) := by push_cast; rfl
theorem inN (a : Nat) (ha : a < 18446744073709551616) : IntKind.u64.wrap (a : Int) = (a : Int) := by rw [IntKind.wrap_u64]; omega
theorem modN (a : Nat) : IntKind.u64.wrap (a : Int) = ((a % 18446744073709551616 : Nat) : Int) := by rw [IntKind.wrap_u64]; omega
end Words

end Go.Proofs.Ytpeknlablcgchaa
