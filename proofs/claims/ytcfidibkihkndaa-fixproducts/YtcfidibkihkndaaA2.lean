import Derived.Test.YtcfidibkihkndaaA1
import Derived.Lib.Mul64
import Derived.Laws.Bits64b
namespace Go.Proofs.Ytcfidibkihkndaa
open Go.RowKit

theorem ret2 {k : IntKind} {a a' : Int} {c : Bool} (h : a = a') : Ending.returned (.tuple #[.int k a, .bool c]) = .returned (.tuple #[.int k a', .bool c]) := by rw [h]

theorem floor_yes (a b : Int) (w : World) (a0 : -9223372036854775808 ≤ a) (a1 : a ≤ 9223372036854775807) (b0 : -9223372036854775808 ≤ b) (b1 : b ≤ 9223372036854775807)
    (hb : b < 0 ∨ 0 < b) (hm : -9223372036854775808 < a ∨ b < -1 ∨ -1 < b) :
    Calls Try.prog 16 #[.int .i64 a, .int .i64 b] w fun e w' => e = .returned (.tuple #[.int .i64 (a.fdiv b), .bool true]) ∧ ∃ n, w' = w.drewN n := by
  have c := divide_yes a b w a0 a1 b0 b1 hb hm
  have C := Lib.hid c
  clear c a0 a1 b0 b1 hb hm
  go_enter Try.func16, Try.ntmps16
  go_wp2_with (go_at_call 29; refine C.out.mono ?_; rintro e w' ⟨rfl, n, rfl⟩)
  go_ret2
  exact ⟨rfl, _, rfl⟩

theorem floor_no (a b : Int) (w : World) (h : (b == 0) = true ∨ (b == 0) = false ∧ (a == -9223372036854775808) = true ∧ (b == -1) = true) :
    Calls Try.prog 16 #[.int .i64 a, .int .i64 b] w fun e w' => e = .returned (.tuple #[.int .i64 0, .bool false]) ∧ ∃ n, w' = w.drewN n := by
  have c := divide_no a b w h
  have C := Lib.hid c
  clear c h
  go_enter Try.func16, Try.ntmps16
  go_wp2_with (go_at_call 29; refine C.out.mono ?_; rintro e w' ⟨rfl, n, rfl⟩)
  go_ret2
  exact ⟨rfl, _, rfl⟩

set_option maxHeartbeats 1000000 in
theorem round_core (a b q l : Int) (w : World) (t : Bool) (l0 : -9223372036854775808 ≤ l) (l1 : l ≤ 9223372036854775807) (b0 : -9223372036854775808 ≤ b) (b1 : b ≤ 9223372036854775807)
    (ct : decide (IntKind.u64.wrap ((b.natAbs : Int) - (l.natAbs : Int)) ≤ (l.natAbs : Int)) = t) (x : Int) (hx : Hid (x = if t then wrap64 (q + 1) else q))
    (C : Hid (Calls Try.prog 29 #[.int .i64 a, .int .i64 b] w fun e w' => e = .returned (.tuple #[.int .i64 q, .int .i64 l, .bool true]) ∧ ∃ n, w' = w.drewN n)) :
    Calls Try.prog 18 #[.int .i64 a, .int .i64 b] w fun e w' => e = .returned (.tuple #[.int .i64 x, .bool true]) ∧ ∃ n, w' = w.drewN n := by
  cases t
  · have hx' := hx.out
    rw [if_neg (by decide)] at hx'
    subst hx'
    clear hx
    go_enter Try.func18, Try.ntmps18
    go_wp2_with (first | (go_at_call 29; refine C.out.mono ?_; rintro e w' ⟨rfl, n, rfl⟩) | (go_at_call 34; refine (size_any _ _ (by omega) (by omega)).mono ?_; rintro e w' ⟨rfl, rfl⟩))
    go_ret2
    exact ⟨rfl, _, rfl⟩
  · have hx' := hx.out
    rw [if_pos rfl] at hx'
    subst hx'
    clear hx
    go_enter Try.func18, Try.ntmps18
    go_wp2_with (first | (go_at_call 29; refine C.out.mono ?_; rintro e w' ⟨rfl, n, rfl⟩) | (go_at_call 34; refine (size_any _ _ (by omega) (by omega)).mono ?_; rintro e w' ⟨rfl, rfl⟩))
    go_ret2
    exact ⟨rfl, _, rfl⟩

theorem round_yes (a b : Int) (w : World) (a0 : -9223372036854775808 ≤ a) (a1 : a ≤ 9223372036854775807) (b0 : -9223372036854775808 ≤ b) (b1 : b ≤ 9223372036854775807)
    (hb : b < 0 ∨ 0 < b) (hm : -9223372036854775808 < a ∨ b < -1 ∨ -1 < b) :
    Calls Try.prog 18 #[.int .i64 a, .int .i64 b] w fun e w' => e = .returned (.tuple #[.int .i64 (M1.rnd a b), .bool true]) ∧ ∃ n, w' = w.drewN n := by
  have ⟨p, n, e⟩ := M1.fmod_facts a b (by omega)
  have u := M1.up_range a b a0 a1 (by omega)
  refine round_core a b _ _ w _ (by omega) (by omega) b0 b1 rfl _ (Lib.hid ?_) (Lib.hid (divide_yes a b w a0 a1 b0 b1 hb hm))
  have ew : IntKind.u64.wrap ((b.natAbs : Int) - ((a.fmod b).natAbs : Int)) = (b.natAbs : Int) - ((a.fmod b).natAbs : Int) := by rw [IntKind.wrap_u64]; omega
  rw [M1.rnd_eq a b (by omega), ew]
  by_cases h : (b.natAbs : Int) ≤ 2 * ((a.fmod b).natAbs : Int)
  · rw [if_pos h, if_pos (by simp; omega)]
    have := u h
    unfold wrap64; omega
  · rw [if_neg h, if_neg (by simp; omega)]

theorem round_no (a b : Int) (w : World) (h : (b == 0) = true ∨ (b == 0) = false ∧ (a == -9223372036854775808) = true ∧ (b == -1) = true) :
    Calls Try.prog 18 #[.int .i64 a, .int .i64 b] w fun e w' => e = .returned (.tuple #[.int .i64 0, .bool false]) ∧ ∃ n, w' = w.drewN n := by
  have c := divide_no a b w h
  have C := Lib.hid c
  clear c h
  go_enter Try.func18, Try.ntmps18
  go_wp2_with (go_at_call 29; refine C.out.mono ?_; rintro e w' ⟨rfl, n, rfl⟩)
  go_ret2
  exact ⟨rfl, _, rfl⟩

theorem signed_neg (n : Int) (w : World) (h0 : 0 ≤ n) (h1 : n ≤ 9223372036854775808) :
    Calls Try.prog 26 #[.bool true, .int .u64 n] w fun e w' => e = .returned (.tuple #[.int .i64 (-n), .bool true]) ∧ w = w' := by
  have e : wrap64 (IntKind.u64.wrap (-n)) = -n := by rw [IntKind.wrap_u64]; unfold wrap64; omega
  have c : decide (n ≤ 9223372036854775808) = true := by simpa using h1
  have E := Lib.hid e
  clear e
  go_enter Try.func26, Try.ntmps26
  go_wp2
  go_ret2
  exact ⟨ret2 E.out, rfl⟩

theorem signed_pos (n : Int) (w : World) (h0 : 0 ≤ n) (h1 : n < 9223372036854775808) :
    Calls Try.prog 26 #[.bool false, .int .u64 n] w fun e w' => e = .returned (.tuple #[.int .i64 n, .bool true]) ∧ w = w' := by
  have c : decide (n < 9223372036854775808) = true := by simpa using h1
  go_enter Try.func26, Try.ntmps26
  go_wp2
  go_ret2
  exact ⟨rfl, rfl⟩

theorem signed_no (b : Bool) (n : Int) (w : World) (h : b = true ∧ 9223372036854775808 < n ∨ b = false ∧ 9223372036854775808 ≤ n) :
    Calls Try.prog 26 #[.bool b, .int .u64 n] w fun e w' => e = .returned (.tuple #[.int .i64 0, .bool false]) ∧ w = w' := by
  rcases h with ⟨rfl, h⟩ | ⟨rfl, h⟩
  · have c : decide (n ≤ 9223372036854775808) = false := by simpa using h
    go_enter Try.func26, Try.ntmps26
    go_wp2
    go_ret2
    exact ⟨rfl, rfl⟩
  · have c : decide (n < 9223372036854775808) = false := by simpa using h
    go_enter Try.func26, Try.ntmps26
    go_wp2
    go_ret2
    exact ⟨rfl, rfl⟩

/-- the product: is it below nought, its size's high word, its low word -/
def pneg (a b : Int) : Bool := decide (a * b < 0)
def phi (a b : Int) : Int := ((a.natAbs * b.natAbs / 18446744073709551616 : Nat) : Int)
def plo (a b : Int) : Int := ((a.natAbs * b.natAbs % 18446744073709551616 : Nat) : Int)

namespace Words
theorem maskN (a : Nat) (ha : a < 18446744073709551616) : bits .and .u64 (a : Int) 4294967295 = ((a % 4294967296 : Nat) : Int) := by
  have h := bits_and_u64_nat a 4294967295 ha (by omega)
  rw [show a &&& 4294967295 = a % 4294967296 from Nat.and_two_pow_sub_one_eq_mod a 32] at h
  exact h
theorem halfN (a : Nat) : (a : Int) / 4294967296 = ((a / 4294967296 : Nat) : Int) := by omega
theorem mulN (a b : Nat) : (a : Int) * (b : Int) = ((a * b : Nat) : Int) := by push_cast; rfl
theorem addN (a b : Nat) : (a : Int) + (b : Int) = ((a + b : Nat) : Int) := by push_cast; rfl
theorem inN (a : Nat) (ha : a < 18446744073709551616) : IntKind.u64.wrap (a : Int) = (a : Int) := by rw [IntKind.wrap_u64]; omega
theorem modN (a : Nat) : IntKind.u64.wrap (a : Int) = ((a % 18446744073709551616 : Nat) : Int) := by rw [IntKind.wrap_u64]; omega
end Words

set_option maxHeartbeats 1000000 in
theorem mul64_any (x y : Nat) (hx : x < 18446744073709551616) (hy : y < 18446744073709551616) (w : World) :
    Calls Try.prog 38 #[.int .u64 x, .int .u64 y] w fun e w' => e = .returned (.tuple #[.int .u64 ((x * y / 18446744073709551616 : Nat) : Int), .int .u64 ((x * y % 18446744073709551616 : Nat) : Int)]) ∧ w = w' := by
  obtain ⟨m1, m2, m3, m4⟩ := Lib.mul64_hi x y hx hy
  have p1 := Lib.half_mul_le (a := x / 4294967296) (b := y / 4294967296) (by omega) (by omega)
  have p2 := Lib.half_mul_le (a := x / 4294967296) (b := y % 4294967296) (by omega) (by omega)
  have p3 := Lib.half_mul_le (a := x % 4294967296) (b := y / 4294967296) (by omega) (by omega)
  generalize hA : x / 4294967296 * (y / 4294967296) = A at *
  generalize hB : x / 4294967296 * (y % 4294967296) = B at *
  generalize hC : x % 4294967296 * (y / 4294967296) = C at *
  generalize hD : x % 4294967296 * (y % 4294967296) = D at *
  have F := Lib.hid (And.intro hA (And.intro hB (And.intro hC (And.intro hD (And.intro m4 (And.intro hx hy))))))
  have G := Lib.hid (And.intro m1 (And.intro m2 (And.intro m3 (And.intro p1 (And.intro p2 p3)))))
  clear hA hB hC hD m1 m2 m3 m4 p1 p2 p3 hx hy
  go_enter Try.func38, Try.ntmps38
  go_wp2
  obtain ⟨hA, hB, hC, hD, m4, hx, hy⟩ := F.out
  obtain ⟨m1, m2, m3, p1, p2, p3⟩ := G.out
  simp only [Words.maskN x hx, Words.maskN y hy, Words.halfN, Words.mulN, hA, hB, hC, hD, Words.addN, Words.inN D (by omega), Words.inN B (by omega), Words.inN C (by omega), Words.inN A (by omega),
    Words.inN _ m2, Words.maskN _ m2, Words.inN _ m3, Words.inN (A + (B + D / 4294967296) / 4294967296) (by omega), Words.inN (x * y / 18446744073709551616) (by rw [← m4]; omega), Words.modN (x * y), m4]
  go_ret2
  exact ⟨rfl, rfl⟩

end Go.Proofs.Ytcfidibkihkndaa
