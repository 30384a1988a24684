import Derived.Test.YtcfidibkihkndaaA4
import Derived.Test.YtcfidibkihkndaaM3
import Derived.Test.YtcfidibkihkndaaU1
namespace Go.Proofs.Ytcfidibkihkndaa
open Go.RowKit

/-- how two products stand -/
def cmp4 (a b c d : Int) : Int := if a * b < c * d then -1 else if a * b = c * d then 0 else 1

set_option maxHeartbeats 1000000 in
theorem compare_core (a b c d : Int) (w : World) (a0 : -9223372036854775808 ≤ a) (a1 : a ≤ 9223372036854775807) (b0 : -9223372036854775808 ≤ b) (b1 : b ≤ 9223372036854775807)
    (c0 : -9223372036854775808 ≤ c) (c1 : c ≤ 9223372036854775807) (d0 : -9223372036854775808 ≤ d) (d1 : d ≤ 9223372036854775807) (s t : Bool) (k1 : pneg a b = s) (k2 : pneg c d = t) (x : Int)
    (P1 : Hid (0 ≤ plo a b ∧ plo a b < 18446744073709551616 ∧ 0 ≤ plo c d ∧ plo c d < 18446744073709551616))
    (hx : Hid (x = if s && t then ordw (phi c d) (plo c d) (phi a b) (plo a b) else if s then -1 else if t then 1 else ordw (phi a b) (plo a b) (phi c d) (plo c d))) :
    Calls Try.prog 21 #[.int .i64 a, .int .i64 b, .int .i64 c, .int .i64 d] w fun e w' => e = .returned (.int .i64 x) ∧ Below w.heap.size w w' := by
  cases s <;> cases t
  all_goals
    have hx' := hx.out
    simp only [Bool.and_true, Bool.and_false, Bool.false_eq_true, if_true, if_false] at hx'
    subst hx'
    clear hx
    go_enter Try.func21, Try.ntmps21
    go_wp2_with (first | (go_at_call 25; refine (product_any _ _ _ (by omega) (by omega) (by omega) (by omega)).mono ?_; rintro e w' ⟨rfl, hb⟩) |
      (go_at_call 36; refine (order_any _ _ _ _ _ _ _ (by have := P1.out; omega) (by have := P1.out; omega) (by have := P1.out; omega) (by have := P1.out; omega)).mono ?_; rintro e w' ⟨rfl, hb⟩))
    go_ret
    exact ⟨rfl, by repeat (first | exact Below.refl _ _ | assumption | refine bq_alloc ?_ _ | refine bq_trans ?_ (by assumption))⟩

theorem compare_any (a b c d : Int) (w : World) (a0 : -9223372036854775808 ≤ a) (a1 : a ≤ 9223372036854775807) (b0 : -9223372036854775808 ≤ b) (b1 : b ≤ 9223372036854775807)
    (c0 : -9223372036854775808 ≤ c) (c1 : c ≤ 9223372036854775807) (d0 : -9223372036854775808 ≤ d) (d1 : d ≤ 9223372036854775807) :
    Calls Try.prog 21 #[.int .i64 a, .int .i64 b, .int .i64 c, .int .i64 d] w fun e w' => e = .returned (.int .i64 (cmp4 a b c d)) ∧ Below w.heap.size w w' := by
  have ⟨p1, p2, p3, p4⟩ := p_bounds a b
  have ⟨q1, q2, q3, q4⟩ := p_bounds c d
  refine compare_core a b c d w a0 a1 b0 b1 c0 c1 d0 d1 _ _ rfl rfl _ (Lib.hid ⟨p2, p3, q2, q3⟩) (Lib.hid ?_)
  rw [p_sign, p_sign]
  unfold cmp4 ordw
  rw [← p4, ← q4]
  by_cases h : a * b < 0 <;> by_cases k : c * d < 0 <;> simp [h, k]
  all_goals (repeat' split) <;> omega

theorem add_yes (a b : Int) (w : World) (a0 : -9223372036854775808 ≤ a) (a1 : a ≤ 9223372036854775807) (b0 : -9223372036854775808 ≤ b) (b1 : b ≤ 9223372036854775807)
    (h0 : -9223372036854775808 ≤ a + b) (h1 : a + b ≤ 9223372036854775807) :
    Calls Try.prog 11 #[.int .i64 a, .int .i64 b] w fun e w' => e = .returned (.tuple #[.int .i64 (a + b), .bool true]) ∧ w = w' := by
  rcases Int.lt_trichotomy b 0 with h | h | h
  · have c1 : decide (0 < b) = false := by simp; omega
    have c2 : decide (b < 0) = true := by simp; omega
    have c3 : decide (a < -9223372036854775808 - b) = false := by simp; omega
    go_enter Try.func11, Try.ntmps11
    go_wp2
    go_ret2
    exact ⟨rfl, rfl⟩
  · subst h
    go_enter Try.func11, Try.ntmps11
    go_wp2
    go_ret2
    exact ⟨ret2 (by omega), rfl⟩
  · have c1 : decide (0 < b) = true := by simp; omega
    have c2 : decide (b < 0) = false := by simp; omega
    have c3 : decide (9223372036854775807 - b < a) = false := by simp; omega
    go_enter Try.func11, Try.ntmps11
    go_wp2
    go_ret2
    exact ⟨rfl, rfl⟩

theorem add_no (a b : Int) (w : World) (a0 : -9223372036854775808 ≤ a) (a1 : a ≤ 9223372036854775807) (b0 : -9223372036854775808 ≤ b) (b1 : b ≤ 9223372036854775807)
    (h : a + b < -9223372036854775808 ∨ 9223372036854775807 < a + b) :
    Calls Try.prog 11 #[.int .i64 a, .int .i64 b] w fun e w' => e = .returned (.tuple #[.int .i64 0, .bool false]) ∧ w = w' := by
  rcases h with h | h
  · have c1 : decide (0 < b) = false := by simp; omega
    have c2 : decide (b < 0) = true := by simp; omega
    have c3 : decide (a < -9223372036854775808 - b) = true := by simp; omega
    go_enter Try.func11, Try.ntmps11
    go_wp2
    go_ret2
    exact ⟨rfl, rfl⟩
  · have c1 : decide (0 < b) = true := by simp; omega
    have c2 : decide (b < 0) = false := by simp; omega
    have c3 : decide (9223372036854775807 - b < a) = true := by simp; omega
    go_enter Try.func11, Try.ntmps11
    go_wp2
    go_ret2
    exact ⟨rfl, rfl⟩

end Go.Proofs.Ytcfidibkihkndaa
