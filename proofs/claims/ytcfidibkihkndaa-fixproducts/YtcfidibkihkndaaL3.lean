import Derived.Test.YtcfidibkihkndaaL2
import Derived.Test.YtcfidibkihkndaaD6
namespace Go.Proofs.Ytcfidibkihkndaa
open Go.RowKit
set_option linter.unusedVariables false

theorem add_any (a b : Int) (w : World) (a0 : -9223372036854775808 ≤ a) (a1 : a ≤ 9223372036854775807) (b0 : -9223372036854775808 ≤ b) (b1 : b ≤ 9223372036854775807) :
    Calls Try.prog 11 #[.int .i64 a, .int .i64 b] w fun e w' => e = .returned (.tuple #[.int .i64 (M5.num (a + b)), .bool (M5.fit (a + b))]) ∧ w = w' := by
  by_cases h : -9223372036854775808 ≤ a + b ∧ a + b ≤ 9223372036854775807
  · have e : M5.fit (a + b) = true := by simp [M5.fit]; omega
    rw [show M5.num (a + b) = a + b by unfold M5.num; rw [e, if_pos rfl], e]
    exact add_yes a b w a0 a1 b0 b1 h.1 h.2
  · have e : M5.fit (a + b) = false := by simp [M5.fit]; omega
    rw [show M5.num (a + b) = 0 by unfold M5.num; rw [e]; rfl, e]
    exact add_no a b w a0 a1 b0 b1 (by omega)
theorem mul_same (a b : Int) (w : World) (a0 : -9223372036854775808 ≤ a) (a1 : a ≤ 9223372036854775807) (b0 : -9223372036854775808 ≤ b) (b1 : b ≤ 9223372036854775807) :
    Calls Try.prog 13 #[.int .i64 a, .int .i64 b] w fun e w' => e = .returned (.tuple #[.int .i64 (M5.num (a * b)), .bool (M5.fit (a * b))]) ∧ Below w.heap.size w w' := mul_any a b w a0 a1 b0 b1

set_option maxHeartbeats 1000000 in
theorem fixSums_core (a b x p : Int) (s t : Bool) (w : World)
    (A1 : Hid (∀ w, Calls Try.prog 11 #[.int .i64 a, .int .i64 b] w fun e w' => e = .returned (.tuple #[.int .i64 x, .bool s]) ∧ w = w'))
    (A2 : Hid (∀ w, Calls Try.prog 12 #[.int .i64 a, .int .i64 b] w fun e w' => e = .returned (.tuple #[.int .i64 x, .bool s]) ∧ w = w'))
    (M1 : Hid (∀ w, Calls Try.prog 13 #[.int .i64 a, .int .i64 b] w fun e w' => e = .returned (.tuple #[.int .i64 p, .bool t]) ∧ Below w.heap.size w w'))
    (M2 : Hid (∀ w, Calls Try.prog 14 #[.int .i64 a, .int .i64 b] w fun e w' => e = .returned (.tuple #[.int .i64 p, .bool t]) ∧ Below w.heap.size w w')) :
    Calls Try.prog 3 #[.int .i64 a, .int .i64 b] w fun e w' => e = .returned (.bool true) ∧ Below w.heap.size w w' := by
  cases s <;> cases t
  all_goals
    go_enter Try.func3, Try.ntmps3
    go_wp2_with (first | (go_at_call 11; refine (A1.out _).mono ?_; rintro e w' ⟨rfl, rfl⟩) | (go_at_call 12; refine (A2.out _).mono ?_; rintro e w' ⟨rfl, rfl⟩) |
      (go_at_call 13; refine (M1.out _).mono ?_; rintro e w1 ⟨rfl, hb1⟩) | (go_at_call 14; refine (M2.out _).mono ?_; rintro e w2 ⟨rfl, hb2⟩) | (go_at_call 15; refine (awake_any _).mono ?_; rintro e w3 ⟨rfl, hb3⟩))
    go_ret
    exact ⟨rfl, bq_trans (by assumption) (bq_trans (by assumption) (by assumption))⟩

theorem fixSums_walk (a b : Int) (w : World) (a0 : -9223372036854775808 ≤ a) (a1 : a ≤ 9223372036854775807) (b0 : -9223372036854775808 ≤ b) (b1 : b ≤ 9223372036854775807) :
    Calls Try.prog 3 #[.int .i64 a, .int .i64 b] w fun e w' => e = .returned (.bool true) ∧ Below w.heap.size w w' :=
  fixSums_core a b _ _ _ _ w (Lib.hid fun w => add_any a b w a0 a1 b0 b1) (Lib.hid fun w => refadd_any a b w a0 a1 b0 b1) (Lib.hid fun w => mul_same a b w a0 a1 b0 b1) (Lib.hid fun w => refmul_any a b w a0 a1 b0 b1)

theorem refcompare_any (a b c d : Int) (w : World) (a0 : -9223372036854775808 ≤ a) (a1 : a ≤ 9223372036854775807) (b0 : -9223372036854775808 ≤ b) (b1 : b ≤ 9223372036854775807)
    (c0 : -9223372036854775808 ≤ c) (c1 : c ≤ 9223372036854775807) (d0 : -9223372036854775808 ≤ d) (d1 : d ≤ 9223372036854775807) :
    Calls Try.prog 22 #[.int .i64 a, .int .i64 b, .int .i64 c, .int .i64 d] w fun e w' => e = .returned (.int .i64 (cmp4 a b c d)) ∧ Below w.heap.size w w' := by
  refine refcompare_core a b c d w a0 a1 b0 b1 c0 c1 d0 d1 _ _ (Lib.hid rfl) (Lib.hid rfl) _ (Lib.hid ?_)
  unfold cmp4
  generalize a * b = m
  generalize c * d = n
  by_cases h : m < 0 <;> by_cases k : n < 0 <;> simp [h, k]
  all_goals (repeat' split) <;> omega

set_option maxHeartbeats 1000000 in
theorem fixOrder_core (a b c d x : Int) (w : World)
    (K1 : Hid (∀ w, Calls Try.prog 21 #[.int .i64 a, .int .i64 b, .int .i64 c, .int .i64 d] w fun e w' => e = .returned (.int .i64 x) ∧ Below w.heap.size w w'))
    (K2 : Hid (∀ w, Calls Try.prog 22 #[.int .i64 a, .int .i64 b, .int .i64 c, .int .i64 d] w fun e w' => e = .returned (.int .i64 x) ∧ Below w.heap.size w w')) :
    Calls Try.prog 6 #[.int .i64 a, .int .i64 b, .int .i64 c, .int .i64 d] w fun e w' => e = .returned (.bool true) ∧ Below w.heap.size w w' := by
  go_enter Try.func6, Try.ntmps6
  go_wp2_with (first | (go_at_call 21; refine (K1.out _).mono ?_; rintro e w1 ⟨rfl, hb1⟩) | (go_at_call 22; refine (K2.out _).mono ?_; rintro e w2 ⟨rfl, hb2⟩) | (go_at_call 15; refine (awake_any _).mono ?_; rintro e w3 ⟨rfl, hb3⟩))
  go_ret
  exact ⟨rfl, bq_trans (by assumption) (bq_trans (by assumption) (by assumption))⟩

theorem fixOrder_walk (a b c d : Int) (w : World) (a0 : -9223372036854775808 ≤ a) (a1 : a ≤ 9223372036854775807) (b0 : -9223372036854775808 ≤ b) (b1 : b ≤ 9223372036854775807)
    (c0 : -9223372036854775808 ≤ c) (c1 : c ≤ 9223372036854775807) (d0 : -9223372036854775808 ≤ d) (d1 : d ≤ 9223372036854775807) :
    Calls Try.prog 6 #[.int .i64 a, .int .i64 b, .int .i64 c, .int .i64 d] w fun e w' => e = .returned (.bool true) ∧ Below w.heap.size w w' :=
  fixOrder_core a b c d _ w (Lib.hid fun w => compare_any a b c d w a0 a1 b0 b1 c0 c1 d0 d1) (Lib.hid fun w => refcompare_any a b c d w a0 a1 b0 b1 c0 c1 d0 d1)

end Go.Proofs.Ytcfidibkihkndaa
