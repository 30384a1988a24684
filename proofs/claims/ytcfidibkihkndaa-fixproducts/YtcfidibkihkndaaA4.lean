import Derived.Test.YtcfidibkihkndaaA3
namespace Go.Proofs.Ytcfidibkihkndaa
open Go.RowKit

set_option maxHeartbeats 1000000 in
theorem mul_core_no (a b : Int) (w : World) (a0 : -9223372036854775808 ≤ a) (a1 : a ≤ 9223372036854775807) (b0 : -9223372036854775808 ≤ b) (b1 : b ≤ 9223372036854775807) (h1 : (phi a b != 0) = true) :
    Calls Try.prog 13 #[.int .i64 a, .int .i64 b] w fun e w' => e = .returned (.tuple #[.int .i64 0, .bool false]) ∧ Below w.heap.size w w' := by
  have P := Lib.hid (product_any a b w a0 a1 b0 b1)
  clear a0 a1 b0 b1
  go_enter Try.func13, Try.ntmps13
  go_wp2_with (first | (go_at_call 25; refine P.out.mono ?_; rintro e w' ⟨rfl, hb⟩))
  go_ret2
  exact ⟨rfl, hb.alloc (by have := hb.size; omega) _⟩

theorem mul_yes (a b : Int) (w : World) (a0 : -9223372036854775808 ≤ a) (a1 : a ≤ 9223372036854775807) (b0 : -9223372036854775808 ≤ b) (b1 : b ≤ 9223372036854775807)
    (h0 : -9223372036854775808 ≤ a * b) (h1 : a * b ≤ 9223372036854775807) :
    Calls Try.prog 13 #[.int .i64 a, .int .i64 b] w fun e w' => e = .returned (.tuple #[.int .i64 (a * b), .bool true]) ∧ Below w.heap.size w w' := by
  have ⟨p1, p2, p3, p4⟩ := p_bounds a b
  have hz : phi a b = 0 := by omega
  rw [hz] at p4
  refine mul_core_yes a b _ w a0 a1 b0 b1 (by simp [hz]) _ (Lib.hid fun w => ?_)
  rw [p_sign]
  by_cases h : a * b < 0
  · rw [show a * b = -plo a b by omega, show decide (-plo a b < 0) = true by simp; omega]
    exact signed_neg _ w p2 (by omega)
  · rw [show a * b = plo a b by omega, show decide (plo a b < 0) = false by simp; omega]
    exact signed_pos _ w p2 (by omega)

theorem mul_no (a b : Int) (w : World) (a0 : -9223372036854775808 ≤ a) (a1 : a ≤ 9223372036854775807) (b0 : -9223372036854775808 ≤ b) (b1 : b ≤ 9223372036854775807)
    (h : a * b < -9223372036854775808 ∨ 9223372036854775807 < a * b) :
    Calls Try.prog 13 #[.int .i64 a, .int .i64 b] w fun e w' => e = .returned (.tuple #[.int .i64 0, .bool false]) ∧ Below w.heap.size w w' := by
  have ⟨p1, p2, p3, p4⟩ := p_bounds a b
  by_cases hz : phi a b = 0
  · rw [hz] at p4
    refine mul_core_yes a b _ w a0 a1 b0 b1 (by simp [hz]) _ (Lib.hid fun w => ?_)
    exact signed_no _ _ w (by rw [p_sign]; simp; omega)
  · exact mul_core_no a b w a0 a1 b0 b1 (by simpa using hz)

/-- how two sizes of two words stand -/
def ordw (h1 l1 h2 l2 : Int) : Int := if h1 * 18446744073709551616 + l1 < h2 * 18446744073709551616 + l2 then -1 else if h1 * 18446744073709551616 + l1 = h2 * 18446744073709551616 + l2 then 0 else 1

set_option maxHeartbeats 2000000 in
theorem order_core (b1 b2 : Bool) (h1 l1 h2 l2 : Int) (w : World) (s t u v : Bool) (c1 : decide (h1 < h2) = s) (c2 : (h1 == h2) = t) (c3 : decide (l1 < l2) = u) (c4 : (l1 == l2) = v) (x : Int)
    (k1 : (s && t) = false) (k2 : (u && v) = false) (hx : Hid (x = if s || (t && u) then -1 else if t && v then 0 else 1)) :
    Calls Try.prog 36 #[.agg #[.bool b1, .int .u64 h1, .int .u64 l1], .agg #[.bool b2, .int .u64 h2, .int .u64 l2]] w fun e w' => e = .returned (.int .i64 x) ∧ Below w.heap.size w w' := by
  cases s <;> cases t <;> simp at k1 <;> clear k1 <;> cases u <;> cases v <;> simp at k2 <;> clear k2
  all_goals
    have hx' := hx.out
    simp at hx'
    subst hx'
    clear hx
    go_enter Try.func36, Try.ntmps36
    go_wp2
    go_ret
    exact ⟨rfl, ((Below.refl _ _).alloc (Nat.le_refl _) _).alloc (by simp) _⟩

theorem order_any (b1 b2 : Bool) (h1 l1 h2 l2 : Int) (w : World) (p1 : 0 ≤ l1) (p2 : l1 < 18446744073709551616) (p3 : 0 ≤ l2) (p4 : l2 < 18446744073709551616) :
    Calls Try.prog 36 #[.agg #[.bool b1, .int .u64 h1, .int .u64 l1], .agg #[.bool b2, .int .u64 h2, .int .u64 l2]] w fun e w' => e = .returned (.int .i64 (ordw h1 l1 h2 l2)) ∧ Below w.heap.size w w' := by
  refine order_core b1 b2 h1 l1 h2 l2 w _ _ _ _ rfl rfl rfl rfl _ (by simp; omega) (by simp; omega) (Lib.hid ?_)
  unfold ordw
  simp
  repeat' split
  all_goals omega

end Go.Proofs.Ytcfidibkihkndaa
