import Derived.Test.YtcfidibkihkndaaA2
import Derived.Test.YtcfidibkihkndaaM2
namespace Go.Proofs.Ytcfidibkihkndaa
open Go.RowKit

theorem natAbs_lt (a : Int) (a0 : -9223372036854775808 ≤ a) (a1 : a ≤ 9223372036854775807) : a.natAbs < 18446744073709551616 := by omega

set_option maxHeartbeats 1000000 in
theorem product_core (a b : Int) (w : World) (a0 : -9223372036854775808 ≤ a) (a1 : a ≤ 9223372036854775807) (b0 : -9223372036854775808 ≤ b) (b1 : b ≤ 9223372036854775807)
    (s t u v : Bool) (c1 : decide (a < 0) = s) (c2 : decide (b < 0) = t) (c3 : (a != 0) = u) (c4 : (b != 0) = v) (k1 : (s && !u) = false) (k2 : (t && !v) = false) (hr : Hid (pneg a b = ((s != t) && u && v))) :
    Calls Try.prog 25 #[.int .i64 a, .int .i64 b] w fun e w' => e = .returned (.agg #[.bool (pneg a b), .int .u64 (phi a b), .int .u64 (plo a b)]) ∧ Below w.heap.size w w' := by
  have na := Lib.hid (natAbs_lt a a0 a1)
  have nb := Lib.hid (natAbs_lt b b0 b1)
  unfold phi plo
  rw [hr.out]
  clear hr
  cases s <;> cases u <;> simp at k1 <;> clear k1 <;> cases t <;> cases v <;> simp at k2 <;> clear k2
  all_goals
    go_enter Try.func25, Try.ntmps25
    go_wp2_with (first | (go_at_call 34; refine (size_any _ _ (by omega) (by omega)).mono ?_; rintro e w' ⟨rfl, rfl⟩) | (go_at_call 38; refine (mul64_any _ _ na.out nb.out _).mono ?_; rintro e w' ⟨rfl, rfl⟩))
    exact bodyPost_ret (v := .agg #[.bool _, .int .u64 _, .int .u64 _]) (by simp [results, Try.results25, go_sem]) rfl ⟨rfl, (Below.refl _ _).alloc (Nat.le_refl _) _⟩

theorem product_any (a b : Int) (w : World) (a0 : -9223372036854775808 ≤ a) (a1 : a ≤ 9223372036854775807) (b0 : -9223372036854775808 ≤ b) (b1 : b ≤ 9223372036854775807) :
    Calls Try.prog 25 #[.int .i64 a, .int .i64 b] w fun e w' => e = .returned (.agg #[.bool (pneg a b), .int .u64 (phi a b), .int .u64 (plo a b)]) ∧ Below w.heap.size w w' :=
  product_core a b w a0 a1 b0 b1 _ _ _ _ rfl rfl rfl rfl (by simp; omega) (by simp; omega) (Lib.hid (M2.neg_iff a b))

theorem p_bounds (a b : Int) : 0 ≤ phi a b ∧ 0 ≤ plo a b ∧ plo a b < 18446744073709551616 ∧ ((a * b).natAbs : Int) = phi a b * 18446744073709551616 + plo a b := by
  unfold phi plo
  rw [Int.natAbs_mul]
  generalize a.natAbs * b.natAbs = n
  omega
theorem p_sign (a b : Int) : pneg a b = decide (a * b < 0) := rfl

set_option maxHeartbeats 1000000 in
theorem mul_core_yes (a b x : Int) (w : World) (a0 : -9223372036854775808 ≤ a) (a1 : a ≤ 9223372036854775807) (b0 : -9223372036854775808 ≤ b) (b1 : b ≤ 9223372036854775807)
    (h1 : (phi a b != 0) = false) (t : Bool) (C : Hid (∀ w, Calls Try.prog 26 #[.bool (pneg a b), .int .u64 (plo a b)] w fun e w' => e = .returned (.tuple #[.int .i64 x, .bool t]) ∧ w = w')) :
    Calls Try.prog 13 #[.int .i64 a, .int .i64 b] w fun e w' => e = .returned (.tuple #[.int .i64 x, .bool t]) ∧ Below w.heap.size w w' := by
  have P := Lib.hid (product_any a b w a0 a1 b0 b1)
  clear a0 a1 b0 b1
  go_enter Try.func13, Try.ntmps13
  go_wp2_with (first | (go_at_call 25; refine P.out.mono ?_; rintro e w' ⟨rfl, hb⟩) | (go_at_call 26; refine (C.out _).mono ?_; rintro e w' ⟨rfl, rfl⟩))
  go_ret2
  exact ⟨rfl, hb.alloc (by have := hb.size; omega) _⟩

end Go.Proofs.Ytcfidibkihkndaa
