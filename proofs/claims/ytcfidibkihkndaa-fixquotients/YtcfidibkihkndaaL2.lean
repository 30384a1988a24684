import Derived.Test.YtcfidibkihkndaaL0
namespace Go.Proofs.Ytcfidibkihkndaa
open Go.RowKit
set_option linter.unusedVariables false

/-- the product, if it is a number -/
theorem mul_any (a b : Int) (w : World) (a0 : -9223372036854775808 ≤ a) (a1 : a ≤ 9223372036854775807) (b0 : -9223372036854775808 ≤ b) (b1 : b ≤ 9223372036854775807) :
    Calls Try.prog 13 #[.int .i64 a, .int .i64 b] w fun e w' => e = .returned (.tuple #[.int .i64 (if fits (a * b) then a * b else 0), .bool (fits (a * b))]) ∧ Below w.heap.size w w' := by
  by_cases h : -9223372036854775808 ≤ a * b ∧ a * b ≤ 9223372036854775807
  · rw [show fits (a * b) = true by simp [fits]; omega, if_pos rfl]
    exact mul_yes a b w a0 a1 b0 b1 h.1 h.2
  · rw [show fits (a * b) = false by simp [fits]; omega, if_neg (by decide)]
    exact mul_no a b w a0 a1 b0 b1 (by omega)

set_option maxHeartbeats 1000000 in
theorem fixTurns_core (a b c d x u p : Int) (ok : Bool) (w : World) (c0 : -2147483648 ≤ c) (c1 : c ≤ 2147483647) (d0 : -2147483648 ≤ d) (d1 : d ≤ 2147483647) (u0 : -1 ≤ u) (u1 : u ≤ 1) (ep : wrap64 (c * d) = p)
    (M1 : Hid (∀ w, Calls Try.prog 13 #[.int .i64 a, .int .i64 b] w fun e w' => e = .returned (.tuple #[.int .i64 x, .bool ok]) ∧ Below w.heap.size w w'))
    (M2 : Hid (∀ w, Calls Try.prog 13 #[.int .i64 b, .int .i64 a] w fun e w' => e = .returned (.tuple #[.int .i64 x, .bool ok]) ∧ Below w.heap.size w w'))
    (K0 : Hid (∀ w, Calls Try.prog 21 #[.int .i64 a, .int .i64 b, .int .i64 b, .int .i64 a] w fun e w' => e = .returned (.int .i64 0) ∧ Below w.heap.size w w'))
    (K1 : Hid (∀ w, Calls Try.prog 21 #[.int .i64 a, .int .i64 b, .int .i64 c, .int .i64 d] w fun e w' => e = .returned (.int .i64 (-u)) ∧ Below w.heap.size w w'))
    (K2 : Hid (∀ w, Calls Try.prog 21 #[.int .i64 c, .int .i64 d, .int .i64 a, .int .i64 b] w fun e w' => e = .returned (.int .i64 u) ∧ Below w.heap.size w w'))
    (M3 : Hid (∀ w, Calls Try.prog 13 #[.int .i64 c, .int .i64 d] w fun e w' => e = .returned (.tuple #[.int .i64 p, .bool true]) ∧ Below w.heap.size w w'))
    (K3 : Hid (∀ w, Calls Try.prog 21 #[.int .i64 c, .int .i64 d, .int .i64 p, .int .i64 1] w fun e w' => e = .returned (.int .i64 0) ∧ Below w.heap.size w w')) :
    Calls Try.prog 9 #[.int .i64 a, .int .i64 b, .int .i32 c, .int .i32 d] w fun e w' => e = .returned (.bool true) ∧ Below w.heap.size w w' := by
  go_enter Try.func9, Try.ntmps9
  go_wp2_with fail
  refine (M1.out _).mono ?_
  rintro e w1 ⟨rfl, hb1⟩
  go_wp2_with fail
  refine (M2.out _).mono ?_
  rintro e w2 ⟨rfl, hb2⟩
  go_wp2_with fail
  refine (K0.out _).mono ?_
  rintro e w3 ⟨rfl, hb3⟩
  go_wp2_with fail
  refine (K1.out _).mono ?_
  rintro e w4 ⟨rfl, hb4⟩
  go_wp2_with fail
  refine (K2.out _).mono ?_
  rintro e w5 ⟨rfl, hb5⟩
  go_wp2_with fail
  refine (M3.out _).mono ?_
  rintro e w6 ⟨rfl, hb6⟩
  go_wp2_with fail
  refine (K3.out _).mono ?_
  rintro e w7 ⟨rfl, hb7⟩
  go_wp2_with fail
  refine (awake_any _).mono ?_
  rintro e w8 ⟨rfl, hb8⟩
  go_wp2
  go_ret
  exact ⟨rfl, bq_trans hb1 (bq_trans hb2 (bq_trans hb3 (bq_trans hb4 (bq_trans hb5 (bq_trans hb6 (bq_trans hb7 hb8))))))⟩

theorem fixTurns_walk (a b c d : Int) (w : World) (a0 : -9223372036854775808 ≤ a) (a1 : a ≤ 9223372036854775807) (b0 : -9223372036854775808 ≤ b) (b1 : b ≤ 9223372036854775807)
    (c0 : -2147483648 ≤ c) (c1 : c ≤ 2147483647) (d0 : -2147483648 ≤ d) (d1 : d ≤ 2147483647) :
    Calls Try.prog 9 #[.int .i64 a, .int .i64 b, .int .i32 c, .int .i32 d] w fun e w' => e = .returned (.bool true) ∧ Below w.heap.size w w' := by
  have hn : (c * d).natAbs ≤ 2147483648 * 2147483648 := by rw [Int.natAbs_mul]; exact Nat.mul_le_mul (by omega) (by omega)
  have m2 := fun w => mul_any b a w b0 b1 a0 a1
  rw [Int.mul_comm b a] at m2
  have k0 := fun w => compare_any a b b a w a0 a1 b0 b1 b0 b1 a0 a1
  rw [show cmp4 a b b a = 0 by simp [cmp4, Int.mul_comm]] at k0
  have k1 := fun w => compare_any a b c d w a0 a1 b0 b1 (by omega) (by omega) (by omega) (by omega)
  rw [show cmp4 a b c d = -(cmp4 c d a b) by unfold cmp4; repeat' split; all_goals omega] at k1
  have k3 := fun w => compare_any c d (c * d) 1 w (by omega) (by omega) (by omega) (by omega) (by omega) (by omega) (by omega) (by omega)
  rw [show cmp4 c d (c * d) 1 = 0 by simp [cmp4]] at k3
  refine fixTurns_core a b c d _ (cmp4 c d a b) (c * d) _ w c0 c1 d0 d1 ?_ ?_ (i64_in _ (by omega) (by omega)) (Lib.hid fun w => mul_any a b w a0 a1 b0 b1) (Lib.hid m2) (Lib.hid k0) (Lib.hid k1)
    (Lib.hid fun w => compare_any c d a b w (by omega) (by omega) (by omega) (by omega) a0 a1 b0 b1) (Lib.hid fun w => mul_yes c d w (by omega) (by omega) (by omega) (by omega) (by omega) (by omega)) (Lib.hid k3)
  · unfold cmp4; repeat' split; all_goals omega
  · unfold cmp4; repeat' split; all_goals omega

set_option maxHeartbeats 1000000 in
theorem fixRoots_core (n r : Nat) (w : World) (hn : n < 9223372036854775808) (hr : r ≤ 3037000499) (e1 : wrap64 ((r : Int) * (r : Int)) = ((r : Int) * (r : Int))) (k1 : decide ((r : Int) * (r : Int) ≤ (n : Int)) = true)
    (R1 : Hid (∀ w, Calls Try.prog 23 #[.int .i64 n] w fun e w' => e = .returned (.int .i64 (r : Int)) ∧ w = w'))
    (R2 : Hid (∀ w, Calls Try.prog 24 #[.int .i64 n] w fun e w' => e = .returned (.int .i64 (r : Int)) ∧ w = w'))
    (K : Hid (∀ w, Calls Try.prog 21 #[.int .i64 ((r : Int) + 1), .int .i64 ((r : Int) + 1), .int .i64 (n : Int), .int .i64 1] w fun e w' => e = .returned (.int .i64 1) ∧ Below w.heap.size w w')) :
    Calls Try.prog 7 #[.int .i64 n] w fun e w' => e = .returned (.bool true) ∧ Below w.heap.size w w' := by
  go_enter Try.func7, Try.ntmps7
  go_wp2_with (first | (go_at_call 23; refine (R1.out _).mono ?_; rintro e w' ⟨rfl, rfl⟩) | (go_at_call 24; refine (R2.out _).mono ?_; rintro e w' ⟨rfl, rfl⟩) |
    (go_at_call 21; refine (K.out _).mono ?_; rintro e w' ⟨rfl, hb⟩) | (go_at_call 15; refine (awake_any _).mono ?_; rintro e w' ⟨rfl, hb2⟩))
  go_ret
  exact ⟨rfl, bq_trans (by assumption) (by assumption)⟩

set_option maxHeartbeats 1000000 in
theorem fixRoots_neg (n : Int) (w : World) (hn : n < 0) :
    Calls Try.prog 7 #[.int .i64 n] w fun e w' => e = .returned (.bool true) ∧ Below w.heap.size w w' := by
  go_enter Try.func7, Try.ntmps7
  go_wp2_with (first | (go_at_call 23; refine (root_neg _ _ hn).mono ?_; rintro e w' ⟨rfl, rfl⟩) | (go_at_call 24; refine (refroot_neg _ _ hn).mono ?_; rintro e w' ⟨rfl, rfl⟩) |
    (go_at_call 15; refine (awake_any _).mono ?_; rintro e w' ⟨rfl, hb2⟩))
  go_ret
  exact ⟨rfl, by assumption⟩

theorem fixRoots_walk (n : Int) (w : World) (n0 : -9223372036854775808 ≤ n) (n1 : n ≤ 9223372036854775807) :
    Calls Try.prog 7 #[.int .i64 n] w fun e w' => e = .returned (.bool true) ∧ Below w.heap.size w w' := by
  by_cases h : n < 0
  · exact fixRoots_neg n w h
  · obtain ⟨m, rfl⟩ := Int.eq_ofNat_of_zero_le (show 0 ≤ n by omega)
    have hs := M3.root_small m (by omega)
    have ⟨s1, s2⟩ := M3.root_spec m (by omega)
    have q1 : ((M3.root m : Int) * (M3.root m : Int)) = ((M3.root m * M3.root m : Nat) : Int) := by push_cast; rfl
    have q2 : (((M3.root m : Int) + 1) * ((M3.root m : Int) + 1)) = (((M3.root m + 1) * (M3.root m + 1) : Nat) : Int) := by push_cast; rfl
    have k := fun w => compare_any ((M3.root m : Int) + 1) ((M3.root m : Int) + 1) (m : Int) 1 w (by omega) (by omega) (by omega) (by omega) (by omega) (by omega) (by omega) (by omega)
    rw [show cmp4 ((M3.root m : Int) + 1) ((M3.root m : Int) + 1) (m : Int) 1 = 1 by unfold cmp4; rw [q2]; rw [if_neg (by omega), if_neg (by omega)]] at k
    exact fixRoots_core m (M3.root m) w (by omega) hs (i64_in _ (by omega) (by omega)) (by simp only [decide_eq_true_eq]; omega) (Lib.hid fun w => root_yes m w (by omega)) (Lib.hid fun w => refroot_yes m w (by omega)) (Lib.hid k)

end Go.Proofs.Ytcfidibkihkndaa
