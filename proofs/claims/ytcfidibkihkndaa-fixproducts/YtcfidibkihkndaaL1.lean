import Derived.Test.YtcfidibkihkndaaL0
namespace Go.Proofs.Ytcfidibkihkndaa
open Go.RowKit
set_option linter.unusedVariables false

theorem wrap_sub (a x l : Int) (h : a - x = l) (l0 : -9223372036854775808 ≤ l) (l1 : l ≤ 9223372036854775807) : wrap64 (a - wrap64 x) = l := by
  subst h; unfold wrap64; omega

set_option maxHeartbeats 1000000 in
theorem fixLeft_no (a b : Int) (w : World) (h : (b == 0) = true ∨ (b == 0) = false ∧ (a == -9223372036854775808) = true ∧ (b == -1) = true) :
    Calls Try.prog 8 #[.int .i64 a, .int .i64 b] w fun e w' => e = .returned (.bool true) ∧ Below w.heap.size w w' := by
  have hq := Lib.hid (floor_no a b w h)
  rcases h with h | ⟨h1, h2, h3⟩
  all_goals
    go_enter Try.func8, Try.ntmps8
    go_wp2_with (first | (go_at_call 16; refine hq.out.mono ?_; rintro e w' ⟨rfl, n, rfl⟩) | (go_at_call 15; refine (awake_any _).mono ?_; rintro e w' ⟨rfl, hb⟩))
    go_ret
    exact ⟨rfl, bq_trans (bq_drewN (Below.refl _ _) _) (by assumption)⟩

set_option maxHeartbeats 1000000 in
theorem fixLeft_yes (a b q l : Int) (w : World) (hq : Hid (Calls Try.prog 16 #[.int .i64 a, .int .i64 b] w fun e w' => e = .returned (.tuple #[.int .i64 q, .bool true]) ∧ ∃ n, w' = w.drewN n))
    (el : wrap64 (a - wrap64 (q * b)) = l) (h : 0 < b ∧ 0 ≤ l ∧ l < b ∨ b < 0 ∧ l ≤ 0 ∧ b < l) :
    Calls Try.prog 8 #[.int .i64 a, .int .i64 b] w fun e w' => e = .returned (.bool true) ∧ Below w.heap.size w w' := by
  rcases h with ⟨h1, h2, h3⟩ | ⟨h1, h2, h3⟩
  all_goals
    go_enter Try.func8, Try.ntmps8
    go_wp2_with (first | (go_at_call 16; refine hq.out.mono ?_; rintro e w' ⟨rfl, n, rfl⟩) | (go_at_call 15; refine (awake_any _).mono ?_; rintro e w' ⟨rfl, hb⟩))
    go_ret
    exact ⟨rfl, bq_trans (bq_drewN (Below.refl _ _) _) (by assumption)⟩

theorem parted (a b : Int) : ((b == 0) = true ∨ (b == 0) = false ∧ (a == -9223372036854775808) = true ∧ (b == -1) = true) ∨ ((b < 0 ∨ 0 < b) ∧ (-9223372036854775808 < a ∨ b < -1 ∨ -1 < b ∨ a < -9223372036854775808)) := by
  simp only [beq_iff_eq, beq_eq_false_iff_ne]; omega

theorem fixLeft_walk (a b : Int) (w : World) (a0 : -9223372036854775808 ≤ a) (a1 : a ≤ 9223372036854775807) (b0 : -9223372036854775808 ≤ b) (b1 : b ≤ 9223372036854775807) :
    Calls Try.prog 8 #[.int .i64 a, .int .i64 b] w fun e w' => e = .returned (.bool true) ∧ Below w.heap.size w w' := by
  rcases parted a b with h | ⟨h1, h2⟩
  · exact fixLeft_no a b w h
  · have f := M1.fmod_facts a b (by omega)
    refine fixLeft_yes a b _ (a.fmod b) w (Lib.hid (floor_yes a b w a0 a1 b0 b1 h1 (by omega))) (wrap_sub _ _ _ ?_ (by omega) (by omega)) (by omega)
    rw [Int.mul_comm]; omega

set_option maxHeartbeats 1000000 in
theorem fixNear_no (a b : Int) (w : World) (b0 : -2147483648 ≤ b) (b1 : b ≤ 2147483647) (h : (b == 0) = true ∨ (b == 0) = false ∧ (a == -9223372036854775808) = true ∧ (b == -1) = true) :
    Calls Try.prog 10 #[.int .i64 a, .int .i32 b] w fun e w' => e = .returned (.bool true) ∧ Below w.heap.size w w' := by
  have hq := Lib.hid (round_no a b w h)
  rcases h with h | ⟨h1, h2, h3⟩
  all_goals
    go_enter Try.func10, Try.ntmps10
    go_wp2_with (first | (go_at_call 18; refine hq.out.mono ?_; rintro e w' ⟨rfl, n, rfl⟩) | (go_at_call 15; refine (awake_any _).mono ?_; rintro e w' ⟨rfl, hb⟩))
    go_ret
    exact ⟨rfl, bq_trans (bq_drewN (Below.refl _ _) _) (by assumption)⟩

set_option maxHeartbeats 1000000 in
theorem fixNear_yes (a b q l : Int) (w : World) (b0 : -2147483648 ≤ b) (b1 : b ≤ 2147483647) (hq : Hid (Calls Try.prog 18 #[.int .i64 a, .int .i64 b] w fun e w' => e = .returned (.tuple #[.int .i64 q, .bool true]) ∧ ∃ n, w' = w.drewN n))
    (el : wrap64 (a - wrap64 (q * b)) = l) (h : 0 < b ∧ -b ≤ 2 * l ∧ 2 * l < b ∨ b < 0 ∧ 2 * l ≤ -b ∧ b < 2 * l) :
    Calls Try.prog 10 #[.int .i64 a, .int .i32 b] w fun e w' => e = .returned (.bool true) ∧ Below w.heap.size w w' := by
  have l0 : -4294967296 ≤ l := by omega
  have l1 : l ≤ 4294967296 := by omega
  rcases h with ⟨h1, h2, h3⟩ | ⟨h1, h2, h3⟩
  all_goals
    go_enter Try.func10, Try.ntmps10
    go_wp2_with (first | (go_at_call 18; refine hq.out.mono ?_; rintro e w' ⟨rfl, n, rfl⟩) | (go_at_call 15; refine (awake_any _).mono ?_; rintro e w' ⟨rfl, hb⟩))
    go_ret
    exact ⟨rfl, bq_trans (bq_drewN (Below.refl _ _) _) (by assumption)⟩

theorem fixNear_walk (a b : Int) (w : World) (a0 : -9223372036854775808 ≤ a) (a1 : a ≤ 9223372036854775807) (b0 : -2147483648 ≤ b) (b1 : b ≤ 2147483647) :
    Calls Try.prog 10 #[.int .i64 a, .int .i32 b] w fun e w' => e = .returned (.bool true) ∧ Below w.heap.size w w' := by
  rcases parted a b with h | ⟨h1, h2⟩
  · exact fixNear_no a b w b0 b1 h
  · have f := M1.fmod_facts a b (by omega)
    have e := M1.rnd_eq a b (by omega)
    by_cases hu : (b.natAbs : Int) ≤ 2 * ((a.fmod b).natAbs : Int)
    · rw [if_pos hu] at e
      refine fixNear_yes a b _ (a.fmod b - b) w b0 b1 (Lib.hid (round_yes a b w a0 a1 (by omega) (by omega) h1 (by omega))) (wrap_sub _ _ _ ?_ (by omega) (by omega)) (by omega)
      rw [e, Int.add_mul, Int.mul_comm]; omega
    · rw [if_neg hu] at e
      refine fixNear_yes a b _ (a.fmod b) w b0 b1 (Lib.hid (round_yes a b w a0 a1 (by omega) (by omega) h1 (by omega))) (wrap_sub _ _ _ ?_ (by omega) (by omega)) (by omega)
      rw [e, Int.mul_comm]; omega

end Go.Proofs.Ytcfidibkihkndaa
