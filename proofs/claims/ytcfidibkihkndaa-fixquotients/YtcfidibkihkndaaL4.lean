import Derived.Test.YtcfidibkihkndaaL3
import Derived.Test.YtcfidibkihkndaaL1
import Derived.Test.YtcfidibkihkndaaE1
namespace Go.Proofs.Ytcfidibkihkndaa
open Go.RowKit
set_option linter.unusedVariables false

set_option maxHeartbeats 1000000 in
theorem fixProducts_core (a b c x : Int) (s : Bool) (w : World)
    (M1 : Hid (∀ w, Calls Try.prog 20 #[.int .i64 a, .int .i64 b, .int .i64 c] w fun e w' => e = .returned (.tuple #[.int .i64 x, .bool s]) ∧ Below w.heap.size w w'))
    (M2 : Hid (∀ w, Calls Try.prog 17 #[.int .i64 a, .int .i64 b, .int .i64 c] w fun e w' => e = .returned (.tuple #[.int .i64 x, .bool s]) ∧ Below w.heap.size w w')) :
    Calls Try.prog 5 #[.int .i64 a, .int .i64 b, .int .i64 c] w fun e w' => e = .returned (.bool true) ∧ Below w.heap.size w w' := by
  cases s
  all_goals
    go_enter Try.func5, Try.ntmps5
    go_wp2_with (first | (go_at_call 20; refine (M1.out _).mono ?_; rintro e w1 ⟨rfl, hb1⟩) | (go_at_call 17; refine (M2.out _).mono ?_; rintro e w2 ⟨rfl, hb2⟩) | (go_at_call 15; refine (awake_any _).mono ?_; rintro e w3 ⟨rfl, hb3⟩))
    go_ret
    exact ⟨rfl, bq_trans (by assumption) (bq_trans (by assumption) (by assumption))⟩

theorem fixProducts_walk (a b c : Int) (w : World) (a0 : -9223372036854775808 ≤ a) (a1 : a ≤ 9223372036854775807) (b0 : -9223372036854775808 ≤ b) (b1 : b ≤ 9223372036854775807)
    (c0 : -9223372036854775808 ≤ c) (c1 : c ≤ 9223372036854775807) :
    Calls Try.prog 5 #[.int .i64 a, .int .i64 b, .int .i64 c] w fun e w' => e = .returned (.bool true) ∧ Below w.heap.size w w' := by
  by_cases hc : c = 0
  · subst hc
    exact fixProducts_core a b 0 _ _ w (Lib.hid fun w => muldiv_zero a b w a0 a1 b0 b1) (Lib.hid fun w => refmuldiv_zero a b w)
  · exact fixProducts_core a b c _ _ w (Lib.hid fun w => muldiv_any a b c w a0 a1 b0 b1 c0 c1 hc) (Lib.hid fun w => refmuldiv_any a b c w a0 a1 b0 b1 c0 c1 hc)

set_option maxHeartbeats 1000000 in
theorem refround_core (a b q l z x : Int) (w : World) (el : wrap64 (a - wrap64 (q * b)) = l)
    (M1 : Hid (∀ w, Calls Try.prog 17 #[.int .i64 a, .int .i64 1, .int .i64 b] w fun e w' => e = .returned (.tuple #[.int .i64 q, .bool true]) ∧ Below w.heap.size w w'))
    (K1 : Hid (∀ w, Calls Try.prog 22 #[.int .i64 l, .int .i64 2, .int .i64 b, .int .i64 1] w fun e w' => e = .returned (.int .i64 z) ∧ Below w.heap.size w w'))
    (A1 : Hid (∀ w, Calls Try.prog 12 #[.int .i64 q, .int .i64 1] w fun e w' => e = .returned (.tuple #[.int .i64 (M5.num (q + 1)), .bool (M5.fit (q + 1))]) ∧ w = w'))
    (h : Hid ((0 < b ∧ 0 ≤ z ∧ M5.num (q + 1) = x ∧ M5.fit (q + 1) = true) ∨ (0 < b ∧ z < 0 ∧ q = x) ∨ (b < 0 ∧ z ≤ 0 ∧ M5.num (q + 1) = x ∧ M5.fit (q + 1) = true) ∨ (b < 0 ∧ 0 < z ∧ q = x))) :
    Calls Try.prog 19 #[.int .i64 a, .int .i64 b] w fun e w' => e = .returned (.tuple #[.int .i64 x, .bool true]) ∧ Below w.heap.size w w' := by
  rcases h.out with ⟨h1, h2, h3, h4⟩ | ⟨h1, h2, h3⟩ | ⟨h1, h2, h3, h4⟩ | ⟨h1, h2, h3⟩
  · have A2 := A1.out
    rw [h3, h4] at A2
    have A3 := Lib.hid A2
    clear h A1 A2 h3 h4
    go_enter Try.func19, Try.ntmps19
    go_wp2_with (first | (go_at_call 17; refine (M1.out _).mono ?_; rintro e w1 ⟨rfl, hb1⟩) | (go_at_call 22; refine (K1.out _).mono ?_; rintro e w2 ⟨rfl, hb2⟩) | (go_at_call 12; refine (A3.out _).mono ?_; rintro e w3 ⟨rfl, rfl⟩))
    go_ret2
    exact ⟨rfl, bq_trans (by assumption) (by assumption)⟩
  · subst h3
    clear h A1
    go_enter Try.func19, Try.ntmps19
    by_cases h5 : z ≤ 0
    · go_wp2_with (first | (go_at_call 17; refine (M1.out _).mono ?_; rintro e w1 ⟨rfl, hb1⟩) | (go_at_call 22; refine (K1.out _).mono ?_; rintro e w2 ⟨rfl, hb2⟩))
      go_ret2
      exact ⟨rfl, bq_trans (by assumption) (bq_trans (by assumption) (by assumption))⟩
    · omega
  · have A2 := A1.out
    rw [h3, h4] at A2
    have A3 := Lib.hid A2
    clear h A1 A2 h3 h4
    by_cases h5 : 0 ≤ z
    all_goals
      go_enter Try.func19, Try.ntmps19
      go_wp2_with (first | (go_at_call 17; refine (M1.out _).mono ?_; rintro e w1 ⟨rfl, hb1⟩) | (go_at_call 22; refine (K1.out _).mono ?_; rintro e w2 ⟨rfl, hb2⟩) | (go_at_call 12; refine (A3.out _).mono ?_; rintro e w3 ⟨rfl, rfl⟩))
      go_ret2
      exact ⟨rfl, bq_trans (by assumption) (bq_trans (by assumption) (by assumption))⟩
  · subst h3
    clear h A1
    go_enter Try.func19, Try.ntmps19
    go_wp2_with (first | (go_at_call 17; refine (M1.out _).mono ?_; rintro e w1 ⟨rfl, hb1⟩) | (go_at_call 22; refine (K1.out _).mono ?_; rintro e w2 ⟨rfl, hb2⟩))
    go_ret2
    exact ⟨rfl, bq_trans (by assumption) (bq_trans (by assumption) (by assumption))⟩

set_option maxHeartbeats 1000000 in
theorem refround_no (a b : Int) (w : World)
    (M1 : Hid (∀ w, Calls Try.prog 17 #[.int .i64 a, .int .i64 1, .int .i64 b] w fun e w' => e = .returned (.tuple #[.int .i64 0, .bool false]) ∧ Below w.heap.size w w')) :
    Calls Try.prog 19 #[.int .i64 a, .int .i64 b] w fun e w' => e = .returned (.tuple #[.int .i64 0, .bool false]) ∧ Below w.heap.size w w' := by
  go_enter Try.func19, Try.ntmps19
  go_wp2_with (first | (go_at_call 17; refine (M1.out _).mono ?_; rintro e w1 ⟨rfl, hb1⟩))
  go_ret2
  exact ⟨rfl, by assumption⟩

set_option maxHeartbeats 1000000 in
theorem fixQuotients_core (a b x p : Int) (s t : Bool) (w : World)
    (A1 : Hid (∀ w, Calls Try.prog 16 #[.int .i64 a, .int .i64 b] w fun e w' => e = .returned (.tuple #[.int .i64 x, .bool s]) ∧ Below w.heap.size w w'))
    (A2 : Hid (∀ w, Calls Try.prog 17 #[.int .i64 a, .int .i64 1, .int .i64 b] w fun e w' => e = .returned (.tuple #[.int .i64 x, .bool s]) ∧ Below w.heap.size w w'))
    (M1 : Hid (∀ w, Calls Try.prog 18 #[.int .i64 a, .int .i64 b] w fun e w' => e = .returned (.tuple #[.int .i64 p, .bool t]) ∧ Below w.heap.size w w'))
    (M2 : Hid (∀ w, Calls Try.prog 19 #[.int .i64 a, .int .i64 b] w fun e w' => e = .returned (.tuple #[.int .i64 p, .bool t]) ∧ Below w.heap.size w w')) :
    Calls Try.prog 4 #[.int .i64 a, .int .i64 b] w fun e w' => e = .returned (.bool true) ∧ Below w.heap.size w w' := by
  cases s <;> cases t
  all_goals
    go_enter Try.func4, Try.ntmps4
    go_wp2_with (first | (go_at_call 16; refine (A1.out _).mono ?_; rintro e w1 ⟨rfl, hb1⟩) | (go_at_call 17; refine (A2.out _).mono ?_; rintro e w2 ⟨rfl, hb2⟩) |
      (go_at_call 18; refine (M1.out _).mono ?_; rintro e w3 ⟨rfl, hb3⟩) | (go_at_call 19; refine (M2.out _).mono ?_; rintro e w4 ⟨rfl, hb4⟩) | (go_at_call 15; refine (awake_any _).mono ?_; rintro e w5 ⟨rfl, hb5⟩))
    go_ret
    exact ⟨rfl, bq_trans (by assumption) (bq_trans (by assumption) (bq_trans (by assumption) (bq_trans (by assumption) (by assumption))))⟩

theorem drawn_below {f : FuncId} {args : Array Value} {w : World} {v : Value} (h : Calls Try.prog f args w fun e w' => e = .returned v ∧ ∃ n, w' = w.drewN n) : Calls Try.prog f args w fun e w' => e = .returned v ∧ Below w.heap.size w w' :=
  h.mono fun _ _ ⟨he, hn⟩ => ⟨he, bq_drawn w hn⟩

theorem fixQuotients_walk (a b : Int) (w : World) (a0 : -9223372036854775808 ≤ a) (a1 : a ≤ 9223372036854775807) (b0 : -9223372036854775808 ≤ b) (b1 : b ≤ 9223372036854775807) :
    Calls Try.prog 4 #[.int .i64 a, .int .i64 b] w fun e w' => e = .returned (.bool true) ∧ Below w.heap.size w w' := by
  rcases parted a b with h | ⟨h1, h2⟩
  · have m : ∀ w, Calls Try.prog 17 #[.int .i64 a, .int .i64 1, .int .i64 b] w fun e w' => e = .returned (.tuple #[.int .i64 0, .bool false]) ∧ Below w.heap.size w w' := by
      intro w
      rcases h with h | ⟨h1, h2, h3⟩
      · have : b = 0 := by simpa using h
        subst this
        exact refmuldiv_zero a 1 w
      · have e1 : a = -9223372036854775808 := by simpa using h2
        have e2 : b = -1 := by simpa using h3
        subst e1 e2
        have := refmuldiv_any (-9223372036854775808) 1 (-1) w (by omega) (by omega) (by omega) (by omega) (by omega) (by omega) (by omega)
        rw [show ((-9223372036854775808 : Int) * 1).fdiv (-1) = 9223372036854775808 by decide, show M5.fit 9223372036854775808 = false by decide, show M5.num 9223372036854775808 = 0 by decide] at this
        exact this
    exact fixQuotients_core a b 0 0 false false w (Lib.hid fun w => drawn_below (floor_no a b w h)) (Lib.hid m) (Lib.hid fun w => drawn_below (round_no a b w h)) (Lib.hid fun w => refround_no a b w (Lib.hid m))
  · have hm : -9223372036854775808 < a ∨ b < -1 ∨ -1 < b := by omega
    have fr := M1.fdiv_range a b a0 a1 b0 b1 (by omega) hm
    have ff := M1.fmod_facts a b (by omega)
    have m := fun w => refmuldiv_any a 1 b w a0 a1 (by omega) (by omega) b0 b1 (by omega)
    have ef : M5.fit (a.fdiv b) = true := by simp [M5.fit]; omega
    rw [Int.mul_one, show M5.num (a.fdiv b) = a.fdiv b by unfold M5.num; rw [ef, if_pos rfl], ef] at m
    refine fixQuotients_core a b _ _ _ _ w (Lib.hid fun w => drawn_below (floor_yes a b w a0 a1 b0 b1 h1 hm)) (Lib.hid m) (Lib.hid fun w => drawn_below (round_yes a b w a0 a1 b0 b1 h1 hm)) (Lib.hid fun w => ?_)
    refine refround_core a b (a.fdiv b) (a.fmod b) _ _ w (wrap_sub _ _ _ (by rw [Int.mul_comm]; omega) (by omega) (by omega)) (Lib.hid m)
      (Lib.hid fun w => refcompare_any (a.fmod b) 2 b 1 w (by omega) (by omega) (by omega) (by omega) b0 b1 (by omega) (by omega))
      (Lib.hid fun w => refadd_any (a.fdiv b) 1 w fr.1 fr.2 (by omega) (by omega)) (Lib.hid ?_)
    rw [M1.rnd_eq a b (by omega)]
    have ur := M1.up_range a b a0 a1 (by omega)
    have en : -9223372036854775808 ≤ a.fdiv b + 1 ∧ a.fdiv b + 1 ≤ 9223372036854775807 → M5.fit (a.fdiv b + 1) = true ∧ M5.num (a.fdiv b + 1) = a.fdiv b + 1 := by
      intro h
      have : M5.fit (a.fdiv b + 1) = true := by simp [M5.fit]; omega
      exact ⟨this, by unfold M5.num; rw [this, if_pos rfl]⟩
    unfold cmp4
    rw [Int.mul_one]
    by_cases hu : (b.natAbs : Int) ≤ 2 * ((a.fmod b).natAbs : Int)
    · obtain ⟨f1, f2⟩ := en (ur hu)
      rw [if_pos hu, f1, f2]
      rcases h1 with hb | hb
      · right; right; left
        refine ⟨hb, ?_, rfl, rfl⟩
        repeat' split
        all_goals omega
      · left
        refine ⟨hb, ?_, rfl, rfl⟩
        repeat' split
        all_goals omega
    · rw [if_neg hu]
      rcases h1 with hb | hb
      · right; right; right
        refine ⟨hb, ?_, rfl⟩
        repeat' split
        all_goals omega
      · right; left
        refine ⟨hb, ?_, rfl⟩
        repeat' split
        all_goals omega

end Go.Proofs.Ytcfidibkihkndaa
