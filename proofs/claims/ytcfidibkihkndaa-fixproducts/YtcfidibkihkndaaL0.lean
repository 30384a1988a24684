import Derived.Test.YtcfidibkihkndaaC2
import Derived.Test.YtcfidibkihkndaaA7
namespace Go.Proofs.Ytcfidibkihkndaa
open Go.RowKit
set_option linter.unusedVariables false

theorem aw_floor (w : World) : Calls Try.prog 16 #[.int .i64 (-7), .int .i64 2] w fun e w' => e = .returned (.tuple #[.int .i64 (-4), .bool true]) ∧ ∃ n, w' = w.drewN n :=
  floor_yes (-7) 2 w (by omega) (by omega) (by omega) (by omega) (by omega) (by omega)
theorem aw_round (w : World) : Calls Try.prog 18 #[.int .i64 (-7), .int .i64 2] w fun e w' => e = .returned (.tuple #[.int .i64 (-3), .bool true]) ∧ ∃ n, w' = w.drewN n :=
  round_yes (-7) 2 w (by omega) (by omega) (by omega) (by omega) (by omega) (by omega)
theorem aw_muldiv (w : World) : Calls Try.prog 20 #[.int .i64 4611686018427387904, .int .i64 4, .int .i64 8] w fun e w' => e = .returned (.tuple #[.int .i64 2305843009213693952, .bool true]) ∧ Below w.heap.size w w' := by
  have h := muldiv_any 4611686018427387904 4 8 w (by omega) (by omega) (by omega) (by omega) (by omega) (by omega) (by omega)
  rw [show ((4611686018427387904 : Int) * 4).fdiv 8 = 2305843009213693952 by decide, show fits 2305843009213693952 = true by decide, if_pos rfl] at h
  exact h
theorem aw_root (w : World) : Calls Try.prog 23 #[.int .i64 99] w fun e w' => e = .returned (.int .i64 9) ∧ w = w' := by
  have h := root_yes 99 w (by omega)
  rw [show M3.root 99 = 9 by decide] at h
  exact h

set_option maxHeartbeats 1000000 in
theorem awake_any (w : World) : Calls Try.prog 15 #[] w fun e w' => e = .returned (.bool true) ∧ Below w.heap.size w w' := by
  go_enter Try.func15, Try.ntmps15
  go_wp2_with (first | (go_at_call 16; refine (aw_floor _).mono ?_; rintro e w' ⟨rfl, n, rfl⟩) | (go_at_call 18; refine (aw_round _).mono ?_; rintro e w' ⟨rfl, n, rfl⟩) | (go_at_call 20; refine (aw_muldiv _).mono ?_; rintro e w' ⟨rfl, hb⟩) | (go_at_call 23; refine (aw_root _).mono ?_; rintro e w' ⟨rfl, rfl⟩))
  go_ret
  exact ⟨rfl, bq_trans (bq_drewN (Below.refl _ _) _) (by assumption)⟩

end Go.Proofs.Ytcfidibkihkndaa
