import Derived.Test.YtmimndgjjafdmaaAd5
/- Layer 3: the walk of AdlerParts. -/
namespace Go.Proofs.Ytmimndgjjafdmaa
open Go.RowKit
set_option linter.unusedVariables false

set_option maxHeartbeats 400000 in
theorem parts_core (x y : Int) (s : ByteArray) (w : World) (h0 : -9223372036854775808 ≤ x) (h1 : x ≤ 9223372036854775807) (hs : s.size ≤ maxLen) (hs2 : s.size ≤ 8192)
    (E1 : Hid (moI x s = y)) (y0 : 0 ≤ y) (y1 : y ≤ 4293984256) (p1 : bits .and .i64 y 65535 < 65521) (q1 : y / 65536 < 65521) (E4 : Hid (joI y 1 0 = y)) (E5 : Hid (joI y 1 (-5) = y)) :
    Calls Try.prog 6 #[.int .i64 x, .string s] w fun e w' => e = .returned (.bool true) ∧ Below w.heap.size w w' := by
  go_enter Try.func6, Try.ntmps6
  go_wp2_with fail
  refine (more_any x s _ h0 h1 hs).mono ?_
  rintro e w' ⟨rfl, rfl⟩
  rw [E1.out]
  go_wp2_with fail
  refine (join_any y 1 0 _ (by omega) (by omega) (by omega) (by omega) (by omega) (by omega)).mono ?_
  rintro e w' ⟨rfl, rfl⟩
  rw [E4.out]
  go_wp2_with fail
  refine (join_any y 1 (-5) _ (by omega) (by omega) (by omega) (by omega) (by omega) (by omega)).mono ?_
  rintro e w' ⟨rfl, rfl⟩
  rw [E5.out]
  go_wp2_with fail
  refine (awake_any _).mono ?_
  rintro e w' ⟨rfl, rfl⟩
  go_wp2
  go_ret
  exact ⟨rfl, bq_refl _⟩
theorem adlerParts_walk (x : Int) (s : ByteArray) (w : World) (h0 : -9223372036854775808 ≤ x) (h1 : x ≤ 9223372036854775807) (hs : s.size ≤ maxLen) :
    Calls Try.prog 6 #[.int .i64 x, .string s] w fun e w' => e = .returned (.bool true) ∧ Below w.heap.size w w' := by
  have hs2 := hs
  unfold maxLen at hs2
  by_cases h : 8192 < s.size
  · go_enter Try.func6, Try.ntmps6
    go_wp2_with fail
    refine (awake_any _).mono ?_
    rintro e w' ⟨rfl, rfl⟩
    go_wp2
    go_ret
    exact ⟨rfl, bq_refl _⟩
  · have hb := moI_bd x s
    have hp := A.pa_lt (A.lo x) s.data.toList
    have hq := A.pb_lt (A.lo x) (A.hi x) s.data.toList
    refine parts_core x (moI x s) s w h0 h1 hs (by omega) (Lib.hid rfl) hb.1 (by omega) (by rw [mo_lo]; omega) (by rw [mo_hi]; omega) (Lib.hid (jo_none x 0 s (by omega))) (Lib.hid (jo_none x (-5) s (by omega)))
end Go.Proofs.Ytmimndgjjafdmaa
