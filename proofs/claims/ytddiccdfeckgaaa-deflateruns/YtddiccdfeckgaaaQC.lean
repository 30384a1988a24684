import Derived.Test.YtddiccdfeckgaaaQB
import Derived.Test.YtddiccdfeckgaaaQ4
/- Layer 6: a law: the run of any place of any bytes. -/
namespace Go.Proofs.Ytddiccdfeckgaaa
open Go.RowKit
set_option maxRecDepth 100000
set_option linter.unusedVariables false
set_option linter.unusedSimpArgs false
set_option maxHeartbeats 1000000 in
theorem deflateRuns_walk (s : ByteArray) (at_ : Int) (w : World) (hs : s.size ≤ maxLen) :
    Calls Try.prog 3 #[.string s, .int .i64 at_] w fun e w' => e = .returned (.bool true) ∧ Below w.heap.size w w' := by
  have HAW := Lib.hid (fun W => awake6_any W)
  have hs9 : s.size ≤ 9223372036854775807 := by unfold maxLen at hs; omega
  clear hs
  by_cases hl : 2048 < s.size
  · have q : decide (2048 < (s.size : Int)) = true := by rw [decide_eq_true_iff]; omega
    go_enter Try.func3, Try.ntmps3
    go_wp2_with (go_at_call 7; refine (HAW.out _).mono ?_; rintro e w2 ⟨rfl, hb2⟩)
    go_ret
    exact ⟨rfl, hb2⟩
  have q : decide (2048 < (s.size : Int)) = false := by rw [decide_eq_false_iff_not]; omega
  have H1 := Lib.hid (run_any s at_ w (by omega))
  by_cases hin : at_ < 0 ∨ (s.size : Int) ≤ at_
  · have hR : runV s at_ = pairV (0, 0) := by unfold runV; rw [if_pos hin]
    rw [hR] at H1
    unfold pairV at H1
    clear hR
    rcases hin with h | h
    · have t0 : decide (0 ≤ at_) = false := by rw [decide_eq_false_iff_not]; omega
      go_enter Try.func3, Try.ntmps3
      go_wp2_with (first
        | (go_at_call 8; refine H1.out.mono ?_; rintro e w1 ⟨rfl, hb1⟩)
        | (go_at_call 7; refine (HAW.out _).mono ?_; rintro e w2 ⟨rfl, hb2⟩))
      go_ret
      exact ⟨rfl, bq_trans hb1 hb2⟩
    · have t0 : decide (0 ≤ at_) = true := by rw [decide_eq_true_iff]; omega
      have t1 : decide (at_ < (s.size : Int)) = false := by rw [decide_eq_false_iff_not]; omega
      go_enter Try.func3, Try.ntmps3
      go_wp2_with (first
        | (go_at_call 8; refine H1.out.mono ?_; rintro e w1 ⟨rfl, hb1⟩)
        | (go_at_call 7; refine (HAW.out _).mono ?_; rintro e w2 ⟨rfl, hb2⟩))
      go_ret
      exact ⟨rfl, bq_trans hb1 hb2⟩
  · obtain ⟨a, rfl⟩ : ∃ a : Nat, at_ = (a : Int) := ⟨at_.toNat, by omega⟩
    have hR : runV s (a : Int) = pairV (D.run s a) := by unfold runV; rw [if_neg hin, Int.toNat_natCast]
    rw [hR] at H1
    have H2 := Lib.hid (fun W => rrun_any s a W (by omega) (by omega))
    have t0 : decide (0 ≤ (a : Int)) = true := by rw [decide_eq_true_iff]; omega
    have t1 : decide ((a : Int) < (s.size : Int)) = true := by rw [decide_eq_true_iff]; omega
    have t2 : decide (a < s.size) = true := by rw [decide_eq_true_iff]; omega
    generalize D.run s a = R at *
    obtain ⟨n, far⟩ := R
    unfold pairV at H1 H2
    clear hR hin
    go_enter Try.func3, Try.ntmps3
    go_upto_region 4 with (go_at_call 8; refine H1.out.mono ?_; rintro e w1 ⟨rfl, hb1⟩)
    have HB1 := Lib.hid hb1
    clear hb1 H1
    go_upto_region 7 with (go_at_call 9; refine (H2.out _).mono ?_; rintro e w2 ⟨rfl, hb2⟩)
    have HB2 := Lib.hid (bq_trans HB1.out hb2)
    clear hb2 H2
    go_wp2_with (go_at_call 7; refine (HAW.out _).mono ?_; rintro e w3 ⟨rfl, hb3⟩)
    go_ret
    exact ⟨rfl, bq_trans HB2.out hb3⟩
end Go.Proofs.Ytddiccdfeckgaaa
