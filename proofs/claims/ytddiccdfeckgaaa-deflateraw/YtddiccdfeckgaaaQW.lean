import Derived.Test.YtddiccdfeckgaaaQU
import Derived.Test.YtddiccdfeckgaaaQV
/- Layer 6: a law: any bytes are packed, and wrapped, as the document says. -/
namespace Go.Proofs.Ytddiccdfeckgaaa
open Go.RowKit
set_option maxRecDepth 100000
set_option linter.unusedVariables false
set_option linter.unusedSimpArgs false
set_option maxHeartbeats 1000000 in
theorem deflateRaw_walk (s : ByteArray) (w : World) (hs : s.size ≤ maxLen) :
    Calls Try.prog 4 #[.string s] w fun e w' => e = .returned (.bool true) ∧ Below w.heap.size w w' := by
  have HAW := Lib.hid (fun W => awake6_any W)
  have hs9 : s.size ≤ 9223372036854775807 := by unfold maxLen at hs; omega
  by_cases hl : 2048 < s.size
  · have q : decide (2048 < (s.size : Int)) = true := by rw [decide_eq_true_iff]; omega
    clear hs
    go_enter Try.func4, Try.ntmps4
    go_wp2_with (go_at_call 7; refine (HAW.out _).mono ?_; rintro e w2 ⟨rfl, hb2⟩)
    go_ret
    exact ⟨rfl, hb2⟩
  have q : decide (2048 < (s.size : Int)) = false := by rw [decide_eq_false_iff_not]; omega
  have H1 := Lib.hid (fun W => raw6_any s W hs)
  have H2 := Lib.hid (fun W => close6_any s W hs)
  have hR1 : rawV6 s = .tuple #[.string (bs (D.pack s)), .int .i64 0] := by unfold rawV6; rw [if_neg (by omega)]
  have hR2 : clsV s = .tuple #[.string (bs (clsL s)), .int .i64 0] := by unfold clsV; rw [if_neg (by omega)]
  rw [hR1] at H1
  rw [hR2] at H2
  have H3 := Lib.hid (fun W => rraw6_any s W (by omega))
  have H4 := Lib.hid (fun W => rclose6_any s W (by omega) H3)
  generalize bs (D.pack s) = O at *
  generalize bs (clsL s) = C at *
  clear hs hR1 hR2
  go_enter Try.func4, Try.ntmps4
  go_upto_region 4 with (go_at_call 10; refine (H1.out _).mono ?_; rintro e w1 ⟨rfl, hb1⟩)
  have HB1 := Lib.hid hb1
  clear hb1 H1
  go_upto_region 5 with (go_at_call 11; refine (H2.out _).mono ?_; rintro e w2 ⟨rfl, hb2⟩)
  have HB2 := Lib.hid (bq_trans HB1.out hb2)
  clear hb2 H2
  go_wp2_with (first
    | (go_at_call 12; refine (H3.out _).mono ?_; rintro e w3 ⟨rfl, hb3⟩)
    | (go_at_call 13; refine (H4.out _).mono ?_; rintro e w4 ⟨rfl, hb4⟩)
    | (go_at_call 7; refine (HAW.out _).mono ?_; rintro e w5 ⟨rfl, hb5⟩))
  go_ret
  exact ⟨rfl, bq_trans (bq_trans (bq_trans HB2.out hb3) hb4) hb5⟩
end Go.Proofs.Ytddiccdfeckgaaa
