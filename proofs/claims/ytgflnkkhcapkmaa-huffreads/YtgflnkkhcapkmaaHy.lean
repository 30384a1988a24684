import Derived.Test.YtgflnkkhcapkmaaHx
import Derived.Test.YtgflnkkhcapkmaaU2
/- Layer 4: HuffBits. -/
namespace Go.Proofs.Ytgflnkkhcapkmaa
open Go.RowKit
set_option linter.unusedVariables false

theorem bitsR_form (s : ByteArray) (at_ n : Int) : ∃ A B C : Int, bitsR s at_ n = .tuple #[.int .i64 A, .int .i64 B, .int .i64 C] := by
  unfold bitsR
  split
  · exact ⟨_, _, _, rfl⟩
  · split
    · exact ⟨_, _, _, rfl⟩
    · exact ⟨_, _, _, rfl⟩
set_option maxHeartbeats 1000000 in
theorem huffBits_walk (s : ByteArray) (at_ n : Int) (w : World) (hs : s.size ≤ maxLen) (h0 : -9223372036854775808 ≤ at_) (h1 : at_ ≤ 9223372036854775807) :
    Calls Try.prog 5 #[.string s, .int .i64 at_, .int .i64 n] w fun e w' => e = .returned (.bool true) ∧ Below w.heap.size w w' := by
  unfold maxLen at hs
  by_cases hl : 1024 < s.size
  · have p1 : decide (1024 < (s.size : Int)) = true := by simp; omega
    go_enter Try.func5, Try.ntmps5
    go_wp2_with (go_at_call 8; refine (awake_any _).mono ?_; rintro e w3 ⟨rfl, hb3⟩)
    go_ret
    exact ⟨rfl, by assumption⟩
  · have p1 : decide (1024 < (s.size : Int)) = false := by simp; omega
    have hs2 : s.size ≤ 1099511627776 := by omega
    obtain ⟨A, B, C, hR⟩ := bitsR_form s at_ n
    have HP := bits_any s at_ n w hs2 h1
    have HQ := rbits_any s at_ n w hs2 h1
    rw [hR] at HP HQ
    have HP2 := Lib.hid HP
    have HQ2 := Lib.hid HQ
    clear HP HQ hR hl
    by_cases c : at_ < 0 ∨ 8 * (s.size : Int) ≤ at_
    · have HB := Lib.hid (bit_no s at_ w hs2 c)
      have HC := Lib.hid (rbit_no s at_ w hs2 c h1)
      clear c
      go_enter Try.func5, Try.ntmps5
      go_wp2_with (first
        | (go_at_call 15; refine HP2.out.mono ?_; rintro e w' ⟨rfl, rfl⟩)
        | (go_at_call 16; refine HQ2.out.mono ?_; rintro e w' ⟨rfl, rfl⟩)
        | (go_at_call 17; refine HB.out.mono ?_; rintro e w' ⟨rfl, rfl⟩)
        | (go_at_call 18; refine HC.out.mono ?_; rintro e w' ⟨rfl, rfl⟩)
        | (go_at_call 8; refine (awake_any _).mono ?_; rintro e w3 ⟨rfl, hb3⟩))
      go_ret
      exact ⟨rfl, by assumption⟩
    · obtain ⟨p, rfl⟩ : ∃ p : Nat, at_ = (p : Int) := ⟨at_.toNat, by omega⟩
      have hp : p < 8 * s.size := by omega
      have HB := bit_yes s p w hs2 hp
      have HC := rbit_yes s p w hs2 hp
      have hb := btv_lt s p
      generalize btv s p = x at *
      have HB2 := Lib.hid HB
      have HC2 := Lib.hid HC
      clear HB HC c
      go_enter Try.func5, Try.ntmps5
      go_wp2_with (first
        | (go_at_call 15; refine HP2.out.mono ?_; rintro e w' ⟨rfl, rfl⟩)
        | (go_at_call 16; refine HQ2.out.mono ?_; rintro e w' ⟨rfl, rfl⟩)
        | (go_at_call 17; refine HB2.out.mono ?_; rintro e w' ⟨rfl, rfl⟩)
        | (go_at_call 18; refine HC2.out.mono ?_; rintro e w' ⟨rfl, rfl⟩)
        | (go_at_call 8; refine (awake_any _).mono ?_; rintro e w3 ⟨rfl, hb3⟩))
      go_ret
      exact ⟨rfl, by assumption⟩
end Go.Proofs.Ytgflnkkhcapkmaa
