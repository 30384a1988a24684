import Derived.Test.YtddiccdfeckgaaaQ8
/- Layer 6: symbols are written; the beginning and the end of a block. -/
namespace Go.Proofs.Ytddiccdfeckgaaa
open Go.RowKit
set_option maxRecDepth 100000
set_option linter.unusedVariables false
set_option linter.unusedSimpArgs false
/-- a symbol's code -/
def D.sc (n : Nat) : List Nat := if n < 144 then D.hb (48 + n) 8 else if n < 256 then D.hb (256 + n) 9 else if n < 280 then D.hb (n - 256) 7 else D.hb (n - 88) 8
/-- noughts up to a whole byte -/
def D.fl (L : List Nat) : List Nat := if L.length % 8 = 0 then [] else D.nb 0 (8 - L.length % 8)
def PkPost (w : World) (B b : Nat) (sl : Value) (L : List Nat) (e : Ending) (w' : World) : Prop := e = .returned (.tuple #[]) ∧ ∃ sl', Pk w' B b sl' L ∧ Kb b sl w w' sl'
theorem symbol6_any {w : World} {B b : Nat} {sl : Value} {L : List Nat} (h : Pk w B b sl L) (n : Nat) (hn : n < 288) (hL : L.length ≤ 8000000) :
    Calls Try.prog 21 #[.pointer (some ⟨b, 0, none⟩), .int .i64 (n : Int)] w (PkPost w B b sl (L ++ D.sc n)) := by
  have HP := Lib.hid h
  clear h
  by_cases h1 : n < 144
  · have hs : D.sc n = D.hb (48 + n) 8 := by unfold D.sc; rw [if_pos h1]
    rw [hs]
    obtain ⟨v, hv⟩ : ∃ v, v = 48 + n := ⟨_, rfl⟩
    have e1 : 48 + (n : Int) = (v : Int) := by omega
    have HC := Lib.hid (code_8 HP.out v (by omega) hL)
    rw [← hv]
    have t1 : decide ((n : Int) < 144) = true := by rw [decide_eq_true_iff]; omega
    clear hs hv
    go_enter Try.func21, Try.ntmps21
    go_wp2_with (go_at_call 36; refine HC.out.mono ?_; rintro e w1 ⟨rfl, sl1, hP, hK⟩)
    go_end0
    exact ⟨rfl, sl1, hP, hK⟩
  have t1 : decide ((n : Int) < 144) = false := by rw [decide_eq_false_iff_not]; omega
  by_cases h2 : n < 256
  · have hs : D.sc n = D.hb (256 + n) 9 := by unfold D.sc; rw [if_neg h1, if_pos h2]
    rw [hs]
    obtain ⟨u, hu⟩ : ∃ v, v = 400 + n := ⟨_, rfl⟩
    obtain ⟨v, hv⟩ : ∃ v, v = 256 + n := ⟨_, rfl⟩
    have e1 : 400 + (n : Int) = (u : Int) := by omega
    have e2 : (u : Int) - 144 = (v : Int) := by omega
    have hu9 : u < 700 := by omega
    have HC := Lib.hid (code_9 HP.out v (by omega) hL)
    rw [← hv]
    have t2 : decide ((n : Int) < 256) = true := by rw [decide_eq_true_iff]; omega
    clear hs hv hu
    go_enter Try.func21, Try.ntmps21
    go_wp2_with (go_at_call 36; refine HC.out.mono ?_; rintro e w1 ⟨rfl, sl1, hP, hK⟩)
    go_end0
    exact ⟨rfl, sl1, hP, hK⟩
  have t2 : decide ((n : Int) < 256) = false := by rw [decide_eq_false_iff_not]; omega
  by_cases h3 : n < 280
  · have hs : D.sc n = D.hb (n - 256) 7 := by unfold D.sc; rw [if_neg h1, if_neg h2, if_pos h3]
    rw [hs]
    obtain ⟨v, hv⟩ : ∃ v, v = n - 256 := ⟨_, rfl⟩
    have e1 : (n : Int) - 256 = (v : Int) := by omega
    have HC := Lib.hid (code_7 HP.out v (by omega) hL)
    rw [← hv]
    have t3 : decide ((n : Int) < 280) = true := by rw [decide_eq_true_iff]; omega
    clear hs hv
    go_enter Try.func21, Try.ntmps21
    go_wp2_with (go_at_call 36; refine HC.out.mono ?_; rintro e w1 ⟨rfl, sl1, hP, hK⟩)
    go_end0
    exact ⟨rfl, sl1, hP, hK⟩
  · have hs : D.sc n = D.hb (n - 88) 8 := by unfold D.sc; rw [if_neg h1, if_neg h2, if_neg h3]
    rw [hs]
    obtain ⟨u, hu⟩ : ∃ v, v = 192 + n := ⟨_, rfl⟩
    obtain ⟨v, hv⟩ : ∃ v, v = n - 88 := ⟨_, rfl⟩
    have e1 : 192 + (n : Int) = (u : Int) := by omega
    have e2 : (u : Int) - 280 = (v : Int) := by omega
    have hu9 : u < 700 := by omega
    have HC := Lib.hid (code_8 HP.out v (by omega) hL)
    rw [← hv]
    have t3 : decide ((n : Int) < 280) = false := by rw [decide_eq_false_iff_not]; omega
    clear hs hv hu
    go_enter Try.func21, Try.ntmps21
    go_wp2_with (go_at_call 36; refine HC.out.mono ?_; rintro e w1 ⟨rfl, sl1, hP, hK⟩)
    go_end0
    exact ⟨rfl, sl1, hP, hK⟩
theorem fill6_any {w : World} {B b : Nat} {sl : Value} {L : List Nat} (h : Pk w B b sl L) (hL : L.length ≤ 8000000) :
    Calls Try.prog 25 #[.pointer (some ⟨b, 0, none⟩)] w (PkPost w B b sl (L ++ D.fl L)) := by
  have HP := Lib.hid h
  obtain ⟨c0, c1, c2, f0, f1, f2⟩ := h.1.cells
  rw [D.restOf_len] at c2
  obtain ⟨r, hr⟩ : ∃ r, r = L.length % 8 := ⟨_, rfl⟩
  rw [← hr] at c2
  have hr8 : r < 8 := by omega
  by_cases h0 : r = 0
  · have hs : D.fl L = [] := by unfold D.fl; rw [if_pos (by omega)]
    rw [hs, List.append_nil]
    have t : decide (0 < (r : Int)) = false := by rw [decide_eq_false_iff_not]; omega
    have t' : decide (0 < r) = false := by rw [decide_eq_false_iff_not]; omega
    clear h hs hr h0
    go_enter Try.func25, Try.ntmps25
    go_wp2
    go_end0
    exact ⟨rfl, sl, HP.out, Kb.refl _ _ _⟩
  · have hs : D.fl L = D.nb 0 (8 - r) := by unfold D.fl; rw [if_neg (by omega), ← hr]
    rw [hs]
    obtain ⟨k, hk⟩ : ∃ k, k = 8 - r := ⟨_, rfl⟩
    have e1 : 8 - (r : Int) = (k : Int) := by omega
    have HN := Lib.hid (number6_any HP.out 0 k (by omega) (D.two_pos k) hL)
    rw [← hk]
    have t : decide (0 < (r : Int)) = true := by rw [decide_eq_true_iff]; omega
    have t' : decide (0 < r) = true := by rw [decide_eq_true_iff]; omega
    clear h hs hr h0 hk
    go_enter Try.func25, Try.ntmps25
    go_wp2_with (go_at_call 34; refine HN.out.mono ?_; rintro e w1 ⟨rfl, sl1, hP, hK⟩)
    go_end0
    exact ⟨rfl, sl1, hP, hK⟩
theorem start6_any {w : World} {B b : Nat} {sl : Value} (h : Pk w B b sl []) :
    Calls Try.prog 18 #[.pointer (some ⟨b, 0, none⟩)] w (PkPost w B b sl [1, 1, 0]) := by
  have HN1 := Lib.hid (number6_any h 1 1 (by omega) (by decide) (by show 0 ≤ 8000000; omega))
  have HN2 := Lib.hid (fun W sl1 (hP : Pk W B b sl1 ([] ++ D.nb 1 1)) => number6_any hP 1 2 (by omega) (by decide) (by decide))
  clear h
  go_enter Try.func18, Try.ntmps18
  go_upto_region 1 with (go_at_call 34; refine HN1.out.mono ?_; rintro e w1 ⟨rfl, sl1, hP1, hK1⟩)
  go_wp2_with (go_at_call 34; refine (HN2.out _ _ hP1).mono ?_; rintro e w2 ⟨rfl, sl2, hP2, hK2⟩)
  go_end0
  exact ⟨rfl, sl2, hP2, hK1.trans hK2⟩
end Go.Proofs.Ytddiccdfeckgaaa
