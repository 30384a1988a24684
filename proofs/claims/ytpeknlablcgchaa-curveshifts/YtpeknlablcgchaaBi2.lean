import Derived.Test.YtpeknlablcgchaaBi1
import Derived.Test.YtpeknlablcgchaaBq
import Derived.StillTailTactics
import Derived.Deep.RegionHeld3
import Derived.Deep.DrawnRows
/- Layer 2: the next field of a reader. -/
namespace Go.Proofs.Ytpeknlablcgchaa
open Go.RowKit
set_option linter.unusedVariables false

theorem bcell {W w1 : World} (hb : Below W.heap.size W w1) : (∀ b o, b < W.heap.size → w1.cell? ⟨b, o, none⟩ = W.cell? ⟨b, o, none⟩) ∧ (∀ b o, b < W.heap.size → w1.frozen? ⟨b, o, none⟩ = W.frozen? ⟨b, o, none⟩) :=
  ⟨fun b o h => hb.cell (p := ⟨b, o, none⟩) h, fun b o h => hb.frozen (p := ⟨b, o, none⟩) h⟩

def errR (e : Int) : Value := .tuple #[.int .i64 0, .agg #[.string ⟨#[]⟩, .int .i64 0], .int .i64 e]

def plE (m : Nat) (a n : Int) : Int := if 0 ≤ a ∧ a ≤ 8 * m ∧ 0 ≤ n ∧ n ≤ 31 then (if 8 * m - a < n then 2 else 0) else 1
def plV (s : ByteArray) (a n : Int) : Int := if plE s.size a n = 0 then (B.fld s.data.toList a.toNat n.toNat : Int) else 0
def plS (s : ByteArray) (a n : Int) : ByteArray := if plE s.size a n = 0 then s else ⟨#[]⟩
def plA (s : ByteArray) (a n : Int) : Int := if plE s.size a n = 0 then a + n else 0
def plR (s : ByteArray) (a n : Int) : Value := .tuple #[.int .i64 (plV s a n), .agg #[.string (plS s a n), .int .i64 (plA s a n)], .int .i64 (plE s.size a n)]
theorem plR_arg {s : ByteArray} {a n : Int} (h : ¬ (0 ≤ a ∧ a ≤ 8 * s.size ∧ 0 ≤ n ∧ n ≤ 31)) : plR s a n = errR 1 := by
  have e : plE s.size a n = 1 := if_neg h
  simp [plR, plV, plS, plA, e, errR]
theorem plR_short {s : ByteArray} {a n : Int} (h : 0 ≤ a ∧ a ≤ 8 * s.size ∧ 0 ≤ n ∧ n ≤ 31) (h2 : 8 * s.size - a < n) : plR s a n = errR 2 := by
  have e : plE s.size a n = 2 := by unfold plE; rw [if_pos h, if_pos h2]
  simp [plR, plV, plS, plA, e, errR]
theorem plE_ok {s : ByteArray} {a n : Nat} (h1 : n ≤ 31) (h2 : a + n ≤ 8 * s.size) : plE s.size a n = 0 := by
  unfold plE; rw [if_pos (by omega), if_neg (by omega)]
theorem plR_ok {s : ByteArray} {a n : Nat} (h1 : n ≤ 31) (h2 : a + n ≤ 8 * s.size) :
    plR s a n = .tuple #[.int .i64 (B.fld s.data.toList a n : Int), .agg #[.string s, .int .i64 ((a + n : Nat) : Int)], .int .i64 0] := by
  have e := plE_ok h1 h2
  simp [plR, plV, plS, plA, e]
attribute [local go_sem ↓] Go.wp_at_zero Go.wp_at_succ
end Go.Proofs.Ytpeknlablcgchaa
