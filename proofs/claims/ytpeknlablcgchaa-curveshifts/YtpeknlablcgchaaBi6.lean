import Derived.Test.YtpeknlablcgchaaBi5
/- Layer 2: the next bytes of a reader; the program's and the document's. -/
namespace Go.Proofs.Ytpeknlablcgchaa
open Go.RowKit
set_option linter.unusedVariables false

def errB (e : Int) : Value := .tuple #[.string ⟨#[]⟩, .agg #[.string ⟨#[]⟩, .int .i64 0], .int .i64 e]
def byE (m : Nat) (a n : Int) : Int := if 0 ≤ a ∧ a ≤ 8 * m ∧ 0 ≤ n then (if (m : Int) - (a + 7) / 8 < n then 2 else 0) else 1
def byB (s : ByteArray) (a n : Int) : ByteArray := if byE s.size a n = 0 then s.extract ((a + 7) / 8).toNat (((a + 7) / 8).toNat + n.toNat) else ⟨#[]⟩
def byS (s : ByteArray) (a n : Int) : ByteArray := if byE s.size a n = 0 then s else ⟨#[]⟩
def byA (s : ByteArray) (a n : Int) : Int := if byE s.size a n = 0 then 8 * ((a + 7) / 8 + n) else 0
def byR (s : ByteArray) (a n : Int) : Value := .tuple #[.string (byB s a n), .agg #[.string (byS s a n), .int .i64 (byA s a n)], .int .i64 (byE s.size a n)]
theorem byR_arg {s : ByteArray} {a n : Int} (h : ¬ (0 ≤ a ∧ a ≤ 8 * s.size ∧ 0 ≤ n)) : byR s a n = errB 1 := by
  have e : byE s.size a n = 1 := if_neg h
  simp [byR, byB, byS, byA, e, errB]
theorem byR_short {s : ByteArray} {a n : Int} (h : 0 ≤ a ∧ a ≤ 8 * s.size ∧ 0 ≤ n) (h2 : (s.size : Int) - (a + 7) / 8 < n) : byR s a n = errB 2 := by
  have e : byE s.size a n = 2 := by unfold byE; rw [if_pos h, if_pos h2]
  simp [byR, byB, byS, byA, e, errB]
theorem byR_ok {s : ByteArray} {a : Int} {n k : Nat} (h : 0 ≤ a ∧ a ≤ 8 * s.size ∧ 0 ≤ (n : Int)) (hk : (k : Int) = (a + 7) / 8) (h2 : ¬ (s.size : Int) - (a + 7) / 8 < n) :
    byR s a n = .tuple #[.string (s.extract k (k + n)), .agg #[.string s, .int .i64 (8 * ((k : Int) + (n : Int)))], .int .i64 0] := by
  have e : byE s.size a n = 0 := by unfold byE; rw [if_pos h, if_neg h2]
  simp [byR, byB, byS, byA, e, ← hk]

end Go.Proofs.Ytpeknlablcgchaa
