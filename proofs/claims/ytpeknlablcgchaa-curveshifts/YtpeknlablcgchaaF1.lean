import Derived.Test.YtpeknlablcgchaaFl
/- Layer 7: whether numbers, rectangles, matrices, changes and colours are right. -/
namespace Go.Proofs.Ytpeknlablcgchaa
open Go.RowKit
set_option linter.unusedVariables false

def nr (m v : Int) : Bool := decide (-m ≤ v) && decide (v ≤ m)
theorem nr_iff (m v : Int) : nr m v = true ↔ -m ≤ v ∧ v ≤ m := by simp [nr]
theorem all_take (f : Int → Bool) (zs : List Int) (k : Nat) (h : k < zs.length) (h1 : (zs.take k).all f = true) (h2 : f zs[k] = true) : (zs.take (k + 1)).all f = true := by
  rw [List.take_succ_eq_append_getElem h, List.all_append, h1]
  simp [h2]
theorem all_not (f : Int → Bool) (zs : List Int) (k : Nat) (h : k < zs.length) (h2 : f zs[k] = false) : zs.all f = false := by
  rw [List.all_eq_false]
  exact ⟨zs[k], List.getElem_mem h, by rw [h2]; simp⟩
def NrRel (zs : List Int) (m : Int) (i : Value) : Prop := ∃ k : Nat, k ≤ zs.length ∧ i = .int .i64 k ∧ (zs.take k).all (nr m) = true
end Go.Proofs.Ytpeknlablcgchaa
