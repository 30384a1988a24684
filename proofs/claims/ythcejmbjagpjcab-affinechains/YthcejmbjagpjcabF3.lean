import Derived.Test.YthcejmbjagpjcabF2
/- Layer 7: whether rectangles, matrices, changes and colours are right; the document's. -/
namespace Go.Proofs.Ythcejmbjagpjcab
open Go.RowKit
set_option linter.unusedVariables false

theorem all_zip (f g : Int → Bool) (a b : List Int) (k : Nat) (ha : k < a.length) (hb : k < b.length) (h1 : ((a.take k).all f && (b.take k).all g) = true) (h2 : f a[k] = true) (h3 : g b[k] = true) : ((a.take (k + 1)).all f && (b.take (k + 1)).all g) = true := by
  rw [Bool.and_eq_true] at *
  exact ⟨all_take f a k ha h1.1 h2, all_take g b k hb h1.2 h3⟩
def CxRel (m d : List Int) (i : Value) : Prop := ∃ k : Nat, k ≤ 4 ∧ i = .int .i64 k ∧ ((m.take k).all (nr 512) && (d.take k).all (nr 255)) = true
def byI (v : Int) : Bool := decide (0 ≤ v) && decide (v ≤ 255)
def byAll (zs : List Int) : Bool := zs.all byI
def RgRel (zs : List Int) (i : Value) : Prop := ∃ k : Nat, k ≤ 4 ∧ i = .int .i64 k ∧ (zs.take k).all byI = true
theorem rgba_all (r g b a : Int) : rgbaOk r g b a = byAll [r, g, b, a] := by
  rw [Bool.eq_iff_iff]
  simp [rgbaOk, byAll, byI, nr]
  omega
end Go.Proofs.Ythcejmbjagpjcab
