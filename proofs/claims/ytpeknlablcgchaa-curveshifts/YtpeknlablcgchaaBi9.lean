import Derived.Test.YtpeknlablcgchaaBi8
/- Layer 2: the greatest width of any numbers. -/
namespace Go.Proofs.Ytpeknlablcgchaa
open Go.RowKit
set_option linter.unusedVariables false

def mxW (zs : List Int) : Nat := zs.foldl (fun m v => max m (wd v)) 0
def mxP (zs : List Int) : Int := zs.foldl (fun m v => max m v) 0
theorem mxW_snoc (zs : List Int) (v : Int) : mxW (zs ++ [v]) = max (mxW zs) (wd v) := by simp [mxW]
theorem mxP_snoc (zs : List Int) (v : Int) : mxP (zs ++ [v]) = max (mxP zs) v := by simp [mxP]
theorem mxW_take (zs : List Int) (k : Nat) (h : k < zs.length) : mxW (zs.take (k + 1)) = max (mxW (zs.take k)) (wd zs[k]) := by
  rw [List.take_succ_eq_append_getElem h, mxW_snoc]
theorem mxP_take (zs : List Int) (k : Nat) (h : k < zs.length) : mxP (zs.take (k + 1)) = max (mxP (zs.take k)) zs[k] := by
  rw [List.take_succ_eq_append_getElem h, mxP_snoc]
def MxRel (zs : List Int) (m i : Value) : Prop := ∃ k x : Nat, k ≤ zs.length ∧ i = .int .i64 k ∧ m = .int .i64 (x : Int) ∧ x = mxW (zs.take k) ∧ x ≤ 64
def MpRel (zs : List Int) (m i : Value) : Prop := ∃ k : Nat, ∃ x : Int, k ≤ zs.length ∧ i = .int .i64 k ∧ m = .int .i64 x ∧ x = mxP (zs.take k) ∧ 0 ≤ x ∧ x ≤ 9223372036854775807
theorem max_nat (x y : Nat) : (if x < y then (y : Int) else (x : Int)) = ((max x y : Nat) : Int) := by rw [Nat.max_def]; split <;> split <;> omega
theorem max_int (x y : Int) : (if x < y then y else x) = max x y := by rw [Int.max_def]; split <;> split <;> omega
end Go.Proofs.Ytpeknlablcgchaa
