import Derived.Test.YtpeknlablcgchaaF1
/- Layer 7: whether rectangles, matrices, changes and colours are right; the program's. -/
namespace Go.Proofs.Ytpeknlablcgchaa
open Go.RowKit
set_option linter.unusedVariables false

def rectOk (l r t b : Int) : Bool := [l, r, t, b].all (nr 1048576) && decide (l ≤ r) && decide (t ≤ b)
def matOk (a b c d x y : Int) : Bool := [a, b, c, d].all (nr 4194304) && [x, y].all (nr 1048576)
def cxOk (m d : List Int) : Bool := m.all (nr 512) && d.all (nr 255)
def rgbaOk (r g b a : Int) : Bool := [r, g, b, a].all (nr 255) && decide (0 ≤ r) && decide (0 ≤ g) && decide (0 ≤ b) && decide (0 ≤ a)
/-- it fits an int -/
def I64 (v : Int) : Prop := -9223372036854775808 ≤ v ∧ v ≤ 9223372036854775807
theorem i64_2 {x y : Int} (hx : I64 x) (hy : I64 y) : ∀ v ∈ [x, y], -9223372036854775808 ≤ v ∧ v ≤ 9223372036854775807 := by
  intro v hv
  simp only [List.mem_cons, List.not_mem_nil, or_false] at hv
  rcases hv with rfl | rfl
  · exact hx
  · exact hy
theorem i64_4 {x y z u : Int} (hx : I64 x) (hy : I64 y) (hz : I64 z) (hu : I64 u) : ∀ v ∈ [x, y, z, u], -9223372036854775808 ≤ v ∧ v ≤ 9223372036854775807 := by
  intro v hv
  simp only [List.mem_cons, List.not_mem_nil, or_false] at hv
  rcases hv with rfl | rfl | rfl | rfl
  · exact hx
  · exact hy
  · exact hz
  · exact hu
theorem run_min4 {P : Program} (w : World) (ts : Array TypeId) (t : TypeId) (k k1 k2 k3 : IntKind) (x y z u : Int) :
    (Builtin.min_ ts t #[.int k x, .int k1 y, .int k2 z, .int k3 u]).run P w = .ok (.int k (min (min (min x y) z) u)) w := by
  have e : ∀ x y : Int, (if y < x then y else x) = min x y := by
    intro x y
    rw [Int.min_def]
    split <;> split <;> omega
  simp [Builtin.min_, Builtin.min2, e]
theorem run_max4 {P : Program} (w : World) (ts : Array TypeId) (t : TypeId) (k k1 k2 k3 : IntKind) (x y z u : Int) :
    (Builtin.max_ ts t #[.int k x, .int k1 y, .int k2 z, .int k3 u]).run P w = .ok (.int k (max (max (max x y) z) u)) w := by
  have e : ∀ x y : Int, (if x < y then y else x) = max x y := by
    intro x y
    rw [Int.max_def]
    split <;> split <;> omega
  simp [Builtin.max_, Builtin.max2, e]
end Go.Proofs.Ytpeknlablcgchaa
