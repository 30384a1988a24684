import Derived.Below
import Derived.Deep.Draws
import Derived.WalkKit
/- Small facts on worlds in which nothing old has turned. -/
namespace Go.Proofs.Ytpeknlablcgchaa
open Go.RowKit
theorem bq_trans {a b c : World} (h : Below a.heap.size a b) (k : Below b.heap.size b c) : Below a.heap.size a c := h.trans (k.mono h.size)
theorem bq_alloc {a b : World} (h : Below a.heap.size a b) (o : Obj) : Below a.heap.size a (b.alloc o) := h.alloc h.size o
theorem bq_drew {a b : World} (h : Below a.heap.size a b) : Below a.heap.size a b.drew := h.drew
theorem bq_drewN {a b : World} (h : Below a.heap.size a b) (n : Nat) : Below a.heap.size a (b.drewN n) := ⟨h.os, h.tape, h.output, h.size, h.block⟩
theorem bq_drawn (w : World) {w' : World} (h : ∃ n, w' = w.drewN n) : Below w.heap.size w w' := by
  obtain ⟨n, rfl⟩ := h
  exact bq_drewN (Below.refl _ _) n
theorem bq_set {a b : World} (h : Below a.heap.size a b) (p : Addr) (hp : a.heap.size ≤ p.block) (v : Value) : Below a.heap.size a (b.setCell p v) := h.setCell hp v
theorem bq_refl (a : World) : Below a.heap.size a a := Below.refl _ _
end Go.Proofs.Ytpeknlablcgchaa
