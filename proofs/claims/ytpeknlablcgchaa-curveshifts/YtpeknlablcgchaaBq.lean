import Derived.Test.YtpeknlablcgchaaU1
import Derived.WalkKit
import Derived.Lib.Hide
/- Boxes of two cells: a struct of two fields in memory. -/
namespace Go.Proofs.Ytpeknlablcgchaa
open Go.RowKit

/-- block b holds two cells, neither frozen -/
def Box (w : World) (b : Nat) (x y : Value) : Prop :=
  w.cell? ⟨b, 0, none⟩ = some x ∧ w.cell? ⟨b, 1, none⟩ = some y ∧ w.frozen? ⟨b, 0, none⟩ = false ∧ w.frozen? ⟨b, 1, none⟩ = false ∧ b < w.heap.size
section
variable {w w' : World} {b : Nat} {x y : Value}
theorem Box.below {B : Nat} (h : Box w b x y) (hb : Below B w w') (hB : b < B) : Box w' b x y :=
  ⟨(hb.cell (p := ⟨b, 0, none⟩) hB).trans h.1, (hb.cell (p := ⟨b, 1, none⟩) hB).trans h.2.1, (hb.frozen (p := ⟨b, 0, none⟩) hB).trans h.2.2.1, (hb.frozen (p := ⟨b, 1, none⟩) hB).trans h.2.2.2.1, Nat.lt_of_lt_of_le h.2.2.2.2 hb.size⟩
theorem Box.keep (h : Box w b x y) (hb : Below w.heap.size w w') : Box w' b x y := h.below hb h.2.2.2.2
theorem Box.alloc (h : Box w b x y) (o : Obj) : Box (w.alloc o) b x y := h.keep (bq_alloc (bq_refl _) o)
theorem Box.drewN (h : Box w b x y) (n : Nat) : Box (w.drewN n) b x y := h
theorem Box.drew (h : Box w b x y) : Box w.drew b x y := h
theorem box_new (w : World) (x y : Value) (t : TypeId) : Box (w.alloc (.cells #[x, y] t)) w.heap.size x y := by
  refine ⟨?_, ?_, World.frozen?_alloc_new .., World.frozen?_alloc_new .., by simp⟩
  · rw [World.cell?_alloc_new]; rfl
  · rw [World.cell?_alloc_new]; rfl
theorem Box.set0 (h : Box w b x y) (v : Value) : Box (w.setCell ⟨b, 0, none⟩ v) b v y := by
  refine ⟨World.cell?_setCell_same _ _ _ h.1, ?_, by rw [World.frozen?_setCell]; exact h.2.2.1, by rw [World.frozen?_setCell]; exact h.2.2.2.1, by simpa [World.setCell] using h.2.2.2.2⟩
  rw [World.cell?_setCell_other _ _ _ _ (by intro k; injection k; omega)]; exact h.2.1
theorem Box.set1 (h : Box w b x y) (v : Value) : Box (w.setCell ⟨b, 1, none⟩ v) b x v := by
  refine ⟨?_, World.cell?_setCell_same _ _ _ h.2.1, by rw [World.frozen?_setCell]; exact h.2.2.1, by rw [World.frozen?_setCell]; exact h.2.2.2.1, by simpa [World.setCell] using h.2.2.2.2⟩
  rw [World.cell?_setCell_other _ _ _ _ (by intro k; injection k; omega)]; exact h.1
theorem Box.far (h : Box w b x y) {a : Addr} (ha : a.block ≠ b) (v : Value) : Box (w.setCell a v) b x y := by
  refine ⟨?_, ?_, by rw [World.frozen?_setCell]; exact h.2.2.1, by rw [World.frozen?_setCell]; exact h.2.2.2.1, by simpa [World.setCell] using h.2.2.2.2⟩
  · rw [World.cell?_setCell_other _ _ _ _ (by intro k; rw [k] at ha; exact ha rfl)]; exact h.1
  · rw [World.cell?_setCell_other _ _ _ _ (by intro k; rw [k] at ha; exact ha rfl)]; exact h.2.1
end
/-- one box, and what came behind it -/
theorem box1_kept {w w1 : World} {x y : Value} {t : TypeId} (hb : Below (w.alloc (.cells #[x, y] t)).heap.size (w.alloc (.cells #[x, y] t)) w1) : Box w1 w.heap.size x y ∧ Below w.heap.size w w1 :=
  ⟨(box_new w x y t).keep hb, bq_trans (bq_alloc (bq_refl w) _) hb⟩
/-- two boxes, and what came behind them -/
theorem box2_kept {w w1 : World} {x y x' y' : Value} {t t' : TypeId} (hb : Below ((w.alloc (.cells #[x, y] t)).alloc (.cells #[x', y'] t')).heap.size ((w.alloc (.cells #[x, y] t)).alloc (.cells #[x', y'] t')) w1) :
    Box w1 w.heap.size x y ∧ Box w1 (w.heap.size + 1) x' y' ∧ Below w.heap.size w w1 := by
  have h2 := (box_new (w.alloc (.cells #[x, y] t)) x' y' t').keep hb
  have e : (w.alloc (.cells #[x, y] t)).heap.size = w.heap.size + 1 := by simp
  rw [e] at h2
  exact ⟨((box_new w x y t).alloc _).keep hb, h2, bq_trans (bq_alloc (bq_alloc (bq_refl w) _) _) hb⟩
end Go.Proofs.Ytpeknlablcgchaa
