import Derived.Test.YtcfidibkihkndaaU1
import Derived.Test.YtcfidibkihkndaaM5
import Derived.Test.YtcfidibkihkndaaProg
import Derived.WalkKit
import Derived.Lib.Hide
import Derived.Deep.QuietTactic
import Derived.BigQuiet
import Derived.Laws.OwnMore
import Derived.Deep.AppendLies
/- Rows of digits in memory: a block whose first cells are the digits of a list, none frozen. -/
namespace Go.Proofs.Ytcfidibkihkndaa
open Go.RowKit

def Row (w : World) (g : Nat) (l : List Nat) : Prop :=
  g < w.heap.size ∧ ∀ i, i < l.length → w.cell? ⟨g, i, none⟩ = some (.int .i64 (M5.dg l i : Int)) ∧ w.frozen? ⟨g, i, none⟩ = false
def Sl (g n c : Nat) : Value := .slice (some ⟨g, 0, none⟩) n c

section
variable {w w' : World} {g : Nat} {l : List Nat}
theorem Row.lt (h : Row w g l) : g < w.heap.size := h.1
theorem Row.cell (h : Row w g l) {i : Nat} (hi : i < l.length) : w.cell? ⟨g, i, none⟩ = some (.int .i64 (M5.dg l i : Int)) := (h.2 i hi).1
theorem Row.free (h : Row w g l) {i : Nat} (hi : i < l.length) : w.frozen? ⟨g, i, none⟩ = false := (h.2 i hi).2
theorem Row.below {B : Nat} (h : Row w g l) (hb : Below B w w') (hB : g < B) : Row w' g l :=
  ⟨Nat.lt_of_lt_of_le h.1 hb.size, fun i hi => ⟨(hb.cell (p := ⟨g, i, none⟩) hB).trans (h.cell hi), (hb.frozen (p := ⟨g, i, none⟩) hB).trans (h.free hi)⟩⟩
theorem Row.keep (h : Row w g l) (hb : Below w.heap.size w w') : Row w' g l := h.below hb h.1
theorem Row.drewN (h : Row w g l) (n : Nat) : Row (w.drewN n) g l := h
theorem Row.alloc (h : Row w g l) (o : Obj) : Row (w.alloc o) g l := h.keep (bq_alloc (Below.refl _ _) o)
theorem Row.take (h : Row w g l) (k : Nat) : Row w g (l.take k) := by
  refine ⟨h.1, fun i hi => ?_⟩
  rw [List.length_take] at hi
  have e : M5.dg (l.take k) i = M5.dg l i := by
    rw [M5.dg_in _ _ (by rw [List.length_take]; omega), M5.dg_in _ _ (by omega)]
    simp
  rw [e]
  exact h.2 i (by omega)
theorem Row.set (h : Row w g l) {i : Nat} (hi : i < l.length) (x : Nat) : Row (w.setCell ⟨g, i, none⟩ (.int .i64 (x : Int))) g (l.set i x) := by
  refine ⟨by simpa [World.setCell] using h.1, fun j hj => ?_⟩
  rw [List.length_set] at hj
  refine ⟨?_, by rw [World.frozen?_setCell]; exact h.free hj⟩
  by_cases e : j = i
  · subst e
    rw [World.cell?_setCell_same _ _ _ (h.cell hj), M5.dg_in _ _ (by rw [List.length_set]; exact hj), List.getElem_set_self]
  · rw [World.cell?_setCell_other _ _ _ _ (by intro k; injection k; omega), h.cell hj, M5.dg_in l j hj, M5.dg_in (l.set i x) j (by rw [List.length_set]; exact hj), List.getElem_set_ne (by omega)]
theorem Row.far (h : Row w g l) {a : Addr} (ha : a.block ≠ g) (v : Value) : Row (w.setCell a v) g l := by
  refine ⟨by simpa [World.setCell] using h.1, fun j hj => ⟨?_, by rw [World.frozen?_setCell]; exact h.free hj⟩⟩
  rw [World.cell?_setCell_other _ _ _ _ (by intro k; rw [k] at ha; exact ha rfl)]
  exact h.cell hj
theorem Row.own {base : Nat} {e : TypeId} {c : Nat} (h : w.ownsRow base e 1 (.slice (some ⟨g, 0, none⟩) l.length c) l.length (l.map fun x : Nat => Value.int .i64 (x : Int))) (hg : g < w.heap.size) : Row w g l := by
  refine ⟨hg, fun i hi => ⟨?_, h.frozenAt i⟩⟩
  rw [h.cellAt i (by omega), List.getElem?_map, List.getElem?_eq_getElem hi, M5.dg_in _ _ hi]
  rfl
end
end Go.Proofs.Ytcfidibkihkndaa
