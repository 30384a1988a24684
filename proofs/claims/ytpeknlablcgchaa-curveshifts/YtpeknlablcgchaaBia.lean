import Derived.Test.YtpeknlablcgchaaBi2
import Derived.Test.YtpeknlablcgchaaBiW
import Derived.Laws.IdiomStrings
import Derived.Laws.MakeOwn
import Derived.OwnWalk
import Derived.Deep.OwnRows
import Derived.Laws.AppendOwn
import Derived.KernelRfl
/- Layer 2: rows of bytes in memory, new ones, as strings; whether a writer is sound. -/
namespace Go.Proofs.Ytpeknlablcgchaa
open Go.RowKit
set_option linter.unusedVariables false

/-- bytes as a string -/
def bs (l : List UInt8) : ByteArray := ⟨l.toArray⟩
theorem bs_data (l : List UInt8) : (bs l).data.toList = l := rfl
theorem bs_of (s : ByteArray) : bs s.data.toList = s := rfl
theorem bs_size (l : List UInt8) : (bs l).size = l.length := rfl
theorem bs_append (a b : List UInt8) : bs a ++ bs b = bs (a ++ b) := by
  apply ByteArray.ext
  rw [ByteArray.data_append]
  simp [bs]
/-- block g holds the bytes l, none frozen -/
def BRow (w : World) (g : Nat) (l : List UInt8) : Prop :=
  g < w.heap.size ∧ ∀ i (h : i < l.length), w.cell? ⟨g, i, none⟩ = some (.int .u8 (l[i].toNat : Int)) ∧ w.frozen? ⟨g, i, none⟩ = false
section
variable {w w' : World} {g : Nat} {l : List UInt8}
theorem BRow.below {B : Nat} (h : BRow w g l) (hb : Below B w w') (hB : g < B) : BRow w' g l :=
  ⟨Nat.lt_of_lt_of_le h.1 hb.size, fun i hi => ⟨(hb.cell (p := ⟨g, i, none⟩) hB).trans (h.2 i hi).1, (hb.frozen (p := ⟨g, i, none⟩) hB).trans (h.2 i hi).2⟩⟩
theorem BRow.keep (h : BRow w g l) (hb : Below w.heap.size w w') : BRow w' g l := h.below hb h.1
theorem BRow.drewN (h : BRow w g l) (n : Nat) : BRow (w.drewN n) g l := h
theorem BRow.set (h : BRow w g l) {i : Nat} (hi : i < l.length) (x : UInt8) : BRow (w.setCell ⟨g, i, none⟩ (.int .u8 (x.toNat : Int))) g (l.set i x) := by
  refine ⟨by simpa [World.setCell] using h.1, fun j hj => ?_⟩
  have hj' : j < l.length := by rw [List.length_set] at hj; exact hj
  refine ⟨?_, by rw [World.frozen?_setCell]; exact (h.2 j hj').2⟩
  by_cases e : j = i
  · subst e
    rw [World.cell?_setCell_same _ _ _ (h.2 j hj').1, List.getElem_set_self]
  · rw [World.cell?_setCell_other _ _ _ _ (by intro k; injection k; omega), (h.2 j hj').1, List.getElem_set_ne (by omega)]
theorem BRow.far (h : BRow w g l) {a : Addr} (ha : a.block ≠ g) (v : Value) : BRow (w.setCell a v) g l := by
  refine ⟨by simpa [World.setCell] using h.1, fun j hj => ⟨?_, by rw [World.frozen?_setCell]; exact (h.2 j hj).2⟩⟩
  rw [World.cell?_setCell_other _ _ _ _ (by intro k; rw [k] at ha; exact ha rfl)]
  exact (h.2 j hj).1
end
theorem byte_info : (Try.prog.info? 5).map (fun i => (i.zero, i.size, i.bytes)) = some (some (.int .u8 0), 1, 1) := by kernel_rfl
theorem brow_made (w : World) (n : Nat) : BRow (w.alloc (.cells (madeCells #[.int .u8 0] n) 5)) w.heap.size (List.replicate n 0) := by
  refine ⟨by simp, fun i hi => ?_⟩
  have hi' : i < n := by rw [List.length_replicate] at hi; exact hi
  refine ⟨?_, World.frozen?_alloc_new ..⟩
  rw [World.cell?_alloc_new, ← Array.getElem?_toList, toList_madeCells_one, List.getElem?_replicate, if_pos hi', List.getElem_replicate]
  rfl
/-- is a writer sound, by its last byte -/
def sndB (s : ByteArray) (f : Int) : Bool := decide (f = 0) || (decide (0 < f) && decide (f ≤ 7) && decide (0 < s.size) && decide (B.bv s.data.toList % B.P2 f.toNat = 0))
theorem and_last (c : UInt8) (f : Nat) (hf : f ≤ 7) : (bits .and .u8 (c.toNat : Int) ((2 ^ f - 1) % 256) == 0) = decide (c.toNat % B.P2 f = 0) := by
  have h1 := B.P2_pos f
  have h2 : B.P2 f ≤ 128 := B.P2_le (b := 7) hf
  have hc := c.toNat_lt
  rw [P2_cast, show ((B.P2 f : Int) - 1) % 256 = ((B.P2 f - 1 : Nat) : Int) by omega, u8_and_nat _ _ hc (by omega)]
  have e : c.toNat &&& (B.P2 f - 1) = c.toNat % B.P2 f := Nat.and_two_pow_sub_one_eq_mod _ _
  rw [e, Bool.eq_iff_iff, beq_iff_eq, decide_eq_true_iff]
  omega
end Go.Proofs.Ytpeknlablcgchaa
