import Derived.Test.YtddiccdfeckgaaaDoorRows
import Derived.Test.YtddiccdfeckgaaaDoorZB
import Derived.ProofKit
import Derived.LaidMore
import Derived.OpenShut
import Derived.Stop.Joined
/- Layer 5: what the package's variables hold, out of what the row lays. -/
namespace Go.Proofs.YtddiccdfeckgaaaDoor
open Go.ChangeShapes Go.WideShapes Go.ChangeAt Go.RowKit
set_option linter.unusedVariables false
set_option linter.unusedSimpArgs false
def laid4 : List (String × DataW Unit) := [("celluloid/inflate.repeats", Rows.laid_celluloid_inflate_repeats), ("celluloid/inflate.order", Rows.laid_celluloid_inflate_order), ("celluloid/inflate.lengthSpans", Rows.laid_celluloid_inflate_lengthSpans), ("celluloid/inflate.distanceSpans", Rows.laid_celluloid_inflate_distanceSpans)]
theorem cell_of_part {cs : List Value} {i n : Nat} {v : Value} (h : (cs.drop i).take n = [v]) : cs[i]? = some v := by
  have e : ((cs.drop i).take n)[0]? = some v := by rw [h]; rfl
  cases n with
  | zero => simp at h
  | succ n =>
    rw [List.getElem?_take, if_pos (by omega), List.getElem?_drop] at e
    simpa using e
section
variable {w : World} {t : TypeId} {n fuel : Nat} {cs : List Value} {p : List MemPlace}
theorem laid_ints (l : List Int) (ht : Tryd.prog.underlying t = some (.array n 3)) (h : DataW.trod (fun _ => ()) Tryd.prog w 0 (fun _ => true) false fuel t cs = some (.agg (l.map fun k => .lit (.int .i64 k)), p)) (i : Nat) (hi : i < n) (hl : i < l.length) : cs[i]? = some (.int .i64 l[i]) := by
  obtain ⟨xs, m, rfl, hx, _, hn, hel⟩ := DataW.trod_array ht h
  simp only [Prod.mk.injEq, DataW.agg.injEq] at hx
  have h1 := hel i hi
  rw [show Tryd.prog.cellsOf 3 = 1 by kernel_rfl, Nat.mul_one, List.getElem?_eq_getElem (by omega)] at h1
  obtain ⟨k, e1, e2, _⟩ := DataW.trod_int Tryd.underlying3 h1
  have e3 : (l.map fun k => DataW.lit (H := Unit) (.int .i64 k))[i]? = (xs.map (·.1))[i]? := by rw [hx.1]
  rw [List.getElem?_map, List.getElem?_map, List.getElem?_eq_getElem hl, List.getElem?_eq_getElem (by omega), e2] at e3
  simp at e3
  rw [e3]
  exact cell_of_part e1
theorem laid_spans (l : List (Int × Int)) (ht : Tryd.prog.underlying t = some (.array n 137)) (h : DataW.trod (fun _ => ()) Tryd.prog w 0 (fun _ => true) false fuel t cs = some (.agg (l.map fun k => .agg [.lit (.int .i64 k.1), .lit (.int .i64 k.2)]), p)) (i : Nat) (hi : i < n) (hl : i < l.length) :
    cs[2 * i]? = some (.int .i64 l[i].1) ∧ cs[2 * i + 1]? = some (.int .i64 l[i].2) := by
  obtain ⟨xs, m, rfl, hx, _, hn, hel⟩ := DataW.trod_array ht h
  simp only [Prod.mk.injEq, DataW.agg.injEq] at hx
  have h1 := hel i hi
  rw [show Tryd.prog.cellsOf 137 = 2 by kernel_rfl, Nat.mul_comm i 2, List.getElem?_eq_getElem (by omega)] at h1
  obtain ⟨ys, m2, rfl, hy, _, hn2, hfl⟩ := DataW.trod_struct Tryd.underlying137 h1
  have hn3 : ys.length = 2 := hn2
  obtain ⟨y0, y1, rfl⟩ : ∃ y0 y1, ys = [y0, y1] := by
    match ys, hn3 with
    | [y0, y1], _ => exact ⟨y0, y1, rfl⟩
  have f0 := hfl 0 _ rfl
  have f1 := hfl 1 _ rfl
  obtain ⟨k0, a1, a2, _⟩ := DataW.trod_int Tryd.underlying3 (x := y0) f0
  obtain ⟨k1, b1, b2, _⟩ := DataW.trod_int Tryd.underlying3 (x := y1) f1
  have e3 : (l.map fun k => DataW.agg (H := Unit) [.lit (.int .i64 k.1), .lit (.int .i64 k.2)])[i]? = (xs.map (·.1))[i]? := by rw [hx.1]
  rw [List.getElem?_map, List.getElem?_map, List.getElem?_eq_getElem hl, List.getElem?_eq_getElem (by omega), hy] at e3
  rw [a2, b2] at e3
  simp at e3
  obtain ⟨e4, e5⟩ := e3
  rw [e4, e5]
  refine ⟨?_, ?_⟩
  · have := cell_of_part a1
    rw [List.getElem?_take, List.getElem?_drop] at this
    simpa using this
  · have := cell_of_part b1
    rw [List.getElem?_take, List.getElem?_drop] at this
    simpa using this
end
theorem getI (l : List (Nat × Nat)) (i : Nat) (h : i < l.length) : (l.map fun k : Nat × Nat => ((k.1 : Int), (k.2 : Int)))[i]'(by simpa using h) = (((l.getD i (0, 0)).1 : Int), ((l.getD i (0, 0)).2 : Int)) := by
  simp [h, List.getD_eq_getElem?_getD]
def repT : List (Nat × Nat) := [(3, 2), (3, 3), (11, 7)]
theorem repT_eq (i : Nat) (h : i < 3) : repT.getD i (0, 0) = I.rpt i := by
  have : ∀ i : Fin 3, repT.getD i (0, 0) = I.rpt i := by decide
  exact this ⟨i, h⟩
theorem gRep : Tryd.prog.globalNamed "celluloid/inflate.repeats" = some 3 := by kernel_rfl
theorem gOrd : Tryd.prog.globalNamed "celluloid/inflate.order" = some 2 := by kernel_rfl
theorem gLen : Tryd.prog.globalNamed "celluloid/inflate.lengthSpans" = some 0 := by kernel_rfl
theorem gDst : Tryd.prog.globalNamed "celluloid/inflate.distanceSpans" = some 1 := by kernel_rfl
theorem of_laid {W : World} (h : laidMetH Tryd.prog laid4 W) : Gl W := by
  rw [MakeChecks.laidMetH_plain _ _ _ (by kernel_rfl)] at h
  obtain ⟨ps, ⟨g0, t0, cs0, f0, p0, q0, hg0, ht0, hv0, hd0, ⟨g1, t1, cs1, f1, p1, q1, hg1, ht1, hv1, hd1, ⟨g2, t2, cs2, f2, p2, q2, hg2, ht2, hv2, hd2, ⟨g3, t3, cs3, f3, p3, q3, hg3, ht3, hv3, hd3, _, _⟩, _⟩, _⟩, _⟩, _, _⟩ := h
  obtain rfl := Option.some.inj (gRep.symm.trans hg0)
  obtain rfl := Option.some.inj (gOrd.symm.trans hg1)
  obtain rfl := Option.some.inj (gLen.symm.trans hg2)
  obtain rfl := Option.some.inj (gDst.symm.trans hg3)
  have u0 : Tryd.prog.underlying t0 = some (.array 3 137) := by
    have e : ((Tryd.prog.globals[3]?).map (·.type)).bind Tryd.prog.underlying = some (.array 3 137) := by kernel_rfl
    rw [ht0, Option.bind_some] at e
    exact e
  have u1 : Tryd.prog.underlying t1 = some (.array 19 3) := by
    have e : ((Tryd.prog.globals[2]?).map (·.type)).bind Tryd.prog.underlying = some (.array 19 3) := by kernel_rfl
    rw [ht1, Option.bind_some] at e
    exact e
  have u2 : Tryd.prog.underlying t2 = some (.array 29 137) := by
    have e : ((Tryd.prog.globals[0]?).map (·.type)).bind Tryd.prog.underlying = some (.array 29 137) := by kernel_rfl
    rw [ht2, Option.bind_some] at e
    exact e
  have u3 : Tryd.prog.underlying t3 = some (.array 30 137) := by
    have e : ((Tryd.prog.globals[1]?).map (·.type)).bind Tryd.prog.underlying = some (.array 30 137) := by kernel_rfl
    rw [ht3, Option.bind_some] at e
    exact e
  have at_ : ∀ {g : Nat} {n : String} {cs : Array Value} {j : Nat} {v : Value}, Tryd.prog.globalNamed n = some g → W.var? Tryd.prog n = some cs → cs.toList[j]? = some v → W.cell? ⟨g, j, none⟩ = some v := fun hg hv hc => by
    rw [World.var?_cell hg hv, ← Array.getElem?_toList]; exact hc
  refine ⟨fun i hi => ?_, fun i hi => ?_, fun i hi => ?_, fun i hi => ?_⟩
  · have := laid_spans (I.lenT.map fun k : Nat × Nat => ((k.1 : Int), (k.2 : Int))) u2 hd2 i hi (by simpa [I.lenT] using hi)
    rw [getI I.lenT i (by simpa [I.lenT] using hi)] at this
    exact ⟨at_ hg2 hv2 this.1, at_ hg2 hv2 this.2⟩
  · have := laid_spans (I.dstT.map fun k : Nat × Nat => ((k.1 : Int), (k.2 : Int))) u3 hd3 i hi (by simpa [I.dstT] using hi)
    rw [getI I.dstT i (by simpa [I.dstT] using hi)] at this
    exact ⟨at_ hg3 hv3 this.1, at_ hg3 hv3 this.2⟩
  · have := laid_ints (I.ordT.map fun k : Nat => (k : Int)) u1 hd1 i hi (by simpa [I.ordT] using hi)
    rw [List.getElem_map] at this
    have e : I.od i = I.ordT[i]'(by simpa [I.ordT] using hi) := by unfold I.od; rw [List.getD_eq_getElem?_getD, List.getElem?_eq_getElem (by simpa [I.ordT] using hi)]; rfl
    rw [e]
    exact at_ hg1 hv1 this
  · have := laid_spans (repT.map fun k : Nat × Nat => ((k.1 : Int), (k.2 : Int))) u0 hd0 i hi (by simpa [repT] using hi)
    rw [getI repT i (by simpa [repT] using hi), repT_eq i hi] at this
    exact ⟨at_ hg0 hv0 this.1, at_ hg0 hv0 this.2⟩
end Go.Proofs.YtddiccdfeckgaaaDoor
