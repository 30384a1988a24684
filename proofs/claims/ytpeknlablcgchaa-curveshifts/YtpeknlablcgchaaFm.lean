import Derived.Test.YtpeknlablcgchaaFl
import Derived.Deep.MidRow
/- Laws for loads and stores in the midst of a block of the call's own: the world behind each is a letter. -/
namespace Go.Proofs.Ytpeknlablcgchaa
open Go.RowKit
set_option linter.unusedVariables false

theorem Blk.under {w w' : World} {b B : Nat} {cs : Array Value} {t : TypeId} (h : Blk w b cs t) (hb : Below B w w') (hB : b < B) : Blk w' b cs t := by unfold Blk; rw [hb.block b hB]; exact h
/-- values laid into a row, from a place on -/
def spl : Array Value → Nat → List Value → Array Value
  | cs, _, [] => cs
  | cs, k, v :: vs => spl (cs.setIfInBounds k v) (k + 1) vs
theorem blk_setCells {b : Nat} {t : TypeId} : ∀ (vs : List Value) (k : Nat) (w : World) (cs : Array Value), Blk w b cs t → Blk (w.setCells b k vs) b (spl cs k vs) t
  | [], _, _, _, h => h
  | v :: vs, k, w, cs, h => blk_setCells vs (k + 1) _ _ (h.set k v)
theorem turned_trans {g : Nat} {a b c : World} (h : Turned g a b) (k : Turned g b c) : Turned g a c :=
  ⟨k.os.trans h.os, k.tape.trans h.tape, k.output.trans h.output, k.size.trans h.size, fun i hi => (k.block i hi).trans (h.block i hi)⟩
theorem turned_refl (g : Nat) (w : World) : Turned g w w := ⟨rfl, rfl, rfl, rfl, fun _ _ => rfl⟩
theorem turned_setCells (b : Nat) : ∀ (vs : List Value) (k : Nat) (w : World), Turned b w (w.setCells b k vs)
  | [], _, w => turned_refl b w
  | v :: vs, k, w => turned_trans (turned_set w ⟨b, k, none⟩ v) (turned_setCells b vs (k + 1) _)
theorem Blk.isSome {w : World} {b : Nat} {cs : Array Value} {t : TypeId} (h : Blk w b cs t) (i : Nat) (hi : i < cs.size) : (w.cell? ⟨b, i, none⟩).isSome = true := by
  rw [h.cell i]; simp [hi]
section
variable {P : Program} {ops : Array Oper} {rest : List Oper} {o : Oper} {a : Act} {w : World} {Q : Exit → Act → World → Prop}
/-- one cell -/
theorem wl_set (ty : TypeId) (x y : Operand) (ho : o.op = .store ty x y) (hgd : o.guard = none) (b k : Nat) (hx : a.eval x = .pointer (some ⟨b, k, none⟩)) (v : Value) (hy : a.eval y = v) (h1 : v.oneCell' = true) (hi : (P.info? ty).map (·.size) = some 1)
    (cs : Array Value) (t : TypeId) (hB : Blk w b cs t) (hk : k < cs.size)
    (h : ∀ W, Blk W b (cs.setIfInBounds k v) t → Turned b w W → wpList P ops Q rest (a.put o.dst undef) W) : wpList P ops Q (o :: rest) a w := by
  refine wpList_plain hgd fun K hK => ?_
  have hr := run_storeCells_cells (P := P) b k [v] 0 w (fun j hj => by simp at hj; subst hj; simpa using hB.isSome k hk) (fun j hj => by simp at hj; subst hj; exact hB.frozen _) (fun u hu => by simp at hu; subst hu; exact h1)
  have hc : v.cells = #[v] := by cases v <;> first | rfl | cases h1
  have hs : (storeVar ty ⟨b, k, none⟩ v).run P w = .ok () (w.setCell ⟨b, k, none⟩ v) := by
    cases hq : P.info? ty with
    | none => simp [hq] at hi
    | some i =>
      have hs : i.size = 1 := by simpa [hq] using hi
      simp only [Nat.add_zero] at hr
      simp [storeVar, sizeOf, typeInfo, hq, hc, hs, hr, World.setCells]
  have := h _ (hB.set k v) (turned_set w ⟨b, k, none⟩ v)
  unfold Oper.wp execOp
  simp only [ho, hx, hy, Instr.storeAt, Instr.sureAddr, Sem.run_bind, Sem.run_pure, Result.andThen_ok, hs]
  exact hK _ _ this
/-- several cells into a block -/
theorem wl_putAt (ty : TypeId) (x y : Operand) (ho : o.op = .store ty x y) (hgd : o.guard = none) (b k : Nat) (hx : a.eval x = .pointer (some ⟨b, k, none⟩)) (us : Array Value) (hy : a.eval y = .agg us) (hi : (P.info? ty).map (·.size) = some us.size) (h1 : us.all (·.oneCell') = true)
    (cs : Array Value) (t : TypeId) (hB : Blk w b cs t) (hk : k + us.size ≤ cs.size) (cs' : Array Value) (hcs : spl cs k us.toList = cs')
    (h : ∀ W, Blk W b cs' t → Turned b w W → wpList P ops Q rest (a.put o.dst undef) W) : wpList P ops Q (o :: rest) a w :=
  wpList_store_mid hgd ty x y ho b k us hx hy (fun j hj => ⟨hB.isSome _ (by omega), hB.frozen _⟩) hi h1 (h _ (hcs ▸ blk_setCells us.toList k w cs hB) (turned_setCells b us.toList k w))
/-- several cells out of a block -/
theorem wl_getAt (ty : TypeId) (d : TypeDesc) (hu : P.underlying ty = some d) (hd : d.isRow = true) (x : Operand) (ho : o.op = .load ty x) (hgd : o.guard = none) (b k : Nat) (hx : a.eval x = .pointer (some ⟨b, k, none⟩)) (us : List Value) (hi : (P.info? ty).map (·.size) = some us.length)
    (cs : Array Value) (t : TypeId) (hB : Blk w b cs t) (hus : ∀ j, j < us.length → cs[k + j]? = us[j]?)
    (h : wpList P ops Q rest (a.put o.dst (.agg us.toArray)) w) : wpList P ops Q (o :: rest) a w :=
  wpList_load_mid hgd ty x ho b k hx us d (fun j v hv => by rw [hB.cell, hus j (List.getElem?_eq_some_iff.1 hv).1, hv]) hu hd hi h
end
/-- all but two blocks are as they were -/
structure But (p q : Nat) (w w' : World) : Prop where
  os : w'.os = w.os
  tape : w'.tape = w.tape
  output : w'.output = w.output
  size : w.heap.size ≤ w'.heap.size
  block : ∀ k, k < w.heap.size → k ≠ p → k ≠ q → w'.heap[k]? = w.heap[k]?
theorem But.of {p q : Nat} {w w' : World} (h : Below w.heap.size w w') : But p q w w' := ⟨h.os, h.tape, h.output, h.size, fun k hk _ _ => h.block k hk⟩
theorem But.setp {p q : Nat} {w w' : World} (i : Nat) (v : Value) (h : But p q w w') : But p q w (w'.setCell ⟨p, i, none⟩ v) :=
  ⟨h.os, h.tape, h.output, by simpa [World.setCell] using h.size, fun k hk hp hq => by rw [heap_setCell_other w' ⟨p, i, none⟩ k v hp]; exact h.block k hk hp hq⟩
theorem But.setq {p q : Nat} {w w' : World} (i : Nat) (v : Value) (h : But p q w w') : But p q w (w'.setCell ⟨q, i, none⟩ v) :=
  ⟨h.os, h.tape, h.output, by simpa [World.setCell] using h.size, fun k hk hp hq => by rw [heap_setCell_other w' ⟨q, i, none⟩ k v hq]; exact h.block k hk hp hq⟩
theorem Blk.but {p q b : Nat} {w w' : World} {cs : Array Value} {t : TypeId} (hB : Blk w b cs t) (h : But p q w w') (hp : b ≠ p) (hq : b ≠ q) : Blk w' b cs t := by
  unfold Blk; rw [h.block b hB.lt hp hq]; exact hB
theorem But.below {p q : Nat} {a w w' : World} (h : But p q w w') (hb : Below a.heap.size a w) (hp : a.heap.size ≤ p) (hq : a.heap.size ≤ q) : Below a.heap.size a w' :=
  hb.trans ⟨h.os, h.tape, h.output, h.size, fun k hk => h.block k (by have := hb.size; omega) (by omega) (by omega)⟩
end Go.Proofs.Ytpeknlablcgchaa
