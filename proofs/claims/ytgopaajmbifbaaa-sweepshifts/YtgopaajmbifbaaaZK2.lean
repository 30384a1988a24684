import Derived.Test.YtgopaajmbifbaaaZK1
import Derived.Laws.Rows
import Derived.Laws.Tables
import Derived.Laws.ResultCell
import Derived.Deep.WholeRow
import Derived.Laws.MakeOwn
import Derived.Great.BuildSlice
import Derived.Deep.MidRow
import Derived.Deep.RegionHeld
namespace Go.Proofs.Ytgopaajmbifbaaa
open Go.RowKit
set_option linter.unusedVariables false
def Blk (w : World) (b : Nat) (cs : Array Value) (t : TypeId) : Prop := w.heap[b]? = some (.cells cs t (0, 0))
section
variable {w w' : World} {b : Nat} {cs : Array Value} {t : TypeId}
theorem Blk.lt (h : Blk w b cs t) : b < w.heap.size := (Array.getElem?_eq_some_iff.1 h).1
theorem Blk.cell (h : Blk w b cs t) (i : Nat) : w.cell? ⟨b, i, none⟩ = cs[i]? := cell_of_row w b i cs t (0, 0) h
theorem Blk.frozen (h : Blk w b cs t) (i : Nat) : w.frozen? ⟨b, i, none⟩ = false := frozen_of_row w b i cs t h
theorem Blk.keep (h : Blk w b cs t) (hb : Below w.heap.size w w') : Blk w' b cs t := by unfold Blk; rw [hb.block b h.lt]; exact h
theorem blk_new (w : World) (cs : Array Value) (t : TypeId) : Blk (w.alloc (.cells cs t)) w.heap.size cs t := heap_alloc_new w _
theorem Blk.alloc (h : Blk w b cs t) (o : Obj) : Blk (w.alloc o) b cs t := by unfold Blk; rw [Below.heap_alloc w o b h.lt]; exact h
theorem Blk.drew (h : Blk w b cs t) : Blk w.drew b cs t := h
theorem Blk.set (h : Blk w b cs t) (i : Nat) (v : Value) : Blk (w.setCell ⟨b, i, none⟩ v) b (cs.setIfInBounds i v) t := heap_setCell_same w b i cs t v h
theorem Blk.other (h : Blk w b cs t) {a : Addr} (v : Value) (ha : b ≠ a.block) : Blk (w.setCell a v) b cs t := by unfold Blk; rw [heap_setCell_other w a b v ha]; exact h
theorem Blk.row (h : Blk w b cs t) (cs' : Array Value) : Blk (w.setRow b cs') b cs' t := setRow_heap w b cs cs' t (0, 0) h
end
structure Turned (g : Nat) (w w' : World) : Prop where
  os : w'.os = w.os
  tape : w'.tape = w.tape
  output : w'.output = w.output
  size : w'.heap.size = w.heap.size
  block : ∀ k, k ≠ g → w'.heap[k]? = w.heap[k]?
section
variable {w w' : World} {b g : Nat} {cs : Array Value} {t : TypeId}
theorem Turned.blk (h : Turned g w w') (hB : Blk w b cs t) (hn : b ≠ g) : Blk w' b cs t := by unfold Blk; rw [h.block b hn]; exact hB
theorem Turned.below {a : World} (h : Turned g w w') (hb : Below a.heap.size a w) (hg : a.heap.size ≤ g) : Below a.heap.size a w' :=
  hb.trans ⟨h.os, h.tape, h.output, Nat.le_of_eq h.size.symm, fun k hk => h.block k (by omega)⟩
theorem Turned.cell (h : Turned g w w') {p : Addr} (hp : p.block ≠ g) : w'.cell? p = w.cell? p := World.cell?_of_block (w := w) (h.block p.block hp)
theorem turned_row (w : World) (g : Nat) (cs : Array Value) : Turned g w (w.setRow g cs) := ⟨rfl, rfl, rfl, by simp, fun k hk => setRow_other w g k cs hk⟩
theorem turned_set (w : World) (a : Addr) (v : Value) : Turned a.block w (w.setCell a v) := ⟨rfl, rfl, rfl, by simp [World.setCell], fun k hk => heap_setCell_other w a k v hk⟩
end
section
variable {P : Program} {ops : Array Oper} {rest : List Oper} {o : Oper} {a : Act} {w : World} {Q : Exit → Act → World → Prop}
theorem wl_alloc (ty : TypeId) (z : Array Value) (hz : ∀ w, (zeroValue ty).run P w = .ok (.agg z) w) (ho : o.op = .alloc ty) (hgd : o.guard = none)
    (h : ∀ W b, Blk W b z ty → w.heap.size ≤ b → Below w.heap.size w W → wpList P ops Q rest (a.put o.dst (.pointer (some ⟨b, 0, none⟩))) W) : wpList P ops Q (o :: rest) a w := by
  refine wpList_plain hgd fun K hK => ?_
  have := h (w.alloc (.cells z ty)) w.heap.size (blk_new w z ty) (Nat.le_refl _) (bq_alloc (bq_refl w) _)
  unfold Oper.wp execOp
  simp only [ho, Instr.alloc, Sem.run_bind, hz, Result.andThen_ok, newVar, newRow, Value.cells]
  exact hK _ _ this
theorem wl_box (ty : TypeId) (x : Operand) (cs : Array Value) (ho : o.op = .box ty x) (hgd : o.guard = none) (hx : a.eval x = .agg cs)
    (h : ∀ W b, Blk W b cs ty → w.heap.size ≤ b → Below w.heap.size w W → wpList P ops Q rest (a.put o.dst (.pointer (some ⟨b, 0, none⟩))) W) : wpList P ops Q (o :: rest) a w := by
  refine wpList_plain hgd fun K hK => ?_
  have := h (w.alloc (.cells cs ty)) w.heap.size (blk_new w cs ty) (Nat.le_refl _) (bq_alloc (bq_refl w) _)
  unfold Oper.wp execOp
  simp only [ho, hx, Instr.box, Sem.run_bind, newVar, newRow, Value.cells]
  exact hK _ _ this
theorem wl_load (ty : TypeId) (n : Nat) (d : TypeDesc) (hu : P.underlying ty = some d) (hd : (match d with | .struct _ | .array _ _ => true | _ => false) = true) (hi : (P.info? ty).map (·.size) = some n)
    (x : Operand) (ho : o.op = .load ty x) (hgd : o.guard = none) (b : Nat) (hx : a.eval x = .pointer (some ⟨b, 0, none⟩)) (cs : Array Value) (t : TypeId) (hB : Blk w b cs t) (hn : cs.size = n)
    (h : wpList P ops Q rest (a.put o.dst (.agg cs)) w) : wpList P ops Q (o :: rest) a w :=
  wpList_load_row hgd ty x ho b hx t cs (0, 0) d hB hu hd (by rw [hi, hn]) h
theorem wlg_load (ty : TypeId) (n : Nat) (d : TypeDesc) (hu : P.underlying ty = some d) (hd : (match d with | .struct _ | .array _ _ => true | _ => false) = true) (hi : (P.info? ty).map (·.size) = some n)
    (x : Operand) (ho : o.op = .load ty x) (hw : Region.wanted o (yielded ops a.tmps) = true) (b : Nat) (hx : a.eval x = .pointer (some ⟨b, 0, none⟩)) (cs : Array Value) (t : TypeId) (hB : Blk w b cs t) (hn : cs.size = n)
    (h : wpList P ops Q rest (a.put o.dst (.agg cs)) w) : wpList P ops Q (o :: rest) a w := by
  refine wpList_step fun K hK => ?_
  rw [if_pos hw]
  exact wp_load_row ty x ho b hx t cs (0, 0) d hB hu hd (by rw [hi, hn]) (hK _ _ h)
theorem wlg_build (ty : TypeId) (ps : List (Nat × Value)) (cs : Array Value) (hb : P.built ty ps = some cs) (parts : Array (Nat × Operand)) (ho : o.op = .build ty parts) (hw : Region.wanted o (yielded ops a.tmps) = true)
    (hps : (parts.toList.map fun (i, x) => (i, a.eval x)) = ps)
    (h : wpList P ops Q rest (a.put o.dst (.agg cs)) w) : wpList P ops Q (o :: rest) a w := by
  refine wpList_step fun K hK => ?_
  rw [if_pos hw]
  rw [← hps, ← Array.toList_map] at hb
  exact wp_build ty parts ho (by rw [hb]; rfl) (by rw [hb]; exact hK _ _ h)
theorem wl_store (ty : TypeId) (n : Nat) (hi : (P.info? ty).map (·.size) = some n)
    (x y : Operand) (ho : o.op = .store ty x y) (hgd : o.guard = none) (b : Nat) (hx : a.eval x = .pointer (some ⟨b, 0, none⟩)) (cs : Array Value) (hy : a.eval y = .agg cs) (old : Array Value) (t : TypeId) (hB : Blk w b old t) (hn : old.size = n) (hn2 : cs.size = n)
    (h1 : cs.all (·.oneCell') = true)
    (h : ∀ W, Blk W b cs t → Turned b w W → wpList P ops Q rest (a.put o.dst undef) W) : wpList P ops Q (o :: rest) a w :=
  wpList_store_row hgd ty x y ho b cs hx hy t old hB (by rw [hi, hn2]) (by rw [hn, hn2]) h1 (h _ (Blk.row hB cs) (turned_row w b cs))
end
theorem post_cell {P : Program} {fn : Func} {p : Tmp} {ty : TypeId} {a : Act} {W : World} {R : Ending → World → Prop} {n : Nat} {d : TypeDesc}
    (hu : P.underlying ty = some d) (hd : (match d with | .struct _ | .array _ _ => true | _ => false) = true) (hi : (P.info? ty).map (·.size) = some n)
    (hres : fn.results = #[.cell p ty]) {b : Nat} {cs : Array Value} {t : TypeId} (hB : Blk W b cs t) (hn : cs.size = n)
    (hp : a.tmps.getD p undef = .pointer (some ⟨b, 0, none⟩)) (hdf : a.defers = []) (hR : R (.returned (.agg cs)) W) : bodyPost P fn R .ret a W :=
  bodyPost_ret (v := .agg cs) (results_cell_row hres a.tmps W b t cs (0, 0) d hp hB hu hd (by rw [hi, hn])) hdf hR
def Ints (w : World) (zs : List Int) (a : Option Addr) (b o : Nat) : Prop :=
  (zs.length = 0 ∨ a = some ⟨b, o, none⟩) ∧ (∀ i (h : i < zs.length), -9223372036854775808 ≤ zs[i] ∧ zs[i] ≤ 9223372036854775807) ∧ ∀ i (h : i < zs.length), w.cell? ⟨b, o + i, none⟩ = some (.int .i64 zs[i])
theorem Ints.lt {w : World} {zs : List Int} {a : Option Addr} {b o : Nat} (h : Ints w zs a b o) (h0 : 0 < zs.length) : b < w.heap.size := block_lt_of_cell (h.2.2 0 h0)
theorem Ints.keep {w w' : World} {zs : List Int} {a : Option Addr} {b o : Nat} (h : Ints w zs a b o) (hb : Below w.heap.size w w') : Ints w' zs a b o :=
  ⟨h.1, h.2.1, fun i hi => by rw [hb.cell (p := ⟨b, o + i, none⟩) (h.lt (by omega))]; exact h.2.2 i hi⟩
theorem Ints.at {w w' : World} {zs : List Int} {a : Option Addr} {b o : Nat} (h : Ints w zs a b o) (hb : Below w.heap.size w w') (i : Nat) (hi : i < zs.length) : a = some ⟨b, o, none⟩ ∧ -9223372036854775808 ≤ zs[i] ∧ zs[i] ≤ 9223372036854775807 ∧ w'.cell? ⟨b, o + i, none⟩ = some (.int .i64 zs[i]) :=
  ⟨h.1.resolve_left (by omega), (h.2.1 i hi).1, (h.2.1 i hi).2, (h.keep hb).2.2 i hi⟩
def iA (zs : List Int) : Array Value := (zs.map (Value.int .i64 ·)).toArray
theorem iA_at (zs : List Int) (i : Nat) (h : i < zs.length) : (iA zs)[i]? = some (.int .i64 zs[i]) := by simp [iA, h]
theorem Blk.ints {w : World} {b : Nat} {zs : List Int} {t : TypeId} (h : Blk w b (iA zs) t) (hb : ∀ v ∈ zs, -9223372036854775808 ≤ v ∧ v ≤ 9223372036854775807) : Ints w zs (some ⟨b, 0, none⟩) b 0 :=
  ⟨Or.inr rfl, fun i hi => hb _ (List.getElem_mem hi), fun i hi => by rw [Nat.zero_add, h.cell i, iA_at zs i hi]⟩
section
variable {ops : Array Oper} {rest : List Oper} {o : Oper} {a : Act} {w : World} {Q : Exit → Act → World → Prop}
theorem int_info : (Try.prog.info? 3).map (fun i => (i.zero, i.size, i.bytes)) = some (some (.int .i64 0), 1, 8) := by kernel_rfl
theorem wlg_slice {P : Program} (t e : TypeId) (len : Nat) (cs : Array Value) (ps : List (Nat × Value)) (hr : ∀ w : World, (Instr.buildSlice t len ps.toArray).run P w = .ok (.slice (some ⟨w.heap.size, 0, none⟩) len len) (w.alloc (.cells cs e)))
    (parts : Array (Nat × Operand)) (ho : o.op = .buildSlice t len parts) (hw : Region.wanted o (yielded ops a.tmps) = true) (hps : (parts.toList.map fun (i, x) => (i, a.eval x)) = ps)
    (h : ∀ W b, Blk W b cs e → w.heap.size ≤ b → Below w.heap.size w W → wpList P ops Q rest (a.put o.dst (.slice (some ⟨b, 0, none⟩) len len)) W) : wpList P ops Q (o :: rest) a w := by
  refine wpList_step fun K hK => ?_
  rw [if_pos hw]
  have := h (w.alloc (.cells cs e)) w.heap.size (blk_new w cs e) (Nat.le_refl _) (bq_alloc (bq_refl w) _)
  have e1 : (parts.map fun (i, x) => (i, a.eval x)) = ps.toArray := by rw [← hps, ← Array.toList_map, Array.toArray_toList]
  unfold Oper.wp execOp
  simp only [ho, Sem.run_bind, e1, hr w, Result.andThen_ok]
  exact hK _ _ this
theorem ints2_run (x y : Int) (w : World) : (Instr.buildSlice 37 2 [(0, .int .i64 x), (1, .int .i64 y)].toArray).run Try.prog w = .ok (.slice (some ⟨w.heap.size, 0, none⟩) 2 2) (w.alloc (.cells (iA [x, y]) 3)) := by
  obtain ⟨ie, h1, h2⟩ := Option.map_eq_some_iff.1 int_info
  have hz : ie.zero = some (.int .i64 0) := congrArg (·.1) h2
  have hs : ie.size = 1 := congrArg (·.2.1) h2
  refine run_buildSlice w 37 3 2 _ _ ie (.int .i64 0) Try.underlying37 h1 hz (by rw [hs]; decide) (by rw [hs]; decide) ?_
  rw [hs]; kernel_rfl
end
end Go.Proofs.Ytgopaajmbifbaaa
namespace Go.Proofs.Ytgopaajmbifbaaa
open Go.RowKit
set_option linter.unusedVariables false
def nr (m v : Int) : Bool := decide (-m ≤ v) && decide (v ≤ m)
def NrRel (zs : List Int) (m : Int) (i : Value) : Prop := ∃ k : Nat, k ≤ zs.length ∧ i = .int .i64 k ∧ (zs.take k).all (nr m) = true
end Go.Proofs.Ytgopaajmbifbaaa
namespace Go.Proofs.Ytgopaajmbifbaaa
open Go.RowKit
set_option linter.unusedVariables false
def rectOk (l r t b : Int) : Bool := [l, r, t, b].all (nr 1048576) && decide (l ≤ r) && decide (t ≤ b)
def matOk (a b c d x y : Int) : Bool := [a, b, c, d].all (nr 4194304) && [x, y].all (nr 1048576)
def cxOk (m d : List Int) : Bool := m.all (nr 512) && d.all (nr 255)
def rgbaOk (r g b a : Int) : Bool := [r, g, b, a].all (nr 255) && decide (0 ≤ r) && decide (0 ≤ g) && decide (0 ≤ b) && decide (0 ≤ a)
def I64 (v : Int) : Prop := -9223372036854775808 ≤ v ∧ v ≤ 9223372036854775807
end Go.Proofs.Ytgopaajmbifbaaa
namespace Go.Proofs.Ytgopaajmbifbaaa
open Go.RowKit
set_option linter.unusedVariables false
def spl : Array Value → Nat → List Value → Array Value
  | cs, _, [] => cs
  | cs, k, v :: vs => spl (cs.setIfInBounds k v) (k + 1) vs
theorem blk_setCells {b : Nat} {t : TypeId} : ∀ (vs : List Value) (k : Nat) (w : World) (cs : Array Value), Blk w b cs t → Blk (w.setCells b k vs) b (spl cs k vs) t
  | [], _, _, _, h => h
  | v :: vs, k, w, cs, h => blk_setCells vs (k + 1) _ _ (h.set k v)
theorem turned_trans {g : Nat} {a b c : World} (h : Turned g a b) (k : Turned g b c) : Turned g a c :=
  ⟨k.os.trans h.os, k.tape.trans h.tape, k.output.trans h.output, k.size.trans h.size, fun i hi => (k.block i hi).trans (h.block i hi)⟩
theorem turned_refl (g : Nat) (w : World) : Turned g w w := ⟨rfl, rfl, rfl, rfl, fun _ _ => rfl⟩
theorem turned_setCells (b : Nat) : ∀ (vs : List Value) (k : Nat) (w : World), Turned b w (w.setCells b k vs)
  | [], _, w => turned_refl b w
  | v :: vs, k, w => turned_trans (turned_set w ⟨b, k, none⟩ v) (turned_setCells b vs (k + 1) _)
theorem Blk.isSome {w : World} {b : Nat} {cs : Array Value} {t : TypeId} (h : Blk w b cs t) (i : Nat) (hi : i < cs.size) : (w.cell? ⟨b, i, none⟩).isSome = true := by
  rw [h.cell i]; simp [hi]
section
variable {P : Program} {ops : Array Oper} {rest : List Oper} {o : Oper} {a : Act} {w : World} {Q : Exit → Act → World → Prop}
theorem wl_set (ty : TypeId) (x y : Operand) (ho : o.op = .store ty x y) (hgd : o.guard = none) (b k : Nat) (hx : a.eval x = .pointer (some ⟨b, k, none⟩)) (v : Value) (hy : a.eval y = v) (h1 : v.oneCell' = true) (hi : (P.info? ty).map (·.size) = some 1)
    (cs : Array Value) (t : TypeId) (hB : Blk w b cs t) (hk : k < cs.size)
    (h : ∀ W, Blk W b (cs.setIfInBounds k v) t → Turned b w W → wpList P ops Q rest (a.put o.dst undef) W) : wpList P ops Q (o :: rest) a w := by
  refine wpList_plain hgd fun K hK => ?_
  have hr := run_storeCells_cells (P := P) b k [v] 0 w (fun j hj => by simp at hj; subst hj; simpa using hB.isSome k hk) (fun j hj => by simp at hj; subst hj; exact hB.frozen _) (fun u hu => by simp at hu; subst hu; exact h1)
  have hc : v.cells = #[v] := by cases v <;> first | rfl | cases h1
  have hs : (storeVar ty ⟨b, k, none⟩ v).run P w = .ok () (w.setCell ⟨b, k, none⟩ v) := by
    cases hq : P.info? ty with
    | none => simp [hq] at hi
    | some i =>
      have hs : i.size = 1 := by simpa [hq] using hi
      simp only [Nat.add_zero] at hr
      simp [storeVar, sizeOf, typeInfo, hq, hc, hs, hr, World.setCells]
  have := h _ (hB.set k v) (turned_set w ⟨b, k, none⟩ v)
  unfold Oper.wp execOp
  simp only [ho, hx, hy, Instr.storeAt, Instr.sureAddr, Sem.run_bind, Sem.run_pure, Result.andThen_ok, hs]
  exact hK _ _ this
theorem wl_putAt (ty : TypeId) (x y : Operand) (ho : o.op = .store ty x y) (hgd : o.guard = none) (b k : Nat) (hx : a.eval x = .pointer (some ⟨b, k, none⟩)) (us : Array Value) (hy : a.eval y = .agg us) (hi : (P.info? ty).map (·.size) = some us.size) (h1 : us.all (·.oneCell') = true)
    (cs : Array Value) (t : TypeId) (hB : Blk w b cs t) (hk : k + us.size ≤ cs.size) (cs' : Array Value) (hcs : spl cs k us.toList = cs')
    (h : ∀ W, Blk W b cs' t → Turned b w W → wpList P ops Q rest (a.put o.dst undef) W) : wpList P ops Q (o :: rest) a w :=
  wpList_store_mid hgd ty x y ho b k us hx hy (fun j hj => ⟨hB.isSome _ (by omega), hB.frozen _⟩) hi h1 (h _ (hcs ▸ blk_setCells us.toList k w cs hB) (turned_setCells b us.toList k w))
end
structure But (p q : Nat) (w w' : World) : Prop where
  os : w'.os = w.os
  tape : w'.tape = w.tape
  output : w'.output = w.output
  size : w.heap.size ≤ w'.heap.size
  block : ∀ k, k < w.heap.size → k ≠ p → k ≠ q → w'.heap[k]? = w.heap[k]?
theorem But.of {p q : Nat} {w w' : World} (h : Below w.heap.size w w') : But p q w w' := ⟨h.os, h.tape, h.output, h.size, fun k hk _ _ => h.block k hk⟩
theorem But.setp {p q : Nat} {w w' : World} (i : Nat) (v : Value) (h : But p q w w') : But p q w (w'.setCell ⟨p, i, none⟩ v) :=
  ⟨h.os, h.tape, h.output, by simpa [World.setCell] using h.size, fun k hk hp hq => by rw [heap_setCell_other w' ⟨p, i, none⟩ k v hp]; exact h.block k hk hp hq⟩
theorem But.setq {p q : Nat} {w w' : World} (i : Nat) (v : Value) (h : But p q w w') : But p q w (w'.setCell ⟨q, i, none⟩ v) :=
  ⟨h.os, h.tape, h.output, by simpa [World.setCell] using h.size, fun k hk hp hq => by rw [heap_setCell_other w' ⟨q, i, none⟩ k v hq]; exact h.block k hk hp hq⟩
theorem Blk.but {p q b : Nat} {w w' : World} {cs : Array Value} {t : TypeId} (hB : Blk w b cs t) (h : But p q w w') (hp : b ≠ p) (hq : b ≠ q) : Blk w' b cs t := by
  unfold Blk; rw [h.block b hB.lt hp hq]; exact hB
theorem But.below {p q : Nat} {a w w' : World} (h : But p q w w') (hb : Below a.heap.size a w) (hp : a.heap.size ≤ p) (hq : a.heap.size ≤ q) : Below a.heap.size a w' :=
  hb.trans ⟨h.os, h.tape, h.output, h.size, fun k hk => h.block k (by have := hb.size; omega) (by omega) (by omega)⟩
end Go.Proofs.Ytgopaajmbifbaaa
namespace Go.Proofs.Ytgopaajmbifbaaa.Det
open Go
set_option linter.unusedVariables false
def Tells (P : Program) (ops : Array Oper) (S : World → Prop) (o : Oper) (v : Value) (a : Act) : Prop :=
  (Region.wanted o (yielded ops a.tmps) = true ∧ ∀ w, S w →
    (∃ w', (execOp a.eval o).run P w = .ok (.value v) w' ∧ S w') ∨
    (∃ f args w', (execOp a.eval o).run P w = .ok (.enter f args) w' ∧ Calls P f args w' fun e w'' => e = .returned v ∧ S w'')) ∨
  (Region.wanted o (yielded ops a.tmps) = false ∧ v = undef)
section
variable {P : Program} {ops : Array Oper} {Q : Exit → Act → World → Prop} {S : World → Prop} {md : Region.Mode}
theorem Tells.of_same {o : Oper} {v : Value} {a a' : Act} (h : Tells P ops S o v a) (he : execOp a'.eval o = execOp a.eval o) (hw : Region.wanted o (yielded ops a'.tmps) = Region.wanted o (yielded ops a.tmps)) : Tells P ops S o v a' := by
  unfold Tells at *
  rw [he, hw]
  exact h
theorem Tells.wpOp {i : Nat} {o : Oper} {v : Value} {a : Act} {w : World} {K : Act → World → Prop} (hi : ops[i]? = some o) (hy : Tells P ops S o v a) (hS : S w) (h : ∀ w', S w' → K (a.put o.dst v) w') : wpOp P ops Q i K a w := by
  unfold Go.wpOp
  simp only [hi]
  rcases hy with ⟨hw, hv⟩ | ⟨hw, rfl⟩
  · rw [if_pos hw]
    refine .inl ?_
    unfold Oper.wp
    rcases hv w hS with ⟨w', hr, hs⟩ | ⟨f, args, w', hr, hc⟩
    · rw [hr]; exact h w' hs
    · rw [hr]
      refine Calls.mono hc fun e w'' he => ?_
      obtain ⟨rfl, hs⟩ := he
      exact h w'' hs
  · rw [if_neg (by rw [hw]; decide)]
    exact h w hS
def wpDet (P : Program) (ops : Array Oper) (Q : Exit → Act → World → Prop) (S : World → Prop) : List Oper → Act → Prop
  | [], a => ∀ w, S w → Q .normal a w
  | o :: rest, a => ∃ v, Tells P ops S o v a ∧ wpDet P ops Q S rest (a.put o.dst v)
def detB (md : Region.Mode) (ops : Array Oper) : Bool :=
  Region.noSelect ops && (List.range ops.size).all fun i => match ops[i]? with
    | none => true
    | some x => (x.after.all fun e => !Region.binds md e || decide (e.on < i)) && (List.range ops.size).all fun j => match ops[j]? with
      | none => true
      | some y => match y.dst with
        | none => true
        | some d => (!(x.looksAt ops).contains d || (decide (j < i) && x.after.any fun e => Region.binds md e && e.on == j) || (decide (i < j) && y.after.any fun e => Region.binds md e && e.on == i)) && (i == j || x.dst != some d)
structure Fit (md : Region.Mode) (ops : Array Oper) : Prop where
  sel : ∀ (j : Nat) (o : Oper) cs b, ops[j]? = some o → o.op ≠ .select cs b
  back : ∀ (i : Nat) (x : Oper), ops[i]? = some x → ∀ e ∈ x.after, Region.binds md e = true → e.on < i
  looks : ∀ (i j : Nat) (x y : Oper) (d : Tmp), ops[i]? = some x → ops[j]? = some y → y.dst = some d → d ∈ x.looksAt ops → (j < i ∧ ∃ e ∈ x.after, Region.binds md e = true ∧ e.on = j) ∨ (i < j ∧ ∃ e ∈ y.after, Region.binds md e = true ∧ e.on = i)
  once : ∀ (i j : Nat) (x y : Oper) (d : Tmp), ops[i]? = some x → ops[j]? = some y → i ≠ j → y.dst = some d → x.dst ≠ some d
theorem fit_of (h : detB md ops = true) : Fit md ops := by
  unfold detB at h
  rw [Bool.and_eq_true, List.all_eq_true] at h
  obtain ⟨h0, h⟩ := h
  have lt : ∀ {i : Nat} {x : Oper}, ops[i]? = some x → i ∈ List.range ops.size := fun hx => List.mem_range.2 (Array.getElem?_eq_some_iff.1 hx).1
  refine ⟨Region.noSelect_spec h0, fun i x hx e he hb => ?_, fun i j x y d hx hy hd hl => ?_, fun i j x y d hx hy hij hd => ?_⟩
  · have := h i (lt hx)
    simp only [hx, Bool.and_eq_true, Array.all_eq_true_iff_forall_mem] at this
    have := this.1 e he
    simpa [hb] using this
  · have := h i (lt hx)
    simp only [hx, Bool.and_eq_true, List.all_eq_true] at this
    have := this.2 j (lt hy)
    simp only [hy, hd, Bool.and_eq_true, Bool.or_eq_true, Bool.not_eq_true', decide_eq_true_eq] at this
    rcases this.1 with (h1 | ⟨h1, h2⟩) | ⟨h1, h2⟩
    · rw [List.contains_iff_mem.2 hl] at h1; cases h1
    · obtain ⟨e, he, hb⟩ := Array.any_eq_true'.1 h2
      simp only [Bool.and_eq_true, beq_iff_eq] at hb
      exact Or.inl ⟨h1, e, he, hb.1, hb.2⟩
    · obtain ⟨e, he, hb⟩ := Array.any_eq_true'.1 h2
      simp only [Bool.and_eq_true, beq_iff_eq] at hb
      exact Or.inr ⟨h1, e, he, hb.1, hb.2⟩
  · have := h i (lt hx)
    simp only [hx, Bool.and_eq_true, List.all_eq_true] at this
    have := this.2 j (lt hy)
    simp only [hy, hd, Bool.and_eq_true, Bool.or_eq_true, beq_iff_eq] at this
    rcases this.2 with h1 | h1
    · exact absurd h1 hij
    · simpa using h1
theorem eval_same {a b : Act} {x : Operand} (h : ∀ t, x = .tmp t → b.tmps[t]? = a.tmps[t]?) : b.eval x = a.eval x := by
  cases x with
  | tmp t => simp only [Act.eval, Array.getD_eq_getD_getElem?, h t rfl]
  | _ => rfl
theorem exec_same {o : Oper} {a b : Act} (hs : ∀ cs b, o.op ≠ .select cs b) (h : ∀ t ∈ o.looksAt ops, b.tmps[t]? = a.tmps[t]?) : execOp b.eval o = execOp a.eval o :=
  execOp_congr o hs fun x hx => eval_same fun t ht => h t (by
    subst ht
    exact List.mem_append_left _ (List.mem_filterMap.2 ⟨.tmp t, by simpa using hx, rfl⟩))
theorem wanted_same {o : Oper} {a b : Act} (h : ∀ t ∈ o.looksAt ops, b.tmps[t]? = a.tmps[t]?) : Region.wanted o (yielded ops b.tmps) = Region.wanted o (yielded ops a.tmps) := by
  unfold Region.wanted
  cases hg : o.guard with
  | none => rfl
  | some gw =>
    obtain ⟨g, want⟩ := gw
    have hy : yielded ops b.tmps g = yielded ops a.tmps g := by
      unfold yielded
      cases ht : (ops[g]?).bind (·.dst) with
      | none => rfl
      | some t =>
        have := h t (List.mem_append_right _ (by simp [hg, ht]))
        simp only [Option.bind_some, this]
    simp only [hy]
theorem put_get {a : Act} {d : Option Tmp} {v : Value} {t : Tmp} (h : d ≠ some t) : (a.put d v).tmps[t]? = a.tmps[t]? := by
  cases d with
  | none => rfl
  | some d => exact Array.getElem?_setIfInBounds_ne (fun e => h (by rw [e]))
theorem put_size (a : Act) (d : Option Tmp) (v : Value) : (a.put d v).tmps.size = a.tmps.size := by
  cases d <;> simp [Act.put]
theorem put_df (a : Act) (d : Option Tmp) (v : Value) : (a.put d v).defers = a.defers := by
  cases d <;> rfl
theorem put_at {a : Act} {d : Tmp} {v : Value} (h : d < a.tmps.size) : (a.put (some d) v).tmps[d]? = some v := by
  simp [Act.put, h]
structure At (ops : Array Oper) (a0 : Act) (V : Nat → Value) (D : Nat → Prop) (b : Act) : Prop where
  size : b.tmps.size = a0.tmps.size
  defers : b.defers = a0.defers
  old : ∀ t : Tmp, (∀ (i : Nat) (o : Oper), D i → ops[i]? = some o → o.dst ≠ some t) → b.tmps[t]? = a0.tmps[t]?
  told : ∀ (i : Nat) (o : Oper) (d : Tmp), D i → ops[i]? = some o → o.dst = some d → d < a0.tmps.size → b.tmps[d]? = some (V i)
theorem At.same (F : Fit md ops) {a0 b c : Act} {V : Nat → Value} {D E : Nat → Prop} (hb : At ops a0 V D b) (hc : At ops a0 V E c) {j : Nat} {o : Oper} (ho : ops[j]? = some o)
    (hD : ∀ e ∈ o.after, Region.binds md e = true → D e.on) (hE : ∀ e ∈ o.after, Region.binds md e = true → E e.on)
    (nD : ∀ (i : Nat) (y : Oper), ops[i]? = some y → (∃ e ∈ y.after, Region.binds md e = true ∧ e.on = j) → ¬ D i) (nE : ∀ (i : Nat) (y : Oper), ops[i]? = some y → (∃ e ∈ y.after, Region.binds md e = true ∧ e.on = j) → ¬ E i) :
    ∀ t ∈ o.looksAt ops, b.tmps[t]? = c.tmps[t]? := by
  intro t ht
  by_cases hw : ∃ (i : Nat) (y : Oper), ops[i]? = some y ∧ y.dst = some t
  · obtain ⟨i, y, hy, hyd⟩ := hw
    have uniq : ∀ (i' : Nat) (y' : Oper), ops[i']? = some y' → y'.dst = some t → i' = i := fun i' y' hy' hd' => by
      apply Decidable.byContradiction
      intro hne
      exact F.once i' i y' y t hy' hy hne hyd hd'
    rcases F.looks j i o y t ho hy hyd ht with ⟨_, e, he, hbd, hon⟩ | ⟨_, hex⟩
    · have h1 := hD e he hbd
      have h2 := hE e he hbd
      rw [hon] at h1 h2
      by_cases hsz : t < a0.tmps.size
      · rw [hb.told i y t h1 hy hyd hsz, hc.told i y t h2 hy hyd hsz]
      · rw [Array.getElem?_eq_none (by rw [hb.size]; exact Nat.le_of_not_lt hsz), Array.getElem?_eq_none (by rw [hc.size]; exact Nat.le_of_not_lt hsz)]
    · rw [hb.old t fun i' y' hd' hy' hyt => nD i y hy hex (uniq i' y' hy' hyt ▸ hd'), hc.old t fun i' y' hd' hy' hyt => nE i y hy hex (uniq i' y' hy' hyt ▸ hd')]
  · rw [hb.old t fun i y _ hy hyt => hw ⟨i, y, hy, hyt⟩, hc.old t fun i y _ hy hyt => hw ⟨i, y, hy, hyt⟩]
theorem At.step (F : Fit md ops) {a0 b : Act} {V : Nat → Value} {D E : Nat → Prop} {j : Nat} {o : Oper} (hb : At ops a0 V D b) (ho : ops[j]? = some o) (hE : ∀ i, E i ↔ D i ∨ i = j) : At ops a0 V E (b.put o.dst (V j)) := by
  refine ⟨by rw [put_size, hb.size], by rw [put_df, hb.defers], fun t ht => ?_, fun i y d hi hy hd hlt => ?_⟩
  · rw [put_get (ht j o ((hE j).2 (Or.inr rfl)) ho)]
    exact hb.old t fun i y hi hy => ht i y ((hE i).2 (Or.inl hi)) hy
  · by_cases hij : i = j
    · subst hij
      rw [ho] at hy
      cases hy
      rw [hd, put_at (by rw [hb.size]; exact hlt)]
    · rw [put_get (F.once j i o y d ho hy (Ne.symm hij) hd)]
      exact hb.told i y d (((hE i).1 hi).resolve_right hij) hy hd hlt
theorem At.to {a0 b : Act} {V V' : Nat → Value} {D : Nat → Prop} (hb : At ops a0 V D b) (h : ∀ i, D i → V i = V' i) : At ops a0 V' D b :=
  ⟨hb.size, hb.defers, hb.old, fun i y d hi hy hd hlt => by rw [← h i hi]; exact hb.told i y d hi hy hd hlt⟩
theorem ends (F : Fit md ops) (a0 : Act) : ∀ (l : List Oper) (k : Nat) (a : Act) (V0 : Nat → Value), ops.toList.drop k = l → At ops a0 V0 (· < k) a → wpDet P ops Q S l a →
    ∃ (V : Nat → Value) (af : Act), (∀ i, i < k → V i = V0 i) ∧ (∀ w, S w → Q .normal af w) ∧ At ops a0 V (· < ops.size) af ∧
      ∀ j o, k ≤ j → ops[j]? = some o → ∃ c, At ops a0 V (· < j) c ∧ Tells P ops S o (V j) c := by
  intro l
  induction l with
  | nil =>
    intro k a V0 hl hA h
    have h1 : ops.size ≤ k := by
      have := congrArg List.length hl
      simp at this
      omega
    refine ⟨V0, a, fun _ _ => rfl, h, ⟨hA.size, hA.defers, fun t ht => hA.old t fun i o _ ho => ht i o (Array.getElem?_eq_some_iff.1 ho).1 ho, fun i y d hi hy hd hlt => hA.told i y d (by omega) hy hd hlt⟩, fun j o hj ho => ?_⟩
    have := (Array.getElem?_eq_some_iff.1 ho).1
    omega
  | cons o l ih =>
    intro k a V0 hl hA h
    obtain ⟨v, hv, hrest⟩ := h
    have hk : ops[k]? = some o := by
      have := congrArg List.head? hl
      simpa [List.head?_drop] using this
    have hl' : ops.toList.drop (k + 1) = l := by
      rw [← List.drop_drop, hl]; rfl
    have hA1 : At ops a0 (fun i => if i = k then v else V0 i) (· < k) a := hA.to fun i hi => (if_neg (by omega)).symm
    have hA2 := hA1.step F (E := (· < k + 1)) hk (fun i => by omega)
    have ek : (if k = k then v else V0 k) = v := if_pos rfl
    rw [ek] at hA2
    obtain ⟨V, af, g1, g2, g3, g4⟩ := ih (k + 1) _ _ hl' hA2 hrest
    have hVk : V k = v := (g1 k (by omega)).trans ek
    refine ⟨V, af, fun i hi => (g1 i (by omega)).trans (if_neg (by omega)), g2, g3, fun j x hj hx => ?_⟩
    by_cases hjk : j = k
    · subst hjk
      rw [hk] at hx
      cases hx
      exact ⟨a, hA1.to fun i hi => (g1 i (by omega)).symm, by rw [hVk]; exact hv⟩
    · exact g4 j x (by omega) hx
theorem count_set {l : List Bool} {i : Nat} (h : l[i]? = some false) : (l.set i true).count false + 1 = l.count false := by
  induction l generalizing i with
  | nil => simp at h
  | cons b l ih =>
    cases i with
    | zero =>
      simp only [List.getElem?_cons_zero, Option.some.injEq] at h
      subst h
      simp
    | succ i =>
      have := ih (i := i) (by simpa using h)
      rw [List.set_cons_succ, List.count_cons, List.count_cons]
      omega
theorem anyOrder (F : Fit md ops) {a0 af : Act} {V : Nat → Value} (hQ : ∀ w, S w → Q .normal af w) (hf : At ops a0 V (· < ops.size) af) (hT : ∀ (j : Nat) (o : Oper), ops[j]? = some o → ∃ c, At ops a0 V (· < j) c ∧ Tells P ops S o (V j) c) :
    ∀ (fuel : Nat) (listed : Array Bool) (b : Act) (w : World), listed.size = ops.size → listed.toList.count false ≤ fuel → At ops a0 V (fun i => listed[i]? = some true) b →
      (∀ (j : Nat) (o : Oper), ops[j]? = some o → listed[j]? = some true → ∀ e ∈ o.after, Region.binds md e = true → listed[e.on]? = some true) → S w → wpAny P md ops Q fuel listed b w := by
  have done : ∀ (listed : Array Bool) (b : Act), listed.size = ops.size → At ops a0 V (fun i => listed[i]? = some true) b → Region.ready md ops listed = [] → b = af := by
    intro listed b hl hb hr
    have none : ∀ n j : Nat, j < n → listed[j]? ≠ some false := by
      intro n
      induction n with
      | zero => intro j hj; omega
      | succ n ih =>
        intro j hj hf
        by_cases hjn : j < n
        · exact ih j hjn hf
        · have hjn : j = n := by omega
          subst hjn
          have hlt : j < ops.size := by rw [← hl]; exact (Array.getElem?_eq_some_iff.1 hf).1
          have hj : j ∈ Region.ready md ops listed := mem_ready.2 ⟨by simp [hf], ops[j], Array.getElem?_eq_getElem hlt, fun e he hbd => by
            have he := F.back j ops[j] (Array.getElem?_eq_getElem hlt) e he hbd
            have h1 := ih e.on he
            have h2 : e.on < listed.size := by omega
            rw [Array.getElem?_eq_getElem h2] at h1
            rw [Array.getD_eq_getD_getElem?, Array.getElem?_eq_getElem h2]
            cases hc : listed[e.on] with
            | true => rfl
            | false => rw [hc] at h1; exact absurd rfl h1⟩
          rw [hr] at hj
          cases hj
    have all : ∀ j : Nat, j < ops.size → listed[j]? = some true := fun j hj => by
      have h1 := none (j + 1) j (by omega)
      have h2 : j < listed.size := by omega
      rw [Array.getElem?_eq_getElem h2] at h1 ⊢
      cases hc : listed[j] with
      | true => rfl
      | false => rw [hc] at h1; exact absurd rfl h1
    have ht : b.tmps = af.tmps := Array.ext_getElem? fun t => by
      by_cases hw : ∃ (i : Nat) (y : Oper), ops[i]? = some y ∧ y.dst = some t
      · obtain ⟨i, y, hy, hyd⟩ := hw
        have hi := (Array.getElem?_eq_some_iff.1 hy).1
        by_cases hsz : t < a0.tmps.size
        · rw [hb.told i y t (all i hi) hy hyd hsz, hf.told i y t hi hy hyd hsz]
        · rw [Array.getElem?_eq_none (by rw [hb.size]; exact Nat.le_of_not_lt hsz), Array.getElem?_eq_none (by rw [hf.size]; exact Nat.le_of_not_lt hsz)]
      · rw [hb.old t fun i y _ hy hyt => hw ⟨i, y, hy, hyt⟩, hf.old t fun i y _ hy hyt => hw ⟨i, y, hy, hyt⟩]
    have hd := hb.defers.trans hf.defers.symm
    cases b; cases af
    simp only at ht hd
    rw [ht, hd]
  intro fuel
  induction fuel with
  | zero =>
    intro listed b w hl hc hb hcl hS
    have hr : Region.ready md ops listed = [] := by
      cases hr : Region.ready md ops listed with
      | nil => rfl
      | cons i is =>
        have hi : i ∈ Region.ready md ops listed := by rw [hr]; simp
        obtain ⟨h0, o, ho, _⟩ := mem_ready.1 hi
        have hlt : i < listed.size := by rw [hl]; exact (Array.getElem?_eq_some_iff.1 ho).1
        have : false ∈ listed.toList := by
          rw [Array.getD_eq_getD_getElem?, Array.getElem?_eq_getElem hlt] at h0
          have h0 : listed[i] = false := h0
          rw [← h0]
          exact Array.getElem_mem_toList hlt
        have := List.count_pos_iff.2 this
        omega
    obtain rfl := done listed b hl hb hr
    exact ⟨hr, hQ w hS⟩
  | succ fuel ih =>
    intro listed b w hl hc hb hcl hS
    refine ⟨fun hr => ?_, fun i hi => ?_⟩
    · obtain rfl := done listed b hl hb hr
      exact hQ w hS
    · obtain ⟨h0, o, ho, hall⟩ := mem_ready.1 hi
      have hlt : i < listed.size := by rw [hl]; exact (Array.getElem?_eq_some_iff.1 ho).1
      have hif : listed[i]? = some false := by
        rw [Array.getElem?_eq_getElem hlt]
        rw [Array.getD_eq_getD_getElem?, Array.getElem?_eq_getElem hlt] at h0
        have h0 : listed[i] = false := h0
        rw [h0]
      have hall' : ∀ e ∈ o.after, Region.binds md e = true → listed[e.on]? = some true := fun e he hbd => by
        have h1 := hall e he hbd
        rw [Array.getD_eq_getD_getElem?] at h1
        cases hq : listed[e.on]? with
        | none => rw [hq] at h1; cases h1
        | some q => rw [hq] at h1; exact congrArg some h1
      obtain ⟨c, hcA, hv⟩ := hT i o ho
      have same := hb.same F hcA ho hall' (fun e he hbd => F.back i o ho e he hbd) (fun k y hy ⟨e, he, hbd, hon⟩ hk => by
        have := hcl k y hy hk e he hbd
        rw [hon, hif] at this
        cases this) (fun k y hy ⟨e, he, hbd, hon⟩ hk => by
        have := F.back k y hy e he hbd
        omega)
      have hlist : ∀ k : Nat, (listed.setIfInBounds i true)[k]? = some true ↔ listed[k]? = some true ∨ k = i := fun k => by
        by_cases hki : k = i
        · subst hki
          simp [hlt]
        · rw [Array.getElem?_setIfInBounds_ne (Ne.symm hki)]
          exact ⟨Or.inl, fun h => h.resolve_right hki⟩
      refine (hv.of_same (exec_same (fun cs b => F.sel i o cs b ho) same) (wanted_same same)).wpOp ho hS fun w' hS' => ?_
      refine ih _ _ w' (by simp [hl]) ?_ (hb.step F ho hlist) (fun k y hy hk e he hbd => ?_) hS'
      · have := count_set (l := listed.toList) (i := i) (by rw [Array.getElem?_toList]; exact hif)
        rw [Array.toList_setIfInBounds]
        omega
      · refine (hlist _).2 (Or.inl ?_)
        rcases (hlist k).1 hk with hk | rfl
        · exact hcl k y hy hk e he hbd
        · rw [ho] at hy
          cases hy
          exact hall' e he hbd
theorem wp_region_det {id : Nat} {a : Act} {w : World} {l : List Oper} (hm : P.follows .mixedOrders = true) (hb : detB .any l.toArray = true) (hS : S w.drew) (h : wpDet P l.toArray Q S l a) : (Code.region id l.toArray true).wp P Q a w := by
  have F := fit_of hb
  obtain ⟨V, af, _, g2, g3, g4⟩ := ends F a l 0 a (fun _ => undef) (by simp) ⟨rfl, rfl, fun t _ => rfl, fun i y d hi => absurd hi (by omega)⟩ h
  have no : ∀ k : Nat, (Array.replicate l.toArray.size false)[k]? ≠ some true := fun k hk => by
    rw [Array.getElem?_replicate] at hk
    split at hk
    · cases hk
    · cases hk
  exact wp_region_any hm (anyOrder F g2 g3 (fun j o ho => g4 j o (Nat.zero_le _) ho) _ _ _ _ (by simp) (by simp) ⟨rfl, rfl, fun t _ => rfl, fun i y d hi => absurd hi (no i)⟩ (fun k y hy hk => absurd hk (no k)) hS)
end
end Go.Proofs.Ytgopaajmbifbaaa.Det
namespace Go.Proofs.Ytgopaajmbifbaaa.Det
open Go Go.RowKit
set_option linter.unusedVariables false
section
variable {P : Program} {ops : Array Oper} {Q : Exit → Act → World → Prop} {S : World → Prop} {rest : List Oper} {o : Oper} {a : Act}
theorem det_take {v : Value} (hw : Region.wanted o (yielded ops a.tmps) = true) (hv : ∀ w, S w → (execOp a.eval o).run P w = .ok (.value v) w) (h : wpDet P ops Q S rest (a.put o.dst v)) : wpDet P ops Q S (o :: rest) a :=
  ⟨v, .inl ⟨hw, fun w hS => .inl ⟨w, hv w hS, hS⟩⟩, h⟩
theorem det_call {f : FuncId} {args : Array Value} {v : Value} (hw : Region.wanted o (yielded ops a.tmps) = true) (hr : ∀ w, S w → (execOp a.eval o).run P w = .ok (.enter f args) w)
    (hc : ∀ w, S w → Calls P f args w fun e w' => e = .returned v ∧ S w') (h : wpDet P ops Q S rest (a.put o.dst v)) : wpDet P ops Q S (o :: rest) a :=
  ⟨v, .inl ⟨hw, fun w hS => .inr ⟨f, args, w, hr w hS, hc w hS⟩⟩, h⟩
theorem det_nil (h : ∀ w, S w → Q .normal a w) : wpDet P ops Q S [] a := h
theorem det_load (ty : TypeId) (n : Nat) (d : TypeDesc) (hu : P.underlying ty = some d) (hd : (match d with | .struct _ | .array _ _ => true | _ => false) = true) (hi : (P.info? ty).map (·.size) = some n)
    (x : Operand) (ho : o.op = .load ty x) (hw : Region.wanted o (yielded ops a.tmps) = true) (b : Nat) (hx : a.eval x = .pointer (some ⟨b, 0, none⟩)) (cs : Array Value) (t : TypeId) (hB : ∀ w, S w → Blk w b cs t) (hn : cs.size = n)
    (h : wpDet P ops Q S rest (a.put o.dst (.agg cs))) : wpDet P ops Q S (o :: rest) a := by
  refine det_take hw (fun w hS => ?_) h
  have hr := run_loadVar_row (P := P) w b t ty cs (0, 0) d (hB w hS) hu hd (by rw [hi, hn])
  unfold execOp
  simp only [ho, hx, Instr.loadAt, Instr.sureAddr, Sem.run_bind, Sem.run_pure, Result.andThen_ok, hr]
end
end Go.Proofs.Ytgopaajmbifbaaa.Det
