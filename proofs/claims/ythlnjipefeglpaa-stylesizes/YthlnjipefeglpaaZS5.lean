import Derived.Test.YthlnjipefeglpaaZS4
import Derived.Laws.Rows
import Derived.Laws.Tables
import Derived.Laws.ResultCell
import Derived.Deep.WholeRow
import Derived.Laws.MakeOwn
import Derived.Great.BuildSlice
import Derived.Deep.MidRow
import Derived.Deep.Slices
import Derived.Laws.AppendOwn
import Derived.OwnWalk
namespace Go.Proofs.Ythlnjipefeglpaa
open Go.RowKit
set_option linter.unusedVariables false
def Blk (w : World) (b : Nat) (cs : Array Value) (t : TypeId) : Prop := w.heap[b]? = some (.cells cs t (0, 0))
section
variable {w w' : World} {b : Nat} {cs : Array Value} {t : TypeId}
theorem Blk.lt (h : Blk w b cs t) : b < w.heap.size := (Array.getElem?_eq_some_iff.1 h).1
theorem Blk.cell (h : Blk w b cs t) (i : Nat) : w.cell? ⟨b, i, none⟩ = cs[i]? := cell_of_row w b i cs t (0, 0) h
theorem Blk.frozen (h : Blk w b cs t) (i : Nat) : w.frozen? ⟨b, i, none⟩ = false := frozen_of_row w b i cs t h
theorem Blk.keep (h : Blk w b cs t) (hb : Below w.heap.size w w') : Blk w' b cs t := by unfold Blk; rw [hb.block b h.lt]; exact h
theorem blk_new (w : World) (cs : Array Value) (t : TypeId) : Blk (w.alloc (.cells cs t)) w.heap.size cs t := heap_alloc_new w _
theorem Blk.drew (h : Blk w b cs t) : Blk w.drew b cs t := h
theorem Blk.set (h : Blk w b cs t) (i : Nat) (v : Value) : Blk (w.setCell ⟨b, i, none⟩ v) b (cs.setIfInBounds i v) t := heap_setCell_same w b i cs t v h
theorem Blk.other (h : Blk w b cs t) {a : Addr} (v : Value) (ha : b ≠ a.block) : Blk (w.setCell a v) b cs t := by unfold Blk; rw [heap_setCell_other w a b v ha]; exact h
theorem Blk.row (h : Blk w b cs t) (cs' : Array Value) : Blk (w.setRow b cs') b cs' t := setRow_heap w b cs cs' t (0, 0) h
end
structure Turned (g : Nat) (w w' : World) : Prop where
  os : w'.os = w.os
  tape : w'.tape = w.tape
  output : w'.output = w.output
  size : w'.heap.size = w.heap.size
  block : ∀ k, k ≠ g → w'.heap[k]? = w.heap[k]?
section
variable {w w' : World} {b g : Nat} {cs : Array Value} {t : TypeId}
theorem Turned.blk (h : Turned g w w') (hB : Blk w b cs t) (hn : b ≠ g) : Blk w' b cs t := by unfold Blk; rw [h.block b hn]; exact hB
theorem Turned.below {a : World} (h : Turned g w w') (hb : Below a.heap.size a w) (hg : a.heap.size ≤ g) : Below a.heap.size a w' :=
  hb.trans ⟨h.os, h.tape, h.output, Nat.le_of_eq h.size.symm, fun k hk => h.block k (by omega)⟩
theorem Turned.cell (h : Turned g w w') {p : Addr} (hp : p.block ≠ g) : w'.cell? p = w.cell? p := World.cell?_of_block (w := w) (h.block p.block hp)
theorem turned_row (w : World) (g : Nat) (cs : Array Value) : Turned g w (w.setRow g cs) := ⟨rfl, rfl, rfl, by simp, fun k hk => setRow_other w g k cs hk⟩
theorem turned_set (w : World) (a : Addr) (v : Value) : Turned a.block w (w.setCell a v) := ⟨rfl, rfl, rfl, by simp [World.setCell], fun k hk => heap_setCell_other w a k v hk⟩
end
section
variable {P : Program} {ops : Array Oper} {rest : List Oper} {o : Oper} {a : Act} {w : World} {Q : Exit → Act → World → Prop}
theorem wl_alloc (ty : TypeId) (z : Array Value) (hz : ∀ w, (zeroValue ty).run P w = .ok (.agg z) w) (ho : o.op = .alloc ty) (hgd : o.guard = none)
    (h : ∀ W b, Blk W b z ty → w.heap.size ≤ b → Below w.heap.size w W → wpList P ops Q rest (a.put o.dst (.pointer (some ⟨b, 0, none⟩))) W) : wpList P ops Q (o :: rest) a w := by
  refine wpList_plain hgd fun K hK => ?_
  have := h (w.alloc (.cells z ty)) w.heap.size (blk_new w z ty) (Nat.le_refl _) (bq_alloc (bq_refl w) _)
  unfold Oper.wp execOp
  simp only [ho, Instr.alloc, Sem.run_bind, hz, Result.andThen_ok, newVar, newRow, Value.cells]
  exact hK _ _ this
theorem wl_box (ty : TypeId) (x : Operand) (cs : Array Value) (ho : o.op = .box ty x) (hgd : o.guard = none) (hx : a.eval x = .agg cs)
    (h : ∀ W b, Blk W b cs ty → w.heap.size ≤ b → Below w.heap.size w W → wpList P ops Q rest (a.put o.dst (.pointer (some ⟨b, 0, none⟩))) W) : wpList P ops Q (o :: rest) a w := by
  refine wpList_plain hgd fun K hK => ?_
  have := h (w.alloc (.cells cs ty)) w.heap.size (blk_new w cs ty) (Nat.le_refl _) (bq_alloc (bq_refl w) _)
  unfold Oper.wp execOp
  simp only [ho, hx, Instr.box, Sem.run_bind, newVar, newRow, Value.cells]
  exact hK _ _ this
theorem wl_load (ty : TypeId) (n : Nat) (d : TypeDesc) (hu : P.underlying ty = some d) (hd : (match d with | .struct _ | .array _ _ => true | _ => false) = true) (hi : (P.info? ty).map (·.size) = some n)
    (x : Operand) (ho : o.op = .load ty x) (hgd : o.guard = none) (b : Nat) (hx : a.eval x = .pointer (some ⟨b, 0, none⟩)) (cs : Array Value) (t : TypeId) (hB : Blk w b cs t) (hn : cs.size = n)
    (h : wpList P ops Q rest (a.put o.dst (.agg cs)) w) : wpList P ops Q (o :: rest) a w :=
  wpList_load_row hgd ty x ho b hx t cs (0, 0) d hB hu hd (by rw [hi, hn]) h
theorem wlg_build (ty : TypeId) (ps : List (Nat × Value)) (cs : Array Value) (hb : P.built ty ps = some cs) (parts : Array (Nat × Operand)) (ho : o.op = .build ty parts) (hw : Region.wanted o (yielded ops a.tmps) = true)
    (hps : (parts.toList.map fun (i, x) => (i, a.eval x)) = ps)
    (h : wpList P ops Q rest (a.put o.dst (.agg cs)) w) : wpList P ops Q (o :: rest) a w := by
  refine wpList_step fun K hK => ?_
  rw [if_pos hw]
  rw [← hps, ← Array.toList_map] at hb
  exact wp_build ty parts ho (by rw [hb]; rfl) (by rw [hb]; exact hK _ _ h)
theorem wl_store (ty : TypeId) (n : Nat) (hi : (P.info? ty).map (·.size) = some n)
    (x y : Operand) (ho : o.op = .store ty x y) (hgd : o.guard = none) (b : Nat) (hx : a.eval x = .pointer (some ⟨b, 0, none⟩)) (cs : Array Value) (hy : a.eval y = .agg cs) (old : Array Value) (t : TypeId) (hB : Blk w b old t) (hn : old.size = n) (hn2 : cs.size = n)
    (h1 : cs.all (·.oneCell') = true)
    (h : ∀ W, Blk W b cs t → Turned b w W → wpList P ops Q rest (a.put o.dst undef) W) : wpList P ops Q (o :: rest) a w :=
  wpList_store_row hgd ty x y ho b cs hx hy t old hB (by rw [hi, hn2]) (by rw [hn, hn2]) h1 (h _ (Blk.row hB cs) (turned_row w b cs))
end
theorem post_cell_tmp {P : Program} {fn : Func} {p u : Tmp} {ty : TypeId} {a : Act} {W : World} {R : Ending → World → Prop} {n : Nat} {d : TypeDesc}
    (hu : P.underlying ty = some d) (hd : (match d with | .struct _ | .array _ _ => true | _ => false) = true) (hi : (P.info? ty).map (·.size) = some n)
    (hres : fn.results = #[.cell p ty, .tmp u]) {b : Nat} {cs : Array Value} {t : TypeId} (hB : Blk W b cs t) (hn : cs.size = n)
    (hp : a.tmps.getD p undef = .pointer (some ⟨b, 0, none⟩)) {v : Value} (hv : a.tmps.getD u undef = v) (hdf : a.defers = []) (hR : R (.returned (.tuple #[.agg cs, v])) W) : bodyPost P fn R .ret a W := by
  refine bodyPost_ret (v := .tuple #[.agg cs, v]) ?_ hdf hR
  rw [results_cell_tmp hres, hp, hv]
  simp [asAddr, run_loadVar_row W b t ty cs (0, 0) d hB hu hd (by rw [hi, hn])]
theorem post_cell {P : Program} {fn : Func} {p : Tmp} {ty : TypeId} {a : Act} {W : World} {R : Ending → World → Prop} {n : Nat} {d : TypeDesc}
    (hu : P.underlying ty = some d) (hd : (match d with | .struct _ | .array _ _ => true | _ => false) = true) (hi : (P.info? ty).map (·.size) = some n)
    (hres : fn.results = #[.cell p ty]) {b : Nat} {cs : Array Value} {t : TypeId} (hB : Blk W b cs t) (hn : cs.size = n)
    (hp : a.tmps.getD p undef = .pointer (some ⟨b, 0, none⟩)) (hdf : a.defers = []) (hR : R (.returned (.agg cs)) W) : bodyPost P fn R .ret a W :=
  bodyPost_ret (v := .agg cs) (results_cell_row hres a.tmps W b t cs (0, 0) d hp hB hu hd (by rw [hi, hn])) hdf hR
def Ints (w : World) (zs : List Int) (a : Option Addr) (b o : Nat) : Prop :=
  (zs.length = 0 ∨ a = some ⟨b, o, none⟩) ∧ (∀ i (h : i < zs.length), -9223372036854775808 ≤ zs[i] ∧ zs[i] ≤ 9223372036854775807) ∧ ∀ i (h : i < zs.length), w.cell? ⟨b, o + i, none⟩ = some (.int .i64 zs[i])
theorem Ints.lt {w : World} {zs : List Int} {a : Option Addr} {b o : Nat} (h : Ints w zs a b o) (h0 : 0 < zs.length) : b < w.heap.size := block_lt_of_cell (h.2.2 0 h0)
theorem Ints.keep {w w' : World} {zs : List Int} {a : Option Addr} {b o : Nat} (h : Ints w zs a b o) (hb : Below w.heap.size w w') : Ints w' zs a b o :=
  ⟨h.1, h.2.1, fun i hi => by rw [hb.cell (p := ⟨b, o + i, none⟩) (h.lt (by omega))]; exact h.2.2 i hi⟩
theorem Ints.at {w w' : World} {zs : List Int} {a : Option Addr} {b o : Nat} (h : Ints w zs a b o) (hb : Below w.heap.size w w') (i : Nat) (hi : i < zs.length) : a = some ⟨b, o, none⟩ ∧ -9223372036854775808 ≤ zs[i] ∧ zs[i] ≤ 9223372036854775807 ∧ w'.cell? ⟨b, o + i, none⟩ = some (.int .i64 zs[i]) :=
  ⟨h.1.resolve_left (by omega), (h.2.1 i hi).1, (h.2.1 i hi).2, (h.keep hb).2.2 i hi⟩
def iA (zs : List Int) : Array Value := (zs.map (Value.int .i64 ·)).toArray
theorem iA_at (zs : List Int) (i : Nat) (h : i < zs.length) : (iA zs)[i]? = some (.int .i64 zs[i]) := by simp [iA, h]
theorem Blk.ints {w : World} {b : Nat} {zs : List Int} {t : TypeId} (h : Blk w b (iA zs) t) (hb : ∀ v ∈ zs, -9223372036854775808 ≤ v ∧ v ≤ 9223372036854775807) : Ints w zs (some ⟨b, 0, none⟩) b 0 :=
  ⟨Or.inr rfl, fun i hi => hb _ (List.getElem_mem hi), fun i hi => by rw [Nat.zero_add, h.cell i, iA_at zs i hi]⟩
section
variable {ops : Array Oper} {rest : List Oper} {o : Oper} {a : Act} {w : World} {Q : Exit → Act → World → Prop}
theorem int_info : (Try.prog.info? 3).map (fun i => (i.zero, i.size, i.bytes)) = some (some (.int .i64 0), 1, 8) := by kernel_rfl
theorem wlg_slice {P : Program} (t e : TypeId) (len : Nat) (cs : Array Value) (ps : List (Nat × Value)) (hr : ∀ w : World, (Instr.buildSlice t len ps.toArray).run P w = .ok (.slice (some ⟨w.heap.size, 0, none⟩) len len) (w.alloc (.cells cs e)))
    (parts : Array (Nat × Operand)) (ho : o.op = .buildSlice t len parts) (hw : Region.wanted o (yielded ops a.tmps) = true) (hps : (parts.toList.map fun (i, x) => (i, a.eval x)) = ps)
    (h : ∀ W b, Blk W b cs e → w.heap.size ≤ b → Below w.heap.size w W → wpList P ops Q rest (a.put o.dst (.slice (some ⟨b, 0, none⟩) len len)) W) : wpList P ops Q (o :: rest) a w := by
  refine wpList_step fun K hK => ?_
  rw [if_pos hw]
  have := h (w.alloc (.cells cs e)) w.heap.size (blk_new w cs e) (Nat.le_refl _) (bq_alloc (bq_refl w) _)
  have e1 : (parts.map fun (i, x) => (i, a.eval x)) = ps.toArray := by rw [← hps, ← Array.toList_map, Array.toArray_toList]
  unfold Oper.wp execOp
  simp only [ho, Sem.run_bind, e1, hr w, Result.andThen_ok]
  exact hK _ _ this
theorem ints4_run (x y z u : Int) (w : World) : (Instr.buildSlice 90 4 [(0, .int .i64 x), (1, .int .i64 y), (2, .int .i64 z), (3, .int .i64 u)].toArray).run Try.prog w = .ok (.slice (some ⟨w.heap.size, 0, none⟩) 4 4) (w.alloc (.cells (iA [x, y, z, u]) 3)) := by
  obtain ⟨ie, h1, h2⟩ := Option.map_eq_some_iff.1 int_info
  have hz : ie.zero = some (.int .i64 0) := congrArg (·.1) h2
  have hs : ie.size = 1 := congrArg (·.2.1) h2
  refine run_buildSlice w 90 3 4 _ _ ie (.int .i64 0) Try.underlying90 h1 hz (by rw [hs]; decide) (by rw [hs]; decide) ?_
  rw [hs]; kernel_rfl
theorem ints2_run (x y : Int) (w : World) : (Instr.buildSlice 90 2 [(0, .int .i64 x), (1, .int .i64 y)].toArray).run Try.prog w = .ok (.slice (some ⟨w.heap.size, 0, none⟩) 2 2) (w.alloc (.cells (iA [x, y]) 3)) := by
  obtain ⟨ie, h1, h2⟩ := Option.map_eq_some_iff.1 int_info
  have hz : ie.zero = some (.int .i64 0) := congrArg (·.1) h2
  have hs : ie.size = 1 := congrArg (·.2.1) h2
  refine run_buildSlice w 90 3 2 _ _ ie (.int .i64 0) Try.underlying90 h1 hz (by rw [hs]; decide) (by rw [hs]; decide) ?_
  rw [hs]; kernel_rfl
end
theorem post_cell2_tmp {P : Program} {fn : Func} {p q u : Tmp} {ty ty' : TypeId} {a : Act} {W : World} {R : Ending → World → Prop} {n n' : Nat} {d d' : TypeDesc}
    (hu : P.underlying ty = some d) (hd : (match d with | .struct _ | .array _ _ => true | _ => false) = true) (hi : (P.info? ty).map (·.size) = some n)
    (hu' : P.underlying ty' = some d') (hd' : (match d' with | .struct _ | .array _ _ => true | _ => false) = true) (hi' : (P.info? ty').map (·.size) = some n')
    (hres : fn.results = #[.cell p ty, .cell q ty', .tmp u]) {b b' : Nat} {cs cs' : Array Value} {t t' : TypeId} (hB : Blk W b cs t) (hn : cs.size = n) (hB' : Blk W b' cs' t') (hn' : cs'.size = n')
    (hp : a.tmps[p]?.getD undef = .pointer (some ⟨b, 0, none⟩)) (hq : a.tmps[q]?.getD undef = .pointer (some ⟨b', 0, none⟩)) {v : Value} (hv : a.tmps[u]?.getD undef = v) (hdf : a.defers = []) (hR : R (.returned (.tuple #[.agg cs, .agg cs', v])) W) : bodyPost P fn R .ret a W := by
  refine bodyPost_ret (v := .tuple #[.agg cs, .agg cs', v]) ?_ hdf hR
  simp only [results, hres]
  simp [Sem.run_bind, Result.andThen, hp, hq, hv, asAddr, run_loadVar_row W b t ty cs (0, 0) d hB hu hd (by rw [hi, hn]), run_loadVar_row W b' t' ty' cs' (0, 0) d' hB' hu' hd' (by rw [hi', hn'])]
end Go.Proofs.Ythlnjipefeglpaa
namespace Go.Proofs.Ythlnjipefeglpaa
open Go.RowKit
set_option linter.unusedVariables false
theorem Blk.under {w w' : World} {b B : Nat} {cs : Array Value} {t : TypeId} (h : Blk w b cs t) (hb : Below B w w') (hB : b < B) : Blk w' b cs t := by unfold Blk; rw [hb.block b hB]; exact h
def spl : Array Value → Nat → List Value → Array Value
  | cs, _, [] => cs
  | cs, k, v :: vs => spl (cs.setIfInBounds k v) (k + 1) vs
theorem blk_setCells {b : Nat} {t : TypeId} : ∀ (vs : List Value) (k : Nat) (w : World) (cs : Array Value), Blk w b cs t → Blk (w.setCells b k vs) b (spl cs k vs) t
  | [], _, _, _, h => h
  | v :: vs, k, w, cs, h => blk_setCells vs (k + 1) _ _ (h.set k v)
theorem turned_trans {g : Nat} {a b c : World} (h : Turned g a b) (k : Turned g b c) : Turned g a c :=
  ⟨k.os.trans h.os, k.tape.trans h.tape, k.output.trans h.output, k.size.trans h.size, fun i hi => (k.block i hi).trans (h.block i hi)⟩
theorem turned_refl (g : Nat) (w : World) : Turned g w w := ⟨rfl, rfl, rfl, rfl, fun _ _ => rfl⟩
theorem turned_setCells (b : Nat) : ∀ (vs : List Value) (k : Nat) (w : World), Turned b w (w.setCells b k vs)
  | [], _, w => turned_refl b w
  | v :: vs, k, w => turned_trans (turned_set w ⟨b, k, none⟩ v) (turned_setCells b vs (k + 1) _)
theorem Blk.isSome {w : World} {b : Nat} {cs : Array Value} {t : TypeId} (h : Blk w b cs t) (i : Nat) (hi : i < cs.size) : (w.cell? ⟨b, i, none⟩).isSome = true := by
  rw [h.cell i]; simp [hi]
section
variable {P : Program} {ops : Array Oper} {rest : List Oper} {o : Oper} {a : Act} {w : World} {Q : Exit → Act → World → Prop}
theorem wl_set (ty : TypeId) (x y : Operand) (ho : o.op = .store ty x y) (hgd : o.guard = none) (b k : Nat) (hx : a.eval x = .pointer (some ⟨b, k, none⟩)) (v : Value) (hy : a.eval y = v) (h1 : v.oneCell' = true) (hi : (P.info? ty).map (·.size) = some 1)
    (cs : Array Value) (t : TypeId) (hB : Blk w b cs t) (hk : k < cs.size)
    (h : ∀ W, Blk W b (cs.setIfInBounds k v) t → Turned b w W → wpList P ops Q rest (a.put o.dst undef) W) : wpList P ops Q (o :: rest) a w := by
  refine wpList_plain hgd fun K hK => ?_
  have hr := run_storeCells_cells (P := P) b k [v] 0 w (fun j hj => by simp at hj; subst hj; simpa using hB.isSome k hk) (fun j hj => by simp at hj; subst hj; exact hB.frozen _) (fun u hu => by simp at hu; subst hu; exact h1)
  have hc : v.cells = #[v] := by cases v <;> first | rfl | cases h1
  have hs : (storeVar ty ⟨b, k, none⟩ v).run P w = .ok () (w.setCell ⟨b, k, none⟩ v) := by
    cases hq : P.info? ty with
    | none => simp [hq] at hi
    | some i =>
      have hs : i.size = 1 := by simpa [hq] using hi
      simp only [Nat.add_zero] at hr
      simp [storeVar, sizeOf, typeInfo, hq, hc, hs, hr, World.setCells]
  have := h _ (hB.set k v) (turned_set w ⟨b, k, none⟩ v)
  unfold Oper.wp execOp
  simp only [ho, hx, hy, Instr.storeAt, Instr.sureAddr, Sem.run_bind, Sem.run_pure, Result.andThen_ok, hs]
  exact hK _ _ this
theorem wl_putAt (ty : TypeId) (x y : Operand) (ho : o.op = .store ty x y) (hgd : o.guard = none) (b k : Nat) (hx : a.eval x = .pointer (some ⟨b, k, none⟩)) (us : Array Value) (hy : a.eval y = .agg us) (hi : (P.info? ty).map (·.size) = some us.size) (h1 : us.all (·.oneCell') = true)
    (cs : Array Value) (t : TypeId) (hB : Blk w b cs t) (hk : k + us.size ≤ cs.size) (cs' : Array Value) (hcs : spl cs k us.toList = cs')
    (h : ∀ W, Blk W b cs' t → Turned b w W → wpList P ops Q rest (a.put o.dst undef) W) : wpList P ops Q (o :: rest) a w :=
  wpList_store_mid hgd ty x y ho b k us hx hy (fun j hj => ⟨hB.isSome _ (by omega), hB.frozen _⟩) hi h1 (h _ (hcs ▸ blk_setCells us.toList k w cs hB) (turned_setCells b us.toList k w))
end
structure But (p q : Nat) (w w' : World) : Prop where
  os : w'.os = w.os
  tape : w'.tape = w.tape
  output : w'.output = w.output
  size : w.heap.size ≤ w'.heap.size
  block : ∀ k, k < w.heap.size → k ≠ p → k ≠ q → w'.heap[k]? = w.heap[k]?
theorem But.of {p q : Nat} {w w' : World} (h : Below w.heap.size w w') : But p q w w' := ⟨h.os, h.tape, h.output, h.size, fun k hk _ _ => h.block k hk⟩
theorem But.setp {p q : Nat} {w w' : World} (i : Nat) (v : Value) (h : But p q w w') : But p q w (w'.setCell ⟨p, i, none⟩ v) :=
  ⟨h.os, h.tape, h.output, by simpa [World.setCell] using h.size, fun k hk hp hq => by rw [heap_setCell_other w' ⟨p, i, none⟩ k v hp]; exact h.block k hk hp hq⟩
theorem But.setq {p q : Nat} {w w' : World} (i : Nat) (v : Value) (h : But p q w w') : But p q w (w'.setCell ⟨q, i, none⟩ v) :=
  ⟨h.os, h.tape, h.output, by simpa [World.setCell] using h.size, fun k hk hp hq => by rw [heap_setCell_other w' ⟨q, i, none⟩ k v hq]; exact h.block k hk hp hq⟩
theorem Blk.but {p q b : Nat} {w w' : World} {cs : Array Value} {t : TypeId} (hB : Blk w b cs t) (h : But p q w w') (hp : b ≠ p) (hq : b ≠ q) : Blk w' b cs t := by
  unfold Blk; rw [h.block b hB.lt hp hq]; exact hB
theorem But.below {p q : Nat} {a w w' : World} (h : But p q w w') (hb : Below a.heap.size a w) (hp : a.heap.size ≤ p) (hq : a.heap.size ≤ q) : Below a.heap.size a w' :=
  hb.trans ⟨h.os, h.tape, h.output, h.size, fun k hk => h.block k (by have := hb.size; omega) (by omega) (by omega)⟩
end Go.Proofs.Ythlnjipefeglpaa
namespace Go.Proofs.Ythlnjipefeglpaa
open Go.RowKit Go.WideShapes Go.ChangeShapes
set_option linter.unusedVariables false
def Lasts {α : Type} (R : World → List Value → α → Prop) : Prop := ∀ w w' cs x, R w cs x → Below w.heap.size w w' → R w' cs x
def Sl {α : Type} (w : World) (k : Nat) (R : World → List Value → α → Prop) (sv : Value) (xs : List α) : Prop :=
  ∃ a c b o, sv = .slice a xs.length c ∧ xs.length ≤ 9223372036854775807 ∧ (xs.length = 0 ∨ a = some ⟨b, o, none⟩ ∧ b < w.heap.size) ∧
    ∀ i (h : i < xs.length), ∃ cs : List Value, cs.length = k ∧ R w cs xs[i] ∧ w.rangeAt b (o + i * k) cs
theorem rangeAt_keep {w w' : World} {b o : Nat} {cs : List Value} (h : w.rangeAt b o cs) (hb : Below w.heap.size w w') : w'.rangeAt b o cs := fun j v hv => by
  have := h j v hv
  rw [hb.cell (p := ⟨b, o + j, none⟩) (block_lt_of_cell this)]
  exact this
theorem Sl.keep {α : Type} {w w' : World} {k : Nat} {R : World → List Value → α → Prop} {sv : Value} {xs : List α} (hR : Lasts R) (h : Sl w k R sv xs) (hb : Below w.heap.size w w') : Sl w' k R sv xs := by
  obtain ⟨a, c, b, o, rfl, h1, h2, h3⟩ := h
  refine ⟨a, c, b, o, rfl, h1, h2.imp id (fun ⟨p, q⟩ => ⟨p, by have := hb.size; omega⟩), fun i hi => ?_⟩
  obtain ⟨cs, g1, g2, g3⟩ := h3 i hi
  exact ⟨cs, g1, hR _ _ _ _ g2 hb, rangeAt_keep g3 hb⟩
theorem sl_nil {α : Type} (w : World) (k : Nat) (R : World → List Value → α → Prop) : Sl w k R (.slice none 0 0) ([] : List α) := ⟨none, 0, 0, 0, rfl, by simp, Or.inl rfl, fun i hi => absurd hi (by simp)⟩
theorem Sl.get {α : Type} {w : World} {k : Nat} {R : World → List Value → α → Prop} {sv : Value} {xs : List α} (h : Sl w k R sv xs) : ∃ a c b o, sv = .slice a xs.length c ∧ xs.length ≤ 9223372036854775807 ∧
    ∀ i (hi : i < xs.length), a = some ⟨b, o, none⟩ ∧ b < w.heap.size ∧ ∃ cs : List Value, cs.length = k ∧ R w cs xs[i] ∧ w.rangeAt b (o + i * k) cs := by
  obtain ⟨a, c, b, o, rfl, h1, h2, h3⟩ := h
  exact ⟨a, c, b, o, rfl, h1, fun i hi => ⟨(h2.resolve_left (by omega)).1, (h2.resolve_left (by omega)).2, h3 i hi⟩⟩
end Go.Proofs.Ythlnjipefeglpaa
namespace Go.Proofs.Ythlnjipefeglpaa
open Go.RowKit
set_option linter.unusedVariables false
def nr (m v : Int) : Bool := decide (-m ≤ v) && decide (v ≤ m)
theorem nr_iff (m v : Int) : nr m v = true ↔ -m ≤ v ∧ v ≤ m := by simp [nr]
theorem all_take (f : Int → Bool) (zs : List Int) (k : Nat) (h : k < zs.length) (h1 : (zs.take k).all f = true) (h2 : f zs[k] = true) : (zs.take (k + 1)).all f = true := by
  rw [List.take_succ_eq_append_getElem h, List.all_append, h1]
  simp [h2]
theorem all_not (f : Int → Bool) (zs : List Int) (k : Nat) (h : k < zs.length) (h2 : f zs[k] = false) : zs.all f = false := by
  rw [List.all_eq_false]
  exact ⟨zs[k], List.getElem_mem h, by rw [h2]; simp⟩
def NrRel (zs : List Int) (m : Int) (i : Value) : Prop := ∃ k : Nat, k ≤ zs.length ∧ i = .int .i64 k ∧ (zs.take k).all (nr m) = true
set_option maxHeartbeats 1000000 in
theorem near_list (zs : List Int) (m : Int) (a : Option Addr) (b o c : Nat) (w : World) (hl : zs.length ≤ 1000000) (m0 : 0 ≤ m) (m1 : m ≤ 1000000000) (ha : Hid (Ints w zs a b o)) :
    Calls Try.prog 48 #[.int .i64 m, .slice a zs.length c] w fun e w' => e = .returned (.bool (zs.all (nr m))) ∧ w = w' := by
  go_enter Try.func48, Try.ntmps48
  go_wp2
  go_loop [9] (fun i => NrRel zs m i) (fun i => zs.length - (intOf i).toNat)
  case atStart => exact ⟨0, by omega, rfl, rfl⟩
  case round =>
    obtain ⟨k, hk, rfl, hx⟩ := hrel
    have HX := Lib.hid hx
    clear hx
    by_cases hlt : k < zs.length
    · obtain ⟨rfl, z0, z1, hcell⟩ := ha.out.at (bq_refl w) k hlt
      have HY := Lib.hid (all_take (nr m) zs k hlt HX.out)
      have HN := Lib.hid (all_not (nr m) zs k hlt)
      generalize zs[k] = z at *
      by_cases c1 : z < -m
      · have HF : Hid (zs.all (nr m) = false) := Lib.hid (HN.out (by simp [nr]; omega))
        clear HX HY HN
        go_wp2
        go_ret
        exact ⟨ret_bool HF.out.symm, rfl⟩
      · by_cases c2 : m < z
        · have HF : Hid (zs.all (nr m) = false) := Lib.hid (HN.out (by simp [nr]; omega))
          clear HX HY HN
          go_wp2
          go_ret
          exact ⟨ret_bool HF.out.symm, rfl⟩
        · have HF : Hid ((zs.take (k + 1)).all (nr m) = true) := Lib.hid (HY.out (by simp [nr]; omega))
          clear HX HY HN
          go_wp2
          go_round
          case rel => exact ⟨k + 1, by omega, by go_num, HF.out⟩
          case measure => simp [intOf]; omega
    · obtain rfl : k = zs.length := by omega
      have HL : Hid (zs.all (nr m) = true) := Lib.hid (by rw [← HX.out, List.take_length])
      go_wp2
      go_ret
      exact ⟨ret_bool HL.out.symm, rfl⟩
theorem in_any (z m : Int) (w : World) (m0 : 0 ≤ m) (m1 : m ≤ 1000000000) :
    Calls Try.prog 49 #[.int .i64 z, .int .i64 m] w fun e w' => e = .returned (.bool (nr m z)) ∧ w = w' := by
  go_enter Try.func49, Try.ntmps49
  go_wp2
  all_goals (go_ret; exact ⟨ret_bool (by simp [nr]; try omega), rfl⟩)
end Go.Proofs.Ythlnjipefeglpaa
