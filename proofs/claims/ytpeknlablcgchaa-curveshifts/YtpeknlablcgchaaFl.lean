import Derived.Test.YtpeknlablcgchaaF0
import Derived.Laws.Rows
import Derived.Laws.Tables
import Derived.Laws.ResultCell
import Derived.Deep.WholeRow
import Derived.Laws.MakeOwn
import Derived.Great.BuildSlice
/- Blocks that are known whole; laws for whole arrays and structs; lists of numbers in memory. -/
namespace Go.Proofs.Ytpeknlablcgchaa
open Go.RowKit
set_option linter.unusedVariables false

/-- a block whose cells are known, all of them -/
def Blk (w : World) (b : Nat) (cs : Array Value) (t : TypeId) : Prop := w.heap[b]? = some (.cells cs t (0, 0))
section
variable {w w' : World} {b : Nat} {cs : Array Value} {t : TypeId}
theorem Blk.lt (h : Blk w b cs t) : b < w.heap.size := (Array.getElem?_eq_some_iff.1 h).1
theorem Blk.cell (h : Blk w b cs t) (i : Nat) : w.cell? ⟨b, i, none⟩ = cs[i]? := cell_of_row w b i cs t (0, 0) h
theorem Blk.frozen (h : Blk w b cs t) (i : Nat) : w.frozen? ⟨b, i, none⟩ = false := frozen_of_row w b i cs t h
theorem Blk.keep (h : Blk w b cs t) (hb : Below w.heap.size w w') : Blk w' b cs t := by unfold Blk; rw [hb.block b h.lt]; exact h
theorem blk_new (w : World) (cs : Array Value) (t : TypeId) : Blk (w.alloc (.cells cs t)) w.heap.size cs t := heap_alloc_new w _
theorem Blk.alloc (h : Blk w b cs t) (o : Obj) : Blk (w.alloc o) b cs t := by unfold Blk; rw [Below.heap_alloc w o b h.lt]; exact h
theorem Blk.drew (h : Blk w b cs t) : Blk w.drew b cs t := h
theorem Blk.drewN (h : Blk w b cs t) (n : Nat) : Blk (w.drewN n) b cs t := h
theorem Blk.set (h : Blk w b cs t) (i : Nat) (v : Value) : Blk (w.setCell ⟨b, i, none⟩ v) b (cs.setIfInBounds i v) t := heap_setCell_same w b i cs t v h
theorem Blk.other (h : Blk w b cs t) {a : Addr} (v : Value) (ha : b ≠ a.block) : Blk (w.setCell a v) b cs t := by unfold Blk; rw [heap_setCell_other w a b v ha]; exact h
theorem Blk.row (h : Blk w b cs t) (cs' : Array Value) : Blk (w.setRow b cs') b cs' t := setRow_heap w b cs cs' t (0, 0) h
theorem Blk.rowOther (h : Blk w b cs t) (g : Nat) (cs' : Array Value) (hg : b ≠ g) : Blk (w.setRow g cs') b cs t := by unfold Blk; rw [setRow_other w g b cs' hg]; exact h
end
theorem bq_row {a b : World} (h : Below a.heap.size a b) (g : Nat) (hg : a.heap.size ≤ g) (cs : Array Value) : Below a.heap.size a (b.setRow g cs) :=
  h.trans ⟨rfl, rfl, rfl, by simp, fun k hk => setRow_other b g k cs (by omega)⟩
/-- one block has turned, nothing else -/
structure Turned (g : Nat) (w w' : World) : Prop where
  os : w'.os = w.os
  tape : w'.tape = w.tape
  output : w'.output = w.output
  size : w'.heap.size = w.heap.size
  block : ∀ k, k ≠ g → w'.heap[k]? = w.heap[k]?
section
variable {w w' : World} {b g : Nat} {cs : Array Value} {t : TypeId}
theorem Turned.blk (h : Turned g w w') (hB : Blk w b cs t) (hn : b ≠ g) : Blk w' b cs t := by unfold Blk; rw [h.block b hn]; exact hB
theorem Turned.below {a : World} (h : Turned g w w') (hb : Below a.heap.size a w) (hg : a.heap.size ≤ g) : Below a.heap.size a w' :=
  hb.trans ⟨h.os, h.tape, h.output, Nat.le_of_eq h.size.symm, fun k hk => h.block k (by omega)⟩
theorem Turned.cell (h : Turned g w w') {p : Addr} (hp : p.block ≠ g) : w'.cell? p = w.cell? p := World.cell?_of_block (w := w) (h.block p.block hp)
theorem turned_row (w : World) (g : Nat) (cs : Array Value) : Turned g w (w.setRow g cs) := ⟨rfl, rfl, rfl, by simp, fun k hk => setRow_other w g k cs hk⟩
theorem turned_set (w : World) (a : Addr) (v : Value) : Turned a.block w (w.setCell a v) := ⟨rfl, rfl, rfl, by simp [World.setCell], fun k hk => heap_setCell_other w a k v hk⟩
end
section
variable {P : Program} {ops : Array Oper} {rest : List Oper} {o : Oper} {a : Act} {w : World} {Q : Exit → Act → World → Prop}
theorem wl_alloc (ty : TypeId) (z : Array Value) (hz : ∀ w, (zeroValue ty).run P w = .ok (.agg z) w) (ho : o.op = .alloc ty) (hgd : o.guard = none)
    (h : ∀ W b, Blk W b z ty → w.heap.size ≤ b → Below w.heap.size w W → wpList P ops Q rest (a.put o.dst (.pointer (some ⟨b, 0, none⟩))) W) : wpList P ops Q (o :: rest) a w := by
  refine wpList_plain hgd fun K hK => ?_
  have := h (w.alloc (.cells z ty)) w.heap.size (blk_new w z ty) (Nat.le_refl _) (bq_alloc (bq_refl w) _)
  unfold Oper.wp execOp
  simp only [ho, Instr.alloc, Sem.run_bind, hz, Result.andThen_ok, newVar, newRow, Value.cells]
  exact hK _ _ this
theorem wl_box (ty : TypeId) (x : Operand) (cs : Array Value) (ho : o.op = .box ty x) (hgd : o.guard = none) (hx : a.eval x = .agg cs)
    (h : ∀ W b, Blk W b cs ty → w.heap.size ≤ b → Below w.heap.size w W → wpList P ops Q rest (a.put o.dst (.pointer (some ⟨b, 0, none⟩))) W) : wpList P ops Q (o :: rest) a w := by
  refine wpList_plain hgd fun K hK => ?_
  have := h (w.alloc (.cells cs ty)) w.heap.size (blk_new w cs ty) (Nat.le_refl _) (bq_alloc (bq_refl w) _)
  unfold Oper.wp execOp
  simp only [ho, hx, Instr.box, Sem.run_bind, newVar, newRow, Value.cells]
  exact hK _ _ this
theorem wl_load (ty : TypeId) (n : Nat) (d : TypeDesc) (hu : P.underlying ty = some d) (hd : (match d with | .struct _ | .array _ _ => true | _ => false) = true) (hi : (P.info? ty).map (·.size) = some n)
    (x : Operand) (ho : o.op = .load ty x) (hgd : o.guard = none) (b : Nat) (hx : a.eval x = .pointer (some ⟨b, 0, none⟩)) (cs : Array Value) (t : TypeId) (hB : Blk w b cs t) (hn : cs.size = n)
    (h : wpList P ops Q rest (a.put o.dst (.agg cs)) w) : wpList P ops Q (o :: rest) a w :=
  wpList_load_row hgd ty x ho b hx t cs (0, 0) d hB hu hd (by rw [hi, hn]) h
theorem wlg_load (ty : TypeId) (n : Nat) (d : TypeDesc) (hu : P.underlying ty = some d) (hd : (match d with | .struct _ | .array _ _ => true | _ => false) = true) (hi : (P.info? ty).map (·.size) = some n)
    (x : Operand) (ho : o.op = .load ty x) (hw : Region.wanted o (yielded ops a.tmps) = true) (b : Nat) (hx : a.eval x = .pointer (some ⟨b, 0, none⟩)) (cs : Array Value) (t : TypeId) (hB : Blk w b cs t) (hn : cs.size = n)
    (h : wpList P ops Q rest (a.put o.dst (.agg cs)) w) : wpList P ops Q (o :: rest) a w := by
  refine wpList_step fun K hK => ?_
  rw [if_pos hw]
  exact wp_load_row ty x ho b hx t cs (0, 0) d hB hu hd (by rw [hi, hn]) (hK _ _ h)
theorem wlg_build (ty : TypeId) (ps : List (Nat × Value)) (cs : Array Value) (hb : P.built ty ps = some cs) (parts : Array (Nat × Operand)) (ho : o.op = .build ty parts) (hw : Region.wanted o (yielded ops a.tmps) = true)
    (hps : (parts.toList.map fun (i, x) => (i, a.eval x)) = ps)
    (h : wpList P ops Q rest (a.put o.dst (.agg cs)) w) : wpList P ops Q (o :: rest) a w := by
  refine wpList_step fun K hK => ?_
  rw [if_pos hw]
  rw [← hps, ← Array.toList_map] at hb
  exact wp_build ty parts ho (by rw [hb]; rfl) (by rw [hb]; exact hK _ _ h)
theorem wl_store (ty : TypeId) (n : Nat) (hi : (P.info? ty).map (·.size) = some n)
    (x y : Operand) (ho : o.op = .store ty x y) (hgd : o.guard = none) (b : Nat) (hx : a.eval x = .pointer (some ⟨b, 0, none⟩)) (cs : Array Value) (hy : a.eval y = .agg cs) (old : Array Value) (t : TypeId) (hB : Blk w b old t) (hn : old.size = n) (hn2 : cs.size = n)
    (h1 : cs.all (·.oneCell') = true)
    (h : ∀ W, Blk W b cs t → Turned b w W → wpList P ops Q rest (a.put o.dst undef) W) : wpList P ops Q (o :: rest) a w :=
  wpList_store_row hgd ty x y ho b cs hx hy t old hB (by rw [hi, hn2]) (by rw [hn, hn2]) h1 (h _ (Blk.row hB cs) (turned_row w b cs))
theorem wl_make (t e : TypeId) (i : TypeInfo) (z : Value) (ht : P.underlying t = some (.slice e)) (hi : P.info? e = some i) (hz : i.zero = some z) (h1 : i.size = 1) (h8 : i.bytes ≤ 8) (hc : z.cells = #[z])
    (l c : Operand) (ho : o.op = .makeSlice t l c) (hgd : o.guard = none) (n : Nat) (hl : a.eval l = .int .i64 (n : Int)) (hcc : a.eval c = .int .i64 (n : Int)) (hn : n ≤ 1000000)
    (h : ∀ W b, Blk W b (Array.replicate n z) e → w.heap.size ≤ b → Below w.heap.size w W → wpList P ops Q rest (a.put o.dst (.slice (some ⟨b, 0, none⟩) n n)) W) : wpList P ops Q (o :: rest) a w := by
  refine wpList_plain hgd fun K hK => ?_
  have e1 : madeCells z.cells (n * i.size) = Array.replicate n z := by
    rw [h1, hc]
    unfold madeCells
    apply Array.ext
    · simp
    · intro j hj hj2
      simp [Nat.mod_one]
  have hr := run_make (P := P) w t e i z ht hi hz .i64 .i64 n n (by omega) (by omega) (by
    have h3 : (i.bytes : Int) * (n : Int) ≤ 8 * (n : Int) := Int.mul_le_mul_of_nonneg_right (by omega) (by omega)
    omega) (by omega)
  simp only [Int.toNat_natCast, e1] at hr
  have := h (w.alloc (.cells (Array.replicate n z) e)) w.heap.size (blk_new w _ e) (Nat.le_refl _) (bq_alloc (bq_refl w) _)
  unfold Oper.wp execOp
  simp only [ho, hl, hcc, Sem.run_bind, hr, Result.andThen_ok]
  exact hK _ _ this
end
/-- a result that lies in a block, and one in a slot -/
theorem post_cell_tmp {P : Program} {fn : Func} {p u : Tmp} {ty : TypeId} {a : Act} {W : World} {R : Ending → World → Prop} {n : Nat} {d : TypeDesc}
    (hu : P.underlying ty = some d) (hd : (match d with | .struct _ | .array _ _ => true | _ => false) = true) (hi : (P.info? ty).map (·.size) = some n)
    (hres : fn.results = #[.cell p ty, .tmp u]) {b : Nat} {cs : Array Value} {t : TypeId} (hB : Blk W b cs t) (hn : cs.size = n)
    (hp : a.tmps.getD p undef = .pointer (some ⟨b, 0, none⟩)) {v : Value} (hv : a.tmps.getD u undef = v) (hdf : a.defers = []) (hR : R (.returned (.tuple #[.agg cs, v])) W) : bodyPost P fn R .ret a W := by
  refine bodyPost_ret (v := .tuple #[.agg cs, v]) ?_ hdf hR
  rw [results_cell_tmp hres, hp, hv]
  simp [asAddr, run_loadVar_row W b t ty cs (0, 0) d hB hu hd (by rw [hi, hn])]
theorem post_cell {P : Program} {fn : Func} {p : Tmp} {ty : TypeId} {a : Act} {W : World} {R : Ending → World → Prop} {n : Nat} {d : TypeDesc}
    (hu : P.underlying ty = some d) (hd : (match d with | .struct _ | .array _ _ => true | _ => false) = true) (hi : (P.info? ty).map (·.size) = some n)
    (hres : fn.results = #[.cell p ty]) {b : Nat} {cs : Array Value} {t : TypeId} (hB : Blk W b cs t) (hn : cs.size = n)
    (hp : a.tmps.getD p undef = .pointer (some ⟨b, 0, none⟩)) (hdf : a.defers = []) (hR : R (.returned (.agg cs)) W) : bodyPost P fn R .ret a W :=
  bodyPost_ret (v := .agg cs) (results_cell_row hres a.tmps W b t cs (0, 0) d hp hB hu hd (by rw [hi, hn])) hdf hR
/-- numbers that a slice reads as -/
def Ints (w : World) (zs : List Int) (a : Option Addr) (b o : Nat) : Prop :=
  (zs.length = 0 ∨ a = some ⟨b, o, none⟩) ∧ (∀ i (h : i < zs.length), -9223372036854775808 ≤ zs[i] ∧ zs[i] ≤ 9223372036854775807) ∧ ∀ i (h : i < zs.length), w.cell? ⟨b, o + i, none⟩ = some (.int .i64 zs[i])
theorem Ints.lt {w : World} {zs : List Int} {a : Option Addr} {b o : Nat} (h : Ints w zs a b o) (h0 : 0 < zs.length) : b < w.heap.size := block_lt_of_cell (h.2.2 0 h0)
theorem Ints.keep {w w' : World} {zs : List Int} {a : Option Addr} {b o : Nat} (h : Ints w zs a b o) (hb : Below w.heap.size w w') : Ints w' zs a b o :=
  ⟨h.1, h.2.1, fun i hi => by rw [hb.cell (p := ⟨b, o + i, none⟩) (h.lt (by omega))]; exact h.2.2 i hi⟩
theorem Ints.at {w w' : World} {zs : List Int} {a : Option Addr} {b o : Nat} (h : Ints w zs a b o) (hb : Below w.heap.size w w') (i : Nat) (hi : i < zs.length) : a = some ⟨b, o, none⟩ ∧ -9223372036854775808 ≤ zs[i] ∧ zs[i] ≤ 9223372036854775807 ∧ w'.cell? ⟨b, o + i, none⟩ = some (.int .i64 zs[i]) :=
  ⟨h.1.resolve_left (by omega), (h.2.1 i hi).1, (h.2.1 i hi).2, (h.keep hb).2.2 i hi⟩

/-- cells of numbers -/
def iA (zs : List Int) : Array Value := (zs.map (Value.int .i64 ·)).toArray
theorem iA_size (zs : List Int) : (iA zs).size = zs.length := by simp [iA]
theorem iA_at (zs : List Int) (i : Nat) (h : i < zs.length) : (iA zs)[i]? = some (.int .i64 zs[i]) := by simp [iA, h]
theorem iA_one (zs : List Int) : (iA zs).all (·.oneCell') = true := by
  rw [Array.all_eq_true_iff_forall_mem]
  intro v hv
  simp only [iA, List.mem_toArray, List.mem_map] at hv
  obtain ⟨z, _, rfl⟩ := hv
  rfl
theorem Blk.ints {w : World} {b : Nat} {zs : List Int} {t : TypeId} (h : Blk w b (iA zs) t) (hb : ∀ v ∈ zs, -9223372036854775808 ≤ v ∧ v ≤ 9223372036854775807) : Ints w zs (some ⟨b, 0, none⟩) b 0 :=
  ⟨Or.inr rfl, fun i hi => hb _ (List.getElem_mem hi), fun i hi => by rw [Nat.zero_add, h.cell i, iA_at zs i hi]⟩
/-- some of a block's numbers -/
theorem Blk.part {w : World} {b : Nat} {zs ys : List Int} {t : TypeId} (k : Nat) (h : Blk w b (iA zs) t) (hy : ys = (zs.drop k).take ys.length) (hb : ∀ v ∈ ys, -9223372036854775808 ≤ v ∧ v ≤ 9223372036854775807) : Ints w ys (some ⟨b, k, none⟩) b k := by
  refine ⟨Or.inr rfl, fun i hi => hb _ (List.getElem_mem hi), fun i hi => ?_⟩
  have hl : ys.length = min ys.length (zs.length - k) := by
    have := congrArg List.length hy
    simpa using this
  have hz : k + i < zs.length := by omega
  rw [h.cell (k + i), iA_at zs _ hz]
  have e : ys[i] = ((zs.drop k).take ys.length)[i]'(by rw [← hy]; exact hi) := by congr 1
  rw [e, List.getElem_take, List.getElem_drop]
section
variable {ops : Array Oper} {rest : List Oper} {o : Oper} {a : Act} {w : World} {Q : Exit → Act → World → Prop}
theorem int_info : (Try.prog.info? 3).map (fun i => (i.zero, i.size, i.bytes)) = some (some (.int .i64 0), 1, 8) := by kernel_rfl
theorem wlg_slice {P : Program} (t e : TypeId) (len : Nat) (cs : Array Value) (ps : List (Nat × Value)) (hr : ∀ w : World, (Instr.buildSlice t len ps.toArray).run P w = .ok (.slice (some ⟨w.heap.size, 0, none⟩) len len) (w.alloc (.cells cs e)))
    (parts : Array (Nat × Operand)) (ho : o.op = .buildSlice t len parts) (hw : Region.wanted o (yielded ops a.tmps) = true) (hps : (parts.toList.map fun (i, x) => (i, a.eval x)) = ps)
    (h : ∀ W b, Blk W b cs e → w.heap.size ≤ b → Below w.heap.size w W → wpList P ops Q rest (a.put o.dst (.slice (some ⟨b, 0, none⟩) len len)) W) : wpList P ops Q (o :: rest) a w := by
  refine wpList_step fun K hK => ?_
  rw [if_pos hw]
  have := h (w.alloc (.cells cs e)) w.heap.size (blk_new w cs e) (Nat.le_refl _) (bq_alloc (bq_refl w) _)
  have e1 : (parts.map fun (i, x) => (i, a.eval x)) = ps.toArray := by rw [← hps, ← Array.toList_map, Array.toArray_toList]
  unfold Oper.wp execOp
  simp only [ho, Sem.run_bind, e1, hr w, Result.andThen_ok]
  exact hK _ _ this
theorem ints4_run (x y z u : Int) (w : World) : (Instr.buildSlice 35 4 [(0, .int .i64 x), (1, .int .i64 y), (2, .int .i64 z), (3, .int .i64 u)].toArray).run Try.prog w = .ok (.slice (some ⟨w.heap.size, 0, none⟩) 4 4) (w.alloc (.cells (iA [x, y, z, u]) 3)) := by
  obtain ⟨ie, h1, h2⟩ := Option.map_eq_some_iff.1 int_info
  have hz : ie.zero = some (.int .i64 0) := congrArg (·.1) h2
  have hs : ie.size = 1 := congrArg (·.2.1) h2
  refine run_buildSlice w 35 3 4 _ _ ie (.int .i64 0) Try.underlying35 h1 hz (by rw [hs]; decide) (by rw [hs]; decide) ?_
  rw [hs]; kernel_rfl
theorem ints2_run (x y : Int) (w : World) : (Instr.buildSlice 35 2 [(0, .int .i64 x), (1, .int .i64 y)].toArray).run Try.prog w = .ok (.slice (some ⟨w.heap.size, 0, none⟩) 2 2) (w.alloc (.cells (iA [x, y]) 3)) := by
  obtain ⟨ie, h1, h2⟩ := Option.map_eq_some_iff.1 int_info
  have hz : ie.zero = some (.int .i64 0) := congrArg (·.1) h2
  have hs : ie.size = 1 := congrArg (·.2.1) h2
  refine run_buildSlice w 35 3 2 _ _ ie (.int .i64 0) Try.underlying35 h1 hz (by rw [hs]; decide) (by rw [hs]; decide) ?_
  rw [hs]; kernel_rfl
end
/-- results in two blocks and a slot, in two blocks, in a slot and a block -/
theorem post_cell2_tmp {P : Program} {fn : Func} {p q u : Tmp} {ty ty' : TypeId} {a : Act} {W : World} {R : Ending → World → Prop} {n n' : Nat} {d d' : TypeDesc}
    (hu : P.underlying ty = some d) (hd : (match d with | .struct _ | .array _ _ => true | _ => false) = true) (hi : (P.info? ty).map (·.size) = some n)
    (hu' : P.underlying ty' = some d') (hd' : (match d' with | .struct _ | .array _ _ => true | _ => false) = true) (hi' : (P.info? ty').map (·.size) = some n')
    (hres : fn.results = #[.cell p ty, .cell q ty', .tmp u]) {b b' : Nat} {cs cs' : Array Value} {t t' : TypeId} (hB : Blk W b cs t) (hn : cs.size = n) (hB' : Blk W b' cs' t') (hn' : cs'.size = n')
    (hp : a.tmps[p]?.getD undef = .pointer (some ⟨b, 0, none⟩)) (hq : a.tmps[q]?.getD undef = .pointer (some ⟨b', 0, none⟩)) {v : Value} (hv : a.tmps[u]?.getD undef = v) (hdf : a.defers = []) (hR : R (.returned (.tuple #[.agg cs, .agg cs', v])) W) : bodyPost P fn R .ret a W := by
  refine bodyPost_ret (v := .tuple #[.agg cs, .agg cs', v]) ?_ hdf hR
  simp only [results, hres]
  simp [Sem.run_bind, Result.andThen, hp, hq, hv, asAddr, run_loadVar_row W b t ty cs (0, 0) d hB hu hd (by rw [hi, hn]), run_loadVar_row W b' t' ty' cs' (0, 0) d' hB' hu' hd' (by rw [hi', hn'])]
theorem post_cell2 {P : Program} {fn : Func} {p q : Tmp} {ty ty' : TypeId} {a : Act} {W : World} {R : Ending → World → Prop} {n n' : Nat} {d d' : TypeDesc}
    (hu : P.underlying ty = some d) (hd : (match d with | .struct _ | .array _ _ => true | _ => false) = true) (hi : (P.info? ty).map (·.size) = some n)
    (hu' : P.underlying ty' = some d') (hd' : (match d' with | .struct _ | .array _ _ => true | _ => false) = true) (hi' : (P.info? ty').map (·.size) = some n')
    (hres : fn.results = #[.cell p ty, .cell q ty']) {b b' : Nat} {cs cs' : Array Value} {t t' : TypeId} (hB : Blk W b cs t) (hn : cs.size = n) (hB' : Blk W b' cs' t') (hn' : cs'.size = n')
    (hp : a.tmps[p]?.getD undef = .pointer (some ⟨b, 0, none⟩)) (hq : a.tmps[q]?.getD undef = .pointer (some ⟨b', 0, none⟩)) (hdf : a.defers = []) (hR : R (.returned (.tuple #[.agg cs, .agg cs'])) W) : bodyPost P fn R .ret a W := by
  refine bodyPost_ret (v := .tuple #[.agg cs, .agg cs']) ?_ hdf hR
  simp only [results, hres]
  simp [Sem.run_bind, Result.andThen, hp, hq, asAddr, run_loadVar_row W b t ty cs (0, 0) d hB hu hd (by rw [hi, hn]), run_loadVar_row W b' t' ty' cs' (0, 0) d' hB' hu' hd' (by rw [hi', hn'])]
theorem post_tmp_cell {P : Program} {fn : Func} {p u : Tmp} {ty : TypeId} {a : Act} {W : World} {R : Ending → World → Prop} {n : Nat} {d : TypeDesc}
    (hu : P.underlying ty = some d) (hd : (match d with | .struct _ | .array _ _ => true | _ => false) = true) (hi : (P.info? ty).map (·.size) = some n)
    (hres : fn.results = #[.tmp u, .cell p ty]) {b : Nat} {cs : Array Value} {t : TypeId} (hB : Blk W b cs t) (hn : cs.size = n)
    (hp : a.tmps[p]?.getD undef = .pointer (some ⟨b, 0, none⟩)) {v : Value} (hv : a.tmps[u]?.getD undef = v) (hdf : a.defers = []) (hR : R (.returned (.tuple #[v, .agg cs])) W) : bodyPost P fn R .ret a W := by
  refine bodyPost_ret (v := .tuple #[v, .agg cs]) ?_ hdf hR
  simp only [results, hres]
  simp [Result.andThen, hp, hv, asAddr, run_loadVar_row W b t ty cs (0, 0) d hB hu hd (by rw [hi, hn])]
end Go.Proofs.Ytpeknlablcgchaa
