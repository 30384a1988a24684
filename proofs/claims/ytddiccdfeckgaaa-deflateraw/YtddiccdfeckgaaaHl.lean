import Derived.Test.YtddiccdfeckgaaaHg
import Derived.Deep.WholeRow
import Derived.Laws.MakeOwn
/- Laws for whole arrays and structs in blocks of the call's own: the world behind each is a letter, of which one block is known whole. -/
namespace Go.Proofs.Ytddiccdfeckgaaa
open Go.RowKit
set_option linter.unusedVariables false

/-- one block has turned, nothing else -/
structure Turned (g : Nat) (w w' : World) : Prop where
  os : w'.os = w.os
  tape : w'.tape = w.tape
  output : w'.output = w.output
  size : w'.heap.size = w.heap.size
  block : ∀ k, k ≠ g → w'.heap[k]? = w.heap[k]?
section
variable {w w' : World} {b g : Nat} {cs : Array Value} {t : TypeId}
theorem Turned.blk (h : Turned g w w') (hB : Blk w b cs t) (hn : b ≠ g) : Blk w' b cs t := by unfold Blk; rw [h.block b hn]; exact hB
theorem Turned.below {a : World} (h : Turned g w w') (hb : Below a.heap.size a w) (hg : a.heap.size ≤ g) : Below a.heap.size a w' :=
  hb.trans ⟨h.os, h.tape, h.output, Nat.le_of_eq h.size.symm, fun k hk => h.block k (by omega)⟩
theorem Turned.cell (h : Turned g w w') {p : Addr} (hp : p.block ≠ g) : w'.cell? p = w.cell? p := World.cell?_of_block (w := w) (h.block p.block hp)
theorem turned_row (w : World) (g : Nat) (cs : Array Value) : Turned g w (w.setRow g cs) := ⟨rfl, rfl, rfl, by simp, fun k hk => setRow_other w g k cs hk⟩
theorem turned_set (w : World) (a : Addr) (v : Value) : Turned a.block w (w.setCell a v) := ⟨rfl, rfl, rfl, by simp [World.setCell], fun k hk => heap_setCell_other w a k v hk⟩
end
section
variable {P : Program} {ops : Array Oper} {rest : List Oper} {o : Oper} {a : Act} {w : World} {Q : Exit → Act → World → Prop}
theorem wl_alloc (ty : TypeId) (z : Array Value) (hz : ∀ w, (zeroValue ty).run P w = .ok (.agg z) w) (ho : o.op = .alloc ty) (hgd : o.guard = none)
    (h : ∀ W b, Blk W b z ty → w.heap.size ≤ b → Below w.heap.size w W → wpList P ops Q rest (a.put o.dst (.pointer (some ⟨b, 0, none⟩))) W) : wpList P ops Q (o :: rest) a w := by
  refine wpList_plain hgd fun K hK => ?_
  have := h (w.alloc (.cells z ty)) w.heap.size (blk_new w z ty) (Nat.le_refl _) (bq_alloc (bq_refl w) _)
  unfold Oper.wp execOp
  simp only [ho, Instr.alloc, Sem.run_bind, hz, Result.andThen_ok, newVar, newRow, Value.cells]
  exact hK _ _ this
theorem wl_box (ty : TypeId) (x : Operand) (cs : Array Value) (ho : o.op = .box ty x) (hgd : o.guard = none) (hx : a.eval x = .agg cs)
    (h : ∀ W b, Blk W b cs ty → w.heap.size ≤ b → Below w.heap.size w W → wpList P ops Q rest (a.put o.dst (.pointer (some ⟨b, 0, none⟩))) W) : wpList P ops Q (o :: rest) a w := by
  refine wpList_plain hgd fun K hK => ?_
  have := h (w.alloc (.cells cs ty)) w.heap.size (blk_new w cs ty) (Nat.le_refl _) (bq_alloc (bq_refl w) _)
  unfold Oper.wp execOp
  simp only [ho, hx, Instr.box, Sem.run_bind, newVar, newRow, Value.cells]
  exact hK _ _ this
theorem wl_load (ty : TypeId) (n : Nat) (d : TypeDesc) (hu : P.underlying ty = some d) (hd : (match d with | .struct _ | .array _ _ => true | _ => false) = true) (hi : (P.info? ty).map (·.size) = some n)
    (x : Operand) (ho : o.op = .load ty x) (hgd : o.guard = none) (b : Nat) (hx : a.eval x = .pointer (some ⟨b, 0, none⟩)) (cs : Array Value) (t : TypeId) (hB : Blk w b cs t) (hn : cs.size = n)
    (h : wpList P ops Q rest (a.put o.dst (.agg cs)) w) : wpList P ops Q (o :: rest) a w :=
  wpList_load_row hgd ty x ho b hx t cs (0, 0) d hB hu hd (by rw [hi, hn]) h
theorem wlg_load (ty : TypeId) (n : Nat) (d : TypeDesc) (hu : P.underlying ty = some d) (hd : (match d with | .struct _ | .array _ _ => true | _ => false) = true) (hi : (P.info? ty).map (·.size) = some n)
    (x : Operand) (ho : o.op = .load ty x) (hw : Region.wanted o (yielded ops a.tmps) = true) (b : Nat) (hx : a.eval x = .pointer (some ⟨b, 0, none⟩)) (cs : Array Value) (t : TypeId) (hB : Blk w b cs t) (hn : cs.size = n)
    (h : wpList P ops Q rest (a.put o.dst (.agg cs)) w) : wpList P ops Q (o :: rest) a w := by
  refine wpList_step fun K hK => ?_
  rw [if_pos hw]
  exact wp_load_row ty x ho b hx t cs (0, 0) d hB hu hd (by rw [hi, hn]) (hK _ _ h)
theorem wlg_build (ty : TypeId) (ps : List (Nat × Value)) (cs : Array Value) (hb : P.built ty ps = some cs) (parts : Array (Nat × Operand)) (ho : o.op = .build ty parts) (hw : Region.wanted o (yielded ops a.tmps) = true)
    (hps : (parts.toList.map fun (i, x) => (i, a.eval x)) = ps)
    (h : wpList P ops Q rest (a.put o.dst (.agg cs)) w) : wpList P ops Q (o :: rest) a w := by
  refine wpList_step fun K hK => ?_
  rw [if_pos hw]
  rw [← hps, ← Array.toList_map] at hb
  exact wp_build ty parts ho (by rw [hb]; rfl) (by rw [hb]; exact hK _ _ h)
theorem wl_store (ty : TypeId) (n : Nat) (hi : (P.info? ty).map (·.size) = some n)
    (x y : Operand) (ho : o.op = .store ty x y) (hgd : o.guard = none) (b : Nat) (hx : a.eval x = .pointer (some ⟨b, 0, none⟩)) (cs : Array Value) (hy : a.eval y = .agg cs) (old : Array Value) (t : TypeId) (hB : Blk w b old t) (hn : old.size = n) (hn2 : cs.size = n)
    (h1 : cs.all (·.oneCell') = true)
    (h : ∀ W, Blk W b cs t → Turned b w W → wpList P ops Q rest (a.put o.dst undef) W) : wpList P ops Q (o :: rest) a w :=
  wpList_store_row hgd ty x y ho b cs hx hy t old hB (by rw [hi, hn2]) (by rw [hn, hn2]) h1 (h _ (Blk.row hB cs) (turned_row w b cs))
theorem wl_make (t e : TypeId) (i : TypeInfo) (z : Value) (ht : P.underlying t = some (.slice e)) (hi : P.info? e = some i) (hz : i.zero = some z) (h1 : i.size = 1) (h8 : i.bytes ≤ 8) (hc : z.cells = #[z])
    (l c : Operand) (ho : o.op = .makeSlice t l c) (hgd : o.guard = none) (n : Nat) (hl : a.eval l = .int .i64 (n : Int)) (hcc : a.eval c = .int .i64 (n : Int)) (hn : n ≤ 1000000)
    (h : ∀ W b, Blk W b (Array.replicate n z) e → w.heap.size ≤ b → Below w.heap.size w W → wpList P ops Q rest (a.put o.dst (.slice (some ⟨b, 0, none⟩) n n)) W) : wpList P ops Q (o :: rest) a w := by
  refine wpList_plain hgd fun K hK => ?_
  have e1 : madeCells z.cells (n * i.size) = Array.replicate n z := by
    rw [h1, hc]
    unfold madeCells
    apply Array.ext
    · simp
    · intro j hj hj2
      simp [Nat.mod_one]
  have hr := run_make (P := P) w t e i z ht hi hz .i64 .i64 n n (by omega) (by omega) (by
    have h3 : (i.bytes : Int) * (n : Int) ≤ 8 * (n : Int) := Int.mul_le_mul_of_nonneg_right (by omega) (by omega)
    omega) (by omega)
  simp only [Int.toNat_natCast, e1] at hr
  have := h (w.alloc (.cells (Array.replicate n z) e)) w.heap.size (blk_new w _ e) (Nat.le_refl _) (bq_alloc (bq_refl w) _)
  unfold Oper.wp execOp
  simp only [ho, hl, hcc, Sem.run_bind, hr, Result.andThen_ok]
  exact hK _ _ this
end
/-- a result that lies in a block, and one in a slot -/
theorem post_cell_tmp {P : Program} {fn : Func} {p u : Tmp} {ty : TypeId} {a : Act} {W : World} {R : Ending → World → Prop} {n : Nat} {d : TypeDesc}
    (hu : P.underlying ty = some d) (hd : (match d with | .struct _ | .array _ _ => true | _ => false) = true) (hi : (P.info? ty).map (·.size) = some n)
    (hres : fn.results = #[.cell p ty, .tmp u]) {b : Nat} {cs : Array Value} {t : TypeId} (hB : Blk W b cs t) (hn : cs.size = n)
    (hp : a.tmps.getD p undef = .pointer (some ⟨b, 0, none⟩)) {v : Value} (hv : a.tmps.getD u undef = v) (hdf : a.defers = []) (hR : R (.returned (.tuple #[.agg cs, v])) W) : bodyPost P fn R .ret a W := by
  refine bodyPost_ret (v := .tuple #[.agg cs, v]) ?_ hdf hR
  rw [results_cell_tmp hres, hp, hv]
  simp [asAddr, run_loadVar_row W b t ty cs (0, 0) d hB hu hd (by rw [hi, hn])]
theorem post_cell {P : Program} {fn : Func} {p : Tmp} {ty : TypeId} {a : Act} {W : World} {R : Ending → World → Prop} {n : Nat} {d : TypeDesc}
    (hu : P.underlying ty = some d) (hd : (match d with | .struct _ | .array _ _ => true | _ => false) = true) (hi : (P.info? ty).map (·.size) = some n)
    (hres : fn.results = #[.cell p ty]) {b : Nat} {cs : Array Value} {t : TypeId} (hB : Blk W b cs t) (hn : cs.size = n)
    (hp : a.tmps.getD p undef = .pointer (some ⟨b, 0, none⟩)) (hdf : a.defers = []) (hR : R (.returned (.agg cs)) W) : bodyPost P fn R .ret a W :=
  bodyPost_ret (v := .agg cs) (results_cell_row hres a.tmps W b t cs (0, 0) d hp hB hu hd (by rw [hi, hn])) hdf hR
end Go.Proofs.Ytddiccdfeckgaaa
