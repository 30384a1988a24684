import Derived.Test.YtddiccdfeckgaaaQ2
import Derived.Test.YtddiccdfeckgaaaQ5
import Derived.Deep.RegionLaw
/- Layer 6: a packer in memory. -/
namespace Go.Proofs.Ytddiccdfeckgaaa
open Go.RowKit
set_option maxRecDepth 100000
set_option linter.unusedVariables false
set_option linter.unusedSimpArgs false
section
variable {ops : Array Oper} {rest : List Oper} {o : Oper} {a : Act} {Q : Exit → Act → World → Prop}
theorem wl_appendq {W w' : World} {v x v' : Value} {t u : TypeId} (hgd : o.guard = none) (sx xx : Operand) (ho : o.op = .call { callee := .builtin .append, args := #[sx, xx], argTypes := #[t, u] })
    (hs : a.eval sx = v) (hx : a.eval xx = x) (hrun : (Builtin.append_ #[t, u] o.type #[v, x]).run Try.prog W = .ok v' w') (h : wpList Try.prog ops Q rest (a.put o.dst v') w') : wpList Try.prog ops Q (o :: rest) a W := by
  refine wpList_plain hgd fun K hK => ?_
  unfold Oper.wp execOp
  simp only [ho, resolve, invoke, builtin, Sem.run_bind, Sem.run_pure, Result.andThen_ok, List.map_toArray, List.map_cons, List.map_nil, hs, hx, hrun]
  exact hK _ _ h
theorem step_append_q {W w' : World} {v x v' : Value} {t u : TypeId} {K : Act → World → Prop} {E : Prop} (hgd : o.guard = none) (sx xx : Operand) (ho : o.op = .call { callee := .builtin .append, args := #[sx, xx], argTypes := #[t, u] })
    (hs : a.eval sx = v) (hx : a.eval xx = x) (hrun : (Builtin.append_ #[t, u] o.type #[v, x]).run Try.prog W = .ok v' w') (h : K (a.put o.dst v') w') :
    if Region.wanted o (yielded ops a.tmps) = true then Oper.wp Try.prog o a W K Q else E := by
  have hw : Region.wanted o (yielded ops a.tmps) = true := by simp [Region.wanted, hgd]
  rw [if_pos hw]
  unfold Oper.wp execOp
  simp only [ho, resolve, invoke, builtin, Sem.run_bind, Sem.run_pure, Result.andThen_ok, List.map_toArray, List.map_cons, List.map_nil, hs, hx, hrun]
  exact h
end
def byQ (l : List UInt8) : List Value := l.map fun c => Value.int .u8 (c.toNat : Int)
theorem byQ_app (l m : List UInt8) : byQ (l ++ m) = byQ l ++ byQ m := by simp [byQ]
theorem byQ_at (l : List UInt8) (i : Nat) (h : i < l.length) : (byQ l)[i]? = some (.int .u8 (l[i].toNat : Int)) := by simp [byQ, h]
/-- bytes of the call's own -/
def RB (w : World) (B : Nat) (sl : Value) (out : List UInt8) : Prop := w.ownsRow B 5 1 sl out.length (byQ out)
/-- what a call keeps: all but the packer's block and that of its bytes -/
structure Kb (b : Nat) (sl : Value) (w w' : World) (sl' : Value) : Prop where
  os : w'.os = w.os
  tape : w'.tape = w.tape
  output : w'.output = w.output
  size : w.heap.size ≤ w'.heap.size
  block : ∀ k, k < w.heap.size → k ≠ b → sl.ownBlock ≠ some k → w'.heap[k]? = w.heap[k]?
  own : sl'.ownBlock = sl.ownBlock ∨ ∀ k, sl'.ownBlock = some k → w.heap.size ≤ k
section
variable {b B : Nat} {sl sl' sl'' : Value} {w w' w'' : World} {out : List UInt8}
theorem RB.keep (h : RB w B sl out) (k : Below w.heap.size w w') : RB w' B sl out :=
  World.ownsRow.kept h (row := none) ⟨k.os, k.tape, k.output, k.size, fun i hi _ => k.block i hi⟩ (by cases hv : sl.ownBlock <;> simp)
theorem RB.turned {g : Nat} (h : RB w B sl out) (k : Turned g w w') (hg : sl.ownBlock ≠ some g) : RB w' B sl out :=
  World.ownsRow.kept h (row := some g) ⟨k.os, k.tape, k.output, by have := k.size; omega, fun i hi hn => k.block i (fun e => hn (by rw [e]))⟩ (Or.inr hg)
theorem RB.len (h : RB w B sl out) : ∃ a c, sl = .slice a out.length c ∧ out.length ≤ c := by
  rcases h.2 with ⟨rfl, h0⟩ | ⟨g, cap, cur, rfl, _, _, h3, _⟩
  · exact ⟨none, 0, by rw [h0], by omega⟩
  · exact ⟨_, cap, rfl, h3⟩
theorem RB.lt (h : RB w B sl out) (k : Nat) (hk : sl.ownBlock = some k) : B ≤ k ∧ k < w.heap.size := World.ownsRow.lt h k hk
theorem RB.nil (w : World) (B : Nat) : RB w B (.slice none 0 0) [] := World.ownsRow_nil w B 5 1
theorem RB.str (h : RB w B sl out) : (convert 38 9 sl).run Try.prog w = .ok (.string (bs out)) w := by
  rcases h.2 with ⟨rfl, h0⟩ | ⟨g, cap, cur, rfl, _, _, h3, _⟩
  · have : out = [] := List.eq_nil_of_length_eq_zero h0
    subst this
    exact run_convert_bytes_nil (P := Try.prog) w 38 5 Try.underlying38 Try.underlying5 0 0 9 Try.underlying9
  · refine run_convert_bytes_back (P := Try.prog) w 38 9 5 ⟨g, 0, none⟩ cap out Try.underlying38 Try.underlying5 Try.underlying9 (fun j hj => ?_)
    exact World.ownsRow.cells h (g := g) rfl j _ (byQ_at out j hj)
theorem RB.push {W : World} (h : RB w B sl out) (hB : B ≤ w.heap.size) (hoh : Hid (out.length ≤ 1048576)) (hW : Below w.heap.size w W) {g : Nat} (c : UInt8) (hc : W.heap[g]? = some (.cells #[.int .u8 (c.toNat : Int)] 5 (0, 0))) (ty : TypeId) :
    ∃ aa nn cc w', (Builtin.append_ #[38, 38] ty #[sl, .slice (some ⟨g, 0, none⟩) 1 1]).run Try.prog W = .ok (.slice aa nn cc) w' ∧
      Hid (RB w' B (.slice aa nn cc) (out ++ [c]) ∧ W.grownBy w' sl.ownBlock ∧ ((Value.slice aa nn cc).ownBlock = sl.ownBlock ∨ (Value.slice aa nn cc).ownBlock = some W.heap.size)) := by
  have ho := hoh.out
  obtain ⟨i0, hi, hz0, hz1, hz2⟩ := info_parts info5
  have u := h.keep hW
  obtain ⟨sl', w', hr, h2, h3, _, h5⟩ := run_append_own_at (P := Try.prog) W B 38 ty 5 i0 (.int .u8 0) 1 1 Try.underlying38 hi hz0 hz1 hz2 rfl (by decide) sl out.length (byQ out) u ⟨g, 0, none⟩ 1 1 [.int .u8 (c.toNat : Int)] rfl
    (World.news_of_block (cs := #[.int .u8 (c.toNat : Int)]) hc) (by simp [Value.oneCell']) (by unfold maxLen; omega) (by omega) (by have := hW.size; omega)
  have h2' : RB w' B sl' (out ++ [c]) := by unfold RB; rw [byQ_app, List.length_append]; exact h2
  obtain ⟨aa, cc, rfl, _⟩ := h2'.len
  exact ⟨aa, _, cc, w', hr, Lib.hid ⟨h2', h3, h5⟩⟩
theorem Kb.refl (b : Nat) (sl : Value) (w : World) : Kb b sl w w sl := ⟨rfl, rfl, rfl, Nat.le_refl _, fun _ _ _ _ => rfl, Or.inl rfl⟩
theorem Kb.trans (h : Kb b sl w w' sl') (k : Kb b sl' w' w'' sl'') : Kb b sl w w'' sl'' := by
  refine ⟨k.os.trans h.os, k.tape.trans h.tape, k.output.trans h.output, Nat.le_trans h.size k.size, fun i hi hb hs => ?_, ?_⟩
  · rw [k.block i (by have := h.size; omega) hb, h.block i hi hb hs]
    rcases h.own with e | e
    · rw [e]; exact hs
    · intro e2; have := e i e2; omega
  · rcases k.own with e | e
    · rw [e]; exact h.own
    · right; intro i hi; have := e i hi; have := h.size; omega
theorem Kb.of_below (b : Nat) (sl : Value) (h : Below w.heap.size w w') : Kb b sl w w' sl := ⟨h.os, h.tape, h.output, h.size, fun k hk _ _ => h.block k hk, Or.inl rfl⟩
theorem Kb.of_turned (sl : Value) (h : Turned b w w') : Kb b sl w w' sl := ⟨h.os, h.tape, h.output, by have := h.size; omega, fun k hk h1 _ => h.block k h1, Or.inl rfl⟩
theorem Kb.below (h : Kb b sl w w' sl') (hb : B ≤ b) (hs : ∀ k, sl.ownBlock = some k → B ≤ k) (hB : B ≤ w.heap.size) : Below B w w' :=
  ⟨h.os, h.tape, h.output, h.size, fun k hk => h.block k (by omega) (by omega) (fun e => by have := hs k e; omega)⟩
theorem Kb.blk (h : Kb b sl w w' sl') {g : Nat} {cs : Array Value} {t : TypeId} (hB : Blk w g cs t) (h1 : g ≠ b) (h2 : sl.ownBlock ≠ some g) : Blk w' g cs t := by
  unfold Blk; rw [h.block g hB.lt h1 h2]; exact hB
theorem Kb.push (h : Kb b sl w w' sl') (hg : w'.grownBy w'' sl'.ownBlock) (hat : sl''.ownBlock = sl'.ownBlock ∨ sl''.ownBlock = some w'.heap.size) : Kb b sl w w'' sl'' := by
  refine ⟨hg.os.trans h.os, hg.tape.trans h.tape, hg.output.trans h.output, Nat.le_trans h.size hg.size, fun i hi h1 h2 => ?_, ?_⟩
  · rw [hg.block i (by have := h.size; omega) (fun e => ?_), h.block i hi h1 h2]
    rcases h.own with e2 | e2
    · exact h2 (by rw [← e2, e])
    · have := e2 i e.symm; omega
  · rcases hat with e | e
    · rw [e]; exact h.own
    · right; intro i hi; rw [e] at hi; injection hi with hi; have := h.size; omega
end
/-- a packer's cells -/
def pkA (sl : Value) (h c : Nat) : Array Value := #[sl, .int .i64 (h : Int), .int .i64 (c : Int)]
theorem sizePk : (Try.prog.info? 40).map (·.size) = some 3 := by kernel_rfl
theorem zeroPk (w : World) : (zeroValue 40).run Try.prog w = .ok (.agg (pkA (.slice none 0 0) 0 0)) w := Try.zeroValue40 w
/-- a packer in block b, with bits that are not written yet -/
structure Pq (w : World) (B b : Nat) (sl : Value) (o : List UInt8) (R : List Nat) : Prop where
  blk : Blk w b (pkA sl (D.val R) R.length) 40
  own : RB w B sl o
  far : sl.ownBlock ≠ some b
  base : B ≤ w.heap.size
  bit : ∀ x ∈ R, x < 2
section
variable {w w' : World} {B b : Nat} {sl : Value} {o : List UInt8} {R R' : List Nat}
theorem Pq.cells (h : Pq w B b sl o R) : w.cell? ⟨b, 0, none⟩ = some sl ∧ w.cell? ⟨b, 1, none⟩ = some (.int .i64 (D.val R : Int)) ∧ w.cell? ⟨b, 2, none⟩ = some (.int .i64 (R.length : Int)) ∧ w.frozen? ⟨b, 0, none⟩ = false ∧ w.frozen? ⟨b, 1, none⟩ = false ∧ w.frozen? ⟨b, 2, none⟩ = false :=
  ⟨h.blk.cell 0, h.blk.cell 1, h.blk.cell 2, h.blk.frozen 0, h.blk.frozen 1, h.blk.frozen 2⟩
theorem Pq.keep (h : Pq w B b sl o R) (k : Below w.heap.size w w') : Pq w' B b sl o R := ⟨h.blk.keep k, h.own.keep k, h.far, Nat.le_trans h.base k.size, h.bit⟩
theorem Pq.turned {g : Nat} (h : Pq w B b sl o R) (k : Turned g w w') (h1 : g ≠ b) (h2 : sl.ownBlock ≠ some g) : Pq w' B b sl o R := ⟨k.blk h.blk (Ne.symm h1), h.own.turned k h2, h.far, by have := h.base; have := k.size; omega, h.bit⟩
theorem Pq.lay (h : Pq w B b sl o R) (k : Turned b w w') (hB : Blk w' b (pkA sl (D.val R') R'.length) 40) (hb : ∀ x ∈ R', x < 2) : Pq w' B b sl o R' := ⟨hB, h.own.turned k h.far, h.far, by have := h.base; have := k.size; omega, hb⟩
end
/-- a packer: bits that were written -/
def Pk (w : World) (B b : Nat) (sl : Value) (L : List Nat) : Prop := Pq w B b sl (D.bytesOf L) (D.restOf L) ∧ ∀ x ∈ L, x < 2
/-- one byte more -/
theorem Pq.push {w W : World} {B b : Nat} {sl : Value} {o : List UInt8} {R : List Nat} (h : Pq w B b sl o R) (hoh : Hid (o.length ≤ 1048576)) (hW : Below w.heap.size w W) {g : Nat} (c : UInt8) (hc : W.heap[g]? = some (.cells #[.int .u8 (c.toNat : Int)] 5 (0, 0))) (ty : TypeId) :
    ∃ aa nn cc w', (Builtin.append_ #[38, 38] ty #[sl, .slice (some ⟨g, 0, none⟩) 1 1]).run Try.prog W = .ok (.slice aa nn cc) w' ∧ w'.cell? ⟨b, 0, none⟩ = some sl ∧ w'.frozen? ⟨b, 0, none⟩ = false ∧
      Hid (Pq (w'.setCell ⟨b, 0, none⟩ (.slice aa nn cc)) B b (.slice aa nn cc) (o ++ [c]) R ∧ Kb b sl w (w'.setCell ⟨b, 0, none⟩ (.slice aa nn cc)) (.slice aa nn cc)) := by
  obtain ⟨aa, nn, cc, w', hr, HF⟩ := h.own.push h.base hoh hW c hc ty
  obtain ⟨h1, hg, hat⟩ := HF.out
  have l4 := h.blk.lt
  have z1 := hW.size
  have hb4 : Blk w' b (pkA sl (D.val R) R.length) 40 := by
    unfold Blk; rw [hg.block b (by omega) (Ne.symm h.far)]; exact h.blk.keep hW
  have f4 : (Value.slice aa nn cc).ownBlock ≠ some b := by
    rcases hat with e | e
    · rw [e]; exact h.far
    · rw [e]; intro e2; injection e2 with e2; omega
  have hT := turned_set w' ⟨b, 0, none⟩ (.slice aa nn cc)
  refine ⟨aa, nn, cc, w', hr, hb4.cell 0, hb4.frozen 0, Lib.hid ⟨⟨hb4.set 0 _, h1.turned hT f4, f4, ?_, h.bit⟩, ?_⟩⟩
  · have := h.base; have := hg.size; have := hT.size; omega
  · exact ((Kb.of_below b sl hW).push hg hat).trans (Kb.of_turned _ hT)
end Go.Proofs.Ytddiccdfeckgaaa
