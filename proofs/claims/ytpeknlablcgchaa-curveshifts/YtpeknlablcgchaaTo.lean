import Derived.Test.YtpeknlablcgchaaS0
import Derived.Maps.AppendAt
import Derived.Laws.MakeOwn
/- Rows of the call's own whose elements are structs of k cells each (or of one). -/
namespace Go.Proofs.Ytpeknlablcgchaa
open Go.RowKit
set_option linter.unusedVariables false

def OwnC (w : World) (B : Nat) (e : TypeId) (k : Nat) (v : Value) (css : List (List Value)) : Prop := w.ownsRow B e k v css.length css.flatten ∧ ∀ c ∈ css, c.length = k
theorem ownC_nil (w : World) (B : Nat) (e : TypeId) (k : Nat) : OwnC w B e k (.slice none 0 0) [] := ⟨World.ownsRow_nil w B e k, fun c hc => by simp at hc⟩
section
variable {w w' : World} {B p q : Nat} {e : TypeId} {k : Nat} {v : Value} {css : List (List Value)}
theorem OwnC.lt (h : OwnC w B e k v css) {g : Nat} (hg : v.ownBlock = some g) : B ≤ g ∧ g < w.heap.size := World.ownsRow.lt h.1 g hg
theorem OwnC.same (h : OwnC w B e k v css) (hs : ∀ g, v.ownBlock = some g → w'.heap[g]? = w.heap[g]?) : OwnC w' B e k v css := by
  refine ⟨⟨h.1.1, ?_⟩, h.2⟩
  rcases h.1.2 with hn | ⟨g, cap, cur, rfl, hb, hgg, rest⟩
  · exact .inl hn
  · exact .inr ⟨g, cap, cur, rfl, hb, by rw [hs g rfl]; exact hgg, rest⟩
theorem OwnC.keep (h : OwnC w B e k v css) (hb : Below w.heap.size w w') : OwnC w' B e k v css := h.same fun g hg => hb.block g (h.lt hg).2
theorem OwnC.but (h : OwnC w B e k v css) (hb : But p q w w') (hp : p < B) (hq : q < B) : OwnC w' B e k v css :=
  h.same fun g hg => hb.block g (h.lt hg).2 (by have := (h.lt hg).1; omega) (by have := (h.lt hg).1; omega)
theorem OwnC.turned (h : OwnC w B e k v css) (hb : Turned p w w') (hp : p < B) : OwnC w' B e k v css :=
  h.same fun g hg => hb.block g (by have := (h.lt hg).1; omega)
theorem OwnC.weaken {B' : Nat} (h : OwnC w B e k v css) (hB : B' ≤ B) : OwnC w B' e k v css := by
  refine ⟨⟨h.1.1, ?_⟩, h.2⟩
  rcases h.1.2 with hn | ⟨g, cap, cur, rfl, hb, rest⟩
  · exact .inl hn
  · exact .inr ⟨g, cap, cur, rfl, by omega, rest⟩
end
theorem flat_at (k : Nat) : ∀ (css : List (List Value)) (h : ∀ c ∈ css, c.length = k) (i : Nat) (hi : i < css.length) (j : Nat) (hj : j < k), css.flatten[i * k + j]? = css[i][j]?
  | [], _, i, hi, _, _ => absurd hi (by simp)
  | c :: css, h, 0, hi, j, hj => by
    have hc : c.length = k := h c (by simp)
    rw [List.flatten_cons, List.getElem?_append_left (by omega)]
    simp
  | c :: css, h, i + 1, hi, j, hj => by
    have hc : c.length = k := h c (by simp)
    have e : (i + 1) * k = i * k + k := Nat.succ_mul i k
    rw [List.flatten_cons, List.getElem?_append_right (by omega)]
    have e2 : (i + 1) * k + j - c.length = i * k + j := by omega
    rw [e2, flat_at k css (fun x hx => h x (by simp [hx])) i (by simpa using hi) j hj]
    simp
/-- what such a row reads as -/
theorem OwnC.sl {α : Type} {R : World → List Value → α → Prop} {w : World} {B : Nat} {e : TypeId} {k : Nat} {v : Value} {css : List (List Value)} {xs : List α} (h : OwnC w B e k v css) (hl : css.length = xs.length)
    (hR : ∀ i (h1 : i < css.length) (h2 : i < xs.length), R w css[i] xs[i]) : Sl w k R v xs := by
  rcases h.1.2 with ⟨rfl, h0⟩ | ⟨g, cap, cur, rfl, hB, hg, hn, hm, hs, ht⟩
  · have : xs = [] := List.eq_nil_of_length_eq_zero (by omega)
    subst this
    exact sl_nil w k R
  · refine ⟨some ⟨g, 0, none⟩, cap, g, 0, by rw [hl], by rw [← hl]; unfold maxLen at hm; omega, Or.inr ⟨rfl, (Array.getElem?_eq_some_iff.1 hg).1⟩, fun i hi => ?_⟩
    have hi' : i < css.length := by omega
    have hc : css[i].length = k := h.2 _ (List.getElem_mem hi')
    refine ⟨css[i], hc, hR i hi' hi, fun j u hj => ?_⟩
    have hjk : j < k := by rw [← hc]; exact (List.getElem?_eq_some_iff.1 hj).1
    rw [cell_of_row w g _ cur e (0, 0) hg]
    have e1 := flat_at k css h.2 i hi' j hjk
    rw [hj, ← ht] at e1
    have hlt : i * k + j < css.length * k := by
      have : (i + 1) * k ≤ css.length * k := Nat.mul_le_mul_right k (by omega)
      rw [Nat.succ_mul] at this
      omega
    rw [List.getElem?_take_of_lt hlt, Array.getElem?_toList] at e1
    simpa using e1
section
variable {ops : Array Oper} {rest : List Oper} {o : Oper} {a : Act} {w : World} {Q : Exit → Act → World → Prop}
/-- one element behind such a row -/
theorem wl_appC (t e : TypeId) (k : Nat) (z : Value) (ht : Try.prog.underlying t = some (.slice e)) (hi : (Try.prog.info? e).map (fun i => (i.zero, i.size, decide (i.bytes ≤ 1000))) = some (some z, k, true)) (hz : z.cells.size = k) (hk : 0 < k)
    (s x : Operand) (ho : o.op = .call { callee := .builtin .append, args := #[s, x], argTypes := #[t, t] }) (hgd : o.guard = none)
    (B : Nat) (v : Value) (hs : a.eval s = v) (css : List (List Value)) (hown : OwnC w B e k v css) (g c : Nat) (cs : Array Value) (t' : TypeId) (hx : a.eval x = .slice (some ⟨g, 0, none⟩) 1 c) (hB : Blk w g cs t') (hc : cs.size = k) (h1 : cs.all (·.oneCell') = true)
    (hn : css.length ≤ 1000000) (hBw : B ≤ w.heap.size)
    (h : ∀ v' w', OwnC w' B e k v' (css ++ [cs.toList]) → Below B w w' → w.grownBy w' v.ownBlock → (v'.ownBlock = v.ownBlock ∨ v'.ownBlock = some w.heap.size) → wpList Try.prog ops Q rest (a.put o.dst v') w') : wpList Try.prog ops Q (o :: rest) a w := by
  obtain ⟨i0, hi, h2⟩ := Option.map_eq_some_iff.1 hi
  have hz0 : i0.zero = some z := congrArg (·.1) h2
  have hz1 : i0.size = k := congrArg (·.2.1) h2
  have hz2 : i0.bytes ≤ 1000 := by simpa using congrArg (·.2.2) h2
  refine wpList_append_own_at w hgd s x t ho B e i0 z k i0.bytes ht hi hz0 hz1 rfl hz hk v css.length css.flatten hs hown.1 ⟨g, 0, none⟩ 1 c cs.toList hx (by rw [Array.length_toList, hc, Nat.one_mul]) ?_ ?_ ?_ ?_ hBw ?_
  · intro j u hj
    rw [Addr.add_mid, Nat.zero_add, hB.cell]
    simpa using hj
  · intro u hu
    exact Array.all_eq_true_iff_forall_mem.1 h1 u (by simpa using hu)
  · unfold maxLen; omega
  · have : (css.length + 1) * i0.bytes ≤ 1000001 * 1000 := Nat.mul_le_mul (by omega) hz2
    omega
  · intro v' w' h3 h4 _ h6
    refine h v' w' ⟨?_, ?_⟩ ⟨h4.os, h4.tape, h4.output, h4.size, fun i hi => h4.block i (by omega) (by
      intro e
      have := (World.ownsRow.lt hown.1 i e.symm).1
      omega)⟩ h4 h6
    · rw [List.length_append, List.flatten_append]
      simpa using h3
    · intro c hc2
      rcases List.mem_append.1 hc2 with hc2 | hc2
      · exact hown.2 c hc2
      · simp only [List.mem_singleton] at hc2
        rw [hc2, Array.length_toList, hc]
end
theorem OwnC.one {w : World} {B : Nat} {e : TypeId} {k : Nat} {v : Value} {css : List (List Value)} (h : OwnC w B e k v css) : v.oneCell' = true := by
  rcases h.1.2 with ⟨rfl, _⟩ | ⟨g, cap, cur, rfl, _⟩ <;> rfl
theorem OwnC.slice {w : World} {B : Nat} {e : TypeId} {k : Nat} {v : Value} {css : List (List Value)} (h : OwnC w B e k v css) : ∃ a c, v = .slice a css.length c := by
  rcases h.1.2 with ⟨rfl, h0⟩ | ⟨g, cap, cur, rfl, _⟩
  · exact ⟨none, 0, by rw [h0]⟩
  · exact ⟨_, cap, rfl⟩
theorem OwnC.len {w : World} {B : Nat} {e : TypeId} {k : Nat} {v : Value} {css : List (List Value)} (h : OwnC w B e k v css) : css.length ≤ maxLen := by
  rcases h.1.2 with ⟨rfl, h0⟩ | ⟨g, cap, cur, rfl, _, _, h1, h2, _⟩
  · rw [h0]; exact Nat.zero_le _
  · omega
theorem OwnC.gone {w w' : World} {B q : Nat} {e : TypeId} {k : Nat} {v : Value} {css : List (List Value)} (h : OwnC w B e k v css) (hb : But q q w w') (hq : ∀ g, v.ownBlock = some g → g ≠ q) : OwnC w' B e k v css :=
  h.same fun g hg => hb.block g (h.lt hg).2 (hq g hg) (hq g hg)
theorem Turned.gone {w w' : World} {q : Nat} (h : Turned q w w') : But q q w w' := ⟨h.os, h.tape, h.output, Nat.le_of_eq h.size.symm, fun k _ h1 _ => h.block k h1⟩
/-- the heap is no smaller than M -/
structure SzM (w : World) (B M : Nat) : Prop where
  le : M ≤ w.heap.size
theorem SzM.keep {w w' : World} {B M : Nat} (h : SzM w B M) (hb : Below w.heap.size w w') : SzM w' B M := ⟨Nat.le_trans h.le hb.size⟩
theorem SzM.turned {w w' : World} {B M q : Nat} (h : SzM w B M) (hb : Turned q w w') (_ : q < B ∨ M ≤ q) : SzM w' B M := ⟨by rw [hb.size]; exact h.le⟩
theorem SzM.but {w w' : World} {B M q : Nat} (h : SzM w B M) (hb : But q q w w') (_ : q < B ∨ M ≤ q) : SzM w' B M := ⟨Nat.le_trans h.le hb.size⟩
/-- such a row on the way through a round: its block lies below M -/
def OwnCm (w : World) (B M : Nat) (e : TypeId) (k : Nat) (v : Value) (css : List (List Value)) : Prop := OwnC w B e k v css ∧ ∀ g, v.ownBlock = some g → g < M
section
variable {w w' : World} {B M q : Nat} {e : TypeId} {k : Nat} {v : Value} {css : List (List Value)}
theorem OwnC.m (h : OwnC w B e k v css) : OwnCm w B w.heap.size e k v css := ⟨h, fun g hg => (h.lt hg).2⟩
theorem OwnCm.keep (h : OwnCm w B M e k v css) (hb : Below w.heap.size w w') : OwnCm w' B M e k v css := ⟨h.1.keep hb, h.2⟩
theorem OwnCm.but (h : OwnCm w B M e k v css) (hb : But q q w w') (hq : q < B ∨ M ≤ q) : OwnCm w' B M e k v css :=
  ⟨h.1.gone hb fun g hg => by have := (h.1.lt hg).1; have := h.2 g hg; omega, h.2⟩
theorem OwnCm.turned (h : OwnCm w B M e k v css) (hb : Turned q w w') (hq : q < B ∨ M ≤ q) : OwnCm w' B M e k v css := h.but hb.gone hq
end
section
variable {ops : Array Oper} {rest : List Oper} {o : Oper} {a : Act} {w : World} {Q : Exit → Act → World → Prop}
/-- make([]E, 0, c) -/
theorem wl_room (t e : TypeId) (k : Nat) (z : Value) (ht : Try.prog.underlying t = some (.slice e)) (hi : (Try.prog.info? e).map (fun i => (i.zero, i.size, decide (i.bytes ≤ 1000))) = some (some z, k, true))
    (l c : Operand) (ho : o.op = .makeSlice t l c) (hgd : o.guard = none) (n : Int) (hl : a.eval l = .int .i64 0) (hcc : a.eval c = .int .i64 n) (h0 : 0 ≤ n) (hn : n ≤ 1000000) (hz : 0 < z.cells.size)
    (h : ∀ W b, OwnC W w.heap.size e k (.slice (some ⟨b, 0, none⟩) 0 n.toNat) [] → Below w.heap.size w W → wpList Try.prog ops Q rest (a.put o.dst (.slice (some ⟨b, 0, none⟩) 0 n.toNat)) W) : wpList Try.prog ops Q (o :: rest) a w := by
  obtain ⟨i0, hi, h2⟩ := Option.map_eq_some_iff.1 hi
  have hz0 : i0.zero = some z := congrArg (·.1) h2
  have hz1 : i0.size = k := congrArg (·.2.1) h2
  have hz2 : i0.bytes ≤ 1000 := by simpa using congrArg (·.2.2) h2
  refine wpList_plain hgd fun K hK => ?_
  have hr := run_make (P := Try.prog) w t e i0 z ht hi hz0 .i64 .i64 0 n (by omega) h0 (by
    have h3 : (i0.bytes : Int) * n ≤ 1000 * n := Int.mul_le_mul_of_nonneg_right (by omega) h0
    omega) (by omega)
  have hcs : (madeCells z.cells (n.toNat * i0.size)).size = n.toNat * k := by rw [hz1]; simp [madeCells]
  generalize madeCells z.cells (n.toNat * i0.size) = cs at hr hcs
  have := h (w.alloc (.cells cs e)) w.heap.size ⟨⟨by simp, .inr ⟨w.heap.size, n.toNat, cs, rfl, Nat.le_refl _, heap_alloc_new w _, Nat.zero_le _, by unfold maxLen; omega, hcs, by simp⟩⟩, fun c hc => by simp at hc⟩ (bq_alloc (bq_refl w) _)
  unfold Oper.wp execOp
  simp only [ho, hl, hcc, Sem.run_bind, hr, Result.andThen_ok]
  exact hK _ _ this
end
/-- a row of strings of the call's own, in memory -/
theorem own_strs {w : World} {B : Nat} {e : TypeId} {v : Value} {xs : List ByteArray} (h : OwnC w B e 1 v (xs.map fun x => [Value.string x])) (h0 : 0 < xs.length) :
    ∃ g c, v = .slice (some ⟨g, 0, none⟩) xs.length c ∧ g < w.heap.size ∧ xs.length ≤ c ∧ ∀ (j : Nat) x, xs[j]? = some x → w.cell? ⟨g, 0 + j, none⟩ = some (.string x) := by
  have hs : Sl w 1 (fun _ cs x => cs = [Value.string x]) v xs := h.sl (by simp) fun i h1 h2 => by simp
  rcases h.1.2 with ⟨rfl, hn⟩ | ⟨g, cap, cur, rfl, _, hg, hc, _⟩
  · rw [List.length_map] at hn; omega
  · rw [List.length_map] at hc
    refine ⟨g, cap, by rw [List.length_map], (Array.getElem?_eq_some_iff.1 hg).1, hc, fun j x hj => ?_⟩
    obtain ⟨a, c, b, o, hv, _, hx⟩ := hs.get
    obtain ⟨hj1, hj2⟩ := List.getElem?_eq_some_iff.1 hj
    obtain ⟨ha, _, cs, _, hcs, hr⟩ := hx j hj1
    simp only [Value.slice.injEq] at hv
    rw [ha] at hv
    obtain ⟨hv, _⟩ := hv
    simp only [Option.some.injEq, Addr.mk.injEq, and_true] at hv
    obtain ⟨rfl, rfl⟩ := hv
    have := hr 0 (.string xs[j]) (by rw [hcs]; rfl)
    rw [Nat.mul_one, Nat.add_zero] at this
    rw [this, hj2]
end Go.Proofs.Ytpeknlablcgchaa
