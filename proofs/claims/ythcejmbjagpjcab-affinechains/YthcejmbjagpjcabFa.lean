import Derived.Test.YthcejmbjagpjcabFm
import Derived.Laws.AppendOwn
import Derived.OwnWalk
import Derived.Deep.OwnRows
import Derived.Laws.MakeOwn
import Derived.KernelRfl
import Derived.ChangeKeysEq
/- Numbers behind a row of the call's own; arrays that are the same. -/
namespace Go.Proofs.Ythcejmbjagpjcab
open Go.RowKit
set_option linter.unusedVariables false

/-- numbers as cells -/
def iL (l : List Int) : List Value := l.map (Value.int .i64 ·)
theorem iL_app (l m : List Int) : iL l ++ iL m = iL (l ++ m) := by simp [iL]
theorem iL_len (l : List Int) : (iL l).length = l.length := by simp [iL]
theorem iL_at (l : List Int) (j : Nat) (v : Value) (h : (iL l)[j]? = some v) : ∃ hj : j < l.length, v = .int .i64 l[j] := by
  simp only [iL, List.getElem?_map, Option.map_eq_some_iff] at h
  obtain ⟨z, hz, rfl⟩ := h
  obtain ⟨hj, rfl⟩ := List.getElem?_eq_some_iff.1 hz
  exact ⟨hj, rfl⟩
def OwnI (w : World) (B : Nat) (v : Value) (l : List Int) : Prop := w.ownsRow B 3 1 v l.length (iL l)
theorem ownI_nil (w : World) (B : Nat) : OwnI w B (.slice none 0 0) [] := World.ownsRow_nil w B 3 1
/-- the row as numbers that a slice reads as -/
theorem OwnI.ints {w : World} {B : Nat} {v : Value} {l : List Int} (h : OwnI w B v l) (hb : ∀ z ∈ l, -9223372036854775808 ≤ z ∧ z ≤ 9223372036854775807) : ∃ a b c, v = .slice a l.length c ∧ Ints w l a b 0 := by
  rcases h.2 with ⟨rfl, h0⟩ | ⟨g, cap, cur, rfl, _, h2, _, _, h5, h6⟩
  · have : l = [] := List.eq_nil_of_length_eq_zero h0
    subst this
    exact ⟨none, 0, 0, rfl, Or.inl rfl, fun i hi => absurd hi (by simp), fun i hi => absurd hi (by simp)⟩
  · refine ⟨_, g, cap, rfl, Or.inr rfl, fun i hi => hb _ (List.getElem_mem hi), fun i hi => ?_⟩
    have hB : Blk w g cur 3 := h2
    rw [Nat.zero_add, hB.cell i]
    have e : (cur.toList.take (l.length * 1))[i]? = some (.int .i64 l[i]) := by rw [h6]; simp [iL, hi]
    rw [List.getElem?_take_of_lt (by omega)] at e
    rw [← Array.getElem?_toList]
    exact e
theorem OwnI.keep {w w' : World} {B : Nat} {v : Value} {l : List Int} (h : OwnI w B v l) (k : Below w.heap.size w w') : OwnI w' B v l :=
  World.ownsRow.kept (row := none) h ⟨k.os, k.tape, k.output, k.size, fun i hi _ => k.block i hi⟩ (by cases hv : v.ownBlock <;> simp)
section
variable {ops : Array Oper} {rest : List Oper} {o : Oper} {a : Act} {w : World} {Q : Exit → Act → World → Prop}
theorem wl_appI (s x : Operand) (ho : o.op = .call { callee := .builtin .append, args := #[s, x], argTypes := #[49, 49] }) (hgd : o.guard = none)
    (B : Nat) (v : Value) (hs : a.eval s = v) (zs : List Int) (hown : OwnI w B v zs) (l : List Int) (g k c m : Nat) (hx : a.eval x = .slice (some ⟨g, k, none⟩) m c) (hm : l.length = m) (hI : ∀ i (h : i < l.length), w.cell? ⟨g, k + i, none⟩ = some (.int .i64 l[i]))
    (hn : zs.length + l.length ≤ 1000000) (hB : B ≤ w.heap.size)
    (h : ∀ v' w', OwnI w' B v' (zs ++ l) → Below B w w' → wpList Try.prog ops Q rest (a.put o.dst v') w') : wpList Try.prog ops Q (o :: rest) a w := by
  subst hm
  obtain ⟨i0, hi, h2⟩ := Option.map_eq_some_iff.1 int_info
  have hz0 : i0.zero = some (.int .i64 0) := congrArg (·.1) h2
  have hz1 : i0.size = 1 := congrArg (·.2.1) h2
  have hz2 : i0.bytes = 8 := congrArg (·.2.2) h2
  refine wpList_append_own _ hgd s x 49 ho B 3 i0 (.int .i64 0) 1 8 Try.underlying49 hi hz0 hz1 hz2 rfl (by decide) v zs.length (iL zs) hs hown ⟨g, k, none⟩ l.length c (iL l) hx (by rw [iL_len]; omega) ?_ ?_ ?_ ?_ hB ?_
  · intro j u hj
    obtain ⟨hj2, rfl⟩ := iL_at l j u hj
    rw [Addr.add_mid]
    exact hI j hj2
  · intro u hu
    simp only [iL, List.mem_map] at hu
    obtain ⟨z, _, rfl⟩ := hu
    rfl
  · unfold maxLen; omega
  · omega
  · intro v' w' h1 h2 _
    have h1' : OwnI w' B v' (zs ++ l) := by
      unfold OwnI
      rw [← iL_app, List.length_append]
      exact h1
    exact h v' w' h1' ⟨h2.os, h2.tape, h2.output, h2.size, fun i hi => h2.block i (by omega) (by
      intro e
      have := (World.ownsRow.lt hown i e.symm).1
      omega)⟩
end
/-- arrays of numbers that are the same -/
theorem ints_nil (w : World) : Ints w [] none 0 0 := ⟨Or.inl rfl, fun i hi => absurd hi (by simp), fun i hi => absurd hi (by simp)⟩
theorem cells3 : Try.prog.cellsOf 3 = 1 := by kernel_rfl
theorem eqItems_ints (l m : List Int) (d : Nat) (w : World) : ∀ is : List Nat, (∀ i ∈ is, i < l.length ∧ i < m.length) → (Op.eqItems (d + 1) 3 1 (iA l) (iA m) is).run Try.prog w = .ok (is.all fun n => l[n]? == m[n]?) w
  | [], _ => by simp [Op.eqItems]
  | i :: is, h => by
    obtain ⟨hi, hi2⟩ := h i (by simp)
    have p1 : (part 3 (iA l) (i * 1)).run Try.prog w = .ok (.int .i64 l[i]) w := by simp [part, iA_at l i hi]
    have p2 : (part 3 (iA m) (i * 1)).run Try.prog w = .ok (.int .i64 m[i]) w := by simp [part, iA_at m i hi2]
    have p3 : (Op.equalIn (d + 1) 3 (.int .i64 l[i]) (.int .i64 m[i])).run Try.prog w = .ok (l[i] == m[i]) w := run_equalIn_int w d 3 .i64 .i64 _ _ Try.underlying3
    have ih := eqItems_ints l m d w is (fun j hj => h j (by simp [hj]))
    simp only [Op.eqItems, Sem.run_bind, p1, p2, p3, Result.andThen_ok]
    by_cases e : l[i] = m[i]
    · simp [ih, e, hi, hi2]
    · have e1 : (l[i] == m[i]) = false := by rw [beq_eq_false_iff_ne]; exact e
      simp [e1, hi, hi2]
end Go.Proofs.Ythcejmbjagpjcab
