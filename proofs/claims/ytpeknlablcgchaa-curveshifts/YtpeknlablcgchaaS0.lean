import Derived.Test.YtpeknlablcgchaaFm
import Derived.Deep.MidRow
import Derived.Deep.Slices
import Derived.Laws.AppendOwn
import Derived.OwnWalk
/- Slices of structs, wherever they lie: what they read as. R says what an element's cells read as. -/
namespace Go.Proofs.Ytpeknlablcgchaa
open Go.RowKit Go.WideShapes Go.ChangeShapes
set_option linter.unusedVariables false

/-- a reading that lasts while nothing old turns -/
def Lasts {α : Type} (R : World → List Value → α → Prop) : Prop := ∀ w w' cs x, R w cs x → Below w.heap.size w w' → R w' cs x
/-- the value sv is a slice of elements of k cells each, and reads as xs -/
def Sl {α : Type} (w : World) (k : Nat) (R : World → List Value → α → Prop) (sv : Value) (xs : List α) : Prop :=
  ∃ a c b o, sv = .slice a xs.length c ∧ xs.length ≤ 9223372036854775807 ∧ (xs.length = 0 ∨ a = some ⟨b, o, none⟩ ∧ b < w.heap.size) ∧
    ∀ i (h : i < xs.length), ∃ cs : List Value, cs.length = k ∧ R w cs xs[i] ∧ w.rangeAt b (o + i * k) cs
theorem rangeAt_keep {w w' : World} {b o : Nat} {cs : List Value} (h : w.rangeAt b o cs) (hb : Below w.heap.size w w') : w'.rangeAt b o cs := fun j v hv => by
  have := h j v hv
  rw [hb.cell (p := ⟨b, o + j, none⟩) (block_lt_of_cell this)]
  exact this
theorem Sl.keep {α : Type} {w w' : World} {k : Nat} {R : World → List Value → α → Prop} {sv : Value} {xs : List α} (hR : Lasts R) (h : Sl w k R sv xs) (hb : Below w.heap.size w w') : Sl w' k R sv xs := by
  obtain ⟨a, c, b, o, rfl, h1, h2, h3⟩ := h
  refine ⟨a, c, b, o, rfl, h1, h2.imp id (fun ⟨p, q⟩ => ⟨p, by have := hb.size; omega⟩), fun i hi => ?_⟩
  obtain ⟨cs, g1, g2, g3⟩ := h3 i hi
  exact ⟨cs, g1, hR _ _ _ _ g2 hb, rangeAt_keep g3 hb⟩
theorem sl_lasts {α : Type} {k : Nat} {R : World → List Value → α → Prop} (hR : Lasts R) {w w' : World} {sv : Value} {xs : List α} (h : Sl w k R sv xs) (hb : Below w.heap.size w w') : Sl w' k R sv xs := h.keep hR hb
theorem sl_nil {α : Type} (w : World) (k : Nat) (R : World → List Value → α → Prop) : Sl w k R (.slice none 0 0) ([] : List α) := ⟨none, 0, 0, 0, rfl, by simp, Or.inl rfl, fun i hi => absurd hi (by simp)⟩
/-- an element: its address, its cells -/
theorem Sl.get {α : Type} {w : World} {k : Nat} {R : World → List Value → α → Prop} {sv : Value} {xs : List α} (h : Sl w k R sv xs) : ∃ a c b o, sv = .slice a xs.length c ∧ xs.length ≤ 9223372036854775807 ∧
    ∀ i (hi : i < xs.length), a = some ⟨b, o, none⟩ ∧ b < w.heap.size ∧ ∃ cs : List Value, cs.length = k ∧ R w cs xs[i] ∧ w.rangeAt b (o + i * k) cs := by
  obtain ⟨a, c, b, o, rfl, h1, h2, h3⟩ := h
  exact ⟨a, c, b, o, rfl, h1, fun i hi => ⟨(h2.resolve_left (by omega)).1, (h2.resolve_left (by omega)).2, h3 i hi⟩⟩
/-- out of what the claim's reader read -/
theorem sl_of_trod {α H : Type} [Inhabited α] {enc : TypeId × Value → H} {P : Program} {w : World} {base : Nat} {spare : Nat → Bool} {held : Bool} {t e : TypeId} {k fuel : Nat} {sv : Value} {x : DataW H × List MemPlace} {R : World → List Value → α → Prop}
    (ht : P.underlying t = some (.slice e)) (hk : P.cellsOf e = k) (hR : ∀ n cs y, cs.length = k → DataW.trod enc P w base spare held n e cs = some y → ∃ z, R w cs z)
    (h : DataW.trod enc P w base spare held fuel t [sv] = some x) (h0 : 0 < k) : ∃ xs : List α, Sl w k R sv xs := by
  rcases Go.Deep.open_slice ht h with ⟨hcs, _⟩ | ⟨a, len, cap, m, n, D, Pl, hcs, hb, hl, hm, hmm, rfl, hx⟩
  · simp only [List.cons.injEq, and_true] at hcs
    subst hcs
    exact ⟨[], sl_nil w k R⟩
  · simp only [List.cons.injEq, and_true] at hcs
    subst hcs
    have hlm : len ≤ m := by rw [hmm]; split <;> omega
    rw [hk] at hx
    have each : ∀ i, i < len → ∃ q : List Value × α, q.1.length = k ∧ R w q.1 q.2 ∧ ∀ j, j < k → w.cell? ((a.add (i * k)).add j) = q.1[j]? := fun i hi => by
      obtain ⟨cs', h1, h2⟩ := hx i (by omega)
      obtain ⟨_, g2, g3⟩ := World.cells?_some h1
      obtain ⟨z, hz⟩ := hR _ _ _ g2 h2
      exact ⟨(cs', z), g2, hz, g3⟩
    obtain ⟨f, hf⟩ := Go.Deep.choose_lt each
    have hs : len = 0 ∨ a.spot = none := by
      rcases Nat.eq_zero_or_pos len with h | h
      · exact Or.inl h
      · right
        obtain ⟨g1, g2, g3⟩ := hf 0 h
        have h1 := g3 0 h0
        rw [List.getElem?_eq_getElem (by omega)] at h1
        have ha : ((a.add (0 * k)).add 0) = a := by simp [Addr.add]
        rw [ha] at h1
        exact World.cell?_spot h1
    refine ⟨(List.range len).map fun i => (f i).2, some a, cap, a.block, a.off, by simp, by simp only [List.length_map, List.length_range]; unfold maxLen at hm; omega, ?_, fun i hi => ?_⟩
    · rcases hs with h | h
      · left; simp [h]
      · rcases Nat.eq_zero_or_pos len with hz | hz
        · left; simp [hz]
        · right
          refine ⟨by cases a; simp only at h; subst h; rfl, ?_⟩
          obtain ⟨g1, g2, g3⟩ := hf 0 hz
          have h1 := g3 0 h0
          rw [List.getElem?_eq_getElem (by omega)] at h1
          have ha : ((a.add (0 * k)).add 0) = a := by simp [Addr.add]
          rw [ha] at h1
          exact block_lt_of_cell h1
    · have hi' : i < len := by simpa using hi
      obtain ⟨g1, g2, g3⟩ := hf i hi'
      refine ⟨(f i).1, g1, by simpa using g2, fun j v hv => ?_⟩
      have hj : j < k := by rw [← g1]; exact (List.getElem?_eq_some_iff.1 hv).1
      have h1 := g3 j hj
      rw [hv] at h1
      have hsp : a.spot = none := by
        rcases hs with h | h
        · omega
        · exact h
      cases a
      simp only at hsp
      subst hsp
      rw [Go.Addr.add_mid, Go.Addr.add_mid] at h1
      exact h1
end Go.Proofs.Ytpeknlablcgchaa
