import Derived.Test.YtpeknlablcgchaaU3
import Derived.OpenShut
/- An argument that is a struct or an array of whole numbers alone, however deep: its cells. -/
namespace Go.Proofs.Ytpeknlablcgchaa
open Go.RowKit Go.WideShapes Go.ChangeShapes
set_option linter.unusedVariables false
theorem okWide_row {P : Program} {w : World} {r : Reach} {base : Nat} {t : TypeId} {v : Value} {d : TypeDesc} (hu : P.underlying t = some d) (hd : (match d with | .struct _ | .array _ _ => true | _ => false) = true) (h : Value.okWide P w r base t v) :
    ∃ cs, v = .agg cs ∧ cs.size = P.cellsOf t ∧ Row.okWide P w r base t cs := by
  cases d <;> first | (simp only [Value.okWide, hu] at h; exact h) | cases hd
/-- each cell, by its type -/
theorem open_row {P : Program} {w : World} {r : Reach} {base : Nat} {t : TypeId} {v : Value} {d : TypeDesc} {ts : List TypeId} (hu : P.underlying t = some d) (hd : (match d with | .struct _ | .array _ _ => true | _ => false) = true)
    (hts : P.cellTypes P.depth t = some ts) (hn : P.cellsOf t = ts.length) (h : Value.okWide P w r base t v) :
    ∃ cs : Array Value, v = .agg cs ∧ cs.size = ts.length ∧ ∀ (i : Nat) (c : Value), cs[i]? = some c → ∃ u, ts[i]? = some u ∧ Cell.okWide P w r base u c := by
  obtain ⟨cs, rfl, hs, us, hus, _, hc⟩ := okWide_row hu hd h
  rw [hts] at hus
  cases hus
  refine ⟨cs, rfl, hs.trans hn, fun i c hi => ?_⟩
  have hlt : i < ts.length := by rw [← hn, ← hs]; exact (Array.getElem?_eq_some_iff.1 hi).1
  obtain ⟨u, hu, hk⟩ := hc i c hi
  rw [Nat.mod_eq_of_lt hlt] at hu
  exact ⟨u, hu, hk⟩
theorem okWide_i64 {P : Program} {w : World} {r : Reach} {base : Nat} {t : TypeId} {v : Value} (hu : P.underlying t = some (.int .i64)) (h : Cell.okWide P w r base t v) : ∃ z : Int, v = .int .i64 z ∧ (-9223372036854775808 ≤ z ∧ z ≤ 9223372036854775807) := by
  unfold Cell.okWide at h
  rw [hu] at h
  cases v <;> simp only [Cell.ok, hu] at h
  obtain ⟨rfl, h1, h2⟩ := h
  exact ⟨_, rfl, h1, h2⟩
theorem ints_of (n : Nat) : ∀ cs : List Value, cs.length = n → (∀ c ∈ cs, ∃ z : Int, c = .int .i64 z ∧ (-9223372036854775808 ≤ z ∧ z ≤ 9223372036854775807)) → ∃ zs : List Int, zs.length = n ∧ cs = zs.map (Value.int .i64 ·) ∧ ∀ z ∈ zs, -9223372036854775808 ≤ z ∧ z ≤ 9223372036854775807 := by
  induction n with
  | zero =>
    intro cs h _
    exact ⟨[], rfl, List.eq_nil_of_length_eq_zero h, fun z hz => by simp at hz⟩
  | succ n ih =>
    intro cs h hc
    match cs, h with
    | c :: cs, h =>
      obtain ⟨z, rfl, hz⟩ := hc c (by simp)
      obtain ⟨zs, h1, rfl, h3⟩ := ih cs (by simpa using h) fun x hx => hc x (by simp [hx])
      refine ⟨z :: zs, by simp [h1], rfl, fun y hy => ?_⟩
      rcases List.mem_cons.1 hy with rfl | hy
      · exact hz
      · exact h3 y hy
theorem open_ints {P : Program} {w : World} {r : Reach} {base : Nat} {t : TypeId} {v : Value} {d : TypeDesc} {ts : List TypeId} (hu : P.underlying t = some d) (hd : (match d with | .struct _ | .array _ _ => true | _ => false) = true)
    (hts : P.cellTypes P.depth t = some ts) (hn : P.cellsOf t = ts.length) (hall : ∀ u ∈ ts, P.underlying u = some (.int .i64)) (h : Value.okWide P w r base t v) :
    ∃ zs : List Int, v = .agg (zs.map (Value.int .i64 ·)).toArray ∧ zs.length = ts.length ∧ ∀ z ∈ zs, -9223372036854775808 ≤ z ∧ z ≤ 9223372036854775807 := by
  obtain ⟨cs, rfl, hs, hc⟩ := open_row hu hd hts hn h
  obtain ⟨zs, h1, h2, h3⟩ := ints_of ts.length cs.toList (by simpa using hs) (fun c hcm => by
    obtain ⟨i, hi, rfl⟩ := List.getElem_of_mem hcm
    obtain ⟨u, hu, hk⟩ := hc i cs.toList[i] (by rw [← Array.getElem?_toList]; exact List.getElem?_eq_getElem hi)
    exact okWide_i64 (hall u (List.mem_of_getElem? hu)) hk)
  refine ⟨zs, ?_, h1, h3⟩
  rw [← h2]
theorem ints2 {zs : List Int} (h : zs.length = 2) (hb : ∀ z ∈ zs, -9223372036854775808 ≤ z ∧ z ≤ 9223372036854775807) : ∃ a b : Int, zs = [a, b] ∧ (-9223372036854775808 ≤ a ∧ a ≤ 9223372036854775807) ∧ (-9223372036854775808 ≤ b ∧ b ≤ 9223372036854775807) := by
  match zs, h with
  | [a, b], _ => exact ⟨a, b, rfl, hb a (by simp), hb b (by simp)⟩
theorem ints4 {zs : List Int} (h : zs.length = 4) (hb : ∀ z ∈ zs, -9223372036854775808 ≤ z ∧ z ≤ 9223372036854775807) : ∃ a b c d : Int, zs = [a, b, c, d] ∧ (-9223372036854775808 ≤ a ∧ a ≤ 9223372036854775807) ∧ (-9223372036854775808 ≤ b ∧ b ≤ 9223372036854775807) ∧ (-9223372036854775808 ≤ c ∧ c ≤ 9223372036854775807) ∧ (-9223372036854775808 ≤ d ∧ d ≤ 9223372036854775807) := by
  match zs, h with
  | [a, b, c, d], _ => exact ⟨a, b, c, d, rfl, hb a (by simp), hb b (by simp), hb c (by simp), hb d (by simp)⟩
theorem ints6 {zs : List Int} (h : zs.length = 6) (hb : ∀ z ∈ zs, -9223372036854775808 ≤ z ∧ z ≤ 9223372036854775807) : ∃ a b c d e f : Int, zs = [a, b, c, d, e, f] ∧ (-9223372036854775808 ≤ a ∧ a ≤ 9223372036854775807) ∧ (-9223372036854775808 ≤ b ∧ b ≤ 9223372036854775807) ∧ (-9223372036854775808 ≤ c ∧ c ≤ 9223372036854775807) ∧ (-9223372036854775808 ≤ d ∧ d ≤ 9223372036854775807) ∧ (-9223372036854775808 ≤ e ∧ e ≤ 9223372036854775807) ∧ (-9223372036854775808 ≤ f ∧ f ≤ 9223372036854775807) := by
  match zs, h with
  | [a, b, c, d, e, f], _ => exact ⟨a, b, c, d, e, f, rfl, hb a (by simp), hb b (by simp), hb c (by simp), hb d (by simp), hb e (by simp), hb f (by simp)⟩
theorem ints8 {zs : List Int} (h : zs.length = 8) (hb : ∀ z ∈ zs, -9223372036854775808 ≤ z ∧ z ≤ 9223372036854775807) : ∃ a b c d e f g i : Int, zs = [a, b, c, d, e, f, g, i] ∧ (-9223372036854775808 ≤ a ∧ a ≤ 9223372036854775807) ∧ (-9223372036854775808 ≤ b ∧ b ≤ 9223372036854775807) ∧ (-9223372036854775808 ≤ c ∧ c ≤ 9223372036854775807) ∧ (-9223372036854775808 ≤ d ∧ d ≤ 9223372036854775807) ∧ (-9223372036854775808 ≤ e ∧ e ≤ 9223372036854775807) ∧ (-9223372036854775808 ≤ f ∧ f ≤ 9223372036854775807) ∧ (-9223372036854775808 ≤ g ∧ g ≤ 9223372036854775807) ∧ (-9223372036854775808 ≤ i ∧ i ≤ 9223372036854775807) := by
  match zs, h with
  | [a, b, c, d, e, f, g, i], _ => exact ⟨a, b, c, d, e, f, g, i, rfl, hb a (by simp), hb b (by simp), hb c (by simp), hb d (by simp), hb e (by simp), hb f (by simp), hb g (by simp), hb i (by simp)⟩
theorem okWide_i8 {P : Program} {w : World} {r : Reach} {base : Nat} {t : TypeId} {v : Value} (hu : P.underlying t = some (.int .i8)) (h : Cell.okWide P w r base t v) : ∃ z : Int, v = .int .i8 z ∧ (-128 ≤ z ∧ z ≤ 127) := by
  unfold Cell.okWide at h
  rw [hu] at h
  cases v <;> simp only [Cell.ok, hu] at h
  obtain ⟨rfl, h1, h2⟩ := h
  exact ⟨_, rfl, h1, h2⟩
theorem ints_of8 (n : Nat) : ∀ cs : List Value, cs.length = n → (∀ c ∈ cs, ∃ z : Int, c = .int .i8 z ∧ (-128 ≤ z ∧ z ≤ 127)) → ∃ zs : List Int, zs.length = n ∧ cs = zs.map (Value.int .i8 ·) ∧ ∀ z ∈ zs, -128 ≤ z ∧ z ≤ 127 := by
  induction n with
  | zero =>
    intro cs h _
    exact ⟨[], rfl, List.eq_nil_of_length_eq_zero h, fun z hz => by simp at hz⟩
  | succ n ih =>
    intro cs h hc
    match cs, h with
    | c :: cs, h =>
      obtain ⟨z, rfl, hz⟩ := hc c (by simp)
      obtain ⟨zs, h1, rfl, h3⟩ := ih cs (by simpa using h) fun x hx => hc x (by simp [hx])
      refine ⟨z :: zs, by simp [h1], rfl, fun y hy => ?_⟩
      rcases List.mem_cons.1 hy with rfl | hy
      · exact hz
      · exact h3 y hy
theorem open_ints8 {P : Program} {w : World} {r : Reach} {base : Nat} {t : TypeId} {v : Value} {d : TypeDesc} {ts : List TypeId} (hu : P.underlying t = some d) (hd : (match d with | .struct _ | .array _ _ => true | _ => false) = true)
    (hts : P.cellTypes P.depth t = some ts) (hn : P.cellsOf t = ts.length) (hall : ∀ u ∈ ts, P.underlying u = some (.int .i8)) (h : Value.okWide P w r base t v) :
    ∃ zs : List Int, v = .agg (zs.map (Value.int .i8 ·)).toArray ∧ zs.length = ts.length ∧ ∀ z ∈ zs, -128 ≤ z ∧ z ≤ 127 := by
  obtain ⟨cs, rfl, hs, hc⟩ := open_row hu hd hts hn h
  obtain ⟨zs, h1, h2, h3⟩ := ints_of8 ts.length cs.toList (by simpa using hs) (fun c hcm => by
    obtain ⟨i, hi, rfl⟩ := List.getElem_of_mem hcm
    obtain ⟨u, hu, hk⟩ := hc i cs.toList[i] (by rw [← Array.getElem?_toList]; exact List.getElem?_eq_getElem hi)
    exact okWide_i8 (hall u (List.mem_of_getElem? hu)) hk)
  refine ⟨zs, ?_, h1, h3⟩
  rw [← h2]
theorem ints6_8 {zs : List Int} (h : zs.length = 6) (hb : ∀ z ∈ zs, -128 ≤ z ∧ z ≤ 127) : ∃ a b c d e f : Int, zs = [a, b, c, d, e, f] ∧ (-128 ≤ a ∧ a ≤ 127) ∧ (-128 ≤ b ∧ b ≤ 127) ∧ (-128 ≤ c ∧ c ≤ 127) ∧ (-128 ≤ d ∧ d ≤ 127) ∧ (-128 ≤ e ∧ e ≤ 127) ∧ (-128 ≤ f ∧ f ≤ 127) := by
  match zs, h with
  | [a, b, c, d, e, f], _ => exact ⟨a, b, c, d, e, f, rfl, hb a (by simp), hb b (by simp), hb c (by simp), hb d (by simp), hb e (by simp), hb f (by simp)⟩
end Go.Proofs.Ytpeknlablcgchaa
