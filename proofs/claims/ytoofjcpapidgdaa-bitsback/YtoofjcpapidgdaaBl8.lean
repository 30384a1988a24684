import Derived.Test.YtoofjcpapidgdaaBl7
import Derived.Test.YtoofjcpapidgdaaU2
import Derived.OpenShut
import Derived.Deep.Slices
import Derived.Deep.Strs
/- Layer 2: BitsBack, whatever list of fields is handed in. -/
namespace Go.Proofs.Ytoofjcpapidgdaa
open Go.RowKit Go.ChangeShapes Go.WideShapes Go.Deep
set_option linter.unusedVariables false

theorem cells_field : Try.prog.cellsOf 57 = 3 := by kernel_rfl
theorem cells_int : Try.prog.cellsOf 3 = 1 := by kernel_rfl
def numAt (v : Option Value) : Int := match v with | some (.int _ n) => n | _ => 0
theorem take_one {l : List Value} {j : Nat} {v : Value} (h : (l.drop j).take 1 = [v]) : l[j]? = some v := by
  have h2 := congrArg (fun x => x[0]?) h
  simpa using h2
section
variable {H : Type} {enc : TypeId × Value → H} {w : World} {base : Nat} {spare : Nat → Bool} {held : Bool}
theorem open_field {n : Nat} {cs : List Value} {x : DataW H × List MemPlace} (h : DataW.trod enc Try.prog w base spare held n 57 cs = some x) :
    ∃ k v m : Int, cs[0]? = some (.int .i64 k) ∧ cs[1]? = some (.int .i64 v) ∧ cs[2]? = some (.int .i64 m) ∧ (Lit.int .i64 k).wf = true ∧ (Lit.int .i64 v).wf = true := by
  obtain ⟨y0, y1, y2, n', _, _, h0, h1, h2⟩ := trod_struct3 Try.underlying57 h
  simp only [cells_int] at h0 h1 h2
  obtain ⟨k, e0, _, w0⟩ := DataW.trod_int Try.underlying3 h0
  obtain ⟨v, e1, _, w1⟩ := DataW.trod_int Try.underlying3 h1
  obtain ⟨m, e2, _, w2⟩ := DataW.trod_int Try.underlying3 h2
  exact ⟨k, v, m, take_one e0, take_one e1, take_one e2, w0, w1⟩
theorem open_fields {fuel : Nat} {cs : List Value} {x : DataW H × List MemPlace} (h : DataW.trod enc Try.prog w base spare held fuel 54 cs = some x) :
    cs = [.slice none 0 0] ∨ ∃ (a : Addr) (len cap : Nat) (zs : List Fd), cs = [.slice (some a) len cap] ∧ len ≤ cap ∧ cap ≤ maxLen ∧ zs.length = len ∧
      (∀ i (h : i < zs.length), w.cell? (a.add (i * 3)) = some (.int .i64 zs[i].k) ∧ w.cell? (a.add (i * 3 + 1)) = some (.int .i64 zs[i].v) ∧ w.cell? (a.add (i * 3 + 2)) = some (.int .i64 zs[i].n)) ∧
      (∀ i (h : i < zs.length), (Lit.int .i64 zs[i].k).wf = true ∧ (Lit.int .i64 zs[i].v).wf = true) := by
  rcases open_slice Try.underlying54 h with h0 | ⟨a, len, cap, m, n, D, Pl, hcs, _, hl, hm, hmm, _, hi⟩
  · exact Or.inl h0.1
  · right
    have hlm : len ≤ m := by rw [hmm]; split <;> omega
    refine ⟨a, len, cap, (List.range len).map (fun i => ⟨numAt (w.cell? (a.add (i * 3))), numAt (w.cell? (a.add (i * 3 + 1))), numAt (w.cell? (a.add (i * 3 + 2)))⟩), hcs, hl, hm, by simp, ?_, ?_⟩
    all_goals
      intro i hi2
      have hil : i < len := by simpa using hi2
      obtain ⟨cs', hc, ht⟩ := hi i (by omega)
      rw [cells_field] at hc
      obtain ⟨_, _, hat⟩ := World.cells?_some hc
      obtain ⟨k, v, q, e0, e1, e2, w0, w1⟩ := open_field ht
      have a0 : w.cell? (a.add (i * 3)) = some (.int .i64 k) := by have := hat 0 (by omega); rw [Go.Deep.add_add, e0] at this; exact this
      have a1 : w.cell? (a.add (i * 3 + 1)) = some (.int .i64 v) := by have := hat 1 (by omega); rw [Go.Deep.add_add, e1] at this; exact this
      have a2 : w.cell? (a.add (i * 3 + 2)) = some (.int .i64 q) := by have := hat 2 (by omega); rw [Go.Deep.add_add, e2] at this; exact this
      simp only [List.getElem_map, List.getElem_range, a0, a1, a2, numAt]
    · exact ⟨trivial, trivial, trivial⟩
    · exact ⟨w0, w1⟩
end
theorem back_nil (w : World) : Calls Try.prog 7 #[.slice none 0 0] w fun e w' => e = .returned (.bool true) ∧ Below w.heap.size w w' :=
  back_few [] none 0 0 0 w (by simp) (Lib.hid (Or.inl rfl)) (Lib.hid (fun p h => by simp at h)) (Lib.hid (fun p h => by simp at h)) (Lib.hid (fun i h => by simp at h))
theorem back_cells (zs : List Fd) (a : Addr) (cap : Nat) (w : World) (hl : zs.length ≤ cap) (hm : cap ≤ maxLen)
    (hc : ∀ i (h : i < zs.length), w.cell? (a.add (i * 3)) = some (.int .i64 zs[i].k) ∧ w.cell? (a.add (i * 3 + 1)) = some (.int .i64 zs[i].v) ∧ w.cell? (a.add (i * 3 + 2)) = some (.int .i64 zs[i].n))
    (hw : ∀ i (h : i < zs.length), (Lit.int .i64 zs[i].k).wf = true ∧ (Lit.int .i64 zs[i].v).wf = true) :
    Calls Try.prog 7 #[.slice (some a) zs.length cap] w fun e w' => e = .returned (.bool true) ∧ Below w.heap.size w w' := by
  have hm2 : cap ≤ 9223372036854775807 := hm
  have hfit : ∀ p ∈ zs, p.fit := by
    intro p hp
    obtain ⟨i, hi, rfl⟩ := List.getElem_of_mem hp
    exact bd64 (hw i hi).2
  have hkk : ∀ p ∈ zs, -9223372036854775808 ≤ p.k ∧ p.k ≤ 9223372036854775807 := by
    intro p hp
    obtain ⟨i, hi, rfl⟩ := List.getElem_of_mem hp
    exact bd64 (hw i hi).1
  by_cases h0 : zs.length = 0
  · exact back_few zs (some a) 0 0 cap w (by omega) (Lib.hid (Or.inl h0)) (Lib.hid hfit) (Lib.hid hkk) (Lib.hid (fun i h => by omega))
  · obtain ⟨b, o, spot⟩ := a
    have hspot : spot = none := by simpa [Addr.add] using World.cell?_spot (hc 0 (by omega)).1
    subst hspot
    have hb : b < w.heap.size := by
      have := World.block_lt_of_cell? w _ (hc 0 (by omega)).1
      simpa [Addr.add] using this
    refine back_few zs (some ⟨b, o, none⟩) b o cap w (by omega) (Lib.hid (Or.inr ⟨rfl, hb⟩)) (Lib.hid hfit) (Lib.hid hkk) (Lib.hid (fun i h => ?_))
    have := hc i h
    rw [add_plain, add_plain, add_plain] at this
    exact this
end Go.Proofs.Ytoofjcpapidgdaa
