import Derived.Test.YtcfidibkihkndaaR1
import Derived.Laws.AppendOwn
import Derived.OwnWalk
import Derived.Deep.OwnRows
import Derived.Laws.MakeOwn
import Derived.KernelRfl
/- An int more behind a row of the call's own; new rows. -/
namespace Go.Proofs.Ytcfidibkihkndaa
open Go.RowKit

theorem int_info : (Try.prog.info? 3).map (fun i => (i.zero, i.size, i.bytes)) = some (some (.int .i64 0), 1, 8) := by kernel_rfl

def cellsOf (l : List Nat) : List Value := l.map fun x : Nat => Value.int .i64 (x : Int)
theorem cellsOf_snoc (l : List Nat) (x : Nat) : cellsOf l ++ [.int .i64 (x : Int)] = cellsOf (l ++ [x]) := by simp [cellsOf]

/-- a new row of digits -/
def NewRow (w w' : World) (v : Value) (l : List Nat) : Prop :=
  ∃ g c, v = .slice (some ⟨g, 0, none⟩) l.length c ∧ l.length ≤ c ∧ w.heap.size ≤ g ∧ Row w' g l ∧ Below w.heap.size w w'

theorem newRow_own {w w' : World} {v : Value} {l : List Nat} (h : w'.ownsRow w.heap.size 3 1 v l.length (cellsOf l)) (h0 : 0 < l.length) (hb : Below w.heap.size w w') : NewRow w w' v l := by
  obtain ⟨g, c, rfl, hg, hlt⟩ := h.form h0
  refine ⟨g, c, rfl, ?_, hg, Row.own h hlt, hb⟩
  rcases h.2 with ⟨h1, _⟩ | ⟨g', cap, cur, h1, _, _, h3, _⟩
  · cases h1
  · injection h1 with _ _ h4
    omega

theorem row_made (w : World) (n : Nat) : Row (w.alloc (.cells (madeCells #[.int .i64 0] n) 3)) w.heap.size (List.replicate n 0) := by
  refine ⟨by simp, fun i hi => ?_⟩
  rw [List.length_replicate] at hi
  refine ⟨?_, World.frozen?_alloc_new ..⟩
  rw [World.cell?_alloc_new, M5.dg_zeros, ← Array.getElem?_toList, toList_madeCells_one, List.getElem?_replicate, if_pos hi]
  rfl
theorem made_int (n : Nat) (hn : n ≤ 1000000) (w : World) : (Instr.makeSlice 39 (.int .i64 (n : Int)) (.int .i64 (n : Int))).run Try.prog w = .ok (.slice (some ⟨w.heap.size, 0, none⟩) n n) (w.alloc (.cells (madeCells #[.int .i64 0] n) 3)) :=
  run_make_row' (P := Try.prog) 39 3 (.int .i64 0) 8 Try.underlying39 int_info rfl .i64 .i64 n (by omega) (by omega) w

theorem app_int {ops : Array Oper} {rest : List Oper} {o : Oper} {a : Act} {Q : Exit → Act → World → Prop} {wr : World} (hgd : o.guard = none) (s x : Operand)
    (ho : o.op = .call { callee := .builtin .append, args := #[s, x], argTypes := #[39, 39] })
    (B : Nat) (v : Value) (n : Nat) (l : List Nat) (u : Nat) (hs : a.eval s = v) (hown : wr.ownsRow B 3 1 v n (cellsOf l)) (hx : a.eval x = .slice (some ⟨wr.heap.size, 0, none⟩) 1 1)
    (hn : n ≤ 1000000) (hB : B ≤ wr.heap.size)
    (h : ∀ v' w', w'.ownsRow B 3 1 v' (n + 1) (cellsOf (l ++ [u])) → Below B wr w' → wpList Try.prog ops Q rest (a.put o.dst v') w') :
    wpList Try.prog ops Q (o :: rest) a (wr.alloc (.cells #[.int .i64 (u : Int)] 3)) := by
  obtain ⟨i0, hi, hz0, hz1, hz2⟩ := info_parts int_info
  refine wpList_append_own _ hgd s x 39 ho B 3 i0 (.int .i64 0) 1 8 Try.underlying39 hi hz0 hz1 hz2 rfl (by decide) v n (cellsOf l) hs (hown.alloc _) ⟨wr.heap.size, 0, none⟩ 1 1 [.int .i64 (u : Int)] hx rfl ?_ ?_ ?_ ?_ ?_ ?_
  · intro j y hj
    match j, hj with
    | 0, hj => simp at hj; subst hj; simp [Addr.add]
  · intro y hy
    simp at hy
    subst hy
    rfl
  · unfold maxLen; omega
  · omega
  · simp; omega
  · intro v' w' h1 h2 _
    rw [cellsOf_snoc] at h1
    exact h v' w' h1 (((Below.refl _ _).alloc hB _).grown h2 (by simp; omega) fun k hk => (hown.lt k hk).1)
end Go.Proofs.Ytcfidibkihkndaa
