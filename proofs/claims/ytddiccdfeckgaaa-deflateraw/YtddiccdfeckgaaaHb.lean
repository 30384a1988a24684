import Derived.Test.YtddiccdfeckgaaaHl
import Derived.Laws.IdiomStrings
/- Bytes in a block that is known whole, as a string. -/
namespace Go.Proofs.Ytddiccdfeckgaaa
open Go.RowKit
set_option linter.unusedVariables false
def bs (l : List UInt8) : ByteArray := ⟨l.toArray⟩
theorem bs_size (l : List UInt8) : (bs l).size = l.length := rfl
theorem bs_append (a b : List UInt8) : bs a ++ bs b = bs (a ++ b) := by
  apply ByteArray.ext
  rw [ByteArray.data_append]
  simp [bs]
def byA (l : List UInt8) : Array Value := (l.map fun c => Value.int .u8 (c.toNat : Int)).toArray
theorem byA_size (l : List UInt8) : (byA l).size = l.length := by simp [byA]
theorem byA_at (l : List UInt8) (i : Nat) (h : i < l.length) : (byA l)[i]? = some (.int .u8 (l[i].toNat : Int)) := by simp [byA, h]
theorem byA_set (l : List UInt8) (i : Nat) (c : UInt8) : (byA l).setIfInBounds i (.int .u8 (c.toNat : Int)) = byA (l.set i c) := by
  apply Array.ext
  · simp [byA]
  · intro j h1 h2
    simp only [Array.size_setIfInBounds] at h1
    rw [Array.getElem_setIfInBounds h1]
    simp only [byA, List.getElem_toArray, List.getElem_map, List.getElem_set]
    by_cases e : i = j
    · rw [if_pos e, if_pos e]
    · rw [if_neg e, if_neg e]
theorem blk_str {w : World} {g : Nat} {l : List UInt8} {t : TypeId} (h : Blk w g (byA l) t) (c : Nat) : (convert 38 9 (.slice (some ⟨g, 0, none⟩) l.length c)).run Try.prog w = .ok (.string (bs l)) w :=
  run_convert_bytes_back (P := Try.prog) w 38 9 5 ⟨g, 0, none⟩ c l Try.underlying38 Try.underlying5 Try.underlying9 (fun j hj => by
    rw [← byA_at l j hj, ← h.cell j]; congr 1; unfold Addr.add; split <;> simp_all)
theorem info5 : (Try.prog.info? 5).map (fun i => (i.zero, i.size, i.bytes)) = some (some (.int .u8 0), 1, 1) := by kernel_rfl
theorem byA_zero (n : Nat) : Array.replicate n (Value.int .u8 0) = byA (List.replicate n 0) := by
  apply Array.ext
  · simp [byA]
  · intro i h1 h2
    simp [byA]
section
variable {ops : Array Oper} {rest : List Oper} {o : Oper} {a : Act} {w : World} {Q : Exit → Act → World → Prop}
theorem wl_bytes (l c : Operand) (ho : o.op = .makeSlice 38 l c) (hgd : o.guard = none) (n : Nat) (hl : a.eval l = .int .i64 (n : Int)) (hcc : a.eval c = .int .i64 (n : Int)) (hn : n ≤ 1000000)
    (h : ∀ W b, Blk W b (byA (List.replicate n 0)) 5 → w.heap.size ≤ b → Below w.heap.size w W → wpList Try.prog ops Q rest (a.put o.dst (.slice (some ⟨b, 0, none⟩) n n)) W) : wpList Try.prog ops Q (o :: rest) a w := by
  have hi := info5
  cases hq : Try.prog.info? 5 with
  | none => rw [hq] at hi; cases hi
  | some i =>
    rw [hq] at hi
    simp only [Option.map_some, Option.some.injEq, Prod.mk.injEq] at hi
    refine wl_make 38 5 i (.int .u8 0) Try.underlying38 hq hi.1 hi.2.1 (by omega) rfl l c ho hgd n hl hcc hn ?_
    rw [byA_zero]
    exact h
end
theorem byte_of (x : Int) (h0 : 0 ≤ x) (h1 : x < 256) : ((UInt8.ofNat x.toNat).toNat : Int) = x := by
  rw [UInt8.toNat_ofNat']; omega
end Go.Proofs.Ytddiccdfeckgaaa
