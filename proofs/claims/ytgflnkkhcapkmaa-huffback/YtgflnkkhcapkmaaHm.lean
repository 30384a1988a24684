import Derived.Test.YtgflnkkhcapkmaaHl
import Derived.Test.YtgflnkkhcapkmaaH1
/- Layer 4: the types of a table; rows of 16 numbers. -/
namespace Go.Proofs.Ytgflnkkhcapkmaa
open Go.RowKit
set_option linter.unusedVariables false

theorem size25 : (Try.prog.info? 25).map (·.size) = some 16 := by kernel_rfl
theorem size27 : (Try.prog.info? 27).map (·.size) = some 17 := by kernel_rfl
/-- sixteen numbers -/
def row16 (f : Nat → Nat) : Array Value := ((List.range 16).map fun n => Value.int .i64 (f n : Int)).toArray
theorem row16_size (f : Nat → Nat) : (row16 f).size = 16 := by simp [row16]
theorem row16_at (f : Nat → Nat) (k : Nat) (h : k < 16) : (row16 f)[k]? = some (.int .i64 (f k : Int)) := by simp [row16, h]
theorem row16_one (f : Nat → Nat) : (row16 f).all (·.oneCell') = true := by
  rw [Array.all_eq_true_iff_forall_mem]
  intro v hv
  simp only [row16, List.mem_toArray, List.mem_map] at hv
  obtain ⟨n, _, rfl⟩ := hv
  rfl
theorem row16_set (f : Nat → Nat) (k v : Nat) : (row16 f).setIfInBounds k (.int .i64 (v : Int)) = row16 (fun n => if n = k then v else f n) := by
  apply Array.ext
  · simp [row16]
  · intro i h1 h2
    simp only [Array.size_setIfInBounds] at h1
    rw [Array.getElem_setIfInBounds h1]
    simp only [row16, List.getElem_toArray, List.getElem_map, List.getElem_range]
    by_cases e : k = i
    · subst e; simp
    · rw [if_neg e, if_neg (by omega)]
theorem row16_congr (f g : Nat → Nat) (h : ∀ n, n < 16 → f n = g n) : row16 f = row16 g := by
  unfold row16
  apply Array.ext
  · simp
  · intro i h1 h2
    simp only [List.size_toArray, List.length_map, List.length_range] at h1
    simp [h i h1]
theorem zero25 (w : World) : (zeroValue 25).run Try.prog w = .ok (.agg (row16 fun _ => 0)) w := Try.zeroValue25 w
theorem row16_index (f : Nat → Nat) (k : Nat) (w : World) (h : k < 16) : (Instr.index 25 (.agg (row16 f)) (.int .i64 (k : Int))).run Try.prog w = .ok (.int .i64 (f k : Int)) w := by
  have hb : 0 ≤ (k : Int) ∧ (k : Int) < 16 := by omega
  have hs : (sizeOf 3).run Try.prog w = .ok 1 w := Try.sizeOf3 w
  have hu : (underlying 25).run Try.prog w = .ok (.array 16 3) w := run_underlying Try.underlying25 w
  simp [Instr.index, asIntOf, hu, hs, hb, part, row16_at f k h]
  omega
end Go.Proofs.Ytgflnkkhcapkmaa
