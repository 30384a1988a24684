import Derived.Test.YtddiccdfeckgaaaHb
import Derived.Test.YtddiccdfeckgaaaQ0
import Derived.Lib.MinMax
import Derived.Deep.RegionHeld3
import Derived.Deep.AppendLies
import Derived.Deep.MidRow
import Derived.Laws.MakeOwn
import Derived.OwnWalk
import Derived.BigRegion
import Derived.Deep.DeepCutAuto
import Derived.Deep.CutBlock
/- Layer 6: a search in memory. -/
namespace Go.Proofs.Ytddiccdfeckgaaa
open Go.RowKit
set_option maxRecDepth 100000
set_option linter.unusedVariables false
set_option linter.unusedSimpArgs false
/-- a search's cells -/
def scA (s : ByteArray) (a m l d : Nat) : Array Value := #[.string s, .int .i64 (a : Int), .int .i64 (m : Int), .int .i64 (l : Int), .int .i64 (d : Int)]
theorem scA_size (s : ByteArray) (a m l d : Nat) : (scA s a m l d).size = 5 := rfl
theorem scA_one (s : ByteArray) (a m l d : Nat) : (scA s a m l d).all (·.oneCell') = true := by unfold scA; simp [Value.oneCell']
theorem sizeSc : (Try.prog.info? 34).map (·.size) = some 5 := by kernel_rfl
theorem zeroSc (w : World) : (zeroValue 34).run Try.prog w = .ok (.agg (scA ⟨#[]⟩ 0 0 0 0)) w := Try.zeroValue34 w
theorem builtSc (s : ByteArray) (a m : Nat) : Try.prog.built 34 [(0, .string s), (1, .int .i64 (a : Int)), (2, .int .i64 (m : Int)), (3, .int .i64 2)] = some (scA s a m 2 0) := by kernel_rfl
def Sc (w : World) (b : Nat) (s : ByteArray) (a m l d : Nat) : Prop := Blk w b (scA s a m l d) 34
theorem Sc.cells {w : World} {b : Nat} {s : ByteArray} {a m l d : Nat} (h : Sc w b s a m l d) : w.cell? ⟨b, 0, none⟩ = some (.string s) ∧ w.cell? ⟨b, 1, none⟩ = some (.int .i64 (a : Int)) ∧ w.cell? ⟨b, 2, none⟩ = some (.int .i64 (m : Int)) ∧ w.cell? ⟨b, 3, none⟩ = some (.int .i64 (l : Int)) ∧ w.cell? ⟨b, 4, none⟩ = some (.int .i64 (d : Int)) :=
  ⟨Blk.cell h 0, Blk.cell h 1, Blk.cell h 2, Blk.cell h 3, Blk.cell h 4⟩
theorem Sc.set {w : World} {b : Nat} {s : ByteArray} {a m l d : Nat} (h : Sc w b s a m l d) (l' d' : Nat) : Sc ((w.setCell ⟨b, 3, none⟩ (.int .i64 (l' : Int))).setCell ⟨b, 4, none⟩ (.int .i64 (d' : Int))) b s a m l' d' := (Blk.set h 3 _).set 4 _
theorem min_nat (a b : Nat) : min (a : Int) (b : Int) = ((min a b : Nat) : Int) := by omega
theorem newSearch_any (s : ByteArray) (a : Nat) (w : World) (hs : s.size ≤ 1099511627776) (ha : a ≤ s.size) :
    Calls Try.prog 14 #[.string s, .int .i64 (a : Int)] w fun e w' => e = .returned (.agg (scA s a (min 258 (s.size - a)) 2 0)) ∧ Below w.heap.size w w' := by
  obtain ⟨r, hr⟩ : ∃ r, r = s.size - a := ⟨_, rfl⟩
  have e1 : (s.size : Int) - (a : Int) = (r : Int) := by omega
  have hr9 : r ≤ 1099511627776 := by omega
  obtain ⟨m, hm⟩ : ∃ m, m = min 258 r := ⟨_, rfl⟩
  have em : min 258 (r : Int) = (m : Int) := by omega
  rw [← hr, ← hm]
  clear hr hm
  go_enter Try.func14, Try.ntmps14
  go_wp2_with (first
    | (refine wl_alloc 34 _ zeroSc rfl rfl ?_; intro W1 b4 B4 l4 k4)
    | (refine wlg_build 34 _ _ (builtSc s a m) _ rfl rfl rfl ?_)
    | (refine wl_store 34 5 sizeSc _ _ rfl rfl b4 rfl (scA s a m 2 0) rfl _ _ B4 rfl rfl (scA_one _ _ _ _ _) ?_; intro W2 C2 hT2))
  refine post_cell Try.underlying34 rfl sizeSc Try.results14 C2 rfl rfl rfl ?_
  exact ⟨rfl, hT2.below k4 l4⟩
theorem done_any {w : World} {b : Nat} {s : ByteArray} {a m l d : Nat} (h : Sc w b s a m l d) :
    Calls Try.prog 15 #[.pointer (some ⟨b, 0, none⟩)] w fun e w' => e = .returned (.bool (decide (m ≤ l))) ∧ ∃ n, w' = w.drewN n := by
  obtain ⟨c0, c1, c2, c3, c4⟩ := h.cells
  clear h
  go_enter Try.func15, Try.ntmps15
  go_upto_region 1 with (fail)
  go_quiet (fail)
  go_wp2
  go_ret
  exact ⟨rfl, nq, rfl⟩
theorem found_any {w : World} {b : Nat} {s : ByteArray} {a m l d : Nat} (h : Sc w b s a m l d) :
    Calls Try.prog 17 #[.pointer (some ⟨b, 0, none⟩)] w fun e w' => e = .returned (.tuple #[.int .i64 ((D.told (l, d)).1 : Int), .int .i64 ((D.told (l, d)).2 : Int)]) ∧ ∃ n, w' = w.drewN n := by
  obtain ⟨c0, c1, c2, c3, c4⟩ := h.cells
  by_cases hd : d = 0
  · have ht : D.told (l, d) = (0, 0) := by unfold D.told; rw [if_pos hd]
    have q : ((d : Int) == 0) = true := by rw [beq_iff_eq]; omega
    rw [ht]
    clear h hd ht
    go_enter Try.func17, Try.ntmps17
    go_wp2
    go_ret2
    exact ⟨rfl, 0, rfl⟩
  · have ht : D.told (l, d) = (l, d) := by unfold D.told; rw [if_neg hd]
    have q : ((d : Int) == 0) = false := by rw [beq_eq_false_iff_ne]; omega
    rw [ht]
    clear h hd ht
    go_enter Try.func17, Try.ntmps17
    go_upto_region 3 with (fail)
    go_quiet (fail)
    go_wp2
    go_ret2
    exact ⟨rfl, nq, rfl⟩
end Go.Proofs.Ytddiccdfeckgaaa
