import Derived.Test.YtddiccdfeckgaaaQ9
import Derived.Test.YtddiccdfeckgaaaQ3
import Derived.Maps.OwnSet
import Derived.DeepKeys4
/- Layer 6: where three bytes stood: a map and a list in memory. -/
namespace Go.Proofs.Ytddiccdfeckgaaa
open Go.RowKit Go.Maps
set_option maxRecDepth 100000
set_option linter.unusedVariables false
set_option linter.unusedSimpArgs false
section
variable {P : Program} {ops : Array Oper} {rest : List Oper} {o : Oper} {a : Act} {Q : Exit → Act → World → Prop} {w : World}
theorem wl_makeMap (t k : TypeId) (R : Value → Option (DataW Unit × List MemPlace)) (ho : o.op = .makeMap t none) (hgd : o.guard = none)
    (h : ∀ W b, W.ownsMap P k R b 0 (.map []) → w.heap.size ≤ b → Below w.heap.size w W → wpList P ops Q rest (a.put o.dst (.map (some b))) W) : wpList P ops Q (o :: rest) a w := by
  refine wpList_plain hgd fun K hK => ?_
  have := h (w.alloc (.map #[] 0)) w.heap.size (World.ownsMap_made w P k R) (Nat.le_refl _) (bq_alloc (bq_refl w) _)
  unfold Oper.wp execOp
  simp only [ho, run_makeMap]
  exact hK _ _ this
end
def bhA (s : ByteArray) (bm be : Nat) : Array Value := #[.string s, .map (some bm), .slice (some ⟨be, 0, none⟩) s.size s.size]
theorem bhA_one (s : ByteArray) (bm be : Nat) : (bhA s bm be).all (·.oneCell') = true := by unfold bhA; simp [Value.oneCell']
theorem sizeBh : (Try.prog.info? 44).map (·.size) = some 3 := by kernel_rfl
theorem zeroBh (w : World) : (zeroValue 44).run Try.prog w = .ok (.agg #[.string ⟨#[]⟩, .map none, .slice none 0 0]) w := Try.zeroValue44 w
theorem builtBh (s : ByteArray) (bm be : Nat) : Try.prog.built 44 [(0, .string s), (1, .map (some bm)), (2, .slice (some ⟨be, 0, none⟩) s.size s.size)] = some (bhA s bm be) := by kernel_rfl
theorem infoI : (Try.prog.info? 3).map (fun i => (i.zero, i.size, i.bytes)) = some (some (.int .i64 0), 1, 8) := by kernel_rfl
/-- the map's key type -/
abbrev keyT : TypeId := 61
def NbPost (w : World) (s : ByteArray) (e : Ending) (w' : World) : Prop :=
  ∃ bm be, e = .returned (.agg (bhA s bm be)) ∧ w.heap.size ≤ bm ∧ w.heap.size ≤ be ∧ bm ≠ be ∧ w'.ownsMap Try.prog keyT (plainElem (H := Unit) Try.prog 3) bm 0 (.map []) ∧ Blk w' be (Array.replicate s.size (.int .i64 0)) 3 ∧ Below w.heap.size w w'
theorem ownsMap_keep {w w' : World} {P : Program} {k : TypeId} {R : Value → Option (DataW Unit × List MemPlace)} {b n : Nat} {D : DataW Unit} (h : w.ownsMap P k R b n D) (hb : w'.heap[b]? = w.heap[b]?) : w'.ownsMap P k R b n D := by
  obtain ⟨es, clock, h1, h2⟩ := h
  exact ⟨es, clock, by rw [hb]; exact h1, h2⟩
theorem newBehind_any (s : ByteArray) (w : World) (hs : s.size ≤ 1000000) : Calls Try.prog 19 #[.string s] w (NbPost w s) := by
  obtain ⟨i0, hi, hz0, hz1, hz2⟩ := info_parts infoI
  go_enter Try.func19, Try.ntmps19
  go_wp2_with (first
    | (refine wl_alloc 44 _ zeroBh rfl rfl ?_; intro W1 b2 B2 l2 k2)
    | (refine wl_makeMap _ keyT (plainElem Try.prog 3) rfl rfl ?_; intro W3 bm hm3 l3 k3)
    | (refine wl_make 42 3 i0 (.int .i64 0) Try.underlying42 hi hz0 hz1 (by omega) rfl _ _ rfl rfl s.size rfl rfl hs ?_; intro W4 be B4 l4 k4)
    | (refine wlg_build 44 _ _ (builtBh s bm be) _ rfl rfl rfl ?_)
    | (refine wl_store 44 3 sizeBh _ _ rfl rfl b2 rfl (bhA s bm be) rfl _ _ ((B2.keep k3).keep k4) rfl rfl (bhA_one _ _ _) ?_; intro W5 C5 hT5))
  refine post_cell Try.underlying44 rfl sizeBh Try.results19 C5 rfl rfl rfl ?_
  have y2 := B2.lt
  have z2 := k2.size
  have z3 := k3.size
  have ym := hm3.lt
  refine ⟨bm, be, rfl, by omega, by omega, by omega, ?_, hT5.blk B4 (by omega), hT5.below (bq_trans (bq_trans k2 k3) k4) (by omega)⟩
  refine ownsMap_keep hm3 ?_
  rw [hT5.block bm (by omega), k4.block bm ym]
end Go.Proofs.Ytddiccdfeckgaaa
