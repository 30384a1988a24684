import Derived.Test.YtddiccdfeckgaaaQB
import Derived.Test.YtddiccdfeckgaaaQE
/- Layer 6: where three bytes stood, in memory. -/
namespace Go.Proofs.Ytddiccdfeckgaaa
open Go.RowKit Go.Maps
set_option maxRecDepth 100000
set_option linter.unusedVariables false
set_option linter.unusedSimpArgs false
def agg3 (x y z : Nat) : Array Value := #[.int .u8 (x : Int), .int .u8 (y : Int), .int .u8 (z : Int)]
theorem agg3_one (x y z : Nat) : (agg3 x y z).all (·.oneCell') = true := by unfold agg3; simp [Value.oneCell']
theorem sizeK : (Try.prog.info? keyT).map (·.size) = some 3 := by kernel_rfl
theorem zeroK (w : World) : (zeroValue keyT).run Try.prog w = .ok (.agg (agg3 0 0 0)) w := Try.zeroValue61 w
theorem builtK (x y z : Nat) : Try.prog.built keyT [(0, .int .u8 (x : Int)), (1, .int .u8 (y : Int)), (2, .int .u8 (z : Int))] = some (agg3 x y z) := by kernel_rfl
theorem builtK0 : Try.prog.built keyT [] = some (agg3 0 0 0) := by kernel_rfl
theorem law3 : Keyed Try.prog keyT := Keyed.of_law (deep_law_laid (P := Try.prog) (by kernel_rfl) (m := 5) (by omega) (of_decide_eq_true (by kernel_rfl)) (by kernel_rfl) (by rw [Try.underlying61]))
theorem lits5 (m n : Nat) (h : n < 256) : Try.prog.keyLits (m + 1) 5 [.int .u8 (n : Int)] = some [.int .u8 (n : Int)] := by
  have hw : (Lit.int .u8 (n : Int)).wf = true := by simp [Lit.wf, IntKind.min, IntKind.max, IntKind.bits, IntKind.signed]; omega
  unfold Program.keyLits
  simp only [Try.underlying5, hw]
  simp
theorem cellsK : Try.prog.cellsOf keyT = 3 := by kernel_rfl
theorem cellsU8 : Try.prog.cellsOf 5 = 1 := by kernel_rfl
/-- what three bytes read as -/
def kl (x y z : Nat) : Lit := .string (keyBytes [.int .u8 (x : Int), .int .u8 (y : Int), .int .u8 (z : Int)])
theorem key3 (x y z : Nat) (hx : x < 256) (hy : y < 256) (hz : z < 256) : keyOf Try.prog keyT (.agg (agg3 x y z)) = some (kl x y z) := by
  obtain ⟨m, hm⟩ : ∃ m, Try.prog.types.size + 1 = m + 1 + 1 := ⟨Try.prog.types.size - 1, by have h : 1 ≤ Try.prog.types.size := of_decide_eq_true (by kernel_rfl); omega⟩
  have hk : Try.prog.keyType keyT = true := by kernel_rfl
  have hf : (Value.agg (agg3 x y z)).formed Try.prog keyT = true := by
    unfold Value.formed
    simp only [Try.underlying61, cellsK]
    rfl
  have hl : Try.prog.keyLits (Try.prog.types.size + 1) keyT (agg3 x y z).toList = some [.int .u8 (x : Int), .int .u8 (y : Int), .int .u8 (z : Int)] := by
    rw [hm]
    unfold Program.keyLits
    simp only [Try.underlying61, cellsK, cellsU8]
    have h0 := lits5 m x hx
    have h1 := lits5 m y hy
    have h2 := lits5 m z hz
    simp [agg3, List.range_succ, h0, h1, h2]
  unfold keyOf
  simp only [Try.underlying61, hk, hf, Bool.and_self, if_true, Value.cells]
  rw [hl]
  rfl
def klAt (s : ByteArray) (i : Nat) : Lit := kl (D.tri s i).1 (D.tri s i).2.1 (D.tri s i).2.2
theorem keyAt (s : ByteArray) (i : Nat) : keyOf Try.prog keyT (.agg (agg3 (D.tri s i).1 (D.tri s i).2.1 (D.tri s i).2.2)) = some (klAt s i) := key3 _ _ _ (D.at8_lt s _) (D.at8_lt s _) (D.at8_lt s _)
theorem klAt_ne {s : ByteArray} {i j : Nat} (h : D.tri s i ≠ D.tri s j) : klAt s i ≠ klAt s j := fun e => h (by
  have h1 := keyAt s i
  have h2 := keyAt s j
  rw [← e] at h2
  have h3 := law3.inj h1 h2
  unfold agg3 at h3
  simp only [Value.agg.injEq, Array.mk.injEq, List.cons.injEq, Value.int.injEq, true_and, and_true] at h3
  refine Prod.ext ?_ (Prod.ext ?_ ?_) <;> omega)
theorem klAt_eq {s : ByteArray} {i j : Nat} (h : D.tri s i = D.tri s j) : klAt s i = klAt s j := by unfold klAt; rw [h]
/-- what the map reads as behind k places -/
def mapD (s : ByteArray) : Nat → DataW Unit
  | 0 => .map []
  | k + 1 => if k + 3 ≤ s.size then (mapD s k).put (klAt s k) (.lit (.int .i64 (k : Int))) else mapD s k
theorem mapD_isMap (s : ByteArray) : ∀ k, IsMap (mapD s k)
  | 0 => isMap_empty
  | k + 1 => by
    rw [mapD]
    split
    · exact (mapD_isMap s k).put _ _
    · exact mapD_isMap s k
theorem mapD_at (s : ByteArray) (i : Nat) (hi : i + 3 ≤ s.size) : ∀ k, Maps.has (mapD s k) (klAt s i) = decide (D.pn s k i ≠ 0) ∧ (mapD s k).atKey (klAt s i) (.lit (.int .i64 0)) = .lit (.int .i64 ((D.pn s k i - 1 : Nat) : Int))
  | 0 => ⟨rfl, rfl⟩
  | k + 1 => by
    have ih := mapD_at s i hi k
    rw [mapD, D.pn]
    by_cases h3 : k + 3 ≤ s.size
    · rw [if_pos h3]
      by_cases ht : D.tri s k = D.tri s i
      · rw [if_pos ⟨h3, ht⟩, ← klAt_eq ht]
        refine ⟨?_, ?_⟩
        · rw [has_put_same (mapD_isMap s k) (law3.key (keyAt s k))]
          simp
        · rw [atKey_put_same (mapD_isMap s k) (law3.key (keyAt s k))]
          rfl
      · rw [if_neg (fun h => ht h.2), has_put_other (klAt_ne (Ne.symm ht)), atKey_put_other (klAt_ne (Ne.symm ht))]
        exact ih
    · rw [if_neg h3, if_neg (fun h => h3 h.1)]
      exact ih
/-- whole numbers in a block -/
def zA (f : Nat → Int) (n : Nat) : Array Value := ((List.range n).map fun i => Value.int .i64 (f i)).toArray
theorem zA_at (f : Nat → Int) (n i : Nat) (h : i < n) : (zA f n)[i]? = some (.int .i64 (f i)) := by simp [zA, h]
theorem zA_size (f : Nat → Int) (n : Nat) : (zA f n).size = n := by simp [zA]
theorem zA_set (f : Nat → Int) (n i : Nat) (v : Int) : (zA f n).setIfInBounds i (.int .i64 v) = zA (fun j => if j = i then v else f j) n := by
  apply Array.ext
  · simp [zA]
  · intro j h1 h2
    have hj : j < n := by rw [zA_size] at h2; exact h2
    rw [Array.getElem_setIfInBounds (by rw [zA_size]; exact hj)]
    simp only [zA, List.getElem_toArray, List.getElem_map, List.getElem_range]
    by_cases e : i = j
    · rw [if_pos e, if_pos e.symm]
    · rw [if_neg e, if_neg (Ne.symm e)]
theorem zA_zero (n : Nat) : Array.replicate n (Value.int .i64 0) = zA (fun _ => 0) n := by
  apply Array.ext
  · simp [zA]
  · intro j h1 h2
    simp [zA]
/-- the place behind, kept for the first k places -/
def eaF (s : ByteArray) (k i : Nat) : Int := if i < k then (D.pq s i : Int) - 1 else 0
structure Bh (w : World) (b bm be : Nat) (s : ByteArray) (k : Nat) : Prop where
  blk : Blk w b (bhA s bm be) 44
  mp : w.ownsMap Try.prog keyT (plainElem Try.prog 3) bm k (mapD s k)
  ea : Blk w be (zA (eaF s k) s.size) 3
  ne : bm ≠ be ∧ b ≠ bm ∧ b ≠ be
theorem Bh.cells {w : World} {b bm be : Nat} {s : ByteArray} {k : Nat} (h : Bh w b bm be s k) : w.cell? ⟨b, 0, none⟩ = some (.string s) ∧ w.cell? ⟨b, 1, none⟩ = some (.map (some bm)) ∧ w.cell? ⟨b, 2, none⟩ = some (.slice (some ⟨be, 0, none⟩) s.size s.size) := ⟨h.blk.cell 0, h.blk.cell 1, h.blk.cell 2⟩
theorem Bh.of {w w' : World} {b bm be : Nat} {s : ByteArray} {k : Nat} (h : Bh w b bm be s k) (h1 : w'.heap[b]? = w.heap[b]?) (h2 : w'.heap[bm]? = w.heap[bm]?) (h3 : w'.heap[be]? = w.heap[be]?) : Bh w' b bm be s k :=
  ⟨by unfold Blk; rw [h1]; exact h.blk, ownsMap_keep h.mp h2, by unfold Blk; rw [h3]; exact h.ea, h.ne⟩
theorem Bh.lt {w : World} {b bm be : Nat} {s : ByteArray} {k : Nat} (h : Bh w b bm be s k) : b < w.heap.size ∧ bm < w.heap.size ∧ be < w.heap.size := ⟨h.blk.lt, h.mp.lt, h.ea.lt⟩
theorem Bh.keep {w w' : World} {b bm be : Nat} {s : ByteArray} {k : Nat} (h : Bh w b bm be s k) (hb : Below w.heap.size w w') : Bh w' b bm be s k := h.of (hb.block _ h.lt.1) (hb.block _ h.lt.2.1) (hb.block _ h.lt.2.2)
def T3Post (w : World) (s : ByteArray) (i : Nat) (e : Ending) (w' : World) : Prop :=
  ∃ x y z, e = .returned (.tuple #[.agg (agg3 x y z), .bool (decide (i + 3 ≤ s.size))]) ∧ Hid (i + 3 ≤ s.size → (x, y, z) = D.tri s i) ∧ Below w.heap.size w w'
set_option maxHeartbeats 1000000 in
theorem three_any {w : World} {b bm be : Nat} {s : ByteArray} (h : Blk w b (bhA s bm be) 44) (i : Nat) (hs : s.size ≤ 1000000) (hi : i ≤ s.size) :
    Calls Try.prog 38 #[.pointer (some ⟨b, 0, none⟩), .int .i64 (i : Int)] w (T3Post w s i) := by
  obtain ⟨r, hr⟩ : ∃ r, r = s.size - i := ⟨_, rfl⟩
  have e1 : (s.size : Int) - (i : Int) = (r : Int) := by omega
  have hr9 : r ≤ 1000000 := by omega
  have HB := Lib.hid h
  by_cases h3 : i + 3 ≤ s.size
  · have t : decide ((r : Int) < 3) = false := by rw [decide_eq_false_iff_not]; omega
    have ht : decide (i + 3 ≤ s.size) = true := by rw [decide_eq_true_iff]; exact h3
    have j0 : i < s.size := by omega
    obtain ⟨i1, hi1⟩ : ∃ x, x = i + 1 := ⟨_, rfl⟩
    obtain ⟨i2, hi2⟩ : ∃ x, x = i + 2 := ⟨_, rfl⟩
    have e2 : (i : Int) + 1 = (i1 : Int) := by omega
    have e3 : (i : Int) + 2 = (i2 : Int) := by omega
    have j1 : i1 < s.size := by omega
    have j2 : i2 < s.size := by omega
    have k0 : (i : Int) < (s.size : Int) := by omega
    have k1 : (i1 : Int) < (s.size : Int) := by omega
    have k2 : (i2 : Int) < (s.size : Int) := by omega
    have HX : Hid ((s[i].toNat, s[i1].toNat, s[i2].toNat) = D.tri s i) := Lib.hid (by unfold D.tri; rw [← hi1, ← hi2, D.at8_at s i j0, D.at8_at s i1 j1, D.at8_at s i2 j2])
    obtain ⟨x, hx⟩ : ∃ x, s[i].toNat = x := ⟨_, rfl⟩
    obtain ⟨y, hy⟩ : ∃ x, s[i1].toNat = x := ⟨_, rfl⟩
    obtain ⟨z, hz⟩ : ∃ x, s[i2].toNat = x := ⟨_, rfl⟩
    rw [hx, hy, hz] at HX
    have hb3 := builtK x y z
    clear h hr hi1 hi2
    go_enter Try.func38, Try.ntmps38
    go_upto_region 1 with (refine wl_alloc keyT _ zeroK rfl rfl ?_; intro W1 b4 B4 l4 k4)
    have c0 : W1.cell? ⟨b, 0, none⟩ = some (.string s) := (HB.out.keep k4).cell 0
    go_upto_region 3 with (fail)
    have f0 := B4.frozen 0
    have f1 := B4.frozen 1
    have f2 := B4.frozen 2
    have d0 : W1.cell? ⟨b4, 0, none⟩ = some (.int .u8 0) := B4.cell 0
    have d1 : W1.cell? ⟨b4, 1, none⟩ = some (.int .u8 0) := B4.cell 1
    have d2 : W1.cell? ⟨b4, 2, none⟩ = some (.int .u8 0) := B4.cell 2
    go_region
    go_wp2
    refine post_cell_tmp (v := .bool true) Try.underlying61 rfl sizeK Try.results38 (((B4.set 0 (.int .u8 (x : Int))).set 1 (.int .u8 (y : Int))).set 2 (.int .u8 (z : Int))).drew rfl rfl rfl rfl ?_
    exact ⟨x, y, z, by rw [ht]; rfl, Lib.hid (fun _ => HX.out), (bq_set (bq_set (bq_set k4 ⟨b4, 0, none⟩ l4 _) ⟨b4, 1, none⟩ l4 _) ⟨b4, 2, none⟩ l4 _).drew⟩
  · have t : decide ((r : Int) < 3) = true := by rw [decide_eq_true_iff]; omega
    have ht : decide (i + 3 ≤ s.size) = false := by rw [decide_eq_false_iff_not]; exact h3
    clear h hr
    go_enter Try.func38, Try.ntmps38
    go_upto_region 1 with (refine wl_alloc keyT _ zeroK rfl rfl ?_; intro W1 b4 B4 l4 k4)
    have c0 : W1.cell? ⟨b, 0, none⟩ = some (.string s) := (HB.out.keep k4).cell 0
    go_wp2_with (first
      | (refine wlg_build keyT _ _ builtK0 _ rfl rfl rfl ?_)
      | (refine wl_store keyT 3 sizeK _ _ rfl rfl b4 rfl (agg3 0 0 0) rfl _ _ B4 rfl rfl (agg3_one _ _ _) ?_; intro W2 C2 hT2))
    refine post_cell_tmp (v := .bool false) Try.underlying61 rfl sizeK Try.results38 C2 rfl rfl rfl rfl ?_
    exact ⟨0, 0, 0, by rw [ht], Lib.hid (fun h => absurd h h3), hT2.below k4 l4⟩
/-- where the three bytes of a place stood last, all places ahead of k being kept -/
def D.pk (s : ByteArray) (k i : Nat) : Nat := if i + 3 ≤ s.size then D.pn s k i else 0
theorem zeroI (w : World) : (zeroValue 3).run Try.prog w = .ok (.int .i64 0) w := by kernel_rfl
theorem look3 {w : World} {b bm be : Nat} {s : ByteArray} {k : Nat} (h : Bh w b bm be s k) (i : Nat) (hi : i + 3 ≤ s.size) (x y z : Nat) (hx : (x, y, z) = D.tri s i) :
    (Instr.lookup 41 (.map (some bm)) (.agg (agg3 x y z)) true).run Try.prog w = .ok (.tuple #[.int .i64 ((D.pn s k i - 1 : Nat) : Int), .bool (decide (D.pn s k i ≠ 0))]) w := by
  have hk := keyAt s i
  rw [← hx] at hk
  obtain ⟨hm1, hm2⟩ := mapD_at s i hi k
  obtain ⟨v, ps, hrun, hv⟩ := h.mp.look_ok law3 Try.underlying41 (zeroI w) (plainElem_int (H := Unit) Try.underlying3 (by decide)) hk
  obtain ⟨c, rfl, hc, hwc⟩ := plainElem_int_inv Try.underlying3 hv
  simp only [Prod.mk.injEq] at hc
  rw [hm2] at hc
  have hcc := hc.1
  simp only [DataW.lit.injEq, Lit.int.injEq, true_and] at hcc
  rw [hrun, hm1, hcc]
theorem Bh.drewN {w : World} {b bm be : Nat} {s : ByteArray} {k : Nat} (h : Bh w b bm be s k) (n : Nat) : Bh (w.drewN n) b bm be s k := h.keep (bq_drewN (bq_refl w) n)
set_option maxHeartbeats 1000000 in
theorem stood_any {w : World} {b bm be : Nat} {s : ByteArray} {k : Nat} (h : Bh w b bm be s k) (i : Nat) (hs : s.size ≤ 1000000) (hi : i ≤ s.size) (hk : k ≤ 1000000) :
    Calls Try.prog 35 #[.pointer (some ⟨b, 0, none⟩), .int .i64 (i : Int)] w fun e w' => e = .returned (.int .i64 ((D.pk s k i : Int) - 1)) ∧ Below w.heap.size w w' := by
  have HB := Lib.hid h
  have HT := Lib.hid (three_any h.blk i hs hi)
  have yb := h.lt
  by_cases h3 : i + 3 ≤ s.size
  · have ht : decide (i + 3 ≤ s.size) = true := by rw [decide_eq_true_iff]; exact h3
    have hpk : D.pk s k i = D.pn s k i := by unfold D.pk; rw [if_pos h3]
    rw [hpk]
    have hpn := D.pn_le s k i
    clear h hpk
    go_enter Try.func35, Try.ntmps35
    go_upto_region 2 with (first
      | (go_at_call 38; refine HT.out.mono ?_; rintro e w1 ⟨x, y, z, rfl, hx, hb1⟩; rw [ht])
      | (refine wl_alloc keyT _ zeroK rfl rfl ?_; intro W2 b5 B5 l5 k5)
      | (refine wl_store keyT 3 sizeK _ _ rfl rfl b5 rfl (agg3 x y z) rfl _ _ B5 rfl rfl (agg3_one _ _ _) ?_; intro W3 C3 hT3))
    have s1 := hb1.size
    have hB3 : Bh W3 b bm be s k := by
      have h2 := (HB.out.keep hb1).keep k5
      exact h2.of (hT3.block _ (by omega)) (hT3.block _ (by omega)) (hT3.block _ (by omega))
    have HB3 := Lib.hid (hT3.below (bq_trans hb1 k5) (by omega))
    obtain ⟨_, c1, _⟩ := hB3.cells
    have hl : ∀ j, (Instr.lookup 41 (.map (some bm)) (.agg #[.int .u8 (x : Int), .int .u8 (y : Int), .int .u8 (z : Int)]) true).run Try.prog (W3.drewN j) = .ok (.tuple #[.int .i64 ((D.pn s k i - 1 : Nat) : Int), .bool (decide (D.pn s k i ≠ 0))]) (W3.drewN j) := fun j => look3 (hB3.drewN j) i h3 x y z (hx.out h3)
    obtain ⟨q, hq⟩ : ∃ q, q = D.pn s k i := ⟨_, rfl⟩
    rw [← hq] at hl hpn
    have HQ := Lib.hid hq
    have d0 : W3.cell? ⟨b5, 0, none⟩ = some (.int .u8 (x : Int)) := C3.cell 0
    have d1 : W3.cell? ⟨b5, 1, none⟩ = some (.int .u8 (y : Int)) := C3.cell 1
    have d2 : W3.cell? ⟨b5, 2, none⟩ = some (.int .u8 (z : Int)) := C3.cell 2
    obtain ⟨q1, hq1⟩ : ∃ q1, q1 = q - 1 := ⟨_, rfl⟩
    rw [← hq1] at hl
    clear hq HT hB3 hb1 B5 l5 k5 hT3 s1
    by_cases h0 : q = 0
    · have hd : decide (q ≠ 0) = false := by rw [decide_eq_false_iff_not]; exact fun h => h h0
      rw [hd] at hl
      have HR : Hid (((D.pn s k i : Nat) : Int) - 1 = -1) := Lib.hid (by rw [← HQ.out]; omega)
      clear h0 hd hq1
      go_upto_region 3 with (fail)
      go_quiet (fail)
      go_wp2
      go_ret
      exact ⟨by rw [HR.out]; rfl, bq_drewN HB3.out nq⟩
    · have hd : decide (q ≠ 0) = true := by rw [decide_eq_true_iff]; exact h0
      rw [hd] at hl
      have HR : Hid (((D.pn s k i : Nat) : Int) - 1 = (q1 : Int)) := Lib.hid (by rw [← HQ.out]; omega)
      clear h0 hd hq1
      go_upto_region 3 with (fail)
      go_quiet (fail)
      go_wp2
      go_ret
      exact ⟨by rw [HR.out]; rfl, bq_drewN HB3.out nq⟩
  · have ht : decide (i + 3 ≤ s.size) = false := by rw [decide_eq_false_iff_not]; exact h3
    have hpk : D.pk s k i = 0 := by unfold D.pk; rw [if_neg h3]
    rw [hpk]
    clear h hpk
    go_enter Try.func35, Try.ntmps35
    go_wp2_with (first
      | (go_at_call 38; refine HT.out.mono ?_; rintro e w1 ⟨x, y, z, rfl, hx, hb1⟩; rw [ht])
      | (refine wl_alloc keyT _ zeroK rfl rfl ?_; intro W2 b5 B5 l5 k5)
      | (refine wl_store keyT 3 sizeK _ _ rfl rfl b5 rfl (agg3 x y z) rfl _ _ B5 rfl rfl (agg3_one _ _ _) ?_; intro W3 C3 hT3))
    go_ret
    exact ⟨rfl, hT3.below (bq_trans hb1 k5) (by have := hb1.size; omega)⟩
end Go.Proofs.Ytddiccdfeckgaaa
