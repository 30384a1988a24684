import Derived.Test.YtddiccdfeckgaaaQF
/- Layer 6: places are kept. -/
namespace Go.Proofs.Ytddiccdfeckgaaa
open Go.RowKit Go.Maps
set_option maxRecDepth 100000
set_option linter.unusedVariables false
set_option linter.unusedSimpArgs false
/-- what keeping turns: the map's block and the list's alone -/
structure Kh (bm be : Nat) (w w' : World) : Prop where
  os : w'.os = w.os
  tape : w'.tape = w.tape
  output : w'.output = w.output
  size : w.heap.size ≤ w'.heap.size
  block : ∀ k, k < w.heap.size → k ≠ bm → k ≠ be → w'.heap[k]? = w.heap[k]?
section
variable {bm be : Nat} {w w' w'' : World}
theorem Kh.refl (bm be : Nat) (w : World) : Kh bm be w w := ⟨rfl, rfl, rfl, Nat.le_refl _, fun _ _ _ _ => rfl⟩
theorem Kh.trans (h : Kh bm be w w') (k : Kh bm be w' w'') : Kh bm be w w'' := ⟨k.os.trans h.os, k.tape.trans h.tape, k.output.trans h.output, Nat.le_trans h.size k.size, fun i hi h1 h2 => (k.block i (by have := h.size; omega) h1 h2).trans (h.block i hi h1 h2)⟩
theorem Kh.of_below (bm be : Nat) (h : Below w.heap.size w w') : Kh bm be w w' := ⟨h.os, h.tape, h.output, h.size, fun i hi _ _ => h.block i hi⟩
theorem Kh.of_turned (bm : Nat) (h : Turned be w w') : Kh bm be w w' := ⟨h.os, h.tape, h.output, by have := h.size; omega, fun i hi _ h2 => h.block i h2⟩
theorem Kh.of_grown (be : Nat) (h : w.grownBy w' (some bm)) : Kh bm be w w' := ⟨h.os, h.tape, h.output, h.size, fun i hi h1 _ => h.block i hi (fun e => h1 (by injection e))⟩
end
theorem eaF_succ (s : ByteArray) (i : Nat) : (fun j => if j = i then (D.pq s i : Int) - 1 else eaF s i j) = eaF s (i + 1) := by
  funext j
  unfold eaF
  by_cases h : j = i
  · subst h
    rw [if_pos rfl, if_pos (by omega)]
  · rw [if_neg h]
    by_cases h2 : j < i
    · rw [if_pos h2, if_pos (by omega)]
    · rw [if_neg h2, if_neg (by omega)]
def KpRel (w : World) (b bm be : Nat) (s : ByteArray) (a n : Nat) (i : Value) (wr : World) : Prop := ∃ k, a ≤ k ∧ k ≤ a + n ∧ i = .int .i64 (k : Int) ∧ Bh wr b bm be s k ∧ Kh bm be w wr
set_option maxHeartbeats 4000000 in
theorem keep_any {w : World} {b bm be : Nat} {s : ByteArray} {a : Nat} (h : Bh w b bm be s a) (n : Nat) (hs : s.size ≤ 1000000) (hn : a + n ≤ s.size) :
    Calls Try.prog 24 #[.pointer (some ⟨b, 0, none⟩), .int .i64 (a : Int), .int .i64 (n : Int)] w fun e w' => e = .returned (.tuple #[]) ∧ Bh w' b bm be s (a + n) ∧ Kh bm be w w' := by
  obtain ⟨an, han⟩ : ∃ x, x = a + n := ⟨_, rfl⟩
  have e1 : (a : Int) + (n : Int) = (an : Int) := by omega
  have han9 : an ≤ 1000000 := by omega
  have HST : Hid (KpRel w b bm be s a n (.int .i64 (a : Int)) w) := Lib.hid ⟨a, Nat.le_refl _, by omega, rfl, h, Kh.refl _ _ _⟩
  have HAN := Lib.hid han
  clear h han
  go_enter Try.func24, Try.ntmps24
  go_wp2
  go_loopw [6] (fun i wr => KpRel w b bm be s a n i wr) (fun i _ => an - (intOf i).toNat)
  case atStart => exact HST.out
  case round =>
    obtain ⟨k, hk1, hk2, rfl, hB, hK⟩ := hrel
    clear HST
    have HB := Lib.hid hB
    have HK := Lib.hid hK
    by_cases hlt : k < an
    · have t0 : decide ((k : Int) < (an : Int)) = true := by rw [decide_eq_true_iff]; omega
      have hks : k < s.size := by have := HAN.out; omega
      have HSD : Hid (∀ w', Below wr.heap.size wr w' → Calls Try.prog 35 #[.pointer (some ⟨b, 0, none⟩), .int .i64 (k : Int)] w' fun e w'' => e = .returned (.int .i64 ((D.pq s k : Int) - 1)) ∧ Below wr.heap.size wr w'') := Lib.hid (fun w' hw' => (stood_any (HB.out.keep hw') k hs (by omega) (by omega)).mono fun e w'' ⟨h1, h2⟩ => ⟨h1, bq_trans hw' h2⟩)
      obtain ⟨c0, c1, c2⟩ := hB.cells
      have HC2 : Hid (∀ w', Below wr.heap.size wr w' → w'.cell? ⟨b, 2, none⟩ = some (.slice (some ⟨be, 0, none⟩) s.size s.size)) := Lib.hid (fun w' hw' => (HB.out.keep hw').cells.2.2)
      have hd0 : Below wr.heap.size wr wr.drew := bq_drew (bq_refl wr)
      have yb := hB.lt
      have ynb := hB.ne
      obtain ⟨V, hV⟩ : ∃ V : Int, V = (D.pq s k : Int) - 1 := ⟨_, rfl⟩
      rw [← hV] at HSD
      have HV := Lib.hid hV
      have i1 : (k : Int) < (s.size : Int) := by omega
      have i2 : (0 : Int) ≤ (k : Int) := by omega
      clear hB hK hV
      go_wp2_with fail
      go_region_with (go_at_call 35; refine (HSD.out _ (by first | assumption | exact hd0)).mono ?_; rintro e w9 ⟨rfl, hb9⟩; have cq := HC2.out _ hb9; have co := ((HB.out.keep hb9).ea.cell k).trans (zA_at _ _ k hks); have fo := (HB.out.keep hb9).ea.frozen k)
      all_goals
        have hB9 := HB.out.keep hb9
        have hT9 := turned_set w9 ⟨be, k, none⟩ (.int .i64 V)
        have hE3 := hB9.ea.set k (.int .i64 V)
        rw [zA_set, HV.out, eaF_succ] at hE3
        have hE3' : Blk (w9.setCell ⟨be, k, none⟩ (.int .i64 V)) be (zA (eaF s (k + 1)) s.size) 3 := by rw [HV.out]; exact hE3
        have hM3 : (w9.setCell ⟨be, k, none⟩ (.int .i64 V)).ownsMap Try.prog keyT (plainElem (H := Unit) Try.prog 3) bm k (mapD s k) := ownsMap_keep hB9.mp (hT9.block bm (by show bm ≠ be; exact ynb.1))
        have hC3 : Blk (w9.setCell ⟨be, k, none⟩ (.int .i64 V)) b (bhA s bm be) 44 := hT9.blk hB9.blk ynb.2.2
        have HK3 := Lib.hid ((HK.out.trans (Kh.of_below bm be hb9)).trans (Kh.of_turned bm hT9))
        clear hE3 hT9 hB9 cq co fo hb9 c0 c1 c2 HC2 HSD hd0 HB HK HV yb
        generalize w9.setCell ⟨be, k, none⟩ (.int .i64 V) = W3 at *
        have HT := Lib.hid (three_any hC3 k hs (by omega))
        have HE3 := Lib.hid hE3'
        have HM3 := Lib.hid hM3
        have HC3 := Lib.hid hC3
        have ym := hM3.lt
        have ye := hE3'.lt
        have yc := hC3.lt
        clear hE3' hM3 hC3
        by_cases h3 : k + 3 ≤ s.size
        · have ht : decide (k + 3 ≤ s.size) = true := by rw [decide_eq_true_iff]; exact h3
          go_upto_region 5 with (first
            | (go_at_call 38; refine HT.out.mono ?_; rintro e w4 ⟨x, y, z, rfl, hx, hb4⟩; rw [ht])
            | (refine wl_alloc keyT _ zeroK rfl rfl ?_; intro W5 b7 B7 l7 k7)
            | (refine wl_store keyT 3 sizeK _ _ rfl rfl b7 rfl (agg3 x y z) rfl _ _ B7 rfl rfl (agg3_one _ _ _) ?_; intro W6 C6 hT6))
          have s4 := hb4.size
          have hb5 := bq_trans hb4 k7
          have hM6 : W6.ownsMap Try.prog keyT (plainElem (H := Unit) Try.prog 3) bm k (mapD s k) := ownsMap_keep HM3.out (by rw [hT6.block bm (by omega), hb5.block bm ym])
          have hE6 : Blk W6 be (zA (eaF s (k + 1)) s.size) 3 := hT6.blk (HE3.out.keep hb5) (by omega)
          have hC6 : Blk W6 b (bhA s bm be) 44 := hT6.blk (HC3.out.keep hb5) (by omega)
          have HK6 := Lib.hid (HK3.out.trans (Kh.of_below bm be (hT6.below hb5 (by omega))))
          have hkey := keyAt s k
          rw [← hx.out h3] at hkey
          have hkw : (Lit.int .i64 (k : Int)).wf = true := by simp [Lit.wf, IntKind.min, IntKind.max, IntKind.bits, IntKind.signed]; omega
          have hM6' : W6.drew.ownsMap Try.prog keyT (plainElem (H := Unit) Try.prog 3) bm k (mapD s k) := ownsMap_keep hM6 rfl
          obtain ⟨w7, hrun, hM7, hG7⟩ := hM6'.update law3 Try.underlying41 (by unfold maxLen; omega) hkey (plainElem_int (H := Unit) Try.underlying3 hkw)
          have hrun : (Instr.mapUpdate 41 (.map (some bm)) (.agg #[.int .u8 (x : Int), .int .u8 (y : Int), .int .u8 (z : Int)]) (.int .i64 (k : Int))).run Try.prog W6.drew = .ok () w7 := hrun
          have d0 : W6.cell? ⟨b7, 0, none⟩ = some (.int .u8 (x : Int)) := C6.cell 0
          have d1 : W6.cell? ⟨b7, 1, none⟩ = some (.int .u8 (y : Int)) := C6.cell 1
          have d2 : W6.cell? ⟨b7, 2, none⟩ = some (.int .u8 (z : Int)) := C6.cell 2
          have c1 : W6.cell? ⟨b, 1, none⟩ = some (.map (some bm)) := hC6.cell 1
          have ye6 := hE6.lt
          have yc6 := hC6.lt
          have HFIN : Hid (Bh w7 b bm be s (k + 1) ∧ Kh bm be w w7) := Lib.hid ⟨⟨by
              unfold Blk; rw [hG7.block b yc6 (fun e => by injection e with e; exact ynb.2.1 e)]; exact hC6, by
              rw [mapD, if_pos h3]
              exact hM7, by
              unfold Blk; rw [hG7.block be ye6 (fun e => by injection e with e; exact ynb.1 e.symm)]; exact hE6, ynb⟩,
            HK6.out.trans ((Kh.of_below bm be (bq_drew (bq_refl W6))).trans (Kh.of_grown be hG7))⟩
          clear HT HE3 HM3 HC3 HK3 hb4 B7 l7 k7 hT6 hb5 hM6 hE6 hC6 hM6' hM7 hG7 hkey C6
          go_upto_region 6 with (fail)
          go_region
          go_wp2
          go_roundw
          case rel => exact ⟨k + 1, by omega, by have := HAN.out; omega, by go_num, HFIN.out.1, HFIN.out.2⟩
          case measure => simp [intOf]; omega
        · have ht : decide (k + 3 ≤ s.size) = false := by rw [decide_eq_false_iff_not]; exact h3
          go_upto_region 5 with (first
            | (go_at_call 38; refine HT.out.mono ?_; rintro e w4 ⟨x, y, z, rfl, hx, hb4⟩; rw [ht])
            | (refine wl_alloc keyT _ zeroK rfl rfl ?_; intro W5 b7 B7 l7 k7)
            | (refine wl_store keyT 3 sizeK _ _ rfl rfl b7 rfl (agg3 x y z) rfl _ _ B7 rfl rfl (agg3_one _ _ _) ?_; intro W6 C6 hT6))
          have s4 := hb4.size
          have hb5 := bq_trans hb4 k7
          have hM6 : W6.ownsMap Try.prog keyT (plainElem (H := Unit) Try.prog 3) bm k (mapD s k) := ownsMap_keep HM3.out (by rw [hT6.block bm (by omega), hb5.block bm ym])
          have hE6 : Blk W6 be (zA (eaF s (k + 1)) s.size) 3 := hT6.blk (HE3.out.keep hb5) (by omega)
          have hC6 : Blk W6 b (bhA s bm be) 44 := hT6.blk (HC3.out.keep hb5) (by omega)
          have HK6 := Lib.hid (HK3.out.trans (Kh.of_below bm be (hT6.below hb5 (by omega))))
          have HFIN : Hid (Bh W6 b bm be s (k + 1) ∧ Kh bm be w W6) := Lib.hid ⟨⟨hC6, by
              rw [mapD, if_neg h3]
              exact hM6.mono (by omega), hE6, ynb⟩, HK6.out⟩
          clear HT HE3 HM3 HC3 HK3 hb4 B7 l7 k7 hT6 hb5 hM6 hE6 hC6 C6
          go_wp2
          go_roundw
          case rel => exact ⟨k + 1, by omega, by have := HAN.out; omega, by go_num, HFIN.out.1, HFIN.out.2⟩
          case measure => simp [intOf]; omega
    · have t0 : decide ((k : Int) < (an : Int)) = false := by rw [decide_eq_false_iff_not]; omega
      have hke : k = a + n := by have := HAN.out; omega
      rw [hke] at HB
      clear hke hB hK
      go_wp2
      go_end0
      exact ⟨rfl, HB.out, HK.out⟩
end Go.Proofs.Ytddiccdfeckgaaa
