import Derived.Test.YtddiccdfeckgaaaQG
/- Layer 6: the run of a place, by where three bytes stood. -/
namespace Go.Proofs.Ytddiccdfeckgaaa
open Go.RowKit Go.Maps
set_option maxRecDepth 100000
set_option linter.unusedVariables false
set_option linter.unusedSimpArgs false
def RuRel (w : World) (b bm be b6 : Nat) (s : ByteArray) (a m : Nat) (i : Value) (wr : World) : Prop :=
  ∃ (q l d : Nat), i = .int .i64 ((q : Int) - 1) ∧ q ≤ a ∧ (q ≠ 0 → a + 3 ≤ s.size ∧ D.tri s (q - 1) = D.tri s a) ∧ Sc wr b6 s a m l d ∧ D.Way s a q (l, d) ∧ Bh wr b bm be s a ∧ Below w.heap.size w wr
theorem Bh.turned {w w' : World} {b bm be g : Nat} {s : ByteArray} {k : Nat} (h : Bh w b bm be s k) (t : Turned g w w') (h1 : b ≠ g) (h2 : bm ≠ g) (h3 : be ≠ g) : Bh w' b bm be s k := h.of (t.block _ h1) (t.block _ h2) (t.block _ h3)
set_option maxHeartbeats 2000000 in
theorem brun_any {w : World} {b bm be : Nat} {s : ByteArray} {a : Nat} (h : Bh w b bm be s a) (hs : s.size ≤ 1000000) (ha : a < s.size) :
    Calls Try.prog 20 #[.pointer (some ⟨b, 0, none⟩), .int .i64 (a : Int)] w fun e w' => e = .returned (pairV (D.run s a)) ∧ Below w.heap.size w w' := by
  obtain ⟨R, hR⟩ : ∃ R, R = D.run s a := ⟨_, rfl⟩
  rw [← hR]
  have HR := Lib.hid hR
  have HB := Lib.hid h
  have yb := h.lt
  obtain ⟨c0, c1, c2⟩ := h.cells
  obtain ⟨m, hm⟩ : ∃ m, m = min 258 (s.size - a) := ⟨_, rfl⟩
  have HM := Lib.hid hm
  have HNS := Lib.hid (newSearch_any s a w (by omega) (by omega))
  rw [← hm] at HNS
  clear h hR hm
  go_enter Try.func20, Try.ntmps20
  go_upto_region 2 with (first
    | (go_at_call 14; refine HNS.out.mono ?_; rintro e w1 ⟨rfl, hb1⟩)
    | (refine wl_alloc 34 _ zeroSc rfl rfl ?_; intro W2 b6 B6 l6 k6)
    | (refine wl_store 34 5 sizeSc _ _ rfl rfl b6 rfl (scA s a m 2 0) rfl _ _ B6 rfl rfl (scA_one _ _ _ _ _) ?_; intro W3 C3 hT3))
  have lb6 : w.heap.size ≤ b6 := by have := hb1.size; omega
  have hB3 : Bh W3 b bm be s a := ((HB.out.keep hb1).keep k6).turned hT3 (by omega) (by omega) (by omega)
  have HBL3 := Lib.hid (hT3.below (bq_trans hb1 k6) lb6)
  have HSD := Lib.hid (stood_any hB3 a hs (by omega) (by omega))
  have HSC3 : Hid (Sc W3 b6 s a m 2 0) := Lib.hid C3
  have HB3 := Lib.hid hB3
  clear hb1 B6 l6 k6 C3 hT3 HNS hB3 HB c0 c1 c2
  go_upto_region 3 with (go_at_call 35; refine HSD.out.mono ?_; rintro e w4 ⟨rfl, hb4⟩)
  have hq : D.pk s a a = D.pq s a := rfl
  have HST : Hid (RuRel w b bm be b6 s a m (.int .i64 ((D.pk s a a : Int) - 1)) w4) := Lib.hid ⟨D.pq s a, 2, 0, rfl, D.pq_le s a, fun h0 => by
      unfold D.pq at h0 ⊢
      split at h0
      · rename_i h3
        rw [if_pos h3]
        exact ⟨h3, (D.pn_hit s a a h0).2⟩
      · exact absurd rfl h0, Blk.keep HSC3.out hb4, D.way_start s a ha, HB3.out.keep hb4, bq_trans HBL3.out hb4⟩
  obtain ⟨V, hV⟩ : ∃ V : Int, V = (D.pk s a a : Int) - 1 := ⟨_, rfl⟩
  rw [← hV] at HST ⊢
  clear hb4 HSD HSC3 HB3 HBL3 hq hV
  go_wp2
  go_loopw [7] (fun i wr => RuRel w b bm be b6 s a m i wr) (fun i _ => (intOf i + 1).toNat)
  case atStart => exact HST.out
  case round =>
    obtain ⟨q, l, d, rfl, hqa, hq3, hS, hW, hB, hbl⟩ := hrel
    clear HST
    have HS := Lib.hid hS
    have HW := Lib.hid hW
    have HB := Lib.hid hB
    have HBL := Lib.hid hbl
    clear hS hW hB hbl
    by_cases hq0 : q = 0
    · have hend : D.told (l, d) = R := by rw [HR.out]; exact D.way_end s a q (l, d) ha HW.out (Or.inl hq0) hqa
      have HF := Lib.hid (found_any HS.out)
      rw [hend] at HF
      rw [show ((q : Nat) : Int) - 1 = -1 by omega]
      clear hend
      go_wp2_with (go_at_call 17; refine HF.out.mono ?_; rintro e w5 ⟨rfl, n5, rfl⟩)
      go_ret2
      exact ⟨rfl, bq_drewN HBL.out _⟩
    · obtain ⟨h3, htri⟩ := hq3 hq0
      obtain ⟨p, hp⟩ : ∃ p, p = q - 1 := ⟨_, rfl⟩
      obtain ⟨far, hfar⟩ : ∃ x, x = a - p := ⟨_, rfl⟩
      have ep : ((q : Nat) : Int) - 1 = (p : Int) := by omega
      have ef : (a : Int) - (p : Int) = (far : Int) := by omega
      have t0 : ((p : Int) != -1) = true := by rw [bne_iff_ne]; omega
      have hpa : p < a := by omega
      have hf1 : 1 ≤ far := by omega
      have hfa : far ≤ a := by omega
      have HMES : Hid ((intOf (.int .i64 (((q : Nat) : Int) - 1)) + 1).toNat = p + 1) := Lib.hid (by simp [intOf]; omega)
      rw [ep]
      by_cases hf : 32768 < far
      · have hend : D.told (l, d) = R := by rw [HR.out]; exact D.way_end s a q (l, d) ha HW.out (Or.inr (Or.inl (by omega))) hqa
        have HF := Lib.hid (found_any HS.out)
        rw [hend] at HF
        have t1 : decide ((far : Int) ≤ 32768) = false := by rw [decide_eq_false_iff_not]; omega
        clear hend hp hfar
        go_wp2_with (go_at_call 17; refine HF.out.mono ?_; rintro e w5 ⟨rfl, n5, rfl⟩)
        go_ret2
        exact ⟨rfl, bq_drewN HBL.out _⟩
      have t1 : decide ((far : Int) ≤ 32768) = true := by rw [decide_eq_true_iff]; omega
      have HDN := Lib.hid (done_any HS.out)
      by_cases hdn : m ≤ l
      · have t2 : decide (m ≤ l) = true := by rw [decide_eq_true_iff]; exact hdn
        rw [t2] at HDN
        have hend : D.told (l, d) = R := by rw [HR.out]; exact D.way_end s a q (l, d) ha HW.out (Or.inr (Or.inr (by rw [← HM.out]; exact hdn))) hqa
        have HF := Lib.hid (fun n => found_any (Blk.drewN HS.out n : Sc _ _ _ _ _ _ _))
        rw [hend] at HF
        clear hend hp hfar
        go_wp2_with (first
          | (go_at_call 15; refine HDN.out.mono ?_; rintro e w4 ⟨rfl, n4, rfl⟩)
          | (go_at_call 17; refine (HF.out _).mono ?_; rintro e w5 ⟨rfl, n5, rfl⟩))
        go_ret2
        exact ⟨rfl, bq_drewN HBL.out _⟩
      · have t2 : decide (m ≤ l) = false := by rw [decide_eq_false_iff_not]; exact hdn
        rw [t2] at HDN
        have HAK := Lib.hid (fun n => ask_any (far := far) (Blk.drewN HS.out n : Sc _ _ _ _ _ _ _) (by omega) ha HM.out (by omega) hf1 hfa)
        have hwn := D.way_next s a q (l, d) h3 hq0 htri hqa (by omega) HW.out
        have hask : D.ask s a l d far = (if (l, d).1 < D.mt s a (a - (q - 1)) then (D.mt s a (a - (q - 1)), a - (q - 1)) else (l, d)) := by rw [← hp, ← hfar]; rfl
        rw [← hask, ← hp] at hwn
        have HWN := Lib.hid hwn
        have HQN : Hid (D.pq s p ≠ 0 → a + 3 ≤ s.size ∧ D.tri s (D.pq s p - 1) = D.tri s a) := Lib.hid (fun h0 => ⟨h3, by
          unfold D.pq at h0 ⊢
          rw [if_pos (by omega)] at h0 ⊢
          rw [(D.pn_hit s p p h0).2, ← htri, hp]⟩)
        have hqle := D.pq_le s p
        clear hwn hask hp hfar
        go_upto_region 5 with (go_at_call 15; refine HDN.out.mono ?_; rintro e w4 ⟨rfl, n4, rfl⟩)
        go_upto_region 4 with (go_at_call 16; refine (HAK.out _).mono ?_; rintro e w5 ⟨rfl, hS5, hT5⟩)
        have hB5 : Bh w5 b bm be s a := (HB.out.drewN n4).turned hT5 (by omega) (by omega) (by omega)
        obtain ⟨c0, c1, c2⟩ := hB5.cells
        have cp := (hB5.ea.cell p).trans (zA_at _ _ p (by omega))
        have hev : eaF s a p = (D.pq s p : Int) - 1 := by unfold eaF; rw [if_pos hpa]
        rw [hev] at cp
        obtain ⟨V2, hV2⟩ : ∃ V : Int, V = (D.pq s p : Int) - 1 := ⟨_, rfl⟩
        rw [← hV2] at cp
        have HV2 := Lib.hid hV2
        have i1 : (p : Int) < (s.size : Int) := by omega
        have i2 : (0 : Int) ≤ (p : Int) := by omega
        have i3 : p < s.size := by omega
        have HFIN : Hid (RuRel w b bm be b6 s a m (.int .i64 V2) w5) := Lib.hid ⟨D.pq s p, _, _, by rw [hV2], by omega, HQN.out, hS5, HWN.out, hB5, hT5.below (bq_drewN HBL.out n4) lb6⟩
        clear hB5 hS5 hT5 hev hV2 HAK HDN
        go_wp2
        go_roundw
        case rel => exact HFIN.out
        case measure => rw [HV2.out]; simp [intOf]; omega
end Go.Proofs.Ytddiccdfeckgaaa
