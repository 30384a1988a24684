import Derived.Test.YtddiccdfeckgaaaQ2
/- Layer 6: Run. -/
namespace Go.Proofs.Ytddiccdfeckgaaa
open Go.RowKit
set_option maxRecDepth 100000
set_option linter.unusedVariables false
set_option linter.unusedSimpArgs false
def pairV (p : Nat × Nat) : Value := .tuple #[.int .i64 (p.1 : Int), .int .i64 (p.2 : Int)]
/-- what Run tells -/
def runV (s : ByteArray) (at_ : Int) : Value := if at_ < 0 ∨ (s.size : Int) ≤ at_ then pairV (0, 0) else pairV (D.run s at_.toNat)
def Rn6Rel (w : World) (b : Nat) (s : ByteArray) (a m K : Nat) (i : Value) (wr : World) : Prop :=
  ∃ j, 1 ≤ j ∧ j ≤ K + 1 ∧ i = .int .i64 (j : Int) ∧ Sc wr b s a m (D.held (D.best s a (j - 1))).1 (D.held (D.best s a (j - 1))).2 ∧ Below w.heap.size w wr
theorem Turned.belowX {a w w' : World} {g : Nat} (h : Turned g w w') (hb : Below a.heap.size a w) (hg : a.heap.size ≤ g) : Below a.heap.size a w' := h.below hb hg
set_option maxHeartbeats 2000000 in
theorem run_any (s : ByteArray) (at_ : Int) (w : World) (hs : s.size ≤ 1099511627776) :
    Calls Try.prog 8 #[.string s, .int .i64 at_] w fun e w' => e = .returned (runV s at_) ∧ Below w.heap.size w w' := by
  by_cases h0 : at_ < 0
  · have hR : runV s at_ = pairV (0, 0) := by unfold runV; rw [if_pos (Or.inl h0)]
    have q : decide (at_ < 0) = true := by rw [decide_eq_true_iff]; omega
    rw [hR]
    clear hR
    go_enter Try.func8, Try.ntmps8
    go_wp2
    go_ret2
    exact ⟨rfl, bq_refl _⟩
  obtain ⟨a, rfl⟩ : ∃ a : Nat, at_ = (a : Int) := ⟨at_.toNat, by omega⟩
  have q : decide ((a : Int) < 0) = false := by rw [decide_eq_false_iff_not]; omega
  clear h0
  by_cases h1 : s.size ≤ a
  · have hR : runV s (a : Int) = pairV (0, 0) := by unfold runV; rw [if_pos (Or.inr (by omega))]
    have q1 : decide ((s.size : Int) ≤ (a : Int)) = true := by rw [decide_eq_true_iff]; omega
    have q2 : decide (s.size ≤ a) = true := by rw [decide_eq_true_iff]; omega
    rw [hR]
    clear hR
    go_enter Try.func8, Try.ntmps8
    go_wp2
    go_ret2
    exact ⟨rfl, bq_refl _⟩
  have ha : a < s.size := by omega
  have q1 : decide ((s.size : Int) ≤ (a : Int)) = false := by rw [decide_eq_false_iff_not]; omega
  have q2 : decide (s.size ≤ a) = false := by rw [decide_eq_false_iff_not]; omega
  obtain ⟨K, hK⟩ : ∃ K, K = min a 32768 := ⟨_, rfl⟩
  obtain ⟨R, hR⟩ : ∃ R, R = D.cut3 (D.best s a K) := ⟨_, rfl⟩
  have hRV : runV s (a : Int) = pairV R := by unfold runV; rw [if_neg (by omega), Int.toNat_natCast, hR, hK]; rfl
  rw [hRV]
  have eK : min (a : Int) 32768 = (K : Int) := by omega
  have hK9 : K ≤ 32768 := by omega
  have hKa : K ≤ a := by omega
  have HR := Lib.hid hR
  obtain ⟨m, hm⟩ : ∃ m, m = min 258 (s.size - a) := ⟨_, rfl⟩
  have HM := Lib.hid hm
  have HNS := Lib.hid (newSearch_any s a w hs (by omega))
  rw [← hm] at HNS
  clear hK hR hRV hm h1
  go_enter Try.func8, Try.ntmps8
  go_upto_region 4 with (first
    | (go_at_call 14; refine HNS.out.mono ?_; rintro e w1 ⟨rfl, hb1⟩)
    | (refine wl_alloc 34 _ zeroSc rfl rfl ?_; intro W2 b6 B6 l6 k6)
    | (refine wl_store 34 5 sizeSc _ _ rfl rfl b6 rfl (scA s a m 2 0) rfl _ _ B6 rfl rfl (scA_one _ _ _ _ _) ?_; intro W3 C3 hT3))
  have lb : w.heap.size ≤ b6 := by have := hb1.size; omega
  have HST : Hid (Rn6Rel w b6 s a m K (.int .i64 1) W3) := Lib.hid ⟨1, Nat.le_refl _, by omega, rfl, C3, hT3.below (bq_trans hb1 k6) lb⟩
  clear hb1 B6 l6 k6 C3 hT3 HNS
  go_wp2
  go_loopw [7] (fun i wr => Rn6Rel w b6 s a m K i wr) (fun i _ => K + 1 - (intOf i).toNat)
  case atStart => exact HST.out
  case round =>
    obtain ⟨j, hj1, hj2, rfl, hS, hB⟩ := hrel
    clear HST
    have HS := Lib.hid hS
    have HB := Lib.hid hB
    obtain ⟨l, hl⟩ : ∃ l, l = (D.held (D.best s a (j - 1))).1 := ⟨_, rfl⟩
    obtain ⟨d, hd⟩ : ∃ d, d = (D.held (D.best s a (j - 1))).2 := ⟨_, rfl⟩
    have hld : D.held (D.best s a (j - 1)) = (l, d) := by rw [hl, hd]
    rw [← hl, ← hd] at HS
    have HLD := Lib.hid hld
    clear hS hB hl hd hld
    by_cases hjK : j ≤ K
    · have t0 : decide ((j : Int) ≤ (K : Int)) = true := by rw [decide_eq_true_iff]; omega
      by_cases hdn : m ≤ l
      · have t1 : decide (m ≤ l) = true := by rw [decide_eq_true_iff]; omega
        have HDN := Lib.hid (done_any HS.out)
        rw [t1] at HDN
        have hfin : D.told (l, d) = R := by
          have h1 := D.told_held s a K
          rw [HR.out, ← h1]
          have h2 := D.held_top s a (j - 1) ha (by rw [HLD.out, ← HM.out]; exact hdn) (K - (j - 1))
          rw [show j - 1 + (K - (j - 1)) = K by omega, HLD.out] at h2
          rw [h2]
        have HF := Lib.hid (fun n => found_any (Blk.drewN HS.out n : Sc _ _ _ _ _ _ _))
        rw [hfin] at HF
        clear hfin
        go_wp2_with (first
          | (go_at_call 15; refine HDN.out.mono ?_; rintro e w1 ⟨rfl, n1, rfl⟩)
          | (go_at_call 17; refine (HF.out _).mono ?_; rintro e w1 ⟨rfl, n2, rfl⟩))
        go_ret2
        exact ⟨rfl, bq_drewN HB.out _⟩
      · have t1 : decide (m ≤ l) = false := by rw [decide_eq_false_iff_not]; omega
        have HDN := Lib.hid (done_any HS.out)
        rw [t1] at HDN
        have HAK := Lib.hid (fun n => ask_any (far := j) (Blk.drewN HS.out n : Sc _ _ _ _ _ _ _) hs ha HM.out (by omega) hj1 (by omega))
        have hst : D.ask s a l d j = D.held (D.best s a j) := by
          have h1 := D.held_step s a (j - 1)
          rw [show j - 1 + 1 = j by omega, HLD.out] at h1
          rw [h1]
          rfl
        rw [hst] at HAK
        clear hst
        go_wp2_with (first
          | (go_at_call 15; refine HDN.out.mono ?_; rintro e w1 ⟨rfl, n1, rfl⟩)
          | (go_at_call 16; refine (HAK.out _).mono ?_; rintro e w2 ⟨rfl, hS2, hT2⟩))
        go_roundw
        case rel => exact ⟨j + 1, by omega, by omega, by go_num, by rw [show j + 1 - 1 = j by omega]; exact hS2, hT2.below (bq_drewN HB.out n1) lb⟩
        case measure => simp [intOf]; omega
    · have t0 : decide ((j : Int) ≤ (K : Int)) = false := by rw [decide_eq_false_iff_not]; omega
      have hfin : D.told (l, d) = R := by
        have h1 := D.told_held s a K
        rw [show j - 1 = K by omega] at HLD
        rw [HR.out, ← h1, HLD.out]
      have HF := Lib.hid (found_any HS.out)
      rw [hfin] at HF
      clear hfin
      go_wp2_with (go_at_call 17; refine HF.out.mono ?_; rintro e w1 ⟨rfl, n2, rfl⟩)
      go_ret2
      exact ⟨rfl, bq_drewN HB.out n2⟩
end Go.Proofs.Ytddiccdfeckgaaa
