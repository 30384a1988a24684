import Derived.Test.YtddiccdfeckgaaaQC
/- Layer 6: a law: a run of a place is there, and no other is longer, nor one as long nearer. -/
namespace Go.Proofs.Ytddiccdfeckgaaa
open Go.RowKit
set_option maxRecDepth 100000
set_option linter.unusedVariables false
set_option linter.unusedSimpArgs false
/-- what a run is -/
theorem D.run_is (s : ByteArray) (a n far : Nat) (ha : a < s.size) (h : D.run s a = (n, far)) :
    (n = 0 ∧ far = 0 ∨ 3 ≤ n ∧ n ≤ 258 ∧ 1 ≤ far ∧ far ≤ a ∧ a + n ≤ s.size ∧ ∀ i, i < n → D.eqn s a far i) ∧
    ∀ d, 1 ≤ d → d ≤ a → a ≤ 32768 → D.mt s a d < 3 ∨ D.mt s a d < n ∨ D.mt s a d = n ∧ far ≤ d := by
  unfold D.run D.cut3 at h
  have hf := D.best_far s a (min a 32768)
  have hm := D.best_mt s a (min a 32768)
  have ht := D.best_top s a (min a 32768)
  split at h
  · rename_i h3
    injection h with h1 h2
    refine ⟨Or.inl ⟨h1.symm, h2.symm⟩, fun d h4 h5 h6 => Or.inl ?_⟩
    have := (ht d h4 (by omega)).1
    omega
  · rename_i h3
    rw [h] at hf hm ht h3
    simp only [] at hf hm ht h3
    have hmt : D.mt s a far = n := by
      rcases hm with h0 | h0
      · omega
      · exact h0
    have hsz := D.mt_size s a far ha
    refine ⟨Or.inr ⟨by omega, hf.2.2, by omega, by omega, by omega, fun i hi => D.mt_all s a far (by omega)⟩, fun d h4 h5 h6 => ?_⟩
    have := ht d h4 (by omega)
    by_cases e : D.mt s a d = n
    · exact Or.inr (Or.inr ⟨e, this.2 e⟩)
    · exact Or.inr (Or.inl (by omega))
def F1Rel (w : World) (n : Nat) (i : Value) (wr : World) : Prop := ∃ k, k ≤ n ∧ i = .int .i64 (k : Int) ∧ Below w.heap.size w wr
set_option maxHeartbeats 4000000 in
theorem deflateFinds_walk (s : ByteArray) (at_ d_ : Int) (w : World) (hs : s.size ≤ maxLen) :
    Calls Try.prog 5 #[.string s, .int .i64 at_, .int .i64 d_] w fun e w' => e = .returned (.bool true) ∧ Below w.heap.size w w' := by
  have HAW := Lib.hid (fun W => awake6_any W)
  have hs9 : s.size ≤ 9223372036854775807 := by unfold maxLen at hs; omega
  clear hs
  by_cases hl : 512 < s.size
  · have q : decide (512 < (s.size : Int)) = true := by rw [decide_eq_true_iff]; omega
    go_enter Try.func5, Try.ntmps5
    go_wp2_with (go_at_call 7; refine (HAW.out _).mono ?_; rintro e w2 ⟨rfl, hb2⟩)
    go_ret
    exact ⟨rfl, hb2⟩
  have q : decide (512 < (s.size : Int)) = false := by rw [decide_eq_false_iff_not]; omega
  by_cases h0 : at_ < 0
  · have q1 : decide (at_ < 0) = true := by rw [decide_eq_true_iff]; omega
    go_enter Try.func5, Try.ntmps5
    go_wp2_with (go_at_call 7; refine (HAW.out _).mono ?_; rintro e w2 ⟨rfl, hb2⟩)
    go_ret
    exact ⟨rfl, hb2⟩
  obtain ⟨a, rfl⟩ : ∃ a : Nat, at_ = (a : Int) := ⟨at_.toNat, by omega⟩
  have q1 : decide ((a : Int) < 0) = false := by rw [decide_eq_false_iff_not]; omega
  clear h0
  by_cases h1 : s.size ≤ a
  · have q2 : decide ((s.size : Int) ≤ (a : Int)) = true := by rw [decide_eq_true_iff]; omega
    have q3 : decide (s.size ≤ a) = true := by rw [decide_eq_true_iff]; omega
    go_enter Try.func5, Try.ntmps5
    go_wp2_with (go_at_call 7; refine (HAW.out _).mono ?_; rintro e w2 ⟨rfl, hb2⟩)
    go_ret
    exact ⟨rfl, hb2⟩
  have q2 : decide ((s.size : Int) ≤ (a : Int)) = false := by rw [decide_eq_false_iff_not]; omega
  have q3 : decide (s.size ≤ a) = false := by rw [decide_eq_false_iff_not]; omega
  have ha : a < s.size := by omega
  have H1 := Lib.hid (run_any s (a : Int) w (by omega))
  have hR : runV s (a : Int) = pairV (D.run s a) := by unfold runV; rw [if_neg (by omega), Int.toNat_natCast]
  rw [hR] at H1
  obtain ⟨R, hRr⟩ : ∃ R, D.run s a = R := ⟨_, rfl⟩
  obtain ⟨n, far⟩ := R
  obtain ⟨hri, hrt⟩ := D.run_is s a n far ha hRr
  have HRT := Lib.hid hrt
  rw [hRr] at H1
  unfold pairV at H1
  have HRI : Hid (∀ i, i < n → 1 ≤ far ∧ far ≤ a ∧ D.eqn s a far i) := Lib.hid (fun i hi => by
    rcases hri with ⟨h, _⟩ | ⟨_, _, h3, h4, _, h5⟩
    · omega
    · exact ⟨h3, h4, h5 i hi⟩)
  have hn9 : n ≤ 258 := by rcases hri with ⟨h, _⟩ | ⟨_, h, _⟩ <;> omega
  have hf9 : far ≤ 512 := by rcases hri with ⟨_, h⟩ | ⟨_, _, _, h, _⟩ <;> omega
  clear hR hRr hrt h1
  go_enter Try.func5, Try.ntmps5
  go_upto_region 4 with (go_at_call 8; refine H1.out.mono ?_; rintro e w1 ⟨rfl, hb1⟩)
  have HB1 := Lib.hid hb1
  clear hb1 H1
  go_cut [65] (fun x wx => x = .bool false ∧ w1 = wx)
  case first =>
    rcases hri with ⟨rfl, rfl⟩ | ⟨hn3, hn258, hf1, hfa, hsz, _⟩
    · go_wp2
      go_meet
      case rel => exact ⟨rfl, rfl⟩
    · obtain ⟨an, han⟩ : ∃ z, z = a + n := ⟨_, rfl⟩
      have e1 : (a : Int) + (n : Int) = (an : Int) := by omega
      have u0 : ((n : Int) != 0) = true := by rw [bne_iff_ne]; omega
      have u0' : ((n : Int) == 0) = false := by rw [beq_eq_false_iff_ne]; omega
      have u1 : decide ((n : Int) < 3) = false := by rw [decide_eq_false_iff_not]; omega
      have u2 : decide (258 < (n : Int)) = false := by rw [decide_eq_false_iff_not]; omega
      have u3 : decide ((far : Int) < 1) = false := by rw [decide_eq_false_iff_not]; omega
      have u4 : decide ((a : Int) < (far : Int)) = false := by rw [decide_eq_false_iff_not]; omega
      have u5 : decide (a < far) = false := by rw [decide_eq_false_iff_not]; omega
      have u6 : decide ((s.size : Int) < (an : Int)) = false := by rw [decide_eq_false_iff_not]; omega
      have u7 : decide (s.size < an) = false := by rw [decide_eq_false_iff_not]; omega
      clear han
      go_wp2
      go_meet
      case rel => exact ⟨rfl, rfl⟩
  case rest =>
    obtain ⟨rfl, rfl⟩ := hcut
    clear hri
    go_wp2
    go_loopw [9] (fun i wr => F1Rel w n i wr) (fun i _ => n - (intOf i).toNat)
    case atStart => exact ⟨0, Nat.zero_le _, rfl, HB1.out⟩
    case round =>
      obtain ⟨i, hi, rfl, hB⟩ := hrel
      have HB := Lib.hid hB
      clear hB HB1
      by_cases hin : i < n
      · obtain ⟨hf1, hfa, heq⟩ := HRI.out i hin
        obtain ⟨hsz, heq⟩ := heq
        have t0 : decide ((i : Int) < (n : Int)) = true := by rw [decide_eq_true_iff]; omega
        obtain ⟨ai, hai⟩ : ∃ z, z = a + i := ⟨_, rfl⟩
        obtain ⟨bi, hbi⟩ : ∃ z, z = ai - far := ⟨_, rfl⟩
        have e1 : (a : Int) + (i : Int) = (ai : Int) := by omega
        have e2 : (ai : Int) - (far : Int) = (bi : Int) := by omega
        rw [← hai] at hsz
        have j1 : bi < s.size := by omega
        rw [← hai, ← hbi, D.at8_at s ai hsz, D.at8_at s bi j1] at heq
        have j2 : (ai : Int) < (s.size : Int) := by omega
        have j3 : (bi : Int) < (s.size : Int) := by omega
        have j4 : (0 : Int) ≤ (ai : Int) := by omega
        have j5 : (0 : Int) ≤ (bi : Int) := by omega
        have p1 : ((s[ai].toNat : Int) != (s[bi].toNat : Int)) = false := by rw [bne_eq_false_iff_eq]; omega
        have p2 : (s[ai].toNat != s[bi].toNat) = false := by rw [bne_eq_false_iff_eq]; omega
        clear heq hai hbi
        go_upto_region 9 with (fail)
        go_quiet (fail)
        go_wp2
        go_roundw
        case rel => exact ⟨i + 1, by omega, by go_num, bq_drewN HB.out nq⟩
        case measure => simp [intOf]; omega
      · have t0 : decide ((i : Int) < (n : Int)) = false := by rw [decide_eq_false_iff_not]; omega
        by_cases hd0 : d_ < 1
        · have t1 : decide (d_ < 1) = true := by rw [decide_eq_true_iff]; omega
          go_wp2_with (go_at_call 7; refine (HAW.out _).mono ?_; rintro e w2 ⟨rfl, hb2⟩)
          go_ret
          exact ⟨rfl, bq_trans HB.out hb2⟩
        obtain ⟨d, rfl⟩ : ∃ d : Nat, d_ = (d : Int) := ⟨d_.toNat, by omega⟩
        have t1 : decide ((d : Int) < 1) = false := by rw [decide_eq_false_iff_not]; omega
        by_cases hda : a < d
        · have t2 : decide ((a : Int) < (d : Int)) = true := by rw [decide_eq_true_iff]; omega
          have t3 : decide (a < d) = true := by rw [decide_eq_true_iff]; omega
          go_wp2_with (go_at_call 7; refine (HAW.out _).mono ?_; rintro e w2 ⟨rfl, hb2⟩)
          go_ret
          exact ⟨rfl, bq_trans HB.out hb2⟩
        have t2 : decide ((a : Int) < (d : Int)) = false := by rw [decide_eq_false_iff_not]; omega
        have t3 : decide (a < d) = false := by rw [decide_eq_false_iff_not]; omega
        have hd1' : 1 ≤ d := by omega
        have hd9 : d ≤ a := by omega
        obtain ⟨M, hM⟩ : ∃ M, M = D.mt s a d := ⟨_, rfl⟩
        have hend := HRT.out d hd1' hd9 (by omega)
        rw [← hM] at hend
        have HM := Lib.hid hM
        have HEND := Lib.hid hend
        clear hM hend HRT HRI hd0
        go_wp2
        go_loopw [10] (fun i wq => RmtRel wr s a d M i wq) (fun i _ => 258 - (intOf i).toNat)
        case atStart => exact ⟨0, by omega, by omega, rfl, HM.out.symm, bq_refl _⟩
        case round =>
          rename_i wo
          obtain ⟨m, hm, ham9, rfl, hmt, hB2⟩ := hrel
          have HB2 := Lib.hid hB2
          clear hB2
          obtain ⟨an, han⟩ : ∃ z, z = a + m := ⟨_, rfl⟩
          have e1 : (a : Int) + (m : Int) = (an : Int) := by omega
          by_cases hm258 : m < 258
          · have u0 : decide ((m : Int) < 258) = true := by rw [decide_eq_true_iff]; omega
            by_cases hsz : an < s.size
            · have u1 : decide ((an : Int) < (s.size : Int)) = true := by rw [decide_eq_true_iff]; omega
              have u2 : decide (an < s.size) = true := by rw [decide_eq_true_iff]; omega
              obtain ⟨bn, hbn⟩ : ∃ z, z = an - d := ⟨_, rfl⟩
              have e2 : (an : Int) - (d : Int) = (bn : Int) := by omega
              have i1 : bn < s.size := by omega
              have i3 : (bn : Int) < (s.size : Int) := by omega
              have i4 : (an : Int) < (s.size : Int) := by omega
              have i5 : (0 : Int) ≤ (bn : Int) := by omega
              have i6 : (0 : Int) ≤ (an : Int) := by omega
              have heq : D.eqn s a d m ↔ s[an].toNat = s[bn].toNat := by
                unfold D.eqn
                rw [← han, ← hbn, D.at8_at s an hsz, D.at8_at s bn i1]
                exact ⟨fun h => h.2, fun h => ⟨hsz, h⟩⟩
              by_cases hdd : s[an].toNat = s[bn].toNat
              · have p1 : ((s[an].toNat : Int) == (s[bn].toNat : Int)) = true := by rw [beq_iff_eq]; omega
                have p2 : (s[an].toNat == s[bn].toNat) = true := by rw [beq_iff_eq]; omega
                have HMT : Hid (D.mtF s a d (258 - (m + 1)) (m + 1) = M) := Lib.hid (by
                  rw [show 258 - m = (258 - (m + 1)) + 1 by omega, D.mtF, if_pos (heq.2 hdd)] at hmt
                  exact hmt)
                have HSZ : Hid (a + (m + 1) ≤ s.size) := Lib.hid (by omega)
                clear hmt heq hdd han hbn
                go_upto_region 14 with (fail)
                go_quiet (fail)
                go_wp2
                go_roundw
                case rel => exact ⟨m + 1, by omega, HSZ.out, by go_num, HMT.out, bq_drewN HB2.out nq⟩
                case measure => simp [intOf]; omega
              · have p1 : ((s[an].toNat : Int) == (s[bn].toNat : Int)) = false := by rw [beq_eq_false_iff_ne]; omega
                have p2 : (s[an].toNat == s[bn].toNat) = false := by rw [beq_eq_false_iff_ne]; omega
                have hMn : M = m := by
                  rw [show 258 - m = (258 - (m + 1)) + 1 by omega, D.mtF, if_neg (fun h => hdd (heq.1 h))] at hmt
                  exact hmt.symm
                have hend := HEND.out
                rw [hMn] at hend
                clear hmt heq hdd han hbn hMn HEND HM
                go_upto_region 14 with (fail)
                go_quiet (fail)
                by_cases h3 : m < 3
                · have v0 : decide ((m : Int) < 3) = true := by rw [decide_eq_true_iff]; omega
                  clear hend
                  go_wp2_with (go_at_call 7; refine (HAW.out _).mono ?_; rintro e w2 ⟨rfl, hb2⟩)
                  go_ret
                  exact ⟨rfl, bq_trans (bq_drewN (bq_trans HB.out HB2.out) nq) hb2⟩
                have v0 : decide ((m : Int) < 3) = false := by rw [decide_eq_false_iff_not]; omega
                by_cases hmn : m < n
                · have v1 : decide ((m : Int) < (n : Int)) = true := by rw [decide_eq_true_iff]; omega
                  clear hend
                  go_wp2_with (go_at_call 7; refine (HAW.out _).mono ?_; rintro e w2 ⟨rfl, hb2⟩)
                  go_ret
                  exact ⟨rfl, bq_trans (bq_drewN (bq_trans HB.out HB2.out) nq) hb2⟩
                · have v1 : decide ((m : Int) < (n : Int)) = false := by rw [decide_eq_false_iff_not]; omega
                  have v2 : ((m : Int) == (n : Int)) = true := by rw [beq_iff_eq]; omega
                  have v3 : decide ((far : Int) ≤ (d : Int)) = true := by rw [decide_eq_true_iff]; omega
                  have v4 : decide (far ≤ d) = true := by rw [decide_eq_true_iff]; omega
                  clear hend
                  go_wp2_with (go_at_call 7; refine (HAW.out _).mono ?_; rintro e w2 ⟨rfl, hb2⟩)
                  go_ret
                  exact ⟨rfl, bq_trans (bq_drewN (bq_trans HB.out HB2.out) nq) hb2⟩
            · have u1 : decide ((an : Int) < (s.size : Int)) = false := by rw [decide_eq_false_iff_not]; omega
              have u2 : decide (an < s.size) = false := by rw [decide_eq_false_iff_not]; omega
              have hMn : M = m := by
                rw [show 258 - m = (258 - (m + 1)) + 1 by omega, D.mtF, if_neg (fun h => by have := h.1; omega)] at hmt
                exact hmt.symm
              have hend := HEND.out
              rw [hMn] at hend
              clear hmt han hMn HEND HM
              go_upto_region 14 with (fail)
              go_quiet (fail)
              by_cases h3 : m < 3
              · have v0 : decide ((m : Int) < 3) = true := by rw [decide_eq_true_iff]; omega
                clear hend
                go_wp2_with (go_at_call 7; refine (HAW.out _).mono ?_; rintro e w2 ⟨rfl, hb2⟩)
                go_ret
                exact ⟨rfl, bq_trans (bq_drewN (bq_trans HB.out HB2.out) nq) hb2⟩
              have v0 : decide ((m : Int) < 3) = false := by rw [decide_eq_false_iff_not]; omega
              by_cases hmn : m < n
              · have v1 : decide ((m : Int) < (n : Int)) = true := by rw [decide_eq_true_iff]; omega
                clear hend
                go_wp2_with (go_at_call 7; refine (HAW.out _).mono ?_; rintro e w2 ⟨rfl, hb2⟩)
                go_ret
                exact ⟨rfl, bq_trans (bq_drewN (bq_trans HB.out HB2.out) nq) hb2⟩
              · have v1 : decide ((m : Int) < (n : Int)) = false := by rw [decide_eq_false_iff_not]; omega
                have v2 : ((m : Int) == (n : Int)) = true := by rw [beq_iff_eq]; omega
                have v3 : decide ((far : Int) ≤ (d : Int)) = true := by rw [decide_eq_true_iff]; omega
                have v4 : decide (far ≤ d) = true := by rw [decide_eq_true_iff]; omega
                clear hend
                go_wp2_with (go_at_call 7; refine (HAW.out _).mono ?_; rintro e w2 ⟨rfl, hb2⟩)
                go_ret
                exact ⟨rfl, bq_trans (bq_drewN (bq_trans HB.out HB2.out) nq) hb2⟩
          · have u0 : decide ((m : Int) < 258) = false := by rw [decide_eq_false_iff_not]; omega
            have hMn : M = m := by
              obtain rfl : m = 258 := by omega
              exact hmt.symm
            have hend := HEND.out
            rw [hMn] at hend
            clear hmt han hMn HEND HM
            go_upto_region 14 with (fail)
            go_quiet (fail)
            by_cases h3 : m < 3
            · have v0 : decide ((m : Int) < 3) = true := by rw [decide_eq_true_iff]; omega
              clear hend
              go_wp2_with (go_at_call 7; refine (HAW.out _).mono ?_; rintro e w2 ⟨rfl, hb2⟩)
              go_ret
              exact ⟨rfl, bq_trans (bq_drewN (bq_trans HB.out HB2.out) nq) hb2⟩
            have v0 : decide ((m : Int) < 3) = false := by rw [decide_eq_false_iff_not]; omega
            by_cases hmn : m < n
            · have v1 : decide ((m : Int) < (n : Int)) = true := by rw [decide_eq_true_iff]; omega
              clear hend
              go_wp2_with (go_at_call 7; refine (HAW.out _).mono ?_; rintro e w2 ⟨rfl, hb2⟩)
              go_ret
              exact ⟨rfl, bq_trans (bq_drewN (bq_trans HB.out HB2.out) nq) hb2⟩
            · have v1 : decide ((m : Int) < (n : Int)) = false := by rw [decide_eq_false_iff_not]; omega
              have v2 : ((m : Int) == (n : Int)) = true := by rw [beq_iff_eq]; omega
              have v3 : decide ((far : Int) ≤ (d : Int)) = true := by rw [decide_eq_true_iff]; omega
              have v4 : decide (far ≤ d) = true := by rw [decide_eq_true_iff]; omega
              clear hend
              go_wp2_with (go_at_call 7; refine (HAW.out _).mono ?_; rintro e w2 ⟨rfl, hb2⟩)
              go_ret
              exact ⟨rfl, bq_trans (bq_drewN (bq_trans HB.out HB2.out) nq) hb2⟩
end Go.Proofs.Ytddiccdfeckgaaa
