import Derived.Test.YtddiccdfeckgaaaDoorZR
/- Layer 5: the document's lengths of a block's own codes, the walk. -/
namespace Go.Proofs.YtddiccdfeckgaaaDoor
open Go.RowKit
set_option maxRecDepth 100000
set_option linter.unusedVariables false
set_option linter.unusedSimpArgs false
set_option maxHeartbeats 16000000 in
set_option maxRecDepth 100000 in
theorem rlengths_any (s : ByteArray) (p B : Nat) (sl : Value) (out : List UInt8) (w : World) (hs : s.size ≤ 1048576) (hp : p ≤ 8 * s.size) (hro : RO w B sl out) (hB : B ≤ w.heap.size) :
    Calls Tryd.prog 23 #[.string s, .agg (stA sl (p : Int) 0)] w (LgPost w B sl out (I.ownL s p)) := by
  obtain ⟨sa, sc, rfl, hsc⟩ := hro.len
  obtain ⟨R, hR⟩ : ∃ R, R = I.ownL s p := ⟨_, rfl⟩
  rw [← hR]
  obtain ⟨L, hL⟩ : ∃ L, L = out.length := ⟨_, rfl⟩
  rw [← hL] at hro hsc ⊢
  have HRO := Lib.hid hro
  have HR := Lib.hid hR
  have hp9 : p ≤ 16777216 := by omega
  obtain ⟨r1, hr1⟩ : ∃ r, I.numS s 5 p 0 = r := ⟨_, rfl⟩
  obtain ⟨a, A1, E1⟩ := r1
  obtain ⟨_, a1⟩ := I.numS_at hr1 hs (by omega) hp9
  obtain ⟨r2, hr2⟩ : ∃ r, I.numS s 5 A1 E1 = r := ⟨_, rfl⟩
  obtain ⟨b, A2, E2⟩ := r2
  obtain ⟨_, a2⟩ := I.numS_at hr2 hs (by omega) a1
  obtain ⟨r3, hr3⟩ : ∃ r, I.numS s 4 A2 E2 = r := ⟨_, rfl⟩
  obtain ⟨c, A3, E3⟩ := r3
  obtain ⟨_, a3⟩ := I.numS_at hr3 hs (by omega) a2
  have ha32 := I.numS_32 hr1
  have hb32 := I.numS_32 hr2
  have hc16 := I.numS_16 hr3
  have HCN := Lib.hid (I.cnts_S hr1 hr2 hr3)
  have HN1 : Hid (∀ W, Calls Tryd.prog 19 #[.string s, .agg (stA (.slice sa L sc) (p : Int) 0), .int .i64 5] W fun e w' => e = .returned (.tuple #[.int .i64 (a : Int), .agg (stA (.slice sa L sc) (A1 : Int) (E1 : Int))]) ∧ Below W.heap.size W w') := Lib.hid fun W => rnumber_at hr1 sa L sc W hs hp9 (by omega)
  have HN2 : Hid (∀ W, Calls Tryd.prog 19 #[.string s, .agg (stA (.slice sa L sc) (A1 : Int) (E1 : Int)), .int .i64 5] W fun e w' => e = .returned (.tuple #[.int .i64 (b : Int), .agg (stA (.slice sa L sc) (A2 : Int) (E2 : Int))]) ∧ Below W.heap.size W w') := Lib.hid fun W => rnumber_at hr2 sa L sc W hs a1 (by omega)
  have HN3 : Hid (∀ W, Calls Tryd.prog 19 #[.string s, .agg (stA (.slice sa L sc) (A2 : Int) (E2 : Int)), .int .i64 4] W fun e w' => e = .returned (.tuple #[.int .i64 (c : Int), .agg (stA (.slice sa L sc) (A3 : Int) (E3 : Int))]) ∧ Below W.heap.size W w') := Lib.hid fun W => rnumber_at hr3 sa L sc W hs a2 (by omega)
  clear hL hro hR hr1 hr2 hr3
  go_enter Tryd.func23, Tryd.ntmps23
  go_upto_region 1 with (first
    | (refine wl_box 52 _ _ rfl rfl rfl ?_; intro W1 b4 B4 l4 k4)
    | (refine wl_alloc 52 _ zero54 rfl rfl ?_; intro W2 b6 B6 l6 k6))
  have y4 := B4.lt
  have lb4 : w.heap.size ≤ b4 := l4
  have ne6 : b6 ≠ b4 := by omega
  have lb6 : w.heap.size ≤ b6 := by have := k4.size; omega
  have fs : ∀ k, w.heap.size ≤ k → (Value.slice sa L sc).ownBlock ≠ some k := fun k hk e => by have := (HRO.out.lt k e).2; omega
  have FS := Lib.hid fs
  have C0 := B4.keep k6
  have S0 : Hid (Sx W2 B b4 (.slice sa L sc) (p : Int) 0 out) := Lib.hid ⟨C0, (HRO.out.keep k4).keep k6, fs b4 lb4, by have := k4.size; have := k6.size; omega⟩
  have K0 := Lib.hid (Kp.of_below w.heap.size (.slice sa L sc) (bq_trans k4 k6))
  have Z0 := Lib.hid B6
  clear B4 l4 k4 B6 l6 k6 y4 fs
  go_upto_region 3 with (first
    | (refine wl_load 52 3 _ Tryd.underlying52 rfl size54 _ rfl rfl _ rfl _ _ C0 (stA_size _ _ _) ?_)
    | (go_at_call 19; refine (HN1.out _).mono ?_; rintro e w1 ⟨rfl, hb1⟩)
    | (refine wl_store 52 3 size54 _ _ rfl rfl b4 rfl (stA (.slice sa L sc) (A1 : Int) (E1 : Int)) rfl _ _ (C0.keep hb1) rfl rfl (stA_one _ _ _ _ _) ?_; intro W1 C1 hT1))
  have S1 := Lib.hid ((S0.out.keep hb1).lay hT1 C1)
  have K1 := Lib.hid ((K0.out.trans (Kp.of_below _ _ hb1)).turned hT1 lb4)
  have Z1 := Lib.hid (hT1.blk (Z0.out.keep hb1) ne6)
  clear hb1 hT1 C0 S0 K0 Z0
  go_upto_region 4 with (first
    | (refine wl_load 52 3 _ Tryd.underlying52 rfl size54 _ rfl rfl _ rfl _ _ C1 (stA_size _ _ _) ?_)
    | (go_at_call 19; refine (HN2.out _).mono ?_; rintro e w2 ⟨rfl, hb2⟩)
    | (refine wl_store 52 3 size54 _ _ rfl rfl b4 rfl (stA (.slice sa L sc) (A2 : Int) (E2 : Int)) rfl _ _ (C1.keep hb2) rfl rfl (stA_one _ _ _ _ _) ?_; intro W2 C2 hT2))
  have S2 := Lib.hid ((S1.out.keep hb2).lay hT2 C2)
  have K2 := Lib.hid ((K1.out.trans (Kp.of_below _ _ hb2)).turned hT2 lb4)
  have Z2 := Lib.hid (hT2.blk (Z1.out.keep hb2) ne6)
  clear hb2 hT2 C1 S1 K1 Z1
  go_upto_region 5 with (first
    | (refine wl_load 52 3 _ Tryd.underlying52 rfl size54 _ rfl rfl _ rfl _ _ C2 (stA_size _ _ _) ?_)
    | (go_at_call 19; refine (HN3.out _).mono ?_; rintro e w3 ⟨rfl, hb3⟩)
    | (refine wl_store 52 3 size54 _ _ rfl rfl b4 rfl (stA (.slice sa L sc) (A3 : Int) (E3 : Int)) rfl _ _ (C2.keep hb3) rfl rfl (stA_one _ _ _ _ _) ?_; intro W3 C3 hT3))
  have S3 := Lib.hid ((S2.out.keep hb3).lay hT3 C3)
  have K3 := Lib.hid ((K2.out.trans (Kp.of_below _ _ hb3)).turned hT3 lb4)
  have Z3 := Lib.hid (hT3.blk (Z2.out.keep hb3) ne6)
  clear hb3 hT3 C2 S2 K2 Z2
  clear HN1 HN2 HN3
  obtain ⟨_, _, c2, _, _, g2⟩ := C3.st
  simp only [Act.put, List.getElem_toArray, List.getElem_cons_succ, List.getElem_cons_zero, List.setIfInBounds_toArray, List.set_cons_zero, List.set_cons_succ]
  obtain ⟨tt, htt⟩ : ∃ tt, tt = decide (E3 = 0 ∧ (29 < a ∨ 29 < b)) := ⟨_, rfl⟩
  have HTT := Lib.hid htt
  clear htt
  go_cut [47] (fun x wx => x = .bool tt ∧ W3 = wx)
  case first =>
    by_cases e3 : E3 = 0
    · have q0 : ((E3 : Int) == 0) = true := by rw [beq_iff_eq]; omega
      by_cases ha : 29 < a
      · have q1 : decide (29 < (a : Int)) = true := by rw [decide_eq_true_iff]; omega
        have ht : tt = true := by rw [HTT.out]; exact decide_eq_true ⟨e3, Or.inl ha⟩
        subst ht
        go_wp2_with fail
        go_meet
        case rel => exact ⟨rfl, rfl⟩
      · have q1 : decide (29 < (a : Int)) = false := by rw [decide_eq_false_iff_not]; omega
        by_cases hb : 29 < b
        · have q2 : decide (29 < (b : Int)) = true := by rw [decide_eq_true_iff]; omega
          have ht : tt = true := by rw [HTT.out]; exact decide_eq_true ⟨e3, Or.inr hb⟩
          subst ht
          go_wp2_with fail
          go_meet
          case rel => exact ⟨rfl, rfl⟩
        · have q2 : decide (29 < (b : Int)) = false := by rw [decide_eq_false_iff_not]; omega
          have ht : tt = false := by rw [HTT.out]; exact decide_eq_false (fun h => by omega)
          subst ht
          go_wp2_with fail
          go_meet
          case rel => exact ⟨rfl, rfl⟩
    · have q0 : ((E3 : Int) == 0) = false := by rw [beq_eq_false_iff_ne]; omega
      have ht : tt = false := by rw [HTT.out]; exact decide_eq_false (fun h => e3 h.1)
      subst ht
      go_wp2_with fail
      go_meet
      case rel => exact ⟨rfl, rfl⟩
  case rest =>
    obtain ⟨rfl, rfl⟩ := hcut
    go_upto_if 47 with (fail)
    go_cut [48] (fun _ wx => CtRel w B b4 b6 (.slice sa L sc) out A3 a b E3 wx)
    case first =>
      cases tt with
      | true =>
        have he : I.cE a b E3 = 3 := by unfold I.cE; rw [if_pos (of_decide_eq_true HTT.out.symm)]
        have HE := Lib.hid he
        clear he
        go_wp2_with fail
        go_meet
        case rel => exact ⟨by rw [HE.out]; exact S3.out.set2 3, K3.out.turned (turned_set W3 ⟨b4, 2, none⟩ _) lb4, Z3.out.other (a := ⟨b4, 2, none⟩) _ ne6⟩
      | false =>
        have he : I.cE a b E3 = E3 := by unfold I.cE; rw [if_neg (of_decide_eq_false HTT.out.symm)]
        have HE := Lib.hid he
        clear he
        go_wp2_with fail
        go_meet
        case rel => exact ⟨by rw [HE.out]; exact S3.out, K3.out, Z3.out⟩
    case rest =>
      have H4 : Hid (Lg w B b4 b6 (.slice sa L sc) A3 (I.cE a b E3) out wc) := Lib.hid hcut
      obtain ⟨E4, hE4⟩ : ∃ E4, E4 = I.cE a b E3 := ⟨_, rfl⟩
      rw [← hE4] at H4 HCN
      clear hcut S3 K3 Z3 C3 c2 g2 hE4 HTT
      obtain ⟨n, hn⟩ : ∃ n, n = c + 4 := ⟨_, rfl⟩
      have en : (c : Int) + 4 = (n : Int) := by omega
      have hn19 : n ≤ 19 := by omega
      have HNC := Lib.hid hn
      obtain ⟨M, hM⟩ : ∃ M, M = I.metS s n 0 A3 E4 (fun _ => 0) := ⟨_, rfl⟩
      have HM := Lib.hid hM
      clear hn hM
      go_wp2_with (refine wl_ints _ _ rfl rfl 19 rfl rfl (by omega) ?_; intro W5 bo Bo lo ko)
      have szk := H4.out.kp.size
      have lbo : w.heap.size ≤ bo := by omega
      have y4 := H4.out.sx.blk.lt
      have y6 := H4.out.z.lt
      have yo := Bo.lt
      have no4 : bo ≠ b4 := by omega
      have no6 : bo ≠ b6 := by omega
      have kp5 := bq_alloc ko (.cells #[.int .i64 16, .int .i64 17, .int .i64 18, .int .i64 0, .int .i64 8, .int .i64 7, .int .i64 9, .int .i64 6, .int .i64 10, .int .i64 5, .int .i64 11, .int .i64 4, .int .i64 12, .int .i64 3, .int .i64 13, .int .i64 2, .int .i64 14, .int .i64 1, .int .i64 15] 3)
      have hBp := blk_new W5 #[.int .i64 16, .int .i64 17, .int .i64 18, .int .i64 0, .int .i64 8, .int .i64 7, .int .i64 9, .int .i64 6, .int .i64 10, .int .i64 5, .int .i64 11, .int .i64 4, .int .i64 12, .int .i64 3, .int .i64 13, .int .i64 2, .int .i64 14, .int .i64 1, .int .i64 15] 3
      have hBo := Bo.alloc (.cells #[.int .i64 16, .int .i64 17, .int .i64 18, .int .i64 0, .int .i64 8, .int .i64 7, .int .i64 9, .int .i64 6, .int .i64 10, .int .i64 5, .int .i64 11, .int .i64 4, .int .i64 12, .int .i64 3, .int .i64 13, .int .i64 2, .int .i64 14, .int .i64 1, .int .i64 15] 3)
      generalize W5.alloc (.cells #[.int .i64 16, .int .i64 17, .int .i64 18, .int .i64 0, .int .i64 8, .int .i64 7, .int .i64 9, .int .i64 6, .int .i64 10, .int .i64 5, .int .i64 11, .int .i64 4, .int .i64 12, .int .i64 3, .int .i64 13, .int .i64 2, .int .i64 14, .int .i64 1, .int .i64 15] 3) = W6 at *
      rw [places_eq] at hBp
      obtain ⟨bp, hbp⟩ : ∃ bp, bp = W5.heap.size := ⟨_, rfl⟩
      rw [← hbp] at hBp ⊢
      have np4 : bp ≠ b4 := by have := ko.size; omega
      have np6 : bp ≠ b6 := by have := ko.size; omega
      have npo : bp ≠ bo := by omega
      have lbp : w.heap.size ≤ bp := by have := ko.size; omega
      have HST : Hid (MlRel w B b4 b6 bo bp (.slice sa L sc) out s n M (.int .i64 0) W6) := Lib.hid ⟨0, A3, E4, fun _ => 0, Nat.zero_le _, rfl, ⟨H4.out.sx.keep kp5, H4.out.kp.trans (Kp.of_below _ _ kp5), H4.out.z.keep kp5⟩, hBo, hBp, a3, fun _ => by show 0 < 8; omega, HM.out.symm⟩
      clear Bo lo ko szk y4 y6 yo kp5 hBp hBo hbp H4
      go_loopw [12] (fun i wr => MlRel w B b4 b6 bo bp (.slice sa L sc) out s n M i wr) (fun i _ => n - (intOf i).toNat)
      case atStart => exact HST.out
      case round =>
        obtain ⟨k, A, E, f, hk, rfl, hL5, hbo, hbp, hA9, hf8, hMk⟩ := hrel
        clear HST
        have L5 := Lib.hid hL5
        have BO := Lib.hid hbo
        have BP := Lib.hid hbp
        by_cases hkn : k < n
        · obtain ⟨r5, hr5⟩ : ∃ r, I.numS s 3 A E = r := ⟨_, rfl⟩
          obtain ⟨x, A', E'⟩ := r5
          obtain ⟨_, a5⟩ := I.numS_at hr5 hs (by omega) hA9
          have hx8 := I.numS_8 hr5
          rw [show n - k = (n - (k + 1)) + 1 by omega, I.metS, hr5] at hMk
          have HMK := Lib.hid hMk
          have hol := od_lt k
          obtain ⟨v, hv⟩ : ∃ v, v = I.od k := ⟨_, rfl⟩
          rw [← hv] at hol HMK
          have HF8 : Hid (∀ j, (if j = v then x else f j) < 8) := Lib.hid fun j => by split; exact hx8; exact hf8 j
          have HNB : Hid (∀ w', Below wr.heap.size wr w' → Calls Tryd.prog 19 #[.string s, .agg (stA (.slice sa L sc) (A : Int) (E : Int)), .int .i64 3] w' fun e w'' => e = .returned (.tuple #[.int .i64 (x : Int), .agg #[.slice sa L sc, .int .i64 (A' : Int), .int .i64 (E' : Int)]]) ∧ Below wr.heap.size wr w'') := Lib.hid fun w' hw' => (rnumber_at hr5 sa L sc w' hs hA9 (by omega)).mono fun e w'' ⟨h1, h2⟩ => ⟨h1, bq_trans hw' h2⟩
          obtain ⟨c0, c1, c2, g0, g1, g2⟩ := hL5.sx.blk.st
          have cp := (hbp.cell k).trans (intA_at I.od 19 k (by omega))
          rw [← hv] at cp
          have HCB : Hid (∀ w', Below wr.heap.size wr w' → w'.cell? ⟨bp, k, none⟩ = some (.int .i64 (v : Int))) := Lib.hid fun w' hw' => by rw [hv]; exact ((hbp.keep hw').cell k).trans (intA_at I.od 19 k (by omega))
          have hd0 : Below wr.heap.size wr wr.drew := bq_drew (bq_refl wr)
          clear hL5 hbo hbp hMk hr5 hv hf8
          go_wp2_with fail
          go_region_with (go_at_call 19; refine (HNB.out _ (by first | assumption | exact hd0)).mono ?_; rintro e w9 ⟨rfl, hb9⟩; obtain ⟨d0, d1, d2, i0, i1, i2⟩ := (L5.out.sx.blk.keep hb9).st; have co := ((BO.out.keep hb9).cell v).trans (intA_at f 19 v hol); have fo := (BO.out.keep hb9).frozen v; have cq := HCB.out _ hb9)
          all_goals
            have HML := Lib.hid (meta_lay (v := v) (x := x) (A' := A') (E' := E') L5.out BO.out BP.out hb9 lb4 lbo ne6 no4 no6 np4 npo (FS.out bo lbo))
            go_wp2
            go_roundw
            case rel => exact ⟨k + 1, A', E', _, by omega, by go_num, HML.out.1, HML.out.2.1, HML.out.2.2, a5, HF8.out, HMK.out⟩
            case measure => simp [intOf]; omega
        · have hMk0 : I.metS s n 0 A3 E4 (fun _ => 0) = (A, E, f) := by rw [← HM.out, ← hMk, show n - k = 0 by omega]; rfl
          rw [HNC.out] at hMk0
          obtain ⟨hown, hA8⟩ := I.ownL_S HCN.out hMk0
          have HOWN := Lib.hid hown
          have HA8 := Lib.hid hA8
          have HF8 := Lib.hid hf8
          have hin := ints19_at hbo hf8
          have hlen := ints19_len f
          have HER := Lib.hid (err_any (I.ints19 f) (some ⟨bo, 0, none⟩) bo 0 19 wr (by omega) (Lib.hid hin))
          rw [hlen] at HER
          obtain ⟨EE, hEE⟩ : ∃ EE, EE = I.eE E f := ⟨_, rfl⟩
          rw [← hEE] at HOWN HA8
          have HEE := Lib.hid hEE
          obtain ⟨_, _, c2, _, _, g2⟩ := hL5.sx.blk.st
          clear hMk0 hMk hown hA8 hin hlen hEE hL5 hbo hbp hf8 HCN HM HNC
          obtain ⟨t7, ht7⟩ : ∃ t, t = decide (E = 0) := ⟨_, rfl⟩
          have HT7 := Lib.hid ht7
          clear ht7
          go_upto_region 13 with (fail)
          go_cut [71] (fun x wx => x = .bool t7 ∧ wr = wx)
          case first =>
            by_cases e0 : E = 0
            · have q0 : ((E : Int) == 0) = true := by rw [beq_iff_eq]; omega
              have ht : t7 = true := by rw [HT7.out]; exact decide_eq_true e0
              subst ht
              go_wp2_with fail
              go_meet
              case rel => exact ⟨rfl, rfl⟩
            · have q0 : ((E : Int) == 0) = false := by rw [beq_eq_false_iff_ne]; omega
              have ht : t7 = false := by rw [HT7.out]; exact decide_eq_false e0
              subst ht
              go_wp2_with fail
              go_meet
              case rel => exact ⟨rfl, rfl⟩
          case rest =>
            obtain ⟨rfl, rfl⟩ := hcut
            go_upto_if 71 with (fail)
            go_cut [73] (fun _ wx => Lg w B b4 b6 (.slice sa L sc) A EE out wx ∧ Blk wx bo (intA f 19) 3)
            case first =>
              by_cases e0 : E = 0
              · have ht : t7 = true := by rw [HT7.out]; exact decide_eq_true e0
                subst ht
                have hE : EE = errN (I.ints19 f) := by rw [HEE.out]; unfold I.eE; rw [if_pos e0]
                rw [← hE] at HER
                have q0 : ((E : Int) == 0) = true := by rw [beq_iff_eq]; omega
                clear hE
                go_wp2_with (go_at_call 46; refine HER.out.mono ?_; rintro e w' ⟨rfl, rfl⟩)
                go_meet
                case rel => exact ⟨⟨L5.out.sx.set2 _, L5.out.kp.turned (turned_set wr ⟨b4, 2, none⟩ _) lb4, L5.out.z.other (a := ⟨b4, 2, none⟩) _ ne6⟩, BO.out.other (a := ⟨b4, 2, none⟩) _ no4⟩
              · have ht : t7 = false := by rw [HT7.out]; exact decide_eq_false e0
                subst ht
                have hE : EE = E := by rw [HEE.out]; unfold I.eE; rw [if_neg e0]
                have HE2 := Lib.hid hE
                have q0 : ((E : Int) == 0) = false := by rw [beq_eq_false_iff_ne]; omega
                clear hE
                go_wp2_with fail
                go_meet
                case rel => exact ⟨by rw [HE2.out]; exact L5.out, BO.out⟩
            case rest =>
              obtain ⟨hL6, hbo6⟩ := hcut
              have L6 := Lib.hid hL6
              have BO6 := Lib.hid hbo6
              clear hL6 hbo6 L5 BO BP c2 g2 HER
              obtain ⟨ab, hab⟩ : ∃ ab, ab = a + b := ⟨_, rfl⟩
              obtain ⟨al, hal⟩ : ∃ al, al = ab + 258 := ⟨_, rfl⟩
              have e1 : (a : Int) + (b : Int) = (ab : Int) := by omega
              have e2 : (ab : Int) + 258 = (al : Int) := by omega
              have hal9 : al ≤ 400 := by omega
              obtain ⟨RL, hRL⟩ : ∃ RL, RL = (if EE ≠ 0 then .error EE else I.lens (I.ints19 f) s al A []) := ⟨_, rfl⟩
              have HRR : Hid (R = I.lgR a RL) := Lib.hid (by rw [HR.out, HOWN.out, hRL, hal, hab])
              have HST6 : Hid (LmRel w B b4 b6 bo wc.heap.size (.slice sa L sc) out s f al RL (.slice none 0 0) wc) := Lib.hid ⟨A, EE, [], OwnL.nil _ _, L6.out, BO6.out, Nat.le_refl _, by show 0 ≤ 500; omega, hA9, fun x hx => (by cases hx), (by
                by_cases h0 : EE = 0
                · refine Or.inr (Or.inr ⟨h0, Nat.zero_le _, (HA8.out h0).2, ?_, by rw [hRL, if_neg (fun h => h h0)]⟩)
                  have := HEE.out
                  rw [h0] at this
                  unfold I.eE at this
                  rw [if_pos (HA8.out h0).1] at this
                  exact this.symm
                · exact Or.inl ⟨h0, by rw [hRL, if_pos h0]⟩)⟩
              have y4 := L6.out.sx.blk.lt
              have y6 := L6.out.z.lt
              have yo := BO6.out.lt
              obtain ⟨X, hX⟩ : ∃ X, X = wc.heap.size := ⟨_, rfl⟩
              have hXw : w.heap.size ≤ X := by rw [hX]; exact L6.out.kp.size
              rw [← hX] at HST6 y4 y6 yo
              clear hab hal hRL hX HOWN HA8 HEE L6 BO6 HT7
              go_wp2
              go_loopw [13] (fun v wr => LmRel w B b4 b6 bo X (.slice sa L sc) out s f al RL v wr) (fun _ wr => lgM s b4 wr)
              case atStart => exact HST6.out
              case round =>
                obtain ⟨A, E, l, hO, hL7, hbo7, hX7, hl5, hA7, hl16, hQ⟩ := hrel
                clear HST6
                have L7 := Lib.hid hL7
                have BO7 := Lib.hid hbo7
                have O7 := Lib.hid hO
                obtain ⟨c0, c1, c2, g0, g1, g2⟩ := hL7.sx.blk.st
                obtain ⟨d0, d1, d2, i0, i1, i2⟩ := hL7.z.st
                rcases hQ with ⟨e0, hRL⟩ | ⟨e0, hal7, hRL⟩ | ⟨e0, hle7, hA8, hez, hRL⟩
                · have HE : Hid (R = .error E) := Lib.hid (by rw [HRR.out, hRL]; rfl)
                  have q0 : ((E : Int) == 0) = false := by rw [beq_eq_false_iff_ne]; omega
                  have q1 : ((E : Int) != 0) = true := by rw [bne_iff_ne]; omega
                  have HE0 := Lib.hid e0
                  clear hO hL7 hbo7 hRL e0 hl16
                  go_upto_region 45 with (fail)
                  go_region
                  go_wp2
                  refine post_tmps_cell Tryd.underlying52 rfl size54 Tryd.results23 (((L7.out.z.st0 (.slice sa L sc)).st1 (A : Int)).st2 (E : Int)).drew (stA_size _ _ _) rfl rfl rfl rfl ?_
                  rw [HE.out]
                  have hret := L7.out.ret lb6 (FS.out b6 lb6) (.slice sa L sc) (.int .i64 (A : Int)) (.int .i64 (E : Int))
                  exact ⟨A, rfl, HE0.out, hret.1, hret.2⟩
                · have HE : Hid (R = .error 3) := Lib.hid (by rw [HRR.out, hRL]; rfl)
                  obtain ⟨va, vc, rfl, _⟩ := hO.len
                  rw [I.ints_len]
                  obtain ⟨LL, hLL⟩ : ∃ LL, LL = l.length := ⟨_, rfl⟩
                  rw [← hLL] at hal7 hl5 ⊢
                  rw [show ((E : Nat) : Int) = 0 by omega] at c2
                  have q1 : decide ((LL : Int) < (al : Int)) = false := by rw [decide_eq_false_iff_not]; omega
                  have q2 : ((LL : Int) != (al : Int)) = true := by rw [bne_iff_ne]; omega
                  clear hO hL7 hbo7 hRL hl16 hLL O7
                  go_upto_region 45 with (fail)
                  have L8 : Hid (Lg w B b4 b6 (.slice sa L sc) A 3 out _) := Lib.hid ⟨L7.out.sx.set2 3, L7.out.kp.turned (turned_set _ ⟨b4, 2, none⟩ (.int .i64 3)) lb4, L7.out.z.other (a := ⟨b4, 2, none⟩) (.int .i64 3) ne6⟩
                  clear c0 c1 c2 g0 g1 g2 d0 d1 d2 i0 i1 i2
                  generalize World.setCell _ ⟨b4, 2, none⟩ (.int .i64 3) = W3 at L8 ⊢
                  obtain ⟨c0, c1, c2, g0, g1, g2⟩ := L8.out.sx.blk.st
                  obtain ⟨d0, d1, d2, i0, i1, i2⟩ := L8.out.z.st
                  go_region
                  go_wp2
                  refine post_tmps_cell Tryd.underlying52 rfl size54 Tryd.results23 (((L8.out.z.st0 (.slice sa L sc)).st1 (A : Int)).st2 (3 : Int)).drew (stA_size _ _ _) rfl rfl rfl rfl ?_
                  rw [HE.out]
                  have hret := L8.out.ret lb6 (FS.out b6 lb6) (.slice sa L sc) (.int .i64 (A : Int)) (.int .i64 (3 : Int))
                  exact ⟨A, rfl, by omega, hret.1, hret.2⟩
                · have HZE := Lib.hid hez
                  have HRL := Lib.hid hRL
                  have HL16 := Lib.hid hl16
                  obtain rfl : E = 0 := e0
                  have c2 : wr.cell? ⟨b4, 2, none⟩ = some (.int .i64 0) := c2
                  by_cases hend : l.length = al
                  · have h256 : 256 < l.length := by omega
                    obtain ⟨g, cc, rfl, hcap, hXg, hcell⟩ := hO.lens (by omega)
                    have c256 := hcell 256 h256
                    obtain ⟨z, hz⟩ : ∃ z, z = l[256] := ⟨_, rfl⟩
                    rw [← hz] at c256
                    have HZ : Hid (l.getD 256 0 = z) := Lib.hid (by rw [hz, List.getD_eq_getElem?_getD, List.getElem?_eq_getElem h256]; rfl)
                    have HRE : Hid (R = if z = 0 then .error 3 else .ok (((I.ints l).take (a + 257), (I.ints l).drop (a + 257)), A)) := Lib.hid (by rw [HRR.out, ← HRL.out, I.lens_end (by omega)]; show (if l.getD 256 0 = 0 then _ else _) = _; rw [HZ.out])
                    have HEND := Lib.hid hend
                    rw [hend] at hcap ⊢
                    have q1 : decide ((al : Int) < (al : Int)) = false := by rw [decide_eq_false_iff_not]; omega
                    have q2 : ((al : Int) != (al : Int)) = false := by rw [bne_eq_false_iff_eq]
                    have i9 : (256 : Int) < (al : Int) := by omega
                    have HAB : Hid (a + 257 ≤ al ∧ ab + 258 = al) := Lib.hid (by omega)
                    clear hO hL7 hbo7 hRL hl16 hz hcell h256 hend hl5 hle7
                    by_cases hz0 : z = 0
                    · have HE : Hid (R = .error 3) := Lib.hid (by rw [HRE.out, if_pos hz0])
                      have q3 : ((z : Int) == 0) = true := by rw [beq_iff_eq]; omega
                      clear hz0
                      go_upto_region 45 with (fail)
                      have L8 : Hid (Lg w B b4 b6 (.slice sa L sc) A 3 out _) := Lib.hid ⟨L7.out.sx.set2 3, L7.out.kp.turned (turned_set _ ⟨b4, 2, none⟩ (.int .i64 3)) lb4, L7.out.z.other (a := ⟨b4, 2, none⟩) (.int .i64 3) ne6⟩
                      clear c0 c1 c2 g0 g1 g2 d0 d1 d2 i0 i1 i2
                      generalize World.setCell _ ⟨b4, 2, none⟩ (.int .i64 3) = W3 at L8 ⊢
                      obtain ⟨c0, c1, c2, g0, g1, g2⟩ := L8.out.sx.blk.st
                      obtain ⟨d0, d1, d2, i0, i1, i2⟩ := L8.out.z.st
                      go_region
                      go_wp2
                      refine post_tmps_cell Tryd.underlying52 rfl size54 Tryd.results23 (((L8.out.z.st0 (.slice sa L sc)).st1 (A : Int)).st2 (3 : Int)).drew (stA_size _ _ _) rfl rfl rfl rfl ?_
                      rw [HE.out]
                      have hret := L8.out.ret lb6 (FS.out b6 lb6) (.slice sa L sc) (.int .i64 (A : Int)) (.int .i64 (3 : Int))
                      exact ⟨A, rfl, by omega, hret.1, hret.2⟩
                    · have HE : Hid (R = .ok (((I.ints l).take (a + 257), (I.ints l).drop (a + 257)), A)) := Lib.hid (by rw [HRE.out, if_neg hz0])
                      have q3 : ((z : Int) == 0) = false := by rw [beq_eq_false_iff_ne]; omega
                      obtain ⟨X1, hX1⟩ : ∃ X1, X1 = a + 257 := ⟨_, rfl⟩
                      have e3 : (a : Int) + 257 = (X1 : Int) := by omega
                      have hX2 : X1 ≤ al := by have := HAB.out; omega
                      have hX3 : X1 ≤ cc := by omega
                      have HX1 := Lib.hid hX1
                      clear hz0 hX1
                      go_upto_region 46 with (fail)
                      go_region
                      go_wp2
                      refine post_tmps_cell Tryd.underlying52 rfl size54 Tryd.results23 (((L7.out.z.st0 (.slice sa L sc)).st1 (A : Int)).st2 0).drew (stA_size _ _ _) rfl rfl rfl rfl ?_
                      have hret := L7.out.ret lb6 (FS.out b6 lb6) (.slice sa L sc) (.int .i64 (A : Int)) (.int .i64 0)
                      have hO9 := (((O7.out.turned (turned_set wr ⟨b6, 0, none⟩ (.slice sa L sc)) y6).turned (turned_set _ ⟨b6, 1, none⟩ (.int .i64 (A : Int))) y6).turned (turned_set _ ⟨b6, 2, none⟩ (.int .i64 0)) y6).keep (bq_drew (bq_refl _))
                      exact lg_ok HE.out hO9 HL16.out (by rw [HEND.out]; exact HAB.out.1) hXw hXg hret.1 hret.2 _ _ _ _ HX1.out (by rw [HEND.out, HX1.out])
                  · have hlt : l.length < al := by omega
                    obtain ⟨r8, hr8⟩ : ∃ r, I.symS (I.ints19 f) s A 0 = r := ⟨_, rfl⟩
                    obtain ⟨n, A1, E1⟩ := r8
                    obtain ⟨n9, a9⟩ := I.symS_at hr8 hs (by rw [ints19_len]; omega) hA7
                    have HSY : Hid (Calls Tryd.prog 47 #[.string s, .agg (stA (.slice sa L sc) (A : Int) 0), .slice (some ⟨bo, 0, none⟩) 19 19] wr fun e w' => e = .returned (.tuple #[.int .i64 (n : Int), .agg (stA (.slice sa L sc) (A1 : Int) (E1 : Int))]) ∧ Below wr.heap.size wr w') := Lib.hid (by have h := rsymbol_at hr8 (some ⟨bo, 0, none⟩) bo 0 19 sa L sc wr hs hA7 (Lib.hid (ints19_at hbo7 HF8.out)) (Lib.hid hez); rw [ints19_len] at h; exact h)
                    have HR8 := Lib.hid hr8
                    obtain ⟨va, vc, rfl, _⟩ := hO.len
                    rw [I.ints_len] at O7 ⊢
                    obtain ⟨LL, hLL⟩ : ∃ LL, LL = l.length := ⟨_, rfl⟩
                    have HLL := Lib.hid hLL
                    rw [← hLL] at hlt hl5 O7 ⊢
                    have C10 : Blk wr b4 (stA (.slice sa L sc) (A : Int) 0) 52 := hL7.sx.blk
                    have q1 : decide ((LL : Int) < (al : Int)) = true := by rw [decide_eq_true_iff]; omega
                    have HX7 := Lib.hid hX7
                    clear hO hL7 hbo7 hRL hl16 hr8 hLL hend hle7 hez hX7
                    go_upto_region 20 with (first
                      | (refine wl_load 52 3 _ Tryd.underlying52 rfl size54 _ rfl rfl _ rfl _ _ C10 (stA_size _ _ _) ?_)
                      | (go_at_call 47; refine (HSY.out).mono ?_; rintro e w11 ⟨rfl, hb11⟩)
                      | (refine wl_store 52 3 size54 _ _ rfl rfl b4 rfl (stA (.slice sa L sc) (A1 : Int) (E1 : Int)) rfl _ _ (C10.keep hb11) rfl rfl (stA_one _ _ _ _ _) ?_; intro W11 C11 hT11))
                    have L11 : Hid (Lg w B b4 b6 (.slice sa L sc) A1 E1 out W11) := Lib.hid ⟨(L7.out.sx.keep hb11).lay hT11 C11, (L7.out.kp.trans (Kp.of_below _ _ hb11)).turned hT11 lb4, hT11.blk (L7.out.z.keep hb11) ne6⟩
                    have BO11 := Lib.hid (hT11.blk (BO7.out.keep hb11) no4)
                    have O11 := Lib.hid ((O7.out.keep hb11).turned hT11 y4)
                    have hX11 : X ≤ W11.heap.size := by have := HX7.out; have := hb11.size; have := hT11.size; omega
                    clear hb11 hT11 C10 HSY c0 c1 c2 g0 g1 g2 d0 d1 d2 i0 i1 i2 BO7 O7 q1
                    obtain ⟨c0, c1, c2, g0, g1, g2⟩ := C11.st
                    obtain ⟨d0, d1, d2, i0, i1, i2⟩ := L11.out.z.st
                    by_cases hE1 : E1 = 0
                    rotate_left
                    · have HE : Hid (R = .error E1) := Lib.hid (by rw [HRR.out, ← HRL.out, I.lens_err (by rw [← HLL.out]; exact hlt) (by unfold I.lstep; rw [I.symS_err HR8.out hE1])]; rfl)
                      have q0 : ((E1 : Int) == 0) = false := by rw [beq_eq_false_iff_ne]; omega
                      have q1 : ((E1 : Int) != 0) = true := by rw [bne_iff_ne]; omega
                      have HE0 := Lib.hid hE1
                      clear hE1
                      go_upto_region 45 with (fail)
                      go_region
                      go_wp2
                      refine post_tmps_cell Tryd.underlying52 rfl size54 Tryd.results23 (((L11.out.z.st0 (.slice sa L sc)).st1 (A1 : Int)).st2 (E1 : Int)).drew (stA_size _ _ _) rfl rfl rfl rfl ?_
                      rw [HE.out]
                      have hret := L11.out.ret lb6 (FS.out b6 lb6) (.slice sa L sc) (.int .i64 (A1 : Int)) (.int .i64 (E1 : Int))
                      exact ⟨A1, rfl, HE0.out, hret.1, hret.2⟩
                    · obtain rfl : E1 = 0 := hE1
                      have hsy := (I.symS_zero HR8.out rfl).2
                      have hn18 : n ≤ 18 := by have h := I.sym_in hsy; rw [ints19_len] at h; omega
                      have HSYM := Lib.hid hsy
                      have hA1 := (I.sym_lt hsy).2.1
                      have c2 : W11.cell? ⟨b4, 2, none⟩ = some (.int .i64 0) := c2
                      have HMS : Hid (∀ (W : World) (A2 E2 : Nat), Lg w B b4 b6 (.slice sa L sc) A2 E2 out W → (E2 = 0 → A < A2) → lgM s b4 W < lgM s b4 wr) := Lib.hid (fun W A2 E2 h hq => lgM_lt L7.out.sx h.sx hA8 hq)
                      clear hsy HR8
                      by_cases hn16 : n < 16
                      · have hst := I.lmQ_step (x := n) (t := 1) HSYM.out (by rw [← HLL.out]; exact hlt) HZE.out HRL.out (Or.inr ⟨rfl, by unfold I.rep; rw [if_pos hn16]⟩)
                        have HST := Lib.hid hst
                        obtain ⟨sl3, w3, hrun, HF⟩ := OwnL.more (v := (n : Int)) (O11.out.keep (bq_alloc (bq_refl W11) (.cells #[.int .i64 (n : Int)] 3))) (by simp; omega) (blk_new W11 _ 3 : Blk _ _ (List.replicate 1 (Value.int .i64 (n : Int))).toArray 3) (by rw [I.ints_len, ← HLL.out]; omega) 41
                        have HRUN := Lib.hid hrun
                        have HW : Hid (Below X W11 w3) := Lib.hid (((Below.refl X W11).alloc hX11 _).trans HF.out.2)
                        have HL16b : Hid (∀ y ∈ l ++ List.replicate 1 n, y < 16) := Lib.hid (fun y hy => by rw [List.mem_append] at hy; rcases hy with hy | hy; exact HL16.out y hy; rw [List.eq_of_mem_replicate hy]; exact hn16)
                        have HLE : Hid ((l ++ List.replicate 1 n).length ≤ 500) := Lib.hid (by rw [List.length_append, List.length_replicate, ← HLL.out]; omega)
                        have q0 : decide ((n : Int) < 16) = true := by rw [decide_eq_true_iff]; omega
                        clear hst hrun
                        go_wp2_with (at_builtin; refine wl_append rfl (.tmp 100) (.tmp 102) rfl rfl rfl HRUN.out ?_)
                        go_roundw
                        case rel => exact ⟨A1, 0, _, by rw [I.ints_rep]; exact HF.out.1, L11.out.low HW.out y4 y6 hXw HRO.out, BO11.out.low HW.out yo, by have := HW.out.size; omega, HLE.out, a9, HL16b.out, HST.out.1⟩
                        case measure => exact HMS.out _ _ _ (L11.out.low HW.out y4 y6 hXw HRO.out) HST.out.2
                      · have q0 : decide ((n : Int) < 16) = false := by rw [decide_eq_false_iff_not]; omega
                        have hcs : n = 16 ∨ n = 17 ∨ n = 18 := by omega
                        rcases hcs with hn | hn | hn
                        · have e16 : ((n : Nat) : Int) = 16 := by omega
                          rw [e16] at q0 ⊢
                          clear hn16
                          by_cases hl0 : l = []
                          · have HE : Hid (R = .error 3) := Lib.hid (by rw [HRR.out, ← HRL.out, I.lens_err (by rw [← HLL.out]; exact hlt) (by unfold I.lstep; rw [HSYM.out]; simp only []; unfold I.rep; rw [if_neg (by omega), if_pos ⟨hn, hl0⟩])]; rfl)
                            have hL0 : LL = 0 := by rw [HLL.out, hl0]; rfl
                            have q7 : ((LL : Int) == 0) = true := by rw [beq_iff_eq]; omega
                            clear hl0 hL0
                            go_upto_region 28 with (fail)
                            have L8 : Hid (Lg w B b4 b6 (.slice sa L sc) A1 3 out _) := Lib.hid ⟨L11.out.sx.set2 3, L11.out.kp.turned (turned_set _ ⟨b4, 2, none⟩ (.int .i64 3)) lb4, L11.out.z.other (a := ⟨b4, 2, none⟩) (.int .i64 3) ne6⟩
                            clear c0 c1 c2 g0 g1 g2 d0 d1 d2 i0 i1 i2
                            generalize World.setCell _ ⟨b4, 2, none⟩ (.int .i64 3) = W3 at L8 ⊢
                            obtain ⟨c0, c1, c2, g0, g1, g2⟩ := L8.out.sx.blk.st
                            obtain ⟨d0, d1, d2, i0, i1, i2⟩ := L8.out.z.st
                            go_region
                            go_wp2
                            refine post_tmps_cell Tryd.underlying52 rfl size54 Tryd.results23 (((L8.out.z.st0 (.slice sa L sc)).st1 (A1 : Int)).st2 (3 : Int)).drew (stA_size _ _ _) rfl rfl rfl rfl ?_
                            rw [HE.out]
                            have hret := L8.out.ret lb6 (FS.out b6 lb6) (.slice sa L sc) (.int .i64 (A1 : Int)) (.int .i64 (3 : Int))
                            exact ⟨A1, rfl, by omega, hret.1, hret.2⟩
                          have hl1 : 0 < l.length := List.length_pos_iff.2 hl0
                          obtain ⟨g, cc, ev, hcap, hXg, hcell⟩ := OwnL.lens (by have := O11.out; rw [HLL.out] at this; exact this) hl1
                          injection ev with ev1 ev2 ev3
                          subst ev1
                          subst ev3
                          clear ev2
                          have hcel := hcell (l.length - 1) (by omega)
                          obtain ⟨mm, hmm⟩ : ∃ m, m = LL - 1 := ⟨_, rfl⟩
                          obtain ⟨x, hx⟩ : ∃ x, x = l[l.length - 1] := ⟨_, rfl⟩
                          rw [← hx] at hcel
                          have hxg : l.getD (l.length - 1) 0 = x := by rw [hx, List.getD_eq_getElem?_getD, List.getElem?_eq_getElem (by omega)]; rfl
                          have hx16 : x < 16 := by rw [hx]; exact HL16.out _ (List.getElem_mem _)
                          rw [← HLL.out, ← hmm] at hcel
                          have hL1 : 0 < LL := by rw [HLL.out]; exact hl1
                          have q7 : ((LL : Int) == 0) = false := by rw [beq_eq_false_iff_ne]; omega
                          have q8 : IntKind.i64.wrap ((LL : Int) - 1) = (mm : Int) := by rw [i64_wrap _ (by omega) (by omega)]; omega
                          have q9 : (LL : Int) - 1 = (mm : Int) := by omega
                          have i8 : (0 : Int) ≤ (mm : Int) := by omega
                          have i9 : (mm : Int) < (LL : Int) := by omega
                          have HXG := Lib.hid hxg
                          clear hcell hx hxg hmm hl1 hcap
                          obtain ⟨r9, hr9⟩ : ∃ r, I.numS s 2 A1 0 = r := ⟨_, rfl⟩
                          obtain ⟨v, A2, E2⟩ := r9
                          obtain ⟨_, a10⟩ := I.numS_at hr9 hs (by omega) a9
                          have hrS := I.rep_S (l := l) (n := n) (by omega) (fun _ => hl0) (by rw [hn]; rfl) hr9 (by omega)
                          have hv128 := hrS.2
                          obtain ⟨tm, htm⟩ : ∃ t, t = 3 + v := ⟨_, rfl⟩
                          have etm : (v : Int) + 3 = (tm : Int) := by omega
                          have htmb : tm ≤ 150 := by omega
                          have hRS : (E2 ≠ 0 ∧ I.rep s n A1 l = .error E2) ∨ (E2 = 0 ∧ I.rep s n A1 l = .ok ((x, tm), A2)) := by
                            rcases hrS.1 with h | ⟨h, h2⟩
                            · exact Or.inl h
                            · refine Or.inr ⟨h, ?_⟩
                              rw [h2, hn, htm]
                              rw [if_pos rfl, HXG.out]; rfl
                          have hst := I.lmQ_step HSYM.out (by rw [← HLL.out]; exact hlt) HZE.out HRL.out hRS
                          have HST := Lib.hid hst
                          have HNB : Hid (∀ W, Calls Tryd.prog 19 #[.string s, .agg (stA (.slice sa L sc) (A1 : Int) 0), .int .i64 2] W fun e w' => e = .returned (.tuple #[.int .i64 (v : Int), .agg (stA (.slice sa L sc) (A2 : Int) (E2 : Int))]) ∧ Below W.heap.size W w') := Lib.hid fun W => rnumber_at hr9 sa L sc W hs a9 (by omega)
                          have HLE : Hid (∀ k, k ≤ tm → (l ++ List.replicate k x).length = LL + k) := Lib.hid (fun k _ => by rw [List.length_append, List.length_replicate, ← HLL.out])
                          have HL16b : Hid (∀ y ∈ l ++ List.replicate tm x, y < 16) := Lib.hid (fun y hy => by rw [List.mem_append] at hy; rcases hy with hy | hy; exact HL16.out y hy; rw [List.eq_of_mem_replicate hy]; exact hx16)
                          have C11b : Blk W11 b4 (stA (.slice sa L sc) (A1 : Int) 0) 52 := C11
                          clear hst hRS hrS hr9 htm e16 hn C11
                          go_upto_region 38 with (first
                            | (refine wl_load 52 3 _ Tryd.underlying52 rfl size54 _ rfl rfl _ rfl _ _ C11b (stA_size _ _ _) ?_)
                            | (go_at_call 19; refine (HNB.out _).mono ?_; rintro e w12 ⟨rfl, hb12⟩)
                            | (refine wl_store 52 3 size54 _ _ rfl rfl b4 rfl (stA (.slice sa L sc) (A2 : Int) (E2 : Int)) rfl _ _ (C11b.keep hb12) rfl rfl (stA_one _ _ _ _ _) ?_; intro W12 C12 hT12))
                          have L12 : Hid (Lg w B b4 b6 (.slice sa L sc) A2 E2 out W12) := Lib.hid ⟨(L11.out.sx.keep hb12).lay hT12 C12, (L11.out.kp.trans (Kp.of_below _ _ hb12)).turned hT12 lb4, hT12.blk (L11.out.z.keep hb12) ne6⟩
                          have BO12 := Lib.hid (hT12.blk (BO11.out.keep hb12) no4)
                          have O12 := Lib.hid ((O11.out.keep hb12).turned hT12 y4)
                          have hX12 : X ≤ W12.heap.size := by have := hb12.size; have := hT12.size; omega
                          clear hb12 hT12 C11b HNB c0 c1 c2 g0 g1 g2 d0 d1 d2 i0 i1 i2 BO11 O11 L11 C12
                          go_wp2
                          go_loopw [13, 18] (fun v i wr => LrRel w B b4 b6 bo X (.slice sa L sc) out f A2 E2 l x tm v i wr) (fun _ i _ => tm - (intOf i).toNat)
                          case atStart => exact ⟨0, Nat.zero_le _, rfl, by rw [List.replicate_zero, List.append_nil]; exact O12.out, L12.out, BO12.out, hX12⟩
                          case round =>
                            rename_i wo
                            obtain ⟨k, hk, rfl, hO13, hL13, hB13, hX13⟩ := hrel
                            clear O12 L12 BO12
                            obtain ⟨vb, vd, rfl, _⟩ := hO13.len
                            have hlen := HLE.out k hk
                            rw [I.ints_len, hlen]
                            have O13 := hO13
                            rw [I.ints_len, hlen] at O13
                            by_cases hkt : k < tm
                            · obtain ⟨sl3, w3, hrun, HF⟩ := OwnL.more (v := (x : Int)) (O13.keep (bq_alloc (bq_refl wr) (.cells #[.int .i64 (x : Int)] 3))) (by simp; omega) (blk_new wr _ 3 : Blk _ _ (List.replicate 1 (Value.int .i64 (x : Int))).toArray 3) (by rw [I.ints_len, hlen]; omega) 41
                              have HRUN := Lib.hid hrun
                              have HW : Hid (Below X wr w3) := Lib.hid (((Below.refl X wr).alloc hX13 _).trans HF.out.2)
                              have HO : Hid (OwnL w3 X sl3 (I.ints (l ++ List.replicate (k + 1) x))) := Lib.hid (by
                                have h := HF.out.1
                                rw [I.ints_rep, List.append_assoc, List.replicate_append_replicate] at h
                                rw [I.ints_rep]
                                exact h)
                              have HL := Lib.hid (hL13.low HW.out y4 y6 hXw HRO.out)
                              have HB := Lib.hid (hB13.low HW.out yo)
                              clear hrun O13 hO13 hL13 hB13 hlen
                              go_wp2_with (at_builtin; refine wl_append rfl (.tmp 151) (.tmp 153) rfl rfl rfl HRUN.out ?_)
                              go_roundw
                              case rel => exact ⟨k + 1, by omega, by go_num, HO.out, HL.out, HB.out, by have := HW.out.size; omega⟩
                              case measure => simp [intOf]; omega
                            · obtain rfl : k = tm := by omega
                              have HO := Lib.hid O13
                              have HL := Lib.hid hL13
                              have HB := Lib.hid hB13
                              clear O13 hO13 hL13 hB13
                              go_wp2
                              go_roundw
                              case rel => exact ⟨A2, E2, _, HO.out, HL.out, HB.out, hX13, by rw [hlen]; omega, a10, HL16b.out, HST.out.1⟩
                              case measure => exact HMS.out _ _ _ HL.out HST.out.2
                        · have e16 : ((n : Nat) : Int) = 17 := by omega
                          rw [e16] at q0 ⊢
                          clear hn16
                          obtain ⟨x, hx0⟩ : ∃ x, x = 0 := ⟨_, rfl⟩
                          have hx16 : x < 16 := by omega
                          have q7 : ((0 : Nat) : Int) = 0 := rfl
                          obtain ⟨r9, hr9⟩ : ∃ r, I.numS s 3 A1 0 = r := ⟨_, rfl⟩
                          obtain ⟨v, A2, E2⟩ := r9
                          obtain ⟨_, a10⟩ := I.numS_at hr9 hs (by omega) a9
                          have hrS := I.rep_S (l := l) (n := n) (by omega) (fun h => by omega) (by rw [hn]; rfl) hr9 (by omega)
                          have hv128 := hrS.2
                          obtain ⟨tm, htm⟩ : ∃ t, t = 3 + v := ⟨_, rfl⟩
                          have etm : (v : Int) + 3 = (tm : Int) := by omega
                          have htmb : tm ≤ 150 := by omega
                          have hRS : (E2 ≠ 0 ∧ I.rep s n A1 l = .error E2) ∨ (E2 = 0 ∧ I.rep s n A1 l = .ok ((x, tm), A2)) := by
                            rcases hrS.1 with h | ⟨h, h2⟩
                            · exact Or.inl h
                            · refine Or.inr ⟨h, ?_⟩
                              rw [h2, hn, htm]
                              rw [if_neg (by omega), hx0]; rfl
                          have hst := I.lmQ_step HSYM.out (by rw [← HLL.out]; exact hlt) HZE.out HRL.out hRS
                          have HST := Lib.hid hst
                          have HNB : Hid (∀ W, Calls Tryd.prog 19 #[.string s, .agg (stA (.slice sa L sc) (A1 : Int) 0), .int .i64 3] W fun e w' => e = .returned (.tuple #[.int .i64 (v : Int), .agg (stA (.slice sa L sc) (A2 : Int) (E2 : Int))]) ∧ Below W.heap.size W w') := Lib.hid fun W => rnumber_at hr9 sa L sc W hs a9 (by omega)
                          have HLE : Hid (∀ k, k ≤ tm → (l ++ List.replicate k x).length = LL + k) := Lib.hid (fun k _ => by rw [List.length_append, List.length_replicate, ← HLL.out])
                          have HL16b : Hid (∀ y ∈ l ++ List.replicate tm x, y < 16) := Lib.hid (fun y hy => by rw [List.mem_append] at hy; rcases hy with hy | hy; exact HL16.out y hy; rw [List.eq_of_mem_replicate hy]; exact hx16)
                          have C11b : Blk W11 b4 (stA (.slice sa L sc) (A1 : Int) 0) 52 := C11
                          clear hst hRS hrS hr9 htm e16 hn C11
                          go_upto_region 38 with (first
                            | (refine wl_load 52 3 _ Tryd.underlying52 rfl size54 _ rfl rfl _ rfl _ _ C11b (stA_size _ _ _) ?_)
                            | (go_at_call 19; refine (HNB.out _).mono ?_; rintro e w12 ⟨rfl, hb12⟩)
                            | (refine wl_store 52 3 size54 _ _ rfl rfl b4 rfl (stA (.slice sa L sc) (A2 : Int) (E2 : Int)) rfl _ _ (C11b.keep hb12) rfl rfl (stA_one _ _ _ _ _) ?_; intro W12 C12 hT12))
                          have L12 : Hid (Lg w B b4 b6 (.slice sa L sc) A2 E2 out W12) := Lib.hid ⟨(L11.out.sx.keep hb12).lay hT12 C12, (L11.out.kp.trans (Kp.of_below _ _ hb12)).turned hT12 lb4, hT12.blk (L11.out.z.keep hb12) ne6⟩
                          have BO12 := Lib.hid (hT12.blk (BO11.out.keep hb12) no4)
                          have O12 := Lib.hid ((O11.out.keep hb12).turned hT12 y4)
                          have hX12 : X ≤ W12.heap.size := by have := hb12.size; have := hT12.size; omega
                          clear hb12 hT12 C11b HNB c0 c1 c2 g0 g1 g2 d0 d1 d2 i0 i1 i2 BO11 O11 L11 C12
                          go_wp2
                          go_loopw [13, 18] (fun v i wr => LrRel w B b4 b6 bo X (.slice sa L sc) out f A2 E2 l x tm v i wr) (fun _ i _ => tm - (intOf i).toNat)
                          case atStart => exact ⟨0, Nat.zero_le _, rfl, by rw [List.replicate_zero, List.append_nil]; exact O12.out, L12.out, BO12.out, hX12⟩
                          case round =>
                            rename_i wo
                            obtain ⟨k, hk, rfl, hO13, hL13, hB13, hX13⟩ := hrel
                            clear O12 L12 BO12
                            obtain ⟨vb, vd, rfl, _⟩ := hO13.len
                            have hlen := HLE.out k hk
                            rw [I.ints_len, hlen]
                            have O13 := hO13
                            rw [I.ints_len, hlen] at O13
                            by_cases hkt : k < tm
                            · obtain ⟨sl3, w3, hrun, HF⟩ := OwnL.more (v := (x : Int)) (O13.keep (bq_alloc (bq_refl wr) (.cells #[.int .i64 (x : Int)] 3))) (by simp; omega) (blk_new wr _ 3 : Blk _ _ (List.replicate 1 (Value.int .i64 (x : Int))).toArray 3) (by rw [I.ints_len, hlen]; omega) 41
                              have HRUN := Lib.hid hrun
                              have HW : Hid (Below X wr w3) := Lib.hid (((Below.refl X wr).alloc hX13 _).trans HF.out.2)
                              have HO : Hid (OwnL w3 X sl3 (I.ints (l ++ List.replicate (k + 1) x))) := Lib.hid (by
                                have h := HF.out.1
                                rw [I.ints_rep, List.append_assoc, List.replicate_append_replicate] at h
                                rw [I.ints_rep]
                                exact h)
                              have HL := Lib.hid (hL13.low HW.out y4 y6 hXw HRO.out)
                              have HB := Lib.hid (hB13.low HW.out yo)
                              clear hrun O13 hO13 hL13 hB13 hlen
                              subst hx0
                              go_wp2_with (at_builtin; refine wl_append rfl (.tmp 151) (.tmp 153) rfl rfl rfl HRUN.out ?_)
                              go_roundw
                              case rel => exact ⟨k + 1, by omega, by go_num, HO.out, HL.out, HB.out, by have := HW.out.size; omega⟩
                              case measure => simp [intOf]; omega
                            · obtain rfl : k = tm := by omega
                              have HO := Lib.hid O13
                              have HL := Lib.hid hL13
                              have HB := Lib.hid hB13
                              clear O13 hO13 hL13 hB13
                              go_wp2
                              go_roundw
                              case rel => exact ⟨A2, E2, _, HO.out, HL.out, HB.out, hX13, by rw [hlen]; omega, a10, HL16b.out, HST.out.1⟩
                              case measure => exact HMS.out _ _ _ HL.out HST.out.2
                        · have e16 : ((n : Nat) : Int) = 18 := by omega
                          rw [e16] at q0 ⊢
                          clear hn16
                          obtain ⟨x, hx0⟩ : ∃ x, x = 0 := ⟨_, rfl⟩
                          have hx16 : x < 16 := by omega
                          have q7 : ((0 : Nat) : Int) = 0 := rfl
                          obtain ⟨r9, hr9⟩ : ∃ r, I.numS s 7 A1 0 = r := ⟨_, rfl⟩
                          obtain ⟨v, A2, E2⟩ := r9
                          obtain ⟨_, a10⟩ := I.numS_at hr9 hs (by omega) a9
                          have hrS := I.rep_S (l := l) (n := n) (by omega) (fun h => by omega) (by rw [hn]; rfl) hr9 (by omega)
                          have hv128 := hrS.2
                          obtain ⟨tm, htm⟩ : ∃ t, t = 11 + v := ⟨_, rfl⟩
                          have etm : (v : Int) + 11 = (tm : Int) := by omega
                          have htmb : tm ≤ 150 := by omega
                          have hRS : (E2 ≠ 0 ∧ I.rep s n A1 l = .error E2) ∨ (E2 = 0 ∧ I.rep s n A1 l = .ok ((x, tm), A2)) := by
                            rcases hrS.1 with h | ⟨h, h2⟩
                            · exact Or.inl h
                            · refine Or.inr ⟨h, ?_⟩
                              rw [h2, hn, htm]
                              rw [if_neg (by omega), hx0]; rfl
                          have hst := I.lmQ_step HSYM.out (by rw [← HLL.out]; exact hlt) HZE.out HRL.out hRS
                          have HST := Lib.hid hst
                          have HNB : Hid (∀ W, Calls Tryd.prog 19 #[.string s, .agg (stA (.slice sa L sc) (A1 : Int) 0), .int .i64 7] W fun e w' => e = .returned (.tuple #[.int .i64 (v : Int), .agg (stA (.slice sa L sc) (A2 : Int) (E2 : Int))]) ∧ Below W.heap.size W w') := Lib.hid fun W => rnumber_at hr9 sa L sc W hs a9 (by omega)
                          have HLE : Hid (∀ k, k ≤ tm → (l ++ List.replicate k x).length = LL + k) := Lib.hid (fun k _ => by rw [List.length_append, List.length_replicate, ← HLL.out])
                          have HL16b : Hid (∀ y ∈ l ++ List.replicate tm x, y < 16) := Lib.hid (fun y hy => by rw [List.mem_append] at hy; rcases hy with hy | hy; exact HL16.out y hy; rw [List.eq_of_mem_replicate hy]; exact hx16)
                          have C11b : Blk W11 b4 (stA (.slice sa L sc) (A1 : Int) 0) 52 := C11
                          clear hst hRS hrS hr9 htm e16 hn C11
                          go_upto_region 38 with (first
                            | (refine wl_load 52 3 _ Tryd.underlying52 rfl size54 _ rfl rfl _ rfl _ _ C11b (stA_size _ _ _) ?_)
                            | (go_at_call 19; refine (HNB.out _).mono ?_; rintro e w12 ⟨rfl, hb12⟩)
                            | (refine wl_store 52 3 size54 _ _ rfl rfl b4 rfl (stA (.slice sa L sc) (A2 : Int) (E2 : Int)) rfl _ _ (C11b.keep hb12) rfl rfl (stA_one _ _ _ _ _) ?_; intro W12 C12 hT12))
                          have L12 : Hid (Lg w B b4 b6 (.slice sa L sc) A2 E2 out W12) := Lib.hid ⟨(L11.out.sx.keep hb12).lay hT12 C12, (L11.out.kp.trans (Kp.of_below _ _ hb12)).turned hT12 lb4, hT12.blk (L11.out.z.keep hb12) ne6⟩
                          have BO12 := Lib.hid (hT12.blk (BO11.out.keep hb12) no4)
                          have O12 := Lib.hid ((O11.out.keep hb12).turned hT12 y4)
                          have hX12 : X ≤ W12.heap.size := by have := hb12.size; have := hT12.size; omega
                          clear hb12 hT12 C11b HNB c0 c1 c2 g0 g1 g2 d0 d1 d2 i0 i1 i2 BO11 O11 L11 C12
                          go_wp2
                          go_loopw [13, 18] (fun v i wr => LrRel w B b4 b6 bo X (.slice sa L sc) out f A2 E2 l x tm v i wr) (fun _ i _ => tm - (intOf i).toNat)
                          case atStart => exact ⟨0, Nat.zero_le _, rfl, by rw [List.replicate_zero, List.append_nil]; exact O12.out, L12.out, BO12.out, hX12⟩
                          case round =>
                            rename_i wo
                            obtain ⟨k, hk, rfl, hO13, hL13, hB13, hX13⟩ := hrel
                            clear O12 L12 BO12
                            obtain ⟨vb, vd, rfl, _⟩ := hO13.len
                            have hlen := HLE.out k hk
                            rw [I.ints_len, hlen]
                            have O13 := hO13
                            rw [I.ints_len, hlen] at O13
                            by_cases hkt : k < tm
                            · obtain ⟨sl3, w3, hrun, HF⟩ := OwnL.more (v := (x : Int)) (O13.keep (bq_alloc (bq_refl wr) (.cells #[.int .i64 (x : Int)] 3))) (by simp; omega) (blk_new wr _ 3 : Blk _ _ (List.replicate 1 (Value.int .i64 (x : Int))).toArray 3) (by rw [I.ints_len, hlen]; omega) 41
                              have HRUN := Lib.hid hrun
                              have HW : Hid (Below X wr w3) := Lib.hid (((Below.refl X wr).alloc hX13 _).trans HF.out.2)
                              have HO : Hid (OwnL w3 X sl3 (I.ints (l ++ List.replicate (k + 1) x))) := Lib.hid (by
                                have h := HF.out.1
                                rw [I.ints_rep, List.append_assoc, List.replicate_append_replicate] at h
                                rw [I.ints_rep]
                                exact h)
                              have HL := Lib.hid (hL13.low HW.out y4 y6 hXw HRO.out)
                              have HB := Lib.hid (hB13.low HW.out yo)
                              clear hrun O13 hO13 hL13 hB13 hlen
                              subst hx0
                              go_wp2_with (at_builtin; refine wl_append rfl (.tmp 151) (.tmp 153) rfl rfl rfl HRUN.out ?_)
                              go_roundw
                              case rel => exact ⟨k + 1, by omega, by go_num, HO.out, HL.out, HB.out, by have := HW.out.size; omega⟩
                              case measure => simp [intOf]; omega
                            · obtain rfl : k = tm := by omega
                              have HO := Lib.hid O13
                              have HL := Lib.hid hL13
                              have HB := Lib.hid hB13
                              clear O13 hO13 hL13 hB13
                              go_wp2
                              go_roundw
                              case rel => exact ⟨A2, E2, _, HO.out, HL.out, HB.out, hX13, by rw [hlen]; omega, a10, HL16b.out, HST.out.1⟩
                              case measure => exact HMS.out _ _ _ HL.out HST.out.2
end Go.Proofs.YtddiccdfeckgaaaDoor
