import Derived.Test.YtddiccdfeckgaaaDoorZN
/- Layer 5: the document's stored block, the walk. -/
namespace Go.Proofs.YtddiccdfeckgaaaDoor
open Go.RowKit
set_option maxRecDepth 100000
set_option linter.unusedVariables false
set_option linter.unusedSimpArgs false
def AlRel (w : World) (B b4 b6 : Nat) (sl : Value) (out : List UInt8) (p : Nat) (wr : World) : Prop :=
  ∃ j : Nat, p ≤ j ∧ j ≤ I.al p ∧ I.al j = I.al p ∧ Sx wr B b4 sl (j : Int) 0 out ∧ Kp w.heap.size sl w wr sl ∧ Blk wr b6 (stA (.slice none 0 0) 0 0) 52
def B16Rel (w : World) (B b4 b6 : Nat) (sl : Value) (out : List UInt8) (A : Nat) (i : Value) (wr : World) : Prop :=
  ∃ k : Nat, k ≤ 16 ∧ i = .int .i64 (k : Int) ∧ Sx wr B b4 sl (A : Int) 0 out ∧ Kp w.heap.size sl w wr sl ∧ Blk wr b6 (stA (.slice none 0 0) 0 0) 52
def SdRel (w : World) (B b4 b6 : Nat) (s : ByteArray) (sl : Value) (out : List UInt8) (A f n : Nat) (i : Value) (wr : World) : Prop :=
  ∃ (k : Nat) (sl2 : Value) (o : List UInt8), k ≤ n ∧ i = .int .i64 (k : Int) ∧ o = out ++ (s.data.toList.drop f).take k ∧ Sx wr B b4 sl2 (A : Int) 0 o ∧ Kp w.heap.size sl w wr sl2 ∧ Blk wr b6 (stA (.slice none 0 0) 0 0) 52 ∧ sl2.ownBlock ≠ some b6
theorem Kp.belowR {w w' : World} {B : Nat} {sl sl' : Value} {out : List UInt8} (h : Kp w.heap.size sl w w' sl') (hr : RO w B sl out) (hB : B ≤ w.heap.size) : Below B w w' := h.below hB (fun k hk => (hr.lt k hk).1) hB
set_option maxHeartbeats 4000000 in
set_option maxRecDepth 100000 in
theorem rstored_any (s : ByteArray) (most p B : Nat) (sl : Value) (out : List UInt8) (w : World) (hs : s.size ≤ 1048576) (hp : p ≤ 8 * s.size) (hm : most ≤ 262144) (ho : out.length ≤ most) (hro : RO w B sl out) (hB : B ≤ w.heap.size) :
    Calls Tryd.prog 20 #[.string s, .agg (stA sl (p : Int) 0), .int .i64 (most : Int)] w (RPost w B sl (I.stored s most p out)) := by
  obtain ⟨sa, sc, rfl, hsc⟩ := hro.len
  obtain ⟨R, hR⟩ : ∃ R, R = I.stored s most p out := ⟨_, rfl⟩
  rw [← hR]
  obtain ⟨L, hL⟩ : ∃ L, L = out.length := ⟨_, rfl⟩
  rw [← hL] at hro ho hsc ⊢
  have HL := Lib.hid hL
  have HRO := Lib.hid hro
  have HR := Lib.hid hR
  have hal : I.al p ≤ 8 * s.size := by unfold I.al; omega
  clear hL hro hR
  go_enter Tryd.func20, Tryd.ntmps20
  go_wp2_with (first
    | (refine wl_box 52 _ _ rfl rfl rfl ?_; intro W1 b4 B4 l4 k4)
    | (refine wl_alloc 52 _ zero54 rfl rfl ?_; intro W2 b6 B6 l6 k6))
  have y4 := B4.lt
  have lb4 : w.heap.size ≤ b4 := l4
  have ne6 : b6 ≠ b4 := by omega
  have lb6 : w.heap.size ≤ b6 := by have := k4.size; omega
  have f4 : (Value.slice sa L sc).ownBlock ≠ some b4 := fun e => by have := (HRO.out.lt b4 e).2; omega
  have f6 : (Value.slice sa L sc).ownBlock ≠ some b6 := fun e => by have := (HRO.out.lt b6 e).2; omega
  have HST : Hid (AlRel w B b4 b6 (.slice sa L sc) out p W2) := Lib.hid ⟨p, Nat.le_refl _, (by unfold I.al; omega), rfl, ⟨B4.keep k6, (HRO.out.keep k4).keep k6, f4, by have := k4.size; have := k6.size; omega⟩, Kp.of_below _ _ (bq_trans k4 k6), B6⟩
  clear B4 l4 k4 B6 l6 k6 y4
  simp only [Act.put, List.getElem_toArray, List.getElem_cons_succ, List.getElem_cons_zero, List.setIfInBounds_toArray, List.set_cons_zero, List.set_cons_succ]
  go_loopw [12] (fun _ wr => AlRel w B b4 b6 (.slice sa L sc) out p wr) (fun _ wr => I.al p - atOf wr b4)
  case atStart => exact HST.out
  case round =>
    obtain ⟨j, hj1, hj2, hj3, hS, hK, hZ⟩ := hrel
    clear HST
    have S0 := Lib.hid hS
    have K0 := Lib.hid hK
    have Z0 := Lib.hid hZ
    have HAT := Lib.hid hS.atOf
    have C0 := hS.blk
    obtain ⟨c0, c1, c2, g0, g1, g2⟩ := C0.st
    clear hS hK hZ
    have hj9 : j ≤ 16777216 := by omega
    by_cases h8 : j % 8 = 0
    rotate_left
    · have q : ((j : Int) % 8 != 0) = true := by rw [bne_iff_ne]; omega
      have hj4 : j + 1 ≤ I.al p := by unfold I.al at *; omega
      have hj5 : I.al (j + 1) = I.al p := by unfold I.al at *; omega
      clear c0 c2 g0 g2 C0
      go_wp2
      go_roundw
      case rel => exact ⟨j + 1, by omega, hj4, hj5, by rw [show ((j + 1 : Nat) : Int) = (j : Int) + 1 by omega]; exact S0.out.set1 _, K0.out.turned (turned_set wr ⟨b4, 1, none⟩ _) lb4, Z0.out.other (a := ⟨b4, 1, none⟩) _ ne6⟩
      case measure => rw [(S0.out.set1 _).atOf, HAT.out]; omega
    · have hjP : j = I.al p := by unfold I.al at *; omega
      have q : ((j : Int) % 8 != 0) = false := by rw [bne_eq_false_iff_eq]; omega
      obtain ⟨r1, hr1⟩ : ∃ r, I.numS s 16 j 0 = r := ⟨_, rfl⟩
      obtain ⟨n, A1, E1⟩ := r1
      obtain ⟨v1, a1⟩ := I.numS_at hr1 hs (by omega) hj9
      obtain ⟨r2, hr2⟩ : ∃ r, I.numS s 16 A1 E1 = r := ⟨_, rfl⟩
      obtain ⟨m, A2, E2⟩ := r2
      obtain ⟨v2, a2⟩ := I.numS_at hr2 hs (by omega) a1
      have HN1 : Hid (∀ W, Calls Tryd.prog 19 #[.string s, .agg (stA (.slice sa L sc) (j : Int) 0), .int .i64 16] W fun e w' => e = .returned (.tuple #[.int .i64 (n : Int), .agg (stA (.slice sa L sc) (A1 : Int) (E1 : Int))]) ∧ Below W.heap.size W w') := Lib.hid fun W => rnumber_at hr1 sa L sc W hs hj9 (by omega)
      have HN2 : Hid (∀ W, Calls Tryd.prog 19 #[.string s, .agg (stA (.slice sa L sc) (A1 : Int) (E1 : Int)), .int .i64 16] W fun e w' => e = .returned (.tuple #[.int .i64 (m : Int), .agg (stA (.slice sa L sc) (A2 : Int) (E2 : Int))]) ∧ Below W.heap.size W w') := Lib.hid fun W => rnumber_at hr2 sa L sc W hs a1 (by omega)
      have HQ := Lib.hid (And.intro hr1 hr2)
      have HJP := Lib.hid hjP
      clear hr1 hr2 hjP HAT hj1 hj2 hj3 g0 g1 g2
      go_upto_region 5 with (first
        | (refine wl_load 52 3 _ Tryd.underlying52 rfl size54 _ rfl rfl _ rfl _ _ C0 (stA_size _ _ _) ?_)
        | (go_at_call 19; refine (HN1.out _).mono ?_; rintro e w1 ⟨rfl, hb1⟩)
        | (refine wl_store 52 3 size54 _ _ rfl rfl b4 rfl (stA (.slice sa L sc) (A1 : Int) (E1 : Int)) rfl _ _ (C0.keep hb1) rfl rfl (stA_one _ _ _ _ _) ?_; intro W1 C1 hT1))
      have S1 := Lib.hid ((S0.out.keep hb1).lay hT1 C1)
      have K1 := Lib.hid ((K0.out.trans (Kp.of_below _ _ hb1)).turned hT1 lb4)
      have Z1 := Lib.hid (hT1.blk (Z0.out.keep hb1) ne6)
      clear hb1 hT1 C0 S0 K0 Z0
      go_upto_region 6 with (first
        | (refine wl_load 52 3 _ Tryd.underlying52 rfl size54 _ rfl rfl _ rfl _ _ C1 (stA_size _ _ _) ?_)
        | (go_at_call 19; refine (HN2.out _).mono ?_; rintro e w2 ⟨rfl, hb2⟩)
        | (refine wl_store 52 3 size54 _ _ rfl rfl b4 rfl (stA (.slice sa L sc) (A2 : Int) (E2 : Int)) rfl _ _ (C1.keep hb2) rfl rfl (stA_one _ _ _ _ _) ?_; intro W2 C2 hT2))
      have S2 := Lib.hid ((S1.out.keep hb2).lay hT2 C2)
      have K2 := Lib.hid ((K1.out.trans (Kp.of_below _ _ hb2)).turned hT2 lb4)
      have Z2 := Lib.hid (hT2.blk (Z1.out.keep hb2) ne6)
      clear hb2 hT2 C1 S1 K1 Z1
      clear c0 c1 c2 HN1 HN2
      by_cases hE : E2 = 0
      rotate_left
      · have HE : Hid (R = .error E2) := Lib.hid (by
          rw [HR.out]
          unfold I.stored
          rw [← HJP.out]
          by_cases e1 : E1 = 0
          · have h2 := HQ.out.2
            rw [e1] at h2
            rw [(I.numS_zero HQ.out.1 e1).2]
            simp only []
            rw [I.numS_err h2 hE]
          · have := I.numS_keep HQ.out.2 e1
            rw [I.numS_err HQ.out.1 e1, this])
        have q0 : ((E2 : Int) != 0) = true := by rw [bne_iff_ne]; omega
        obtain ⟨_, _, c2, _, _, _⟩ := C2.st
        go_wp2_with (first
          | (refine wl_load 52 3 _ Tryd.underlying52 rfl size54 _ rfl rfl _ rfl _ _ C2 (stA_size _ _ _) ?_)
          | (refine wl_store 52 3 size54 _ _ rfl rfl b6 rfl (stA (.slice sa L sc) (A2 : Int) (E2 : Int)) rfl _ _ Z2.out rfl rfl (stA_one _ _ _ _ _) ?_; intro Wz Cz hTz))
        refine post_cell Tryd.underlying52 rfl size54 Tryd.results20 Cz (stA_size _ _ _) rfl rfl ?_
        rw [HE.out]
        exact ⟨_, _, _, _, rfl, hE, (K2.out.turned hTz lb6).belowR HRO.out hB⟩
      · obtain ⟨h10, hn2⟩ := I.numS_zero HQ.out.2 hE
        obtain ⟨_, hn1⟩ := I.numS_zero HQ.out.1 h10
        rw [show ((E2 : Nat) : Int) = 0 by omega] at C2 S2
        obtain ⟨x1, x2, x3⟩ := I.num_ok hn1
        obtain ⟨x4, x5, x6⟩ := I.num_ok hn2
        have HST : Hid (R = if m ≠ 65535 - n then .error 3 else if most < out.length + n then .error 7 else if s.size < A2 / 8 + n then .error 2 else .ok (A2 + 8 * n, out ++ (s.data.toList.drop (A2 / 8)).take n)) := Lib.hid (by
          rw [HR.out]
          unfold I.stored
          rw [← HJP.out, hn1]
          simp only []
          rw [hn2])
        have HBT := Lib.hid (fun (h : n + m = 65535) => bits_turned (s := s) (p := j) x1.symm (by rw [← x2]; exact x4.symm) h)
        have hA2 : A2 = j + 32 := by omega
        rw [show ((E2 : Nat) : Int) = 0 by omega]
        have HA2 := Lib.hid hA2
        have hA2b : A2 ≤ 8 * s.size := by omega
        clear hn1 hn2 HQ hE h10 x1 x4 x2 x5 hA2 x3 x6
        by_cases hnm : n + m = 65535
        rotate_left
        · have HE : Hid (R = .error 3) := Lib.hid (by rw [HST.out, if_pos (by omega)])
          have q0 : ((n : Int) + (m : Int) != 65535) = true := by rw [bne_iff_ne]; omega
          have C2s := C2.st
          obtain ⟨_, _, cE3, _, _, fE3⟩ := C2s
          go_upto_region 10 with (fail)
          have C3 := C2.st2 3
          have S3 := Lib.hid (S2.out.set2 3)
          have K3 := Lib.hid (K2.out.turned (turned_set _ ⟨b4, 2, none⟩ (.int .i64 3)) lb4)
          have Z3 := Lib.hid (Z2.out.other (a := ⟨b4, 2, none⟩) (.int .i64 3) ne6)
          clear cE3 fE3
          go_wp2_with (first
            | (refine wl_load 52 3 _ Tryd.underlying52 rfl size54 _ rfl rfl _ rfl _ _ C3 (stA_size _ _ _) ?_)
            | (refine wl_store 52 3 size54 _ _ rfl rfl b6 rfl (stA (.slice sa L sc) (A2 : Int) 3) rfl _ _ Z3.out rfl rfl (stA_one _ _ _ _ _) ?_; intro Wz Cz hTz))
          refine post_cell Tryd.underlying52 rfl size54 Tryd.results20 Cz (stA_size _ _ _) rfl rfl ?_
          rw [HE.out]
          exact ⟨_, _, _, _, rfl, by omega, (K3.out.turned hTz lb6).belowR HRO.out hB⟩
        · have q0 : ((n : Int) + (m : Int) != 65535) = false := by rw [bne_eq_false_iff_eq]; omega
          have HBT2 := Lib.hid (HBT.out hnm)
          have HST2 : Hid (R = if most < out.length + n then .error 7 else if s.size < A2 / 8 + n then .error 2 else .ok (A2 + 8 * n, out ++ (s.data.toList.drop (A2 / 8)).take n)) := Lib.hid (by rw [HST.out, if_neg (by omega)])
          have HS2 : Hid (B16Rel w B b4 b6 (.slice sa L sc) out A2 (.int .i64 0) W2) := Lib.hid ⟨0, by omega, rfl, S2.out, K2.out, Z2.out⟩
          obtain ⟨_, _, c2, _, _, _⟩ := C2.st
          clear HST HBT C2 S2 K2 Z2
          go_wp2
          clear c2
          go_loopw [9] (fun i wr => B16Rel w B b4 b6 (.slice sa L sc) out A2 i wr) (fun i _ => 16 - (intOf i).toNat)
          case atStart => exact HS2.out
          case round =>
            obtain ⟨k, hk, rfl, hS, hK, hZ⟩ := hrel
            clear HS2
            have S3 := Lib.hid hS
            have K3 := Lib.hid hK
            have Z3 := Lib.hid hZ
            have C3 := hS.blk
            obtain ⟨c0, c1, c2, g0, g1, g2⟩ := C3.st
            clear hS hK hZ
            by_cases hk16 : k < 16
            · have hne := HBT2.out k hk16
              obtain ⟨x1, hx1⟩ : ∃ x, x = j + k := ⟨_, rfl⟩
              obtain ⟨x2, hx2⟩ : ∃ x, x = j + 16 + k := ⟨_, rfl⟩
              rw [← hx1, ← hx2] at hne
              have HR1 := Lib.hid (fun (W : World) (p : Nat) (h : p < 8 * s.size) => rbit_yes s p W (by omega) h)
              have hA := HA2.out
              have z1 : x1 < 8 * s.size := by omega
              have z2 : x2 < 8 * s.size := by omega
              have e1 : IntKind.i64.wrap ((A2 : Int) - 32) = (j : Int) := by rw [i64_wrap _ (by omega) (by omega)]; omega
              have e2 : IntKind.i64.wrap ((j : Int) + (k : Int)) = (x1 : Int) := by rw [i64_wrap _ (by omega) (by omega)]; omega
              have e3 : IntKind.i64.wrap ((A2 : Int) - 16) = ((j + 16 : Nat) : Int) := by rw [i64_wrap _ (by omega) (by omega)]; omega
              obtain ⟨y, hy⟩ : ∃ y, y = j + 16 := ⟨_, rfl⟩
              rw [← hy] at e3
              have e4 : IntKind.i64.wrap ((y : Int) + (k : Int)) = (x2 : Int) := by rw [i64_wrap _ (by omega) (by omega)]; omega
              have q5 : ((btv s x1 : Int) == (btv s x2 : Int)) = false := by rw [beq_eq_false_iff_ne]; omega
              clear hne hx1 hx2 hy c0 c2 g0 g1 g2 C3 hA
              go_wp2_with fail
              go_quiet ((go_at_call 45; exact quiet_same (HR1.out _ _ (by assumption))))
              clear e1 e2 e3 e4
              go_wp2
              go_roundw
              case rel => exact ⟨k + 1, by omega, by go_num, S3.out.keep (bq_drewN (bq_refl wr) nq), K3.out.trans (Kp.of_below _ _ (bq_drewN (bq_refl wr) nq)), Z3.out.drewN nq⟩
              case measure => simp [intOf]; omega
            · have HLL : Hid (R = if most < L + n then .error 7 else if s.size < A2 / 8 + n then .error 2 else .ok (A2 + 8 * n, out ++ (s.data.toList.drop (A2 / 8)).take n)) := Lib.hid (by rw [HST2.out, HL.out])
              by_cases hlim : most < L + n
              · have HE : Hid (R = .error 7) := Lib.hid (by rw [HLL.out, if_pos hlim])
                have q1 : decide ((most : Int) < (L : Int) + (n : Int)) = true := by rw [decide_eq_true_iff]; omega
                clear c0 c1 c2 g0 g1 g2
                obtain ⟨c0, _, _, _, _, _⟩ := C3.st
                have C3s := C3.st
                obtain ⟨_, _, cE4, _, _, fE4⟩ := C3s
                go_upto_region 19 with (fail)
                have C4 := C3.st2 7
                have S4 := Lib.hid (S3.out.set2 7)
                have K4 := Lib.hid (K3.out.turned (turned_set _ ⟨b4, 2, none⟩ (.int .i64 7)) lb4)
                have Z4 := Lib.hid (Z3.out.other (a := ⟨b4, 2, none⟩) (.int .i64 7) ne6)
                clear cE4 fE4
                go_wp2_with (first
                  | (refine wl_load 52 3 _ Tryd.underlying52 rfl size54 _ rfl rfl _ rfl _ _ C4 (stA_size _ _ _) ?_)
                  | (refine wl_store 52 3 size54 _ _ rfl rfl b6 rfl (stA (.slice sa L sc) (A2 : Int) 7) rfl _ _ Z4.out rfl rfl (stA_one _ _ _ _ _) ?_; intro Wz Cz hTz))
                refine post_cell Tryd.underlying52 rfl size54 Tryd.results20 Cz (stA_size _ _ _) rfl rfl ?_
                rw [HE.out]
                exact ⟨_, _, _, _, rfl, by omega, (K4.out.turned hTz lb6).belowR HRO.out hB⟩
              have q1 : decide ((most : Int) < (L : Int) + (n : Int)) = false := by rw [decide_eq_false_iff_not]; omega
              obtain ⟨f, hf⟩ : ∃ f, f = A2 / 8 := ⟨_, rfl⟩
              have hf2 : (A2 : Int) / 8 = (f : Int) := by omega
              have hA := HA2.out
              have hf3 : A2 + 8 * n = 8 * (f + n) := by omega
              rw [← hf, hf3] at HLL
              have hfb : f ≤ 1048576 := by omega
              have HF3 := Lib.hid hf3
              clear hA hf hf3
              by_cases hsh : s.size < f + n
              · have HE : Hid (R = .error 2) := Lib.hid (by rw [HLL.out, if_neg hlim, if_pos hsh])
                have q2 : decide ((s.size : Int) < (f : Int) + (n : Int)) = true := by rw [decide_eq_true_iff]; omega
                have C3s := C3.st
                obtain ⟨_, _, cE4, _, _, fE4⟩ := C3s
                go_upto_region 23 with (fail)
                have C4 := C3.st2 2
                have S4 := Lib.hid (S3.out.set2 2)
                have K4 := Lib.hid (K3.out.turned (turned_set _ ⟨b4, 2, none⟩ (.int .i64 2)) lb4)
                have Z4 := Lib.hid (Z3.out.other (a := ⟨b4, 2, none⟩) (.int .i64 2) ne6)
                clear cE4 fE4
                go_wp2_with (first
                  | (refine wl_load 52 3 _ Tryd.underlying52 rfl size54 _ rfl rfl _ rfl _ _ C4 (stA_size _ _ _) ?_)
                  | (refine wl_store 52 3 size54 _ _ rfl rfl b6 rfl (stA (.slice sa L sc) (A2 : Int) 2) rfl _ _ Z4.out rfl rfl (stA_one _ _ _ _ _) ?_; intro Wz Cz hTz))
                refine post_cell Tryd.underlying52 rfl size54 Tryd.results20 Cz (stA_size _ _ _) rfl rfl ?_
                rw [HE.out]
                exact ⟨_, _, _, _, rfl, by omega, (K4.out.turned hTz lb6).belowR HRO.out hB⟩
              have q2 : decide ((s.size : Int) < (f : Int) + (n : Int)) = false := by rw [decide_eq_false_iff_not]; omega
              have HE : Hid (R = .ok (8 * (f + n), out ++ (s.data.toList.drop f).take n)) := Lib.hid (by rw [HLL.out, if_neg hlim, if_neg hsh])
              have HSR : Hid (SdRel w B b4 b6 s (.slice sa L sc) out A2 f n (.int .i64 0) wr) := Lib.hid ⟨0, (.slice sa L sc), out, Nat.zero_le _, rfl, by simp, S3.out, K3.out, Z3.out, f6⟩
              have hLm : L + n ≤ 262144 := by omega
              clear S3 K3 Z3 C3 HLL HST2 HBT2 hlim
              obtain ⟨W9, hW9⟩ : ∃ W, W = wr := ⟨_, rfl⟩
              subst hW9
              go_wp2
              clear c0 c1 c2 g0 g1 g2 hf2
              go_loopw [11] (fun i wr => SdRel w B b4 b6 s (.slice sa L sc) out A2 f n i wr) (fun i _ => n - (intOf i).toNat)
              case atStart => exact HSR.out
              case round =>
                obtain ⟨k3, sl2, o, hk3, rfl, rfl, hS, hK, hZ, hf6⟩ := hrel
                clear HSR
                have S3 := Lib.hid hS
                have K3 := Lib.hid hK
                have Z3 := Lib.hid hZ
                have C3 := hS.blk
                by_cases hkn : k3 < n
                · have hm9 : f + k3 < s.size := by omega
                  have hlen : (out ++ (s.data.toList.drop f).take k3).length = L + k3 := by
                    rw [List.length_append, List.length_take, List.length_drop, ← HL.out, show s.data.toList.length = s.size by simp]; omega
                  have HNX : Hid (out ++ (s.data.toList.drop f).take k3 ++ [s[f + k3]] = out ++ (s.data.toList.drop f).take (k3 + 1)) := Lib.hid (by
                    rw [List.append_assoc, List.take_succ_eq_append_getElem (by simp; omega), List.getElem_drop]
                    rfl)
                  obtain ⟨aa3, cc3, rfl, hcap⟩ := hS.own.len
                  obtain ⟨o, hoo⟩ : ∃ o, o = out ++ (s.data.toList.drop f).take k3 := ⟨_, rfl⟩
                  rw [← hoo] at hlen HNX hS C3 K3 S3 hcap hf6
                  obtain ⟨c, hc⟩ : ∃ c, c = s[f + k3] := ⟨_, rfl⟩
                  have hlo : o.length ≤ 262144 := by omega
                  obtain ⟨aa4, nn4, cc4, w7, hrun, d3, f3, HF⟩ := hS.push (Lib.hid hlo) (bq_alloc (bq_drew (bq_refl wr)) (.cells #[.int .u8 (c.toNat : Int)] 5)) c (heap_alloc_new wr.drew _) 36
                  have e3 : (wr.alloc (.cells #[.int .u8 (c.toNat : Int)] 5)).cell? ⟨b4, 0, none⟩ = some (.slice aa3 o.length cc3) := (C3.alloc _).st.1
                  obtain ⟨c0, _, _, _, _, _⟩ := C3.st
                  obtain ⟨mm, hmm⟩ : ∃ mm, mm = f + k3 := ⟨_, rfl⟩
                  have hw64 : IntKind.i64.wrap ((f : Int) + (k3 : Int)) = (mm : Int) := by rw [i64_wrap _ (by omega) (by omega)]; omega
                  have hmz : mm < s.size := by omega
                  have hcc : s[mm] = c := by subst hmm; exact hc.symm
                  have HCC := Lib.hid hcc
                  have i1 : (0 : Int) ≤ (mm : Int) := by omega
                  have i2 : (mm : Int) < (s.size : Int) := by omega
                  have hcn : (s[mm].toNat : Int) = (c.toNat : Int) := by rw [hcc]
                  obtain ⟨LL, hLL⟩ : ∃ LL, LL = o.length := ⟨_, rfl⟩
                  rw [← hLL] at hrun d3 HF c0 e3 hcap hf6
                  have K3' := K3
                  rw [← hLL] at K3'
                  have HRUN := Lib.hid hrun
                  have HNX2 : Hid (o ++ [c] = out ++ (s.data.toList.drop f).take (k3 + 1)) := Lib.hid (by rw [← HNX.out, hc])
                  clear hS hK hZ hlen hlo hoo hrun hLL hmm hcc hc HNX S3 K3 C3 hcap
                  go_wp2_with fail
                  go_region_law (refine step_append_run (by rfl) _ _ (by rfl) (by rfl) (by rfl) HRUN.out ?_)
                  all_goals
                    go_wp2
                    go_roundw
                    case rel => exact ⟨k3 + 1, _, _, by omega, by go_num, HNX2.out, HF.out.1, HF.out.2.kp K3'.out lb4, (HF.out.2.blk Z3.out ne6 hf6).1, (HF.out.2.blk Z3.out ne6 hf6).2⟩
                    case measure => simp [intOf]; omega
                · have hkk : k3 = n := by omega
                  have HKK := Lib.hid hkk
                  obtain ⟨aa3, cc3, rfl, hcap⟩ := hS.own.len
                  obtain ⟨o, hoo⟩ : ∃ o, o = out ++ (s.data.toList.drop f).take k3 := ⟨_, rfl⟩
                  have HOO := Lib.hid hoo
                  rw [← hoo] at hS C3 K3 S3 hcap hf6
                  have S3 := Lib.hid hS
                  generalize o.length = LL at *
                  obtain ⟨_, c1, _, _, g1, _⟩ := C3.st
                  clear hS hK hZ hkk hoo
                  go_upto_region 29 with (fail)
                  have C4 := C3.st1 (8 * ((f : Int) + (n : Int)))
                  have S4 := Lib.hid (S3.out.set1 (8 * ((f : Int) + (n : Int))))
                  have K4 := Lib.hid (K3.out.turned (turned_set wr ⟨b4, 1, none⟩ (.int .i64 (8 * ((f : Int) + (n : Int))))) lb4)
                  have Z4 := Lib.hid (Z3.out.other (a := ⟨b4, 1, none⟩) (.int .i64 (8 * ((f : Int) + (n : Int)))) ne6)
                  clear c1 g1 C3 S3 K3 Z3
                  go_wp2_with (first
                    | (refine wl_load 52 3 _ Tryd.underlying52 rfl size54 _ rfl rfl _ rfl _ _ C4 (stA_size _ _ _) ?_)
                    | (refine wl_store 52 3 size54 _ _ rfl rfl b6 rfl (stA (.slice aa3 LL cc3) (8 * ((f : Int) + (n : Int))) 0) rfl _ _ Z4.out rfl rfl (stA_one _ _ _ _ _) ?_; intro Wz Cz hTz))
                  refine post_cell Tryd.underlying52 rfl size54 Tryd.results20 Cz (stA_size _ _ _) rfl rfl ?_
                  rw [HE.out]
                  refine ⟨aa3, LL, cc3, by rw [show ((8 * (f + n) : Nat) : Int) = 8 * ((f : Int) + (n : Int)) by omega], ?_, K4.out.turned hTz lb6⟩
                  have := (S4.out.turned hTz ne6 hf6).own
                  rw [HOO.out, HKK.out] at this
                  exact this
end Go.Proofs.YtddiccdfeckgaaaDoor
/- Layer 5: the document's symbols of a block: plain facts, lists in memory. -/
namespace Go.Proofs.YtddiccdfeckgaaaDoor
open Go.RowKit
set_option maxRecDepth 100000
set_option linter.unusedVariables false
set_option linter.unusedSimpArgs false
theorem I.symS_zero {zs : List Int} {s : ByteArray} {A E v A' E' : Nat} (h : I.symS zs s A E = (v, A', E')) (h0 : E' = 0) : E = 0 ∧ I.sym zs s A = .ok (v, A') := by
  unfold I.symS at h
  split at h
  · rename_i he
    injection h with h1 h2; injection h2 with h2 h3
    omega
  · rename_i he
    split at h
    · rename_i hx
      injection h with h1 h2; injection h2 with h2 h3
      subst h1 h2
      exact ⟨by omega, hx⟩
    · rename_i hx
      have := (I.sym_err hx).1
      injection h with h1 h2; injection h2 with h2 h3
      omega
theorem I.symS_err {zs : List Int} {s : ByteArray} {A v A' E' : Nat} (h : I.symS zs s A 0 = (v, A', E')) (h0 : E' ≠ 0) : I.sym zs s A = .error E' := by
  unfold I.symS at h
  rw [if_neg (fun h => h rfl)] at h
  split at h
  · injection h with h1 h2; injection h2 with h2 h3
    omega
  · rename_i hx
    injection h with h1 h2; injection h2 with h2 h3
    subst h3
    exact hx
theorem I.symS_keep {zs : List Int} {s : ByteArray} {A E v A' E' : Nat} (h : I.symS zs s A E = (v, A', E')) (h0 : E ≠ 0) : E' = E := by
  unfold I.symS at h
  rw [if_pos h0] at h
  injection h with h1 h2; injection h2 with h2 h3
  exact h3.symm
theorem I.symS_at {zs : List Int} {s : ByteArray} {A E v A' E' : Nat} (hr : I.symS zs s A E = (v, A', E')) (hs : s.size ≤ 1048576) (hz : zs.length ≤ 320) (hA : A ≤ 16777216) : v ≤ 320 ∧ A' ≤ 16777216 := by
  have := I.symS_bd zs s A E hs hz hA
  rw [hr] at this
  exact this
theorem I.copy_at {zb : List Int} {s : ByteArray} {most k A1 mo A2 E2 d A3 E3 : Nat} {o : List UInt8} (hk : k < 29) (h2 : I.numS s (I.ln k).2 A1 0 = (mo, A2, E2)) (h3 : I.symS zb s A2 E2 = (d, A3, E3)) :
    (E3 ≠ 0 → I.copy zb s most A1 o k = .error E3) ∧ (E3 = 0 → 30 ≤ d → I.copy zb s most A1 o k = .error 3) ∧
    (E3 = 0 → d < 30 → ∀ m2 A4 E4, I.numS s (I.ds d).2 A3 0 = (m2, A4, E4) → (E4 ≠ 0 → I.copy zb s most A1 o k = .error E4) ∧
      (E4 = 0 → I.copy zb s most A1 o k = if o.length < (I.ds d).1 + m2 then .error 3 else if most < o.length + ((I.ln k).1 + mo) then .error 7 else .ok (A4, I.cp ((I.ds d).1 + m2) ((I.ln k).1 + mo) o))) := by
  refine ⟨fun h => ?_, fun h hd => ?_, fun h hd m2 A4 E4 h4 => ⟨fun h5 => ?_, fun h5 => ?_⟩⟩
  · unfold I.copy
    rw [if_neg (by omega)]
    by_cases e2 : E2 = 0
    · rw [(I.numS_zero h2 e2).2]
      simp only []
      rw [e2] at h3
      rw [I.symS_err h3 h]
    · rw [I.numS_err h2 e2, I.symS_keep h3 e2]
  · obtain ⟨e2, hs⟩ := I.symS_zero h3 h
    unfold I.copy
    rw [if_neg (by omega), (I.numS_zero h2 e2).2]
    simp only []
    rw [hs]
    simp only []
    rw [if_pos hd]
  · obtain ⟨e2, hs⟩ := I.symS_zero h3 h
    unfold I.copy
    rw [if_neg (by omega), (I.numS_zero h2 e2).2]
    simp only []
    rw [hs]
    simp only []
    rw [if_neg (by omega), I.numS_err h4 h5]
  · obtain ⟨e2, hs⟩ := I.symS_zero h3 h
    unfold I.copy
    rw [if_neg (by omega), (I.numS_zero h2 e2).2]
    simp only []
    rw [hs]
    simp only []
    rw [if_neg (by omega), (I.numS_zero h4 h5).2]
theorem Ints.kp {w w' : World} {zs : List Int} {a : Option Addr} {b o : Nat} {sl sl' : Value} (h : Ints w zs a b o) (k : Kp w.heap.size sl w w' sl') (hf : sl.ownBlock ≠ some b) : Ints w' zs a b o := by
  refine ⟨h.1, h.2.1, fun i hi => ?_⟩
  have hb := h.lt (by omega)
  rw [World.cell?_of_block (w := w) (a := ⟨b, o + i, none⟩) (k.block b hb (by omega) hf)]
  exact h.2.2 i hi
theorem one_copy {a d : List Int} {s : ByteArray} {most p n A1 : Nat} {o : List UInt8} (h1 : I.sym a s p = .ok (n, A1)) (c1 : ¬ n < 256) (c2 : ¬ n = 256) : I.one a d s most p o = match I.copy d s most A1 o (n - 257) with | .error e => .error e | .ok (q, o') => .ok (false, q, o') := by
  unfold I.one
  rw [h1]
  simp only []
  rw [if_neg c1, if_neg c2]
  cases I.copy d s most A1 o (n - 257) <;> rfl
theorem syms_copy_err {a d : List Int} {s : ByteArray} {most p n A1 e : Nat} {o : List UInt8} (h1 : I.sym a s p = .ok (n, A1)) (c1 : ¬ n < 256) (c2 : ¬ n = 256) (h : I.copy d s most A1 o (n - 257) = .error e) : I.syms a d s most p o = .error e :=
  I.syms_err (by rw [one_copy h1 c1 c2, h])
def CdRel2 (w : World) (B b4 b6 : Nat) (s : ByteArray) (most : Nat) (sl : Value) (za zb : List Int) (R : Except Nat (Nat × List UInt8)) (wr : World) : Prop :=
  ∃ (sl2 : Value) (A E : Nat) (o : List UInt8), Sx wr B b4 sl2 (A : Int) (E : Int) o ∧ Kp w.heap.size sl w wr sl2 ∧ Blk wr b6 (stA (.slice none 0 0) 0 0) 52 ∧ sl2.ownBlock ≠ some b6 ∧
    ((E ≠ 0 ∧ R = .error E) ∨ (E = 0 ∧ A ≤ 8 * s.size ∧ o.length ≤ most ∧ errN za = 0 ∧ errN zb = 0 ∧ I.syms za zb s most A o = R))
def CcRel (w : World) (B b4 b6 : Nat) (sl : Value) (A far n : Nat) (out : List UInt8) (i : Value) (wr : World) : Prop :=
  ∃ (k : Nat) (sl2 : Value) (o : List UInt8), k ≤ n ∧ i = .int .i64 (k : Int) ∧ Sx wr B b4 sl2 (A : Int) 0 o ∧ Kp w.heap.size sl w wr sl2 ∧ Blk wr b6 (stA (.slice none 0 0) 0 0) 52 ∧ sl2.ownBlock ≠ some b6 ∧ o.length = out.length + k ∧ I.cp far (n - k) o = I.cp far n out
def cdR (s : ByteArray) (most p : Nat) (out : List UInt8) (za zb : List Int) : Except Nat (Nat × List UInt8) :=
  if errN za ≠ 0 then .error (errN za) else if errN zb ≠ 0 then .error (errN zb) else I.syms za zb s most p out
set_option maxHeartbeats 1000000 in
set_option maxRecDepth 100000 in
/-- a state with an error is handed on -/
theorem rcodes_err (s : ByteArray) (A E most : Nat) (hE : E ≠ 0) (sa : Option Addr) (sn sc : Nat) (ga gb : Option Addr) (la ca lb cb : Nat) (w : World) :
    Calls Tryd.prog 22 #[.string s, .agg (stA (.slice sa sn sc) (A : Int) (E : Int)), .int .i64 (most : Int), .slice ga la ca, .slice gb lb cb] w fun e w' => e = .returned (.agg (stA (.slice sa sn sc) (A : Int) (E : Int))) ∧ Below w.heap.size w w' := by
  have q0 : ((E : Int) == 0) = false := by rw [beq_eq_false_iff_ne]; omega
  clear hE
  go_enter Tryd.func22, Tryd.ntmps22
  go_upto_region 1 with (first
    | (refine wl_box 52 _ _ rfl rfl rfl ?_; intro W1 b4 B4 l4 k4)
    | (refine wl_alloc 52 _ zero54 rfl rfl ?_; intro W2 b6 B6 l6 k6))
  have C4 := B4.keep k6
  obtain ⟨c0, c1, c2, f0, f1, f2⟩ := C4.st
  have HB := Lib.hid (bq_trans k4 k6)
  have lb6 : w.heap.size ≤ b6 := by have := k4.size; omega
  have HC4 := Lib.hid C4
  have HB6 := Lib.hid B6
  clear B4 B6 k4 k6 l4 l6 C4
  go_wp2
  go_loopw [29] (fun _ wr => wr = W2) (fun _ _ => 0)
  case atStart => rfl
  case round =>
    subst hrel
    have C4 := HC4.out
    go_wp2_with (first
      | (refine wl_load 52 3 _ Tryd.underlying52 rfl size54 _ rfl rfl _ rfl _ _ C4 (stA_size _ _ _) ?_)
      | (refine wl_store 52 3 size54 _ _ rfl rfl b6 rfl (stA (.slice sa sn sc) (A : Int) (E : Int)) rfl _ _ HB6.out rfl rfl (stA_one _ _ _ _ _) ?_; intro Wz Cz hTz))
    exact post_cell Tryd.underlying52 rfl size54 Tryd.results22 Cz (stA_size _ _ _) rfl rfl ⟨rfl, hTz.below HB.out lb6⟩
end Go.Proofs.YtddiccdfeckgaaaDoor
/- Layer 5: the document's symbols of a block, the walk. -/
namespace Go.Proofs.YtddiccdfeckgaaaDoor
open Go.RowKit
set_option maxRecDepth 100000
set_option linter.unusedVariables false
set_option linter.unusedSimpArgs false
set_option maxHeartbeats 8000000 in
set_option maxRecDepth 100000 in
theorem rcodes_bad (s : ByteArray) (most p B : Nat) (sl : Value) (out : List UInt8) (za zb : List Int) (aa ab : Option Addr) (ba oa ca bb ob cb : Nat) (w : World) (hs : s.size ≤ 1048576) (hp : p ≤ 8 * s.size) (hm : most ≤ 262144) (ho : out.length ≤ most) (hro : RO w B sl out) (hB : B ≤ w.heap.size)
    (hza : za.length ≤ 1000) (hzb : zb.length ≤ 1000) (hia : Hid (Ints w za aa ba oa)) (hib : Hid (Ints w zb ab bb ob)) (hfa : sl.ownBlock ≠ some ba) (hfb : sl.ownBlock ≠ some bb) (hbad : ¬ (errN za = 0 ∧ errN zb = 0)) :
    Calls Tryd.prog 22 #[.string s, .agg (stA sl (p : Int) 0), .int .i64 (most : Int), .slice aa za.length ca, .slice ab zb.length cb] w (RPost w B sl (cdR s most p out za zb)) := by
  obtain ⟨sa, sc, rfl, hsc⟩ := hro.len
  obtain ⟨R, hR⟩ : ∃ R, R = cdR s most p out za zb := ⟨_, rfl⟩
  rw [← hR]
  obtain ⟨L, hL⟩ : ∃ L, L = out.length := ⟨_, rfl⟩
  rw [← hL] at hro hsc hfa hfb ⊢
  have HL := Lib.hid hL
  have HRO := Lib.hid hro
  have HR := Lib.hid hR
  have HO := Lib.hid ho
  have HEA := Lib.hid (fun W (h : Kp w.heap.size (.slice sa L sc) w W (.slice sa L sc)) => err_any za aa ba oa ca W (by omega) (Lib.hid (hia.out.kp h hfa)))
  have HEB := Lib.hid (fun W (h : Kp w.heap.size (.slice sa L sc) w W (.slice sa L sc)) => err_any zb ab bb ob cb W (by omega) (Lib.hid (hib.out.kp h hfb)))
  obtain ⟨la, hla⟩ : ∃ la, la = za.length := ⟨_, rfl⟩
  obtain ⟨lb, hlb⟩ : ∃ lb, lb = zb.length := ⟨_, rfl⟩
  have HLA := Lib.hid hla
  have HLB := Lib.hid hlb
  rw [← hla] at HEA ⊢
  rw [← hlb] at HEB ⊢
  obtain ⟨ea, hea⟩ : ∃ e, e = errN za := ⟨_, rfl⟩
  obtain ⟨eb, heb⟩ : ∃ e, e = errN zb := ⟨_, rfl⟩
  have HEE := Lib.hid (And.intro hea heb)
  rw [← hea] at HEA
  rw [← heb] at HEB
  clear hL hro hR hla hlb hea heb ho
  go_enter Tryd.func22, Tryd.ntmps22
  go_upto_region 1 with (first
    | (refine wl_box 52 _ _ rfl rfl rfl ?_; intro W1 b4 B4 l4 k4)
    | (refine wl_alloc 52 _ zero54 rfl rfl ?_; intro W2 b6 B6 l6 k6))
  have y4 := B4.lt
  have lb4 : w.heap.size ≤ b4 := l4
  have ne6 : b6 ≠ b4 := by omega
  have lb6 : w.heap.size ≤ b6 := by have := k4.size; omega
  have f4 : (Value.slice sa L sc).ownBlock ≠ some b4 := fun e => by have := (HRO.out.lt b4 e).2; omega
  have f6 : (Value.slice sa L sc).ownBlock ≠ some b6 := fun e => by have := (HRO.out.lt b6 e).2; omega
  have hs0 : Sx W2 B b4 (.slice sa L sc) (p : Int) 0 out := ⟨B4.keep k6, (HRO.out.keep k4).keep k6, f4, by have := k4.size; have := k6.size; omega⟩
  have S0 := Lib.hid hs0
  have K0 := Lib.hid (Kp.of_below w.heap.size (.slice sa L sc) (bq_trans k4 k6))
  have Z0 := Lib.hid B6
  obtain ⟨c0, c1, c2, g0, g1, g2⟩ := hs0.blk.st
  clear B4 l4 k4 B6 l6 k6 y4 hs0
  by_cases ha : ea = 0
  rotate_left
  · have HE : Hid (R = .error ea) := Lib.hid (by rw [HR.out]; unfold cdR; rw [← HEE.out.1, if_pos ha])
    have q0 : ((ea : Int) == 0) = false := by rw [beq_eq_false_iff_ne]; omega
    go_wp2_with (go_at_call 46; refine (HEA.out _ K0.out).mono ?_; rintro e w' ⟨rfl, rfl⟩)
    have C3 := (S0.out.set2 (ea : Int)).blk
    have Z3 := Lib.hid (Z0.out.other (a := ⟨b4, 2, none⟩) (.int .i64 (ea : Int)) ne6)
    have K3 := Lib.hid (K0.out.turned (turned_set W2 ⟨b4, 2, none⟩ (.int .i64 (ea : Int))) lb4)
    generalize W2.setCell ⟨b4, 2, none⟩ (.int .i64 (ea : Int)) = W3 at *
    have HC3 := Lib.hid C3
    clear c0 c1 c2 g0 g1 g2 S0 K0 Z0 C3
    go_loopw [29] (fun _ wr => wr = W3) (fun _ _ => 0)
    case atStart => rfl
    case round =>
      subst hrel
      have C3 := HC3.out
      obtain ⟨_, _, c2, _, _, _⟩ := C3.st
      go_wp2_with (first
        | (refine wl_load 52 3 _ Tryd.underlying52 rfl size54 _ rfl rfl _ rfl _ _ C3 (stA_size _ _ _) ?_)
        | (refine wl_store 52 3 size54 _ _ rfl rfl b6 rfl (stA (.slice sa L sc) (p : Int) (ea : Int)) rfl _ _ Z3.out rfl rfl (stA_one _ _ _ _ _) ?_; intro Wz Cz hTz))
      refine post_cell Tryd.underlying52 rfl size54 Tryd.results22 Cz (stA_size _ _ _) rfl rfl ?_
      rw [HE.out]
      exact ⟨_, _, _, _, rfl, ha, (K3.out.turned hTz lb6).belowR HRO.out hB⟩
  by_cases hb : eb = 0
  rotate_left
  · have HE : Hid (R = .error eb) := Lib.hid (by rw [HR.out]; unfold cdR; rw [← HEE.out.1, ← HEE.out.2, if_neg (fun h => h ha), if_pos hb])
    have q0 : ((eb : Int) == 0) = false := by rw [beq_eq_false_iff_ne]; omega
    subst ha
    go_upto_region 3 with (go_at_call 46; refine (HEA.out _ K0.out).mono ?_; rintro e w' ⟨rfl, rfl⟩)
    have C1 := (S0.out.set2 0).blk
    have S1 := Lib.hid (S0.out.set2 0)
    have Z1 := Lib.hid (Z0.out.other (a := ⟨b4, 2, none⟩) (.int .i64 0) ne6)
    have K1 := Lib.hid (K0.out.turned (turned_set W2 ⟨b4, 2, none⟩ (.int .i64 0)) lb4)
    clear c0 c1 c2 g0 g1 g2
    generalize W2.setCell ⟨b4, 2, none⟩ (.int .i64 0) = W1 at *
    obtain ⟨_, _, c2, _, _, g2⟩ := C1.st
    clear S0 K0 Z0
    go_wp2_with (go_at_call 46; refine (HEB.out _ K1.out).mono ?_; rintro e w' ⟨rfl, rfl⟩)
    have C3 := (S1.out.set2 (eb : Int)).blk
    have Z3 := Lib.hid (Z1.out.other (a := ⟨b4, 2, none⟩) (.int .i64 (eb : Int)) ne6)
    have K3 := Lib.hid (K1.out.turned (turned_set W1 ⟨b4, 2, none⟩ (.int .i64 (eb : Int))) lb4)
    generalize W1.setCell ⟨b4, 2, none⟩ (.int .i64 (eb : Int)) = W3 at *
    have HC3 := Lib.hid C3
    clear c2 g2 S1 K1 Z1 C3 C1
    go_loopw [29] (fun _ wr => wr = W3) (fun _ _ => 0)
    case atStart => rfl
    case round =>
      subst hrel
      have C3 := HC3.out
      obtain ⟨_, _, c2, _, _, _⟩ := C3.st
      go_wp2_with (first
        | (refine wl_load 52 3 _ Tryd.underlying52 rfl size54 _ rfl rfl _ rfl _ _ C3 (stA_size _ _ _) ?_)
        | (refine wl_store 52 3 size54 _ _ rfl rfl b6 rfl (stA (.slice sa L sc) (p : Int) (eb : Int)) rfl _ _ Z3.out rfl rfl (stA_one _ _ _ _ _) ?_; intro Wz Cz hTz))
      refine post_cell Tryd.underlying52 rfl size54 Tryd.results22 Cz (stA_size _ _ _) rfl rfl ?_
      rw [HE.out]
      exact ⟨_, _, _, _, rfl, hb, (K3.out.turned hTz lb6).belowR HRO.out hB⟩
  exact absurd ⟨HEE.out.1 ▸ ha, HEE.out.2 ▸ hb⟩ hbad
end Go.Proofs.YtddiccdfeckgaaaDoor
