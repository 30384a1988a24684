import Derived.Test.YtddiccdfeckgaaaDoorZP
import Derived.Deep.RegionLaw
/- Layer 5: the document's symbols of a block by codes that may be, the walk. -/
namespace Go.Proofs.YtddiccdfeckgaaaDoor
open Go.RowKit
set_option maxRecDepth 100000
set_option linter.unusedVariables false
set_option linter.unusedSimpArgs false
def CdRel3 (w : World) (B b4 b6 : Nat) (s : ByteArray) (most : Nat) (sl : Value) (za zb : List Int) (R : Except Nat (Nat × List UInt8)) (wr : World) : Prop :=
  ∃ (sl2 : Value) (A : Nat) (o : List UInt8), Sx wr B b4 sl2 (A : Int) 0 o ∧ Kp w.heap.size sl w wr sl2 ∧ Blk wr b6 (stA (.slice none 0 0) 0 0) 52 ∧ sl2.ownBlock ≠ some b6 ∧ A ≤ 8 * s.size ∧ o.length ≤ most ∧ I.syms za zb s most A o = R
theorem I.copy_far {d : List Int} {s : ByteArray} {most p k : Nat} {o : List UInt8} (h : 29 ≤ k) : I.copy d s most p o k = .error 3 := by unfold I.copy; rw [if_pos h]
theorem ds_pos (d : Nat) (h : d < 30) : 1 ≤ (I.ds d).1 := by
  have : ∀ d : Fin 30, 1 ≤ (I.ds d).1 := by decide
  exact this ⟨d, h⟩
set_option maxHeartbeats 16000000 in
set_option maxRecDepth 100000 in
theorem rcodes_ok (s : ByteArray) (most p B : Nat) (sl : Value) (out : List UInt8) (za zb : List Int) (aa ab : Option Addr) (ba oa ca bb ob cb : Nat) (w : World) (hs : s.size ≤ 1048576) (hp : p ≤ 8 * s.size) (hm : most ≤ 262144) (ho : out.length ≤ most) (hro : RO w B sl out) (hB : B ≤ w.heap.size)
    (hia : Hid (Ints w za aa ba oa)) (hib : Hid (Ints w zb ab bb ob)) (hfa : sl.ownBlock ≠ some ba) (hfb : sl.ownBlock ≠ some bb) (hea : errN za = 0) (heb : errN zb = 0) :
    Calls Tryd.prog 22 #[.string s, .agg (stA sl (p : Int) 0), .int .i64 (most : Int), .slice aa za.length ca, .slice ab zb.length cb] w (RPost w B sl (I.syms za zb s most p out)) := by
  obtain ⟨sa, sc, rfl, hsc⟩ := hro.len
  obtain ⟨R, hR⟩ : ∃ R, R = I.syms za zb s most p out := ⟨_, rfl⟩
  rw [← hR]
  obtain ⟨L, hL⟩ : ∃ L, L = out.length := ⟨_, rfl⟩
  rw [← hL] at hro hsc hfa hfb ⊢
  have hza := (errN_ok hea).1
  have hzb := (errN_ok heb).1
  have HRO := Lib.hid hro
  have HEA := Lib.hid (fun W (h : Kp w.heap.size (.slice sa L sc) w W (.slice sa L sc)) => err_any za aa ba oa ca W (by omega) (Lib.hid (hia.out.kp h hfa)))
  have HEB := Lib.hid (fun W (h : Kp w.heap.size (.slice sa L sc) w W (.slice sa L sc)) => err_any zb ab bb ob cb W (by omega) (Lib.hid (hib.out.kp h hfb)))
  rw [hea] at HEA
  rw [heb] at HEB
  obtain ⟨la, hla⟩ : ∃ la, la = za.length := ⟨_, rfl⟩
  obtain ⟨lb, hlb⟩ : ∃ lb, lb = zb.length := ⟨_, rfl⟩
  have HLA := Lib.hid hla
  have HLB := Lib.hid hlb
  rw [← hla] at HEA ⊢
  rw [← hlb] at HEB ⊢
  have HE0 := Lib.hid (And.intro hea heb)
  have HZ3 := Lib.hid (And.intro hza hzb)
  have HST0 := Lib.hid (And.intro ho hR.symm)
  clear hL hro hR hla hlb hea heb ho hza hzb
  go_enter Tryd.func22, Tryd.ntmps22
  go_upto_region 1 with (first
    | (refine wl_box 52 _ _ rfl rfl rfl ?_; intro W1 b4 B4 l4 k4)
    | (refine wl_alloc 52 _ zero54 rfl rfl ?_; intro W2 b6 B6 l6 k6))
  have y4 := B4.lt
  have lb4 : w.heap.size ≤ b4 := l4
  have ne6 : b6 ≠ b4 := by omega
  have lb6 : w.heap.size ≤ b6 := by have := k4.size; omega
  have f4 : (Value.slice sa L sc).ownBlock ≠ some b4 := fun e => by have := (HRO.out.lt b4 e).2; omega
  have f6 : (Value.slice sa L sc).ownBlock ≠ some b6 := fun e => by have := (HRO.out.lt b6 e).2; omega
  have hs0 : Sx W2 B b4 (.slice sa L sc) (p : Int) 0 out := ⟨B4.keep k6, (HRO.out.keep k4).keep k6, f4, by have := k4.size; have := k6.size; omega⟩
  have S0 := Lib.hid hs0
  have K0 := Lib.hid (Kp.of_below w.heap.size (.slice sa L sc) (bq_trans k4 k6))
  have Z0 := Lib.hid B6
  obtain ⟨c0, c1, c2, g0, g1, g2⟩ := hs0.blk.st
  clear B4 l4 k4 B6 l6 k6 y4 hs0
  go_upto_region 3 with (go_at_call 46; refine (HEA.out _ K0.out).mono ?_; rintro e w' ⟨rfl, rfl⟩)
  have C1 := (S0.out.set2 0).blk
  have S1 := Lib.hid (S0.out.set2 0)
  have Z1 := Lib.hid (Z0.out.other (a := ⟨b4, 2, none⟩) (.int .i64 0) ne6)
  have K1 := Lib.hid (K0.out.turned (turned_set W2 ⟨b4, 2, none⟩ (.int .i64 0)) lb4)
  clear c0 c1 c2 g0 g1 g2
  generalize W2.setCell ⟨b4, 2, none⟩ (.int .i64 0) = W1 at *
  obtain ⟨_, _, c2, _, _, g2⟩ := C1.st
  clear S0 K0 Z0
  go_wp2_with (go_at_call 46; refine (HEB.out _ K1.out).mono ?_; rintro e w' ⟨rfl, rfl⟩)
  have HST : Hid (CdRel3 w B b4 b6 s most (.slice sa L sc) za zb R (W1.setCell ⟨b4, 2, none⟩ (.int .i64 0))) := Lib.hid ⟨_, p, out, S1.out.set2 0, K1.out.turned (turned_set W1 ⟨b4, 2, none⟩ (.int .i64 0)) lb4, Z1.out.other (a := ⟨b4, 2, none⟩) (.int .i64 0) ne6, f6, hp, HST0.out.1, HST0.out.2⟩
  clear c2 g2 S1 K1 Z1 C1 HEA HEB HST0
  go_loopw [29] (fun _ wr => CdRel3 w B b4 b6 s most (.slice sa L sc) za zb R wr) (fun _ wr => 8 * s.size - atOf wr b4)
  case atStart => exact HST.out
  case round =>
    obtain ⟨sl2, P, o, hS, hK, hZ, hf6, hP, ho2, hR2⟩ := hrel
    clear HST
    obtain ⟨ua, uc, rfl, hcap⟩ := hS.own.len
    obtain ⟨UL, hUL⟩ : ∃ UL, UL = o.length := ⟨_, rfl⟩
    rw [← hUL] at hS hK hf6 hcap ho2
    have S0 := Lib.hid hS
    have K0 := Lib.hid hK
    have Z0 := Lib.hid hZ
    have C0 := hS.blk
    have HAT : Hid (atOf wr b4 = P) := Lib.hid (by rw [hS.atOf, Int.toNat_natCast])
    have HUL := Lib.hid hUL
    have HR2 := Lib.hid hR2
    have hP9 : P ≤ 16777216 := by omega
    obtain ⟨r1, hr1⟩ : ∃ r, I.symS za s P 0 = r := ⟨_, rfl⟩
    obtain ⟨n, A1, E1⟩ := r1
    obtain ⟨v1, a1⟩ := I.symS_at hr1 hs HZ3.out.1 hP9
    have HSA : Hid (Calls Tryd.prog 47 #[.string s, .agg (stA (.slice ua UL uc) (P : Int) 0), .slice aa la ca] wr fun e w' => e = .returned (.tuple #[.int .i64 (n : Int), .agg (stA (.slice ua UL uc) (A1 : Int) (E1 : Int))]) ∧ Below wr.heap.size wr w') := Lib.hid (by rw [HLA.out]; exact rsymbol_at hr1 aa ba oa ca ua UL uc wr hs hP9 (Lib.hid (hia.out.kp hK hfa)) (Lib.hid HE0.out.1))
    have HQ1 := Lib.hid hr1
    obtain ⟨c0, c1, c2, g0, g1, g2⟩ := C0.st
    clear hS hK hZ hUL hR2 hr1
    go_upto_region 8 with (first
      | (refine wl_load 52 3 _ Tryd.underlying52 rfl size54 _ rfl rfl _ rfl _ _ C0 (stA_size _ _ _) ?_)
      | (go_at_call 47; refine (HSA.out).mono ?_; rintro e w1 ⟨rfl, hb1⟩)
      | (refine wl_store 52 3 size54 _ _ rfl rfl b4 rfl (stA (.slice ua UL uc) (A1 : Int) (E1 : Int)) rfl _ _ (C0.keep hb1) rfl rfl (stA_one _ _ _ _ _) ?_; intro W1 C1 hT1))
    have S1 := Lib.hid ((S0.out.keep hb1).lay hT1 C1)
    have K1 := Lib.hid ((K0.out.trans (Kp.of_below _ _ hb1)).turned hT1 lb4)
    have Z1 := Lib.hid (hT1.blk (Z0.out.keep hb1) ne6)
    clear hb1 hT1 C0 S0 K0 Z0
    clear c0 c1 c2 g0 g1 g2 HSA
    by_cases hE1 : E1 = 0
    rotate_left
    · have HE : Hid (R = .error E1) := Lib.hid (by rw [← HR2.out]; exact I.syms_err (by unfold I.one; rw [I.symS_err HQ1.out hE1]))
      have q0 : ((E1 : Int) != 0) = true := by rw [bne_iff_ne]; omega
      obtain ⟨_, _, c2, _, _, _⟩ := C1.st
      go_wp2_with (first
        | (refine wl_load 52 3 _ Tryd.underlying52 rfl size54 _ rfl rfl _ rfl _ _ C1 (stA_size _ _ _) ?_)
        | (refine wl_store 52 3 size54 _ _ rfl rfl b6 rfl (stA (.slice ua UL uc) (A1 : Int) (E1 : Int)) rfl _ _ Z1.out rfl rfl (stA_one _ _ _ _ _) ?_; intro Wz Cz hTz))
      refine post_cell Tryd.underlying52 rfl size54 Tryd.results22 Cz (stA_size _ _ _) rfl rfl ?_
      rw [HE.out]
      exact ⟨_, _, _, _, rfl, hE1, (K1.out.turned hTz lb6).belowR HRO.out hB⟩
    have hsym := (I.symS_zero HQ1.out hE1).2
    have hsl := I.sym_lt hsym
    have HSY := Lib.hid hsym
    rw [show ((E1 : Nat) : Int) = 0 by omega] at C1 S1 ⊢
    have hA1 : A1 ≤ 8 * s.size := hsl.2.1
    have hPA : P < A1 := hsl.1
    clear hE1 hsym hsl HQ1
    obtain ⟨c0, _, c2, g0, _, g2⟩ := C1.st
    by_cases n1 : n = 256
    · have HE : Hid (R = .ok (A1, o)) := Lib.hid (by rw [← HR2.out]; exact I.syms_end (by unfold I.one; rw [HSY.out]; simp only []; rw [if_neg (by omega), if_pos n1]))
      have q0 : ((n : Int) == 256) = true := by rw [beq_iff_eq]; omega
      go_wp2_with (first
        | (refine wl_load 52 3 _ Tryd.underlying52 rfl size54 _ rfl rfl _ rfl _ _ C1 (stA_size _ _ _) ?_)
        | (refine wl_store 52 3 size54 _ _ rfl rfl b6 rfl (stA (.slice ua UL uc) (A1 : Int) 0) rfl _ _ Z1.out rfl rfl (stA_one _ _ _ _ _) ?_; intro Wz Cz hTz))
      refine post_cell Tryd.underlying52 rfl size54 Tryd.results22 Cz (stA_size _ _ _) rfl rfl ?_
      rw [HE.out]
      exact ⟨ua, UL, uc, rfl, (S1.out.turned hTz ne6 hf6).own, K1.out.turned hTz lb6⟩
    have q1 : ((n : Int) == 256) = false := by rw [beq_eq_false_iff_ne]; omega
    by_cases n2 : n < 256
    · by_cases hroom : UL < most
      rotate_left
      · have HE : Hid (R = .error 7) := Lib.hid (by rw [← HR2.out]; exact I.syms_err (by unfold I.one; rw [HSY.out]; simp only []; rw [if_pos n2, if_neg (by rw [← HUL.out]; exact hroom)]))
        have q2 : decide ((most : Int) ≤ (UL : Int)) = true := by rw [decide_eq_true_iff]; omega
        have C1s := C1.st
        obtain ⟨_, _, cE2, _, _, fE2⟩ := C1s
        go_upto_region 13 with (fail)
        have C2 := C1.st2 7
        have S2 := Lib.hid (S1.out.set2 7)
        have K2 := Lib.hid (K1.out.turned (turned_set _ ⟨b4, 2, none⟩ (.int .i64 7)) lb4)
        have Z2 := Lib.hid (Z1.out.other (a := ⟨b4, 2, none⟩) (.int .i64 7) ne6)
        clear cE2 fE2
        go_wp2_with (first
          | (refine wl_load 52 3 _ Tryd.underlying52 rfl size54 _ rfl rfl _ rfl _ _ C2 (stA_size _ _ _) ?_)
          | (refine wl_store 52 3 size54 _ _ rfl rfl b6 rfl (stA (.slice ua UL uc) (A1 : Int) 7) rfl _ _ Z2.out rfl rfl (stA_one _ _ _ _ _) ?_; intro Wz Cz hTz))
        refine post_cell Tryd.underlying52 rfl size54 Tryd.results22 Cz (stA_size _ _ _) rfl rfl ?_
        rw [HE.out]
        exact ⟨_, _, _, _, rfl, by omega, (K2.out.turned hTz lb6).belowR HRO.out hB⟩
      · have q2 : decide ((most : Int) ≤ (UL : Int)) = false := by rw [decide_eq_false_iff_not]; omega
        have hlo : o.length ≤ 262144 := by rw [← HUL.out]; omega
        obtain ⟨aa4, nn4, cc4, w7, hrun, d3, f3, HF⟩ := S1.out.push (Lib.hid hlo) (bq_alloc (bq_refl W1) (.cells #[.int .u8 ((UInt8.ofNat n).toNat : Int)] 5)) (UInt8.ofNat n) (heap_alloc_new W1 _) 36
        rw [u8_ofNat n n2] at hrun
        have HRUN := Lib.hid hrun
        have hone : I.one za zb s most P o = .ok (false, A1, o ++ [UInt8.ofNat n]) := by unfold I.one; rw [HSY.out]; simp only []; rw [if_pos n2, if_pos (by rw [← HUL.out]; exact hroom)]
        have HNX : Hid (I.syms za zb s most A1 (o ++ [UInt8.ofNat n]) = R ∧ (o ++ [UInt8.ofNat n]).length ≤ most) := Lib.hid ⟨by rw [← HR2.out]; exact (I.syms_more hone (by rw [← HUL.out]; omega)).symm, by rw [List.length_append, List.length_singleton, ← HUL.out]; omega⟩
        clear hrun hone hlo
        go_wp2_with (at_builtin; refine wl_append rfl (.tmp 57) (.tmp 60) rfl rfl rfl HRUN.out ?_)
        go_roundw
        case rel => exact ⟨_, A1, _, HF.out.1, HF.out.2.kp K1.out lb4, (HF.out.2.blk Z1.out ne6 hf6).1, (HF.out.2.blk Z1.out ne6 hf6).2, hA1, HNX.out.2, HNX.out.1⟩
        case measure => rw [HF.out.1.atOf, HAT.out, Int.toNat_natCast]; omega
    obtain ⟨k, hk⟩ : ∃ k, k = n - 257 := ⟨_, rfl⟩
    have hkn : n = k + 257 := by omega
    have q3 : decide ((n : Int) < 256) = false := by rw [decide_eq_false_iff_not]; omega
    by_cases n3 : 285 < n
    · have HE : Hid (R = .error 3) := Lib.hid (by rw [← HR2.out]; exact syms_copy_err HSY.out n2 n1 (I.copy_far (by omega)))
      have q4 : decide (285 < (n : Int)) = true := by rw [decide_eq_true_iff]; omega
      clear hkn
      have C1s := C1.st
      obtain ⟨_, _, cE2, _, _, fE2⟩ := C1s
      go_upto_region 17 with (fail)
      have C2 := C1.st2 3
      have S2 := Lib.hid (S1.out.set2 3)
      have K2 := Lib.hid (K1.out.turned (turned_set _ ⟨b4, 2, none⟩ (.int .i64 3)) lb4)
      have Z2 := Lib.hid (Z1.out.other (a := ⟨b4, 2, none⟩) (.int .i64 3) ne6)
      clear cE2 fE2
      go_wp2_with (first
        | (refine wl_load 52 3 _ Tryd.underlying52 rfl size54 _ rfl rfl _ rfl _ _ C2 (stA_size _ _ _) ?_)
        | (refine wl_store 52 3 size54 _ _ rfl rfl b6 rfl (stA (.slice ua UL uc) (A1 : Int) 3) rfl _ _ Z2.out rfl rfl (stA_one _ _ _ _ _) ?_; intro Wz Cz hTz))
      refine post_cell Tryd.underlying52 rfl size54 Tryd.results22 Cz (stA_size _ _ _) rfl rfl ?_
      rw [HE.out]
      exact ⟨_, _, _, _, rfl, by omega, (K2.out.turned hTz lb6).belowR HRO.out hB⟩
    have q4 : decide (285 < (n : Int)) = false := by rw [decide_eq_false_iff_not]; omega
    have hk29 : k < 29 := by omega
    have HLN := Lib.hid (fun W => rlen_any n k W hkn hk29)
    have bdk := I.ln_bd k
    obtain ⟨r2, hr2⟩ : ∃ r, I.numS s (I.ln k).2 A1 0 = r := ⟨_, rfl⟩
    obtain ⟨mo, A2, E2⟩ := r2
    obtain ⟨v2, a2⟩ := I.numS_at hr2 hs (by omega) a1
    have HN2 := Lib.hid (fun W => rnumber_at hr2 ua UL uc W hs a1 (by omega))
    obtain ⟨r3, hr3⟩ : ∃ r, I.symS zb s A2 E2 = r := ⟨_, rfl⟩
    obtain ⟨d, A3, E3⟩ := r3
    obtain ⟨v3, a3⟩ := I.symS_at hr3 hs HZ3.out.2 a2
    have HCP := Lib.hid (I.copy_at (most := most) (o := o) hk29 hr2 hr3)
    have HQ3 := Lib.hid hr3
    have HQ2 := Lib.hid hr2
    obtain ⟨lbase, hlbase⟩ : ∃ x, x = (I.ln k).1 := ⟨_, rfl⟩
    obtain ⟨lbits, hlbits⟩ : ∃ x, x = (I.ln k).2 := ⟨_, rfl⟩
    rw [← hlbase, ← hlbits] at HLN
    rw [← hlbits] at HN2
    rw [← hlbase] at HCP
    rw [← hlbase, ← hlbits] at bdk
    have HK := Lib.hid (And.intro hk hkn)
    have HCE : Hid (∀ e, I.copy zb s most A1 o k = .error e → R = .error e) := Lib.hid (fun e h => by rw [← HR2.out]; exact syms_copy_err HSY.out n2 n1 (by rw [← HK.out.1]; exact h))
    clear hr2 hr3 hlbase hlbits hk hkn
    go_upto_region 21 with (first
      | (refine wl_load 52 3 _ Tryd.underlying52 rfl size54 _ rfl rfl _ rfl _ _ C1 (stA_size _ _ _) ?_)
      | (go_at_call 19; refine (HN2.out _).mono ?_; rintro e w2 ⟨rfl, hb2⟩)
      | (refine wl_store 52 3 size54 _ _ rfl rfl b4 rfl (stA (.slice ua UL uc) (A2 : Int) (E2 : Int)) rfl _ _ (C1.keep hb2) rfl rfl (stA_one _ _ _ _ _) ?_; intro W2 C2 hT2)
      | (go_at_call 48; refine (HLN.out _).mono ?_; rintro e w' ⟨rfl, rfl⟩))
    have S2 := Lib.hid ((S1.out.keep hb2).lay hT2 C2)
    have K2 := Lib.hid ((K1.out.trans (Kp.of_below _ _ hb2)).turned hT2 lb4)
    have Z2 := Lib.hid (hT2.blk (Z1.out.keep hb2) ne6)
    clear hb2 hT2 C1 S1 K1 Z1
    clear c0 c2 g0 g2 HLN HN2
    obtain ⟨nn, hnn⟩ : ∃ x, x = lbase + mo := ⟨_, rfl⟩
    have en : (lbase : Int) + (mo : Int) = (nn : Int) := by omega
    have hnb : nn ≤ 65800 := by omega
    rw [← hnn] at HCP
    have HSB : Hid (Calls Tryd.prog 47 #[.string s, .agg (stA (.slice ua UL uc) (A2 : Int) (E2 : Int)), .slice ab lb cb] W2 fun e w' => e = .returned (.tuple #[.int .i64 (d : Int), .agg (stA (.slice ua UL uc) (A3 : Int) (E3 : Int))]) ∧ Below W2.heap.size W2 w') := Lib.hid (by rw [HLB.out]; exact rsymbol_at HQ3.out ab bb ob cb ua UL uc W2 hs a2 (Lib.hid (hib.out.kp K2.out hfb)) (Lib.hid HE0.out.2))
    clear hnn
    go_upto_region 23 with (first
      | (refine wl_load 52 3 _ Tryd.underlying52 rfl size54 _ rfl rfl _ rfl _ _ C2 (stA_size _ _ _) ?_)
      | (go_at_call 47; refine (HSB.out).mono ?_; rintro e w3 ⟨rfl, hb3⟩)
      | (refine wl_store 52 3 size54 _ _ rfl rfl b4 rfl (stA (.slice ua UL uc) (A3 : Int) (E3 : Int)) rfl _ _ (C2.keep hb3) rfl rfl (stA_one _ _ _ _ _) ?_; intro W3 C3 hT3))
    have S3 := Lib.hid ((S2.out.keep hb3).lay hT3 C3)
    have K3 := Lib.hid ((K2.out.trans (Kp.of_below _ _ hb3)).turned hT3 lb4)
    have Z3 := Lib.hid (hT3.blk (Z2.out.keep hb3) ne6)
    clear hb3 hT3 C2 S2 K2 Z2
    clear HSB en
    obtain ⟨_, _, c2, _, _, g2⟩ := C3.st
    by_cases hE3 : E3 = 0
    rotate_left
    · have HE : Hid (R = .error E3) := Lib.hid (HCE.out _ (HCP.out.1 hE3))
      have q5 : ((E3 : Int) == 0) = false := by rw [beq_eq_false_iff_ne]; omega
      have q6 : ((E3 : Int) != 0) = true := by rw [bne_iff_ne]; omega
      go_wp2_with (first
        | (refine wl_load 52 3 _ Tryd.underlying52 rfl size54 _ rfl rfl _ rfl _ _ C3 (stA_size _ _ _) ?_)
        | (refine wl_store 52 3 size54 _ _ rfl rfl b6 rfl (stA (.slice ua UL uc) (A3 : Int) (E3 : Int)) rfl _ _ Z3.out rfl rfl (stA_one _ _ _ _ _) ?_; intro Wz Cz hTz))
      refine post_cell Tryd.underlying52 rfl size54 Tryd.results22 Cz (stA_size _ _ _) rfl rfl ?_
      rw [HE.out]
      exact ⟨_, _, _, _, rfl, hE3, (K3.out.turned hTz lb6).belowR HRO.out hB⟩
    clear c2 g2
    have HCP3 := Lib.hid (HCP.out.2.2 hE3)
    have HCP2 := Lib.hid (HCP.out.2.1 hE3)
    have hsy3 := I.symS_zero HQ3.out hE3
    have hA3 : A3 ≤ 8 * s.size := (I.sym_lt hsy3.2).2.1
    have hA23 : A2 < A3 := (I.sym_lt hsy3.2).1
    have hA12 : A1 ≤ A2 := by have := I.num_ok (I.numS_zero HQ2.out hsy3.1).2; omega
    rw [show ((E3 : Nat) : Int) = 0 by omega] at C3 S3 ⊢
    clear hE3 HCP HQ3 hsy3 HQ2
    obtain ⟨_, _, c2, _, _, g2⟩ := C3.st
    by_cases hd : 29 < d
    · have HE : Hid (R = .error 3) := Lib.hid (HCE.out _ (HCP2.out (by omega)))
      have q5 : decide (29 < (d : Int)) = true := by rw [decide_eq_true_iff]; omega
      have C3s := C3.st
      obtain ⟨_, _, cE4, _, _, fE4⟩ := C3s
      go_upto_region 25 with (fail)
      have C4 := C3.st2 3
      have S4 := Lib.hid (S3.out.set2 3)
      have K4 := Lib.hid (K3.out.turned (turned_set _ ⟨b4, 2, none⟩ (.int .i64 3)) lb4)
      have Z4 := Lib.hid (Z3.out.other (a := ⟨b4, 2, none⟩) (.int .i64 3) ne6)
      clear cE4 fE4
      clear c2 g2
      obtain ⟨_, _, c2, _, _, _⟩ := C4.st
      go_wp2_with (first
        | (refine wl_load 52 3 _ Tryd.underlying52 rfl size54 _ rfl rfl _ rfl _ _ C4 (stA_size _ _ _) ?_)
        | (refine wl_store 52 3 size54 _ _ rfl rfl b6 rfl (stA (.slice ua UL uc) (A3 : Int) 3) rfl _ _ Z4.out rfl rfl (stA_one _ _ _ _ _) ?_; intro Wz Cz hTz))
      refine post_cell Tryd.underlying52 rfl size54 Tryd.results22 Cz (stA_size _ _ _) rfl rfl ?_
      rw [HE.out]
      exact ⟨_, _, _, _, rfl, by omega, (K4.out.turned hTz lb6).belowR HRO.out hB⟩
    have q5 : decide (29 < (d : Int)) = false := by rw [decide_eq_false_iff_not]; omega
    have hd30 : d < 30 := by omega
    have HDS := Lib.hid (fun W => rdst_any d W hd30)
    have bdd := And.intro (ds_pos d hd30) (I.ds_bd d)
    obtain ⟨r4, hr4⟩ : ∃ r, I.numS s (I.ds d).2 A3 0 = r := ⟨_, rfl⟩
    obtain ⟨m2, A4, E4⟩ := r4
    obtain ⟨v4, a4⟩ := I.numS_at hr4 hs (by omega) a3
    have HN4 := Lib.hid (fun W => rnumber_at hr4 ua UL uc W hs a3 (by omega))
    have HC4 := Lib.hid (HCP3.out hd30 _ _ _ hr4)
    have HQ4 := Lib.hid hr4
    obtain ⟨dbase, hdbase⟩ : ∃ x, x = (I.ds d).1 := ⟨_, rfl⟩
    obtain ⟨dbits, hdbits⟩ : ∃ x, x = (I.ds d).2 := ⟨_, rfl⟩
    rw [← hdbase, ← hdbits] at HDS
    rw [← hdbits] at HN4
    rw [← hdbase] at HC4
    rw [← hdbase, ← hdbits] at bdd
    clear hr4 hdbase hdbits HCP2 HCP3
    go_upto_region 29 with (first
      | (refine wl_load 52 3 _ Tryd.underlying52 rfl size54 _ rfl rfl _ rfl _ _ C3 (stA_size _ _ _) ?_)
      | (go_at_call 19; refine (HN4.out _).mono ?_; rintro e w4 ⟨rfl, hb4⟩)
      | (refine wl_store 52 3 size54 _ _ rfl rfl b4 rfl (stA (.slice ua UL uc) (A4 : Int) (E4 : Int)) rfl _ _ (C3.keep hb4) rfl rfl (stA_one _ _ _ _ _) ?_; intro W4 C4 hT4)
      | (go_at_call 49; refine (HDS.out _).mono ?_; rintro e w' ⟨rfl, rfl⟩))
    have S4 := Lib.hid ((S3.out.keep hb4).lay hT4 C4)
    have K4 := Lib.hid ((K3.out.trans (Kp.of_below _ _ hb4)).turned hT4 lb4)
    have Z4 := Lib.hid (hT4.blk (Z3.out.keep hb4) ne6)
    clear hb4 hT4 C3 S3 K3 Z3
    clear c2 g2 HDS HN4
    obtain ⟨far, hfar⟩ : ∃ x, x = dbase + m2 := ⟨_, rfl⟩
    have ef : (dbase : Int) + (m2 : Int) = (far : Int) := by omega
    have hfb9 : far ≤ 200000 := by omega
    have hf1 : 1 ≤ far := by omega
    rw [← hfar] at HC4
    clear hfar
    obtain ⟨_, _, c2, _, _, g2⟩ := C4.st
    by_cases hE4 : E4 = 0
    rotate_left
    · have HE : Hid (R = .error E4) := Lib.hid (HCE.out _ (HC4.out.1 hE4))
      have q6 : ((E4 : Int) != 0) = true := by rw [bne_iff_ne]; omega
      go_wp2_with (first
        | (refine wl_load 52 3 _ Tryd.underlying52 rfl size54 _ rfl rfl _ rfl _ _ C4 (stA_size _ _ _) ?_)
        | (refine wl_store 52 3 size54 _ _ rfl rfl b6 rfl (stA (.slice ua UL uc) (A4 : Int) (E4 : Int)) rfl _ _ Z4.out rfl rfl (stA_one _ _ _ _ _) ?_; intro Wz Cz hTz))
      refine post_cell Tryd.underlying52 rfl size54 Tryd.results22 Cz (stA_size _ _ _) rfl rfl ?_
      rw [HE.out]
      exact ⟨_, _, _, _, rfl, hE4, (K4.out.turned hTz lb6).belowR HRO.out hB⟩
    clear c2 g2
    have HC5 := Lib.hid (HC4.out.2 hE4)
    have hnm4 := I.num_ok (I.numS_zero HQ4.out hE4).2
    have hA4 : A4 ≤ 8 * s.size := by omega
    have hA34 : A3 ≤ A4 := by omega
    rw [show ((E4 : Nat) : Int) = 0 by omega] at C4 S4 ⊢
    rw [← HUL.out] at HC5
    clear hE4 HC4 HQ4 hnm4
    obtain ⟨c0, _, c2, g0, _, g2⟩ := C4.st
    by_cases hfr : UL < far
    · have HE : Hid (R = .error 3) := Lib.hid (HCE.out _ (by rw [HC5.out, if_pos hfr]))
      have q7 : decide ((UL : Int) < (far : Int)) = true := by rw [decide_eq_true_iff]; omega
      have q8 : decide (UL < far) = true := by rw [decide_eq_true_iff]; exact hfr
      have C4s := C4.st
      obtain ⟨_, _, cE5, _, _, fE5⟩ := C4s
      go_upto_region 34 with (fail)
      have C5 := C4.st2 3
      have S5 := Lib.hid (S4.out.set2 3)
      have K5 := Lib.hid (K4.out.turned (turned_set _ ⟨b4, 2, none⟩ (.int .i64 3)) lb4)
      have Z5 := Lib.hid (Z4.out.other (a := ⟨b4, 2, none⟩) (.int .i64 3) ne6)
      clear cE5 fE5
      go_wp2_with (first
        | (refine wl_load 52 3 _ Tryd.underlying52 rfl size54 _ rfl rfl _ rfl _ _ C5 (stA_size _ _ _) ?_)
        | (refine wl_store 52 3 size54 _ _ rfl rfl b6 rfl (stA (.slice ua UL uc) (A4 : Int) 3) rfl _ _ Z5.out rfl rfl (stA_one _ _ _ _ _) ?_; intro Wz Cz hTz))
      refine post_cell Tryd.underlying52 rfl size54 Tryd.results22 Cz (stA_size _ _ _) rfl rfl ?_
      rw [HE.out]
      exact ⟨_, _, _, _, rfl, by omega, (K5.out.turned hTz lb6).belowR HRO.out hB⟩
    have q7 : decide ((UL : Int) < (far : Int)) = false := by rw [decide_eq_false_iff_not]; omega
    have q8 : decide (UL < far) = false := by rw [decide_eq_false_iff_not]; exact hfr
    by_cases hl : most < UL + nn
    · have HE : Hid (R = .error 7) := Lib.hid (HCE.out _ (by rw [HC5.out, if_neg hfr, if_pos hl]))
      have q9 : decide ((most : Int) < (UL : Int) + (nn : Int)) = true := by rw [decide_eq_true_iff]; omega
      have C4s := C4.st
      obtain ⟨_, _, cE5, _, _, fE5⟩ := C4s
      go_upto_region 37 with (fail)
      have C5 := C4.st2 7
      have S5 := Lib.hid (S4.out.set2 7)
      have K5 := Lib.hid (K4.out.turned (turned_set _ ⟨b4, 2, none⟩ (.int .i64 7)) lb4)
      have Z5 := Lib.hid (Z4.out.other (a := ⟨b4, 2, none⟩) (.int .i64 7) ne6)
      clear cE5 fE5
      go_wp2_with (first
        | (refine wl_load 52 3 _ Tryd.underlying52 rfl size54 _ rfl rfl _ rfl _ _ C5 (stA_size _ _ _) ?_)
        | (refine wl_store 52 3 size54 _ _ rfl rfl b6 rfl (stA (.slice ua UL uc) (A4 : Int) 7) rfl _ _ Z5.out rfl rfl (stA_one _ _ _ _ _) ?_; intro Wz Cz hTz))
      refine post_cell Tryd.underlying52 rfl size54 Tryd.results22 Cz (stA_size _ _ _) rfl rfl ?_
      rw [HE.out]
      exact ⟨_, _, _, _, rfl, by omega, (K5.out.turned hTz lb6).belowR HRO.out hB⟩
    have q9 : decide ((most : Int) < (UL : Int) + (nn : Int)) = false := by rw [decide_eq_false_iff_not]; omega
    have hone : I.one za zb s most P o = .ok (false, A4, I.cp far nn o) := by rw [one_copy HSY.out n2 n1, ← HK.out.1, HC5.out, if_neg hfr, if_neg hl]
    have HNX : Hid (I.syms za zb s most A4 (I.cp far nn o) = R ∧ (I.cp far nn o).length ≤ most) := Lib.hid ⟨by rw [← HR2.out]; exact (I.syms_more hone (by rw [← HUL.out]; omega)).symm, by rw [I.cp_len, ← HUL.out]; omega⟩
    have HSR : Hid (CcRel w B b4 b6 (.slice sa L sc) A4 far nn o (.int .i64 0) W4) := Lib.hid ⟨0, _, o, Nat.zero_le _, rfl, S4.out, K4.out, Z4.out, hf6, rfl, rfl⟩
    have HPA : Hid (P < A4) := Lib.hid (by omega)
    clear hone HC5 C4 S4 K4 Z4 HCE HSY HR2
    go_wp2
    clear c0 c2 g0 g2
    go_loopw [16] (fun i wr => CcRel w B b4 b6 (.slice sa L sc) A4 far nn o i wr) (fun i _ => nn - (intOf i).toNat)
    case atStart => exact HSR.out
    case round =>
      obtain ⟨k3, sl3, o3, hk3, rfl, hS, hK, hZ, hf6b, hlen, hcp⟩ := hrel
      clear HSR
      have S5 := Lib.hid hS
      have K5 := Lib.hid hK
      have Z5 := Lib.hid hZ
      have HCP5 := Lib.hid hcp
      rw [← HUL.out] at hlen
      by_cases hlt : k3 < nn
      · have h0 : 0 < o3.length := by omega
        obtain ⟨g2, uc3, rfl, hcap3, hcell⟩ := hS.own.slice h0
        have C5 := hS.blk
        have hidx : o3.length - far < o3.length := by omega
        have hcel := hcell (o3.length - far) hidx
        obtain ⟨mm, hme⟩ : ∃ m, m = o3.length - far := ⟨_, rfl⟩
        have HCC : Hid (o3[o3.length - far] = o3.getD (o3.length - far) 0) := Lib.hid (by rw [List.getD_eq_getElem?_getD, List.getElem?_eq_getElem hidx]; rfl)
        obtain ⟨c, hc⟩ : ∃ c, c = o3[o3.length - far] := ⟨_, rfl⟩
        rw [← hc] at hcel HCC
        rw [← hme] at hcel HCC hidx
        have hlo : o3.length ≤ 262144 := by omega
        obtain ⟨aa4, nn4, cc4, w7, hrun, d3, f3, HF⟩ := hS.push (Lib.hid hlo) (bq_alloc (bq_drew (bq_refl wr)) (.cells #[.int .u8 (c.toNat : Int)] 5)) c (heap_alloc_new wr.drew _) 36
        have hc8 : (c.toNat : Int) < 256 := by have := c.toNat_lt; omega
        have hw64 : IntKind.i64.wrap ((o3.length : Int) - (far : Int)) = (mm : Int) := by rw [i64_wrap _ (by omega) (by omega)]; omega
        have HN5 : Hid (I.cp far (nn - (k3 + 1)) (o3 ++ [c]) = I.cp far nn o) := Lib.hid (by
          rw [← HCP5.out, show nn - k3 = (nn - (k3 + 1)) + 1 by omega, I.cp, HCC.out, ← hme])
        have HLN5 : Hid ((o3 ++ [c]).length = o.length + (k3 + 1)) := Lib.hid (by rw [List.length_append, List.length_singleton, ← HUL.out]; omega)
        have e3 : (wr.alloc (.cells #[.int .u8 (c.toNat : Int)] 5)).cell? ⟨b4, 0, none⟩ = some (.slice (some ⟨g2, 0, none⟩) o3.length uc3) := (C5.alloc _).st.1
        obtain ⟨c0, _, _, _, _, _⟩ := C5.st
        obtain ⟨L2, hL2⟩ : ∃ L2, L2 = o3.length := ⟨_, rfl⟩
        have K5' := K5
        rw [← hL2] at hidx hw64 hrun c0 e3 d3 HF hcap3 K5' hf6b
        have i1 : (0 : Int) ≤ (mm : Int) := by omega
        have i2 : (mm : Int) < (L2 : Int) := by omega
        have HRUN := Lib.hid hrun
        clear hcell hlen hL2 hme hc hlo hcp hS hK hZ S5 K5 HCP5 HCC h0 hrun C5
        go_wp2_with fail
        go_region_law (refine step_append_run (by rfl) _ _ (by rfl) (by rfl) (by rfl) HRUN.out ?_)
        all_goals
          go_wp2
          go_roundw
          case rel => exact ⟨k3 + 1, _, _, by omega, by go_num, HF.out.1, HF.out.2.kp K5'.out lb4, (HF.out.2.blk Z5.out ne6 hf6b).1, (HF.out.2.blk Z5.out ne6 hf6b).2, HLN5.out, HN5.out⟩
          case measure => simp [intOf]; omega
      · have HOE : Hid (o3 = I.cp far nn o) := Lib.hid (by rw [← hcp, show nn - k3 = 0 by omega]; rfl)
        clear hcp hS hK hZ hlen
        go_wp2
        go_roundw
        case rel => exact ⟨sl3, A4, o3, S5.out, K5.out, Z5.out, hf6b, hA4, by rw [HOE.out]; exact HNX.out.2, by rw [HOE.out]; exact HNX.out.1⟩
        case measure => rw [S5.out.atOf, HAT.out, Int.toNat_natCast]; have := HPA.out; omega
end Go.Proofs.YtddiccdfeckgaaaDoor
