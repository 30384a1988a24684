import Derived.Test.YtddiccdfeckgaaaDoorZB
import Derived.Deep.RegionLaw
/- Layer 5: a copy. -/
namespace Go.Proofs.YtddiccdfeckgaaaDoor
open Go.RowKit
set_option maxRecDepth 100000
set_option linter.unusedVariables false
theorem I.dist_pos {d : List Int} {s : ByteArray} {p far q : Nat} (h : I.dist d s p = .ok (far, q)) : 1 ≤ far ∧ far ≤ 40000 ∧ q ≤ 8 * s.size := by
  unfold I.dist at h
  split at h
  · cases h
  rename_i j p2 h1
  split at h
  · cases h
  rename_i hj
  split at h
  · cases h
  rename_i y p3 h2
  injection h with h
  injection h with e1 e2
  subst e1 e2
  have : ∀ j : Fin 30, 1 ≤ (I.ds j).1 := by decide
  have h3 := this ⟨j, by omega⟩
  have h4 : 1 ≤ (I.ds j).1 := h3
  have bd := I.ds_bd j
  obtain ⟨a1, a2, a3⟩ := I.num_ok h2
  have a4 := nb_lt s p2 (I.ds j).2
  have a5 : B.P2 (I.ds j).2 ≤ 8192 := B.P2_le (b := 13) bd.2
  omega
theorem I.num_32 {s : ByteArray} {p n v q : Nat} (h : I.num s p n = .ok (v, q)) (hn : n ≤ 5) : v < 32 := by
  have a4 := nb_lt s p n
  have a5 : B.P2 n ≤ 32 := B.P2_le (b := 5) hn
  have := (I.num_ok h).1
  omega
def CpRel (w : World) (B b : Nat) (s : ByteArray) (q most : Nat) (sl : Value) (F : Array Value) (far n : Nat) (out : List UInt8) (i : Value) (wr : World) : Prop :=
  ∃ (k : Nat) (sl' : Value) (o : List UInt8), k ≤ n ∧ i = .int .i64 (k : Int) ∧ U wr B b s q most sl' o F ∧ Kp b sl w wr sl' ∧ o.length = out.length + k ∧ I.cp far (n - k) o = I.cp far n out
theorem U.slice {w : World} {B b : Nat} {s : ByteArray} {p most : Nat} {sl : Value} {out : List UInt8} {F : Array Value} (h : U w B b s p most sl out F) (h0 : 0 < out.length) :
    ∃ g c, sl = .slice (some ⟨g, 0, none⟩) out.length c ∧ out.length ≤ c ∧ ∀ i (hi : i < out.length), w.cell? ⟨g, i, none⟩ = some (.int .u8 (out[i].toNat : Int)) := by
  obtain ⟨g, c, rfl, _, _⟩ := h.own.form h0
  obtain ⟨a, c', e, hc⟩ := h.len
  injection e with _ _ e3
  refine ⟨g, c, rfl, by omega, fun i hi => ?_⟩
  have := h.own.cells (g := g) rfl i _ (byL_at out i hi)
  rwa [Addr.add_mid, Nat.zero_add] at this
section
variable {w : World} {B b : Nat} {s : ByteArray} {p most : Nat} {sl : Value} {out : List UInt8} {F : Array Value}
theorem copied_bad {zs : List Int} {g k e0 : Nat} (hs : s.size ≤ 1048576) (hu : U w B b s p most sl out F) (hp : p ≤ 8388608) (hm : most ≤ 262144) (ho : out.length ≤ most) (hk : k ≤ 1000) (ht : Tb w zs g) (hg : g ≠ b ∧ sl.ownBlock ≠ some g) (h : I.copy zs s most p out k = .error e0) :
    Calls Tryd.prog 68 #[.pointer (some ⟨b, 0, none⟩), .int .i64 (k : Int), .agg (tbV zs g)] w fun e w' => e = .returned (.int .i64 (e0 : Int)) ∧ e0 ≠ 0 ∧ Below B w w' := by
  rw [I.copy_eq] at h
  have HU := Lib.hid hu
  have HT := Lib.hid ht
  split at h
  · rename_i hk2
    injection h with h
    subst h
    clear hu ht
    go_enter Tryd.func68, Tryd.ntmps68
    go_wp2_with (refine wl_box 43 _ _ rfl rfl rfl ?_; intro W1 b1 B1 l1 k1)
    go_ret
    exact ⟨rfl, by omega, (Kp.of_below b sl k1).belowU HU.out⟩
  rename_i hk2
  have hk3 : k < 29 := by omega
  have bd := I.ln_bd k
  split at h
  · rename_i e1 h1
    injection h with h
    subst h
    have n0 : e1 ≠ 0 := by have := (I.num_err h1).1; omega
    have q0 : ((e1 : Int) != 0) = true := by rw [bne_iff_ne]; omega
    have HW := Lib.hid (fun W (hW : U W B b s p most sl out F) => within_bad (l := (I.ln k).1) hs hW (by omega) (by omega) h1)
    clear hu ht h1 bd hk2
    generalize hl : (I.ln k).1 = l at *
    generalize hn : (I.ln k).2 = n at *
    go_enter Tryd.func68, Tryd.ntmps68
    go_upto_region 1 with (refine wl_box 43 _ _ rfl rfl rfl ?_; intro W1 b1 B1 l1 k1)
    have HU1 := Lib.hid (HU.out.keep k1)
    obtain ⟨g0, g1⟩ := two_at (HU1.out.glob.len k hk3)
    rw [hl] at g0
    rw [hn] at g1
    have HK := Lib.hid (Kp.of_below b sl k1)
    clear k1 l1 B1 hl hn
    go_wp2_with (go_at_call 84; refine (HW.out _ HU1.out).mono ?_; rintro e w3 ⟨rfl, hu3, hk3'⟩)
    go_ret
    exact ⟨rfl, n0, (HK.out.trans hk3').belowU HU.out⟩
  rename_i x p1 h1
  obtain ⟨a1, a2, a3⟩ := I.num_ok h1
  have hx : x < 32 := I.num_32 h1 bd.2
  have hp1 : p1 ≤ 8388608 := by omega
  have HW := Lib.hid (fun W (hW : U W B b s p most sl out F) => within_ok (l := (I.ln k).1) hs hW (by omega) (by omega) (by omega) h1)
  have hN : (I.ln k).1 + x ≤ 290 := by omega
  clear hu ht h1 hk2 a1 a2 a3
  generalize hl : (I.ln k).1 = l at *
  generalize hn : (I.ln k).2 = n at *
  clear bd
  split at h
  · rename_i e1 h2
    injection h with h
    subst h
    have HD := Lib.hid (fun W (hW : U W B b s p1 most sl out F) (hT : Tb W zs g) => dist_bad hs hW hp1 hT hg h2)
    clear h2
    go_enter Tryd.func68, Tryd.ntmps68
    go_upto_region 1 with (refine wl_box 43 _ _ rfl rfl rfl ?_; intro W1 b1 B1 l1 k1)
    have HU1 := Lib.hid (HU.out.keep k1)
    obtain ⟨g0, g1⟩ := two_at (HU1.out.glob.len k hk3)
    rw [hl] at g0
    rw [hn] at g1
    have HK := Lib.hid (Kp.of_below b sl k1)
    have hb1 := HU.out.far_blk l1
    have HT1 := Lib.hid (HT.out.keep k1)
    clear k1 l1 hl hn HT
    go_upto_region 4 with (go_at_call 84; refine (HW.out _ HU1.out).mono ?_; rintro e w3 ⟨rfl, hu3, hk3'⟩)
    have B3 := hk3'.blk B1 hb1.1 hb1.2
    have HU3 := Lib.hid hu3
    have HK3 := Lib.hid (HK.out.trans hk3')
    have HT3 := Lib.hid (hk3'.tb HT1.out hg.1 hg.2)
    clear hu3 hk3' B1 HT1 HK HU1 HW
    go_upto_region 7 with (first
      | (refine wl_load 43 17 _ Tryd.underlying43 rfl size27 _ rfl rfl _ rfl _ _ B3 (tbV_size _ _) ?_)
      | (go_at_call 85; refine (HD.out _ HU3.out HT3.out).mono ?_; rintro e w4 ⟨rfl, n0, hb4⟩))
    have q0 : ((e1 : Int) != 0) = true := by rw [bne_iff_ne]; omega
    go_wp2
    go_ret
    exact ⟨rfl, n0, (HK3.out.belowU HU.out).trans hb4⟩
  rename_i far q h2
  obtain ⟨b1', b2', b3'⟩ := I.dist_pos h2
  have HD := Lib.hid (fun W (hW : U W B b s p1 most sl out F) (hT : Tb W zs g) => dist_ok hs hW hp1 hT hg h2)
  clear h2
  obtain ⟨L, hL⟩ : ∃ L, L = out.length := ⟨_, rfl⟩
  rw [← hL] at h ho
  have HRM := Lib.hid (fun W (hW : U W B b s q most sl out F) => room_any hW hm (by omega))
  rw [← hL] at HRM
  have HLL := Lib.hid hL
  clear hL
  split at h
  · rename_i hfar
    injection h with h
    subst h
    go_enter Tryd.func68, Tryd.ntmps68
    go_upto_region 1 with (refine wl_box 43 _ _ rfl rfl rfl ?_; intro W1 b1 B1 l1 k1)
    have HU1 := Lib.hid (HU.out.keep k1)
    obtain ⟨g0, g1⟩ := two_at (HU1.out.glob.len k hk3)
    rw [hl] at g0
    rw [hn] at g1
    have HK := Lib.hid (Kp.of_below b sl k1)
    have hb1 := HU.out.far_blk l1
    have HT1 := Lib.hid (HT.out.keep k1)
    clear k1 l1 hl hn HT
    go_upto_region 4 with (go_at_call 84; refine (HW.out _ HU1.out).mono ?_; rintro e w3 ⟨rfl, hu3, hk3'⟩)
    have B3 := hk3'.blk B1 hb1.1 hb1.2
    have HU3 := Lib.hid hu3
    have HK3 := Lib.hid (HK.out.trans hk3')
    have HT3 := Lib.hid (hk3'.tb HT1.out hg.1 hg.2)
    clear hu3 hk3' B1 HT1 HK HU1 HW
    go_upto_region 7 with (first
      | (refine wl_load 43 17 _ Tryd.underlying43 rfl size27 _ rfl rfl _ rfl _ _ B3 (tbV_size _ _) ?_)
      | (go_at_call 85; refine (HD.out _ HU3.out HT3.out).mono ?_; rintro e w4 ⟨rfl, hu4, hk4⟩))
    have HK4 := Lib.hid (HK3.out.trans hk4)
    obtain ⟨aa, cc, hsl, hcc⟩ := hu4.len
    rw [← HLL.out] at hsl hcc
    have c3 := hu4.c3
    rw [hsl] at c3
    clear hk4 hu4 hsl hm ho HD HRM HT3 HU3 B3
    go_wp2
    go_ret
    exact ⟨rfl, by omega, HK4.out.belowU HU.out⟩
  rename_i hfar
  split at h
  · rename_i hmost
    injection h with h
    subst h
    go_enter Tryd.func68, Tryd.ntmps68
    go_upto_region 1 with (refine wl_box 43 _ _ rfl rfl rfl ?_; intro W1 b1 B1 l1 k1)
    have HU1 := Lib.hid (HU.out.keep k1)
    obtain ⟨g0, g1⟩ := two_at (HU1.out.glob.len k hk3)
    rw [hl] at g0
    rw [hn] at g1
    have HK := Lib.hid (Kp.of_below b sl k1)
    have hb1 := HU.out.far_blk l1
    have HT1 := Lib.hid (HT.out.keep k1)
    clear k1 l1 hl hn HT
    go_upto_region 4 with (go_at_call 84; refine (HW.out _ HU1.out).mono ?_; rintro e w3 ⟨rfl, hu3, hk3'⟩)
    have B3 := hk3'.blk B1 hb1.1 hb1.2
    have HU3 := Lib.hid hu3
    have HK3 := Lib.hid (HK.out.trans hk3')
    have HT3 := Lib.hid (hk3'.tb HT1.out hg.1 hg.2)
    clear hu3 hk3' B1 HT1 HK HU1 HW
    go_upto_region 7 with (first
      | (refine wl_load 43 17 _ Tryd.underlying43 rfl size27 _ rfl rfl _ rfl _ _ B3 (tbV_size _ _) ?_)
      | (go_at_call 85; refine (HD.out _ HU3.out HT3.out).mono ?_; rintro e w4 ⟨rfl, hu4, hk4⟩))
    have HK4 := Lib.hid (HK3.out.trans hk4)
    obtain ⟨aa, cc, hsl, hcc⟩ := hu4.len
    rw [← HLL.out] at hsl hcc
    have c3 := hu4.c3
    rw [hsl] at c3
    have HU4 := Lib.hid hu4
    clear hk4 hu4 hsl HD HT3 HU3 B3
    go_wp2_with (go_at_call 65; refine (HRM.out _ HU4.out).mono ?_; rintro e w5 ⟨rfl, nq, rfl⟩)
    go_ret
    exact ⟨rfl, by omega, (HK4.out.belowU HU.out).trans (bq_drewN (bq_refl w4) nq |>.mono HU4.out.hB)⟩
  · cases h
end
end Go.Proofs.YtddiccdfeckgaaaDoor
/- Layer 5: a copy that is there. -/
namespace Go.Proofs.YtddiccdfeckgaaaDoor
open Go.RowKit
set_option maxRecDepth 100000
set_option linter.unusedVariables false
section
variable {w : World} {B b : Nat} {s : ByteArray} {p most : Nat} {sl : Value} {out : List UInt8} {F : Array Value}
set_option maxHeartbeats 2000000 in
set_option maxRecDepth 100000 in
theorem copied_ok {zs : List Int} {g k q : Nat} {o : List UInt8} (hs : s.size ≤ 1048576) (hu : U w B b s p most sl out F) (hp : p ≤ 8388608) (hm : most ≤ 262144) (ho : out.length ≤ most) (hk : k ≤ 1000) (ht : Tb w zs g) (hg : g ≠ b ∧ sl.ownBlock ≠ some g) (h : I.copy zs s most p out k = .ok (q, o)) :
    Calls Tryd.prog 68 #[.pointer (some ⟨b, 0, none⟩), .int .i64 (k : Int), .agg (tbV zs g)] w fun e w' => e = .returned (.int .i64 0) ∧ ∃ sl', U w' B b s q most sl' o F ∧ Kp b sl w w' sl' := by
  rw [I.copy_eq] at h
  have HU := Lib.hid hu
  have HT := Lib.hid ht
  split at h
  · cases h
  rename_i hk2
  have hk3 : k < 29 := by omega
  have bd := I.ln_bd k
  split at h
  · cases h
  rename_i x p1 h1
  obtain ⟨a1, a2, a3⟩ := I.num_ok h1
  have hx : x < 32 := I.num_32 h1 bd.2
  have hp1 : p1 ≤ 8388608 := by omega
  have HW := Lib.hid (fun W (hW : U W B b s p most sl out F) => within_ok (l := (I.ln k).1) hs hW (by omega) (by omega) (by omega) h1)
  have hN : (I.ln k).1 + x ≤ 290 := by omega
  clear hu ht h1 hk2 a1 a2 a3
  generalize hl : (I.ln k).1 = l at *
  generalize hn : (I.ln k).2 = n at *
  clear bd
  split at h
  · cases h
  rename_i far q' h2
  obtain ⟨b1', b2', b3'⟩ := I.dist_pos h2
  have HD := Lib.hid (fun W (hW : U W B b s p1 most sl out F) (hT : Tb W zs g) => dist_ok hs hW hp1 hT hg h2)
  clear h2
  split at h
  · cases h
  rename_i hfar
  split at h
  · cases h
  rename_i hmost
  injection h with h
  injection h with e1 e2
  subst e1
  have HO := Lib.hid e2
  clear e2
  obtain ⟨N, hNe⟩ : ∃ N, N = l + x := ⟨_, rfl⟩
  obtain ⟨L, hL⟩ : ∃ L, L = out.length := ⟨_, rfl⟩
  have HRM := Lib.hid (fun W (hW : U W B b s q' most sl out F) => room_any hW hm ho)
  rw [← hL] at HRM hfar hmost ho
  rw [← hNe] at HO HW hmost hN
  have HLL := Lib.hid hL
  clear hL hNe
  go_enter Tryd.func68, Tryd.ntmps68
  go_upto_region 1 with (refine wl_box 43 _ _ rfl rfl rfl ?_; intro W1 b1 B1 l1 k1)
  have HU1 := Lib.hid (HU.out.keep k1)
  obtain ⟨g0, g1⟩ := two_at (HU1.out.glob.len k hk3)
  rw [hl] at g0
  rw [hn] at g1
  have HK := Lib.hid (Kp.of_below b sl k1)
  have hb1 := HU.out.far_blk l1
  have HT1 := Lib.hid (HT.out.keep k1)
  clear k1 l1 hl hn HT
  go_upto_region 4 with (go_at_call 84; refine (HW.out _ HU1.out).mono ?_; rintro e w3 ⟨rfl, hu3, hk3'⟩)
  have B3 := hk3'.blk B1 hb1.1 hb1.2
  have HU3 := Lib.hid hu3
  have HK3 := Lib.hid (HK.out.trans hk3')
  have HT3 := Lib.hid (hk3'.tb HT1.out hg.1 hg.2)
  clear hu3 hk3' B1 HT1 HK HU1 HW
  go_upto_region 7 with (first
    | (refine wl_load 43 17 _ Tryd.underlying43 rfl size27 _ rfl rfl _ rfl _ _ B3 (tbV_size _ _) ?_)
    | (go_at_call 85; refine (HD.out _ HU3.out HT3.out).mono ?_; rintro e w4 ⟨rfl, hu4, hk4⟩))
  have HK4 := Lib.hid (HK3.out.trans hk4)
  obtain ⟨aa, cc, hsl, hcc⟩ := hu4.len
  rw [← HLL.out] at hsl hcc
  have c3 := hu4.c3
  rw [hsl] at c3
  have HU4 := Lib.hid hu4
  clear hk4 hu4 hsl HD HT3 HU3 B3
  go_wp2_with (go_at_call 65; refine (HRM.out _ HU4.out).mono ?_; rintro e w5 ⟨rfl, nq, rfl⟩)
  have HK5 := Lib.hid (HK4.out.trans (Kp.of_below b sl (bq_drewN (bq_refl w4) nq)))
  have HU5 := Lib.hid (HU4.out.drewN nq)
  generalize w4.drewN nq = w5 at *
  clear HK4 HU4 c3 HRM HK3 g0 g1
  go_loopw [44] (fun i wr => CpRel w B b s q' most sl F far N out i wr) (fun i _ => N - (intOf i).toNat)
  case atStart => exact ⟨0, sl, out, Nat.zero_le _, rfl, HU5.out, HK5.out, by omega, rfl⟩
  case round =>
    obtain ⟨j, sl2, o2, hj, rfl, hu6, hk6, hlen, hcp⟩ := hrel
    have HU6 := Lib.hid hu6
    have HK6 := Lib.hid hk6
    have HCP := Lib.hid hcp
    rw [← HLL.out] at hlen
    by_cases hlt : j < N
    · have h0 : 0 < o2.length := by omega
      obtain ⟨g2, c2, rfl, hcap, hcell⟩ := hu6.slice h0
      have c3 := hu6.c3
      have hidx : o2.length - far < o2.length := by omega
      have hcel := hcell (o2.length - far) hidx
      obtain ⟨m, hme⟩ : ∃ m, m = o2.length - far := ⟨_, rfl⟩
      have HC : Hid (o2[o2.length - far] = o2.getD (o2.length - far) 0) := Lib.hid (by rw [List.getD_eq_getElem?_getD, List.getElem?_eq_getElem hidx]; rfl)
      obtain ⟨c, hc⟩ : ∃ c, c = o2[o2.length - far] := ⟨_, rfl⟩
      rw [← hc] at hcel HC
      rw [← hme] at hcel HC hidx
      have hlo : o2.length ≤ 262144 := by omega
      obtain ⟨aa3, nn3, cc3, w7, hrun, d3, f3, HF⟩ := push_run hu6 (Lib.hid hlo) (bq_alloc (bq_drew (bq_refl wr)) (.cells #[.int .u8 (c.toNat : Int)] 5)) c (heap_alloc_new wr.drew _) 36
      have hc8 : (c.toNat : Int) < 256 := by have := c.toNat_lt; omega
      have hw64 : IntKind.i64.wrap ((o2.length : Int) - (far : Int)) = (m : Int) := by rw [i64_wrap _ (by omega) (by omega)]; omega
      have HNX : Hid (I.cp far (N - (j + 1)) (o2 ++ [c]) = I.cp far N out) := Lib.hid (by
        rw [← HCP.out, show N - j = (N - (j + 1)) + 1 by omega, I.cp, HC.out, ← hme])
      have HLN : Hid ((o2 ++ [c]).length = out.length + (j + 1)) := Lib.hid (by rw [List.length_append, List.length_singleton, ← HLL.out]; omega)
      obtain ⟨L2, hL2⟩ : ∃ L2, L2 = o2.length := ⟨_, rfl⟩
      rw [← hL2] at hidx hw64 hrun c3 d3 HF hcap
      have i1 : (0 : Int) ≤ (m : Int) := by omega
      have i2 : (m : Int) < (L2 : Int) := by omega
      have HK6' := HK6
      rw [← hL2] at HK6'
      have HRUN := Lib.hid hrun
      have e3 : (wr.alloc (.cells #[.int .u8 (c.toNat : Int)] 5)).cell? ⟨b, 3, none⟩ = some (.slice (some ⟨g2, 0, none⟩) L2 c2) := ((hu6.keep (bq_alloc (bq_refl wr) _)).c3).trans (by rw [hL2])
      clear hcell hlen hL2 hme hc hlo hcp hu6 hk6 HU6 HK6 HCP HC h0 hmost hm ho hfar HU5 HK5 hrun
      go_wp2_with fail
      go_region_law (refine step_append_run (by rfl) _ _ (by rfl) (by rfl) (by rfl) HRUN.out ?_)
      all_goals
        go_wp2
        go_roundw
        case rel => exact ⟨j + 1, _, _, by omega, by go_num, HF.out.1, HK6'.out.trans HF.out.2, HLN.out, HNX.out⟩
        case measure => simp [intOf]; omega
    · obtain rfl : j = N := by omega
      have HOE : Hid (o2 = o) := Lib.hid (by rw [← HO.out, ← HCP.out, Nat.sub_self]; rfl)
      clear hcp hu6 hk6 hlen hmost hm ho hfar HU5 HK5
      go_wp2
      go_ret
      exact ⟨rfl, _, by rw [← HOE.out]; exact HU6.out, HK6.out⟩
end
end Go.Proofs.YtddiccdfeckgaaaDoor
/- Layer 5: the symbols of a block. -/
namespace Go.Proofs.YtddiccdfeckgaaaDoor
open Go.RowKit
set_option maxRecDepth 100000
set_option linter.unusedVariables false
set_option linter.unusedSimpArgs false
section
variable {P : Program} {ops : Array Oper} {rest : List Oper} {o : Oper} {a : Act} {w : World} {Q : Exit → Act → World → Prop}
theorem wl_mid (ty : TypeId) (n : Nat) (d : TypeDesc) (hu : P.underlying ty = some d) (hd : d.isRow = true) (hi : (P.info? ty).map (·.size) = some n)
    (x : Operand) (ho : o.op = .load ty x) (hgd : o.guard = none) (b i : Nat) (hx : a.eval x = .pointer (some ⟨b, i, none⟩)) (cs : Array Value) (hc : w.rangeAt b i cs.toList) (hn : cs.size = n)
    (h : wpList P ops Q rest (a.put o.dst (.agg cs)) w) : wpList P ops Q (o :: rest) a w :=
  wpList_load_mid hgd ty x ho b i hx cs.toList d hc hu hd (by rw [hi, ← hn]; rfl) h
end
/-- the cells of both tables of a block -/
def cdV (a d : List Int) (ga gd : Nat) : Array Value := tbV a ga ++ tbV d gd
theorem cdV_size (a d : List Int) (ga gd : Nat) : (cdV a d ga gd).size = 34 := by unfold cdV; rw [Array.size_append, tbV_size, tbV_size]
theorem cdV_a {w : World} {b : Nat} {t : TypeId} {a d : List Int} {ga gd : Nat} (h : Blk w b (cdV a d ga gd) t) : w.rangeAt b 0 (tbV a ga).toList := by
  have := World.rangeAt_of_block h 0 17
  have e : (cdV a d ga gd).extract 0 (0 + 17) = tbV a ga := by
    unfold cdV
    rw [Array.extract_append, tbV_size]
    apply Array.ext'
    simp [tbV_size]
    rw [List.take_of_length_le (by rw [Array.length_toList, tbV_size]; omega)]
  rwa [e] at this
theorem cdV_d {w : World} {b : Nat} {t : TypeId} {a d : List Int} {ga gd : Nat} (h : Blk w b (cdV a d ga gd) t) : w.rangeAt b 17 (tbV d gd).toList := by
  have := World.rangeAt_of_block h 17 17
  have e : (cdV a d ga gd).extract 17 (17 + 17) = tbV d gd := by
    unfold cdV
    rw [Array.extract_append, tbV_size]
    apply Array.ext'
    simp [tbV_size]
    rw [List.take_of_length_le (by rw [Array.length_toList, tbV_size]; omega)]
  rwa [e] at this
def atOf (w : World) (b : Nat) : Nat := match w.cell? ⟨b, 1, none⟩ with | some v => (intOf v).toNat | none => 0
theorem U.atOf {w : World} {B b : Nat} {s : ByteArray} {p most : Nat} {sl : Value} {out : List UInt8} {F : Array Value} (h : U w B b s p most sl out F) : atOf w b = p := by
  unfold Go.Proofs.YtddiccdfeckgaaaDoor.atOf; rw [h.c1]; simp [intOf]
/-- what a step that goes on with the unpacker tells -/
def StepPost (w : World) (B b : Nat) (s : ByteArray) (most : Nat) (sl : Value) (F : Array Value) (R : Except Nat (Nat × List UInt8)) (e : Ending) (w' : World) : Prop :=
  match R with
  | .ok (q, o) => e = .returned (.int .i64 0) ∧ ∃ sl', U w' B b s q most sl' o F ∧ Kp b sl w w' sl'
  | .error e0 => e = .returned (.int .i64 (e0 : Int)) ∧ e0 ≠ 0 ∧ Below B w w'
def SyRel (w : World) (B b : Nat) (s : ByteArray) (most : Nat) (sl : Value) (F : Array Value) (a d : List Int) (R : Except Nat (Nat × List UInt8)) (wr : World) : Prop :=
  ∃ (p : Nat) (sl' : Value) (o : List UInt8), U wr B b s p most sl' o F ∧ Kp b sl w wr sl' ∧ p ≤ 8 * s.size ∧ o.length ≤ most ∧ I.syms a d s most p o = R
theorem u8_ofNat (n : Nat) (h : n < 256) : ((UInt8.ofNat n).toNat : Int) = (n : Int) := by rw [UInt8.toNat_ofNat']; omega
section
variable {w : World} {B b : Nat} {s : ByteArray} {p most : Nat} {sl : Value} {out : List UInt8} {F : Array Value}
set_option maxHeartbeats 2000000 in
set_option maxRecDepth 100000 in
theorem symbols_any {a d : List Int} {ga gd : Nat} (hs : s.size ≤ 1048576) (hu : U w B b s p most sl out F) (hp : p ≤ 8 * s.size) (hm : most ≤ 262144) (ho : out.length ≤ most) (hta : Tb w a ga) (htd : Tb w d gd)
    (hga : ga ≠ b ∧ sl.ownBlock ≠ some ga) (hgd : gd ≠ b ∧ sl.ownBlock ≠ some gd) :
    Calls Tryd.prog 42 #[.pointer (some ⟨b, 0, none⟩), .agg (cdV a d ga gd)] w (StepPost w B b s most sl F (I.syms a d s most p out)) := by
  obtain ⟨R, hR⟩ : ∃ R, R = I.syms a d s most p out := ⟨_, rfl⟩
  rw [← hR]
  have HU := Lib.hid hu
  go_enter Tryd.func42, Tryd.ntmps42
  go_wp2_with (refine wl_box 45 _ _ rfl rfl rfl ?_; intro W1 b3 B3 l3 k3)
  have HU1 := Lib.hid (hu.keep k3)
  have HB3 := Lib.hid B3
  have HTA := Lib.hid (hta.keep k3)
  have HTD := Lib.hid (htd.keep k3)
  have hb3 := hu.far_blk l3
  have HK0 := Lib.hid (Kp.of_below b sl k3)
  have HST := Lib.hid (⟨hp, ho, hR.symm⟩ : p ≤ 8 * s.size ∧ out.length ≤ most ∧ I.syms a d s most p out = R)
  have HM := Lib.hid hm
  clear hu hta htd k3 l3 B3 hR hp ho hm
  go_loopw [5] (fun _ wr => SyRel W1 B b s most sl F a d R wr) (fun _ wr => 8 * s.size - atOf wr b)
  case atStart => exact ⟨p, sl, out, HU1.out, Kp.refl _ _ _, HST.out.1, HST.out.2.1, HST.out.2.2⟩
  case round =>
    obtain ⟨p2, sl2, o2, hu2, hk2, hp2, ho2, hR2⟩ := hrel
    clear HST HU1
    have HAT := Lib.hid hu2.atOf
    have B3 := hk2.blk HB3.out hb3.1 hb3.2
    have ra := cdV_a B3
    have rd := cdV_d B3
    have hta := hk2.tb HTA.out hga.1 hga.2
    have htd := hk2.tb HTD.out hgd.1 hgd.2
    have fa : ga ≠ b ∧ sl2.ownBlock ≠ some ga := ⟨hga.1, fun e => by
      rcases hk2.own with h | h
      · rw [h] at e; exact hga.2 e
      · have := h ga e; have := HTA.out.1.lt; omega⟩
    have fd : gd ≠ b ∧ sl2.ownBlock ≠ some gd := ⟨hgd.1, fun e => by
      rcases hk2.own with h | h
      · rw [h] at e; exact hgd.2 e
      · have := h gd e; have := HTD.out.1.lt; omega⟩
    have HU2 := Lib.hid hu2
    have HK2 := Lib.hid hk2
    have HBL : Hid (Below B w wr) := Lib.hid ((HK0.out.trans hk2).belowU HU.out)
    have HRR := Lib.hid hR2
    have hq : p2 ≤ 8388608 := by omega
    cases h1 : I.sym a s p2 with
    | error e1 =>
      have HC := Lib.hid (symbol_bad hs hu2 hq hta h1)
      have n0 := (I.sym_err h1).1
      have q0 : ((e1 : Int) != 0) = true := by rw [bne_iff_ne]; omega
      have HE : Hid (R = .error e1) := Lib.hid (by rw [← hR2]; exact I.syms_err (by unfold I.one; rw [h1]))
      clear hu2 hk2 hR2 h1 HRR B3 HTA HTD HB3
      go_wp2_with (first
        | (refine wl_mid 43 17 _ Tryd.underlying43 rfl size27 _ rfl rfl b3 0 rfl _ ra (tbV_size _ _) ?_)
        | (go_at_call 66; refine HC.out.mono ?_; rintro e w4 ⟨rfl, hu4, hk4⟩))
      go_ret
      rw [HE.out]
      exact ⟨rfl, n0, HBL.out.trans (hk4.belowU HU2.out)⟩
    | ok r =>
      obtain ⟨n, p3⟩ := r
      have HC := Lib.hid (symbol_ok hs hu2 hq hta h1)
      have hl3 := I.sym_lt h1
      have hn3 := I.sym_in h1
      have hla := HTA.out.2
      have hn4 : n ≤ 320 := by omega
      by_cases c1 : n < 256
      · have hX8 : IntKind.u8.wrap (n : Int) = (n : Int) := by rw [IntKind.wrap_u8]; omega
        by_cases c2 : o2.length < most
        · have HP := Lib.hid (fun W (hW : U W B b s p3 most sl2 o2 F) => put_ok (UInt8.ofNat n) hW HM.out c2)
          rw [u8_ofNat n c1] at HP
          have hone : I.one a d s most p2 o2 = .ok (false, p3, o2 ++ [UInt8.ofNat n]) := by unfold I.one; rw [h1]; simp only []; rw [if_pos c1, if_pos c2]
          have HE : Hid (I.syms a d s most p3 (o2 ++ [UInt8.ofNat n]) = R) := Lib.hid (by rw [← hR2]; exact (I.syms_more hone ho2).symm)
          have HL : Hid ((o2 ++ [UInt8.ofNat n]).length ≤ most) := Lib.hid (by rw [List.length_append, List.length_singleton]; omega)
          have HQ3 : Hid (p3 ≤ 8 * s.size ∧ p2 < p3) := Lib.hid (by omega)
          clear hu2 hk2 hR2 h1 HRR B3 HTA HTD HB3 hone hl3 hn3 hla c2 ho2
          go_wp2_with (first
            | (refine wl_mid 43 17 _ Tryd.underlying43 rfl size27 _ rfl rfl b3 0 rfl _ ra (tbV_size _ _) ?_)
            | (go_at_call 66; refine HC.out.mono ?_; rintro e w4 ⟨rfl, hu4, hk4⟩)
            | (go_at_call 67; refine (HP.out _ hu4).mono ?_; rintro e w5 ⟨rfl, sl5, hu5, hk5⟩))
          go_roundw
          case rel => exact ⟨p3, sl5, _, hu5, (HK2.out.trans hk4).trans hk5, HQ3.out.1, HL.out, HE.out⟩
          case measure => rw [hu5.atOf, HAT.out]; have := HQ3.out; omega
        · have HP := Lib.hid (fun W (hW : U W B b s p3 most sl2 o2 F) => put_full (UInt8.ofNat n) hW HM.out ho2 c2)
          rw [u8_ofNat n c1] at HP
          have HE : Hid (R = .error 7) := Lib.hid (by rw [← hR2]; exact I.syms_err (by unfold I.one; rw [h1]; simp only []; rw [if_pos c1, if_neg c2]))
          clear hu2 hk2 hR2 h1 HRR B3 HTA HTD HB3 hl3 hn3 hla c2 ho2
          go_wp2_with (first
            | (refine wl_mid 43 17 _ Tryd.underlying43 rfl size27 _ rfl rfl b3 0 rfl _ ra (tbV_size _ _) ?_)
            | (go_at_call 66; refine HC.out.mono ?_; rintro e w4 ⟨rfl, hu4, hk4⟩)
            | (go_at_call 67; refine (HP.out _ hu4).mono ?_; rintro e w5 ⟨rfl, hu5, hk5⟩))
          go_ret
          rw [HE.out]
          exact ⟨rfl, by omega, HBL.out.trans ((hk4.trans hk5).belowU HU2.out)⟩
      · by_cases c2 : n = 256
        · have HE : Hid (R = .ok (p3, o2)) := Lib.hid (by rw [← hR2]; exact I.syms_end (by unfold I.one; rw [h1]; simp only []; rw [if_neg c1, if_pos c2]))
          subst c2
          clear hu2 hk2 hR2 h1 HRR B3 HTA HTD HB3 hl3 hn3 hla ho2
          go_wp2_with (first
            | (refine wl_mid 43 17 _ Tryd.underlying43 rfl size27 _ rfl rfl b3 0 rfl _ ra (tbV_size _ _) ?_)
            | (go_at_call 66; refine HC.out.mono ?_; rintro e w4 ⟨rfl, hu4, hk4⟩))
          go_ret
          rw [HE.out]
          exact ⟨rfl, _, hu4, (HK0.out.trans HK2.out).trans hk4⟩
        · have HSUB : Hid ((n : Int) - 257 = ((n - 257 : Nat) : Int)) := Lib.hid (by omega)
          have hp3 : p3 ≤ 8388608 := by omega
          have RD : Hid (∀ w', Kp b sl2 wr w' sl2 → w'.rangeAt b3 17 (tbV d gd).toList) := Lib.hid fun w' hw' => cdV_d (hw'.blk B3 hb3.1 (fun e => by
            rcases hk2.own with h | h
            · rw [h] at e; exact hb3.2 e
            · have := h b3 e; have := HB3.out.lt; omega))
          cases h4 : I.copy d s most p3 o2 (n - 257) with
          | error e1 =>
            have HP := Lib.hid (fun W (hW : U W B b s p3 most sl2 o2 F) (hT : Tb W d gd) => copied_bad hs hW hp3 HM.out ho2 (by omega) hT fd h4)
            have HE : Hid (R = .error e1) := Lib.hid (by rw [← hR2]; exact I.syms_err (by unfold I.one; rw [h1]; simp only []; rw [if_neg c1, if_neg c2, h4]))
            generalize n - 257 = m at *
            clear hu2 hk2 hR2 h1 HRR B3 HTA HTD HB3 hl3 hn3 hla ho2 h4
            go_upto_region 8 with (first
              | (refine wl_mid 43 17 _ Tryd.underlying43 rfl size27 _ rfl rfl b3 0 rfl _ ra (tbV_size _ _) ?_)
              | (refine wl_mid 43 17 _ Tryd.underlying43 rfl size27 _ rfl rfl b3 17 rfl _ (RD.out _ hk4) (tbV_size _ _) ?_)
              | (go_at_call 66; refine HC.out.mono ?_; rintro e w4 ⟨rfl, hu4, hk4⟩)
              | (go_at_call 68; rw [HSUB.out]; refine (HP.out _ hu4 (hk4.tb htd fd.1 fd.2)).mono ?_; rintro e w5 ⟨rfl, n0, hb5⟩))
            have q0 : ((e1 : Int) != 0) = true := by rw [bne_iff_ne]; omega
            go_wp2
            go_ret
            rw [HE.out]
            exact ⟨rfl, n0, (HBL.out.trans (hk4.belowU HU2.out)).trans hb5⟩
          | ok r =>
            obtain ⟨q5, o5⟩ := r
            have HP := Lib.hid (fun W (hW : U W B b s p3 most sl2 o2 F) (hT : Tb W d gd) => copied_ok hs hW hp3 HM.out ho2 (by omega) hT fd h4)
            have hone : I.one a d s most p2 o2 = .ok (false, q5, o5) := by unfold I.one; rw [h1]; simp only []; rw [if_neg c1, if_neg c2, h4]
            have HE : Hid (I.syms a d s most q5 o5 = R) := Lib.hid (by rw [← hR2]; exact (I.syms_more hone ho2).symm)
            have HQ3 : Hid (p2 < q5 ∧ q5 ≤ 8 * s.size ∧ o5.length ≤ most) := Lib.hid (I.one_lt hone ho2)
            generalize n - 257 = m at *
            clear hu2 hk2 hR2 h1 HRR B3 HTA HTD HB3 hl3 hn3 hla ho2 h4 hone
            go_wp2_with (first
              | (refine wl_mid 43 17 _ Tryd.underlying43 rfl size27 _ rfl rfl b3 0 rfl _ ra (tbV_size _ _) ?_)
              | (refine wl_mid 43 17 _ Tryd.underlying43 rfl size27 _ rfl rfl b3 17 rfl _ (RD.out _ hk4) (tbV_size _ _) ?_)
              | (go_at_call 66; refine HC.out.mono ?_; rintro e w4 ⟨rfl, hu4, hk4⟩)
              | (go_at_call 68; rw [HSUB.out]; refine (HP.out _ hu4 (hk4.tb htd fd.1 fd.2)).mono ?_; rintro e w5 ⟨rfl, sl5, hu5, hk5⟩))
            go_roundw
            case rel => exact ⟨q5, sl5, _, hu5, (HK2.out.trans hk4).trans hk5, HQ3.out.2.1, HQ3.out.2.2, HE.out⟩
            case measure => rw [hu5.atOf, HAT.out]; have := HQ3.out; omega
end
end Go.Proofs.YtddiccdfeckgaaaDoor
/- Layer 5: a stored block. -/
namespace Go.Proofs.YtddiccdfeckgaaaDoor
open Go.RowKit
set_option maxRecDepth 100000
set_option linter.unusedVariables false
theorem i64_xor_nat (a b : Nat) (ha : a < 9223372036854775808) (hb : b < 9223372036854775808) : bits .xor .i64 (a : Int) (b : Int) = ((a ^^^ b : Nat) : Int) := by
  have hx : a ^^^ b < 2 ^ 63 := Nat.xor_lt_two_pow (by omega) (by omega)
  show IntKind.i64.wrap ((BitVec.ofInt 64 (a : Int) ^^^ BitVec.ofInt 64 (b : Int)).toNat : Int) = _
  rw [BitVec.toNat_xor, ofInt_i64 a ha, ofInt_i64 b hb, IntKind.wrap_i64]
  omega
theorem xor16 (n : Nat) (h : n < 65536) : n ^^^ 65535 = 65535 - n := by
  apply Nat.eq_of_testBit_eq
  intro i
  have e1 := Nat.testBit_two_pow_sub_succ (x := n) (n := 16) (by omega) i
  have e2 := Nat.testBit_two_pow_sub_one 16 i
  rw [Nat.testBit_xor, show (65535 : Nat) = 2 ^ 16 - 1 by decide, e2, show 2 ^ 16 - 1 - n = 2 ^ 16 - (n + 1) by omega, e1]
  by_cases hi : i < 16
  · simp [hi]
  · have : n.testBit i = false := Nat.testBit_lt_two_pow (Nat.lt_of_lt_of_le h (by have := Nat.pow_le_pow_right (n := 2) (by omega) (show 16 ≤ i by omega); omega))
    simp [hi, this]
theorem xor_eq (n : Nat) (h : n < 65536) : bits .xor .i64 (n : Int) 65535 = ((65535 - n : Nat) : Int) := by
  have e := i64_xor_nat n 65535 (by omega) (by omega)
  rw [xor16 n h] at e
  exact e
theorem I.num_16 {s : ByteArray} {p v q : Nat} (h : I.num s p 16 = .ok (v, q)) : v < 65536 ∧ q = p + 16 ∧ q ≤ 8 * s.size := by
  have a4 := nb_lt s p 16
  have a5 : B.P2 16 = 65536 := rfl
  obtain ⟨h1, h2, h3⟩ := I.num_ok h
  omega
theorem ext_list (s : ByteArray) (f n : Nat) (h : f + n ≤ s.size) : (s.extract f (f + n)).data.toList = (s.data.toList.drop f).take n := by
  rw [ByteArray.data_extract]
  simp
section
variable {w : World} {B b : Nat} {s : ByteArray} {p most : Nat} {sl : Value} {out : List UInt8} {F : Array Value}
set_option maxHeartbeats 2000000 in
set_option maxRecDepth 100000 in
theorem stored_any (hs : s.size ≤ 1048576) (hu : U w B b s p most sl out F) (hp : p ≤ 8 * s.size) (hm : most ≤ 262144) (ho : out.length ≤ most) :
    Calls Tryd.prog 41 #[.pointer (some ⟨b, 0, none⟩)] w (StepPost w B b s most sl F (I.stored s most p out)) := by
  obtain ⟨R, hR⟩ : ∃ R, R = I.stored s most p out := ⟨_, rfl⟩
  rw [← hR]
  have HU := Lib.hid hu
  have hal : I.al p ≤ 8388616 := by unfold I.al; omega
  have hal2 : I.al p % 8 = 0 := by unfold I.al; omega
  have HAL := Lib.hid (fun W (hW : U W B b s p most sl out F) => align_any hW (by omega))
  unfold I.stored at hR
  generalize hqe : I.al p = q at *
  clear hu hqe
  have n1 : 16 ≤ 16 := Nat.le_refl _
  cases h1 : I.num s q 16 with
  | error e1 =>
    have n0 : e1 ≠ 0 := by have := (I.num_err h1).1; omega
    have q0 : ((e1 : Int) != 0) = true := by rw [bne_iff_ne]; omega
    have HN : Hid (∀ W, U W B b s q most sl out F → Calls Tryd.prog 40 #[.pointer (some ⟨b, 0, none⟩), .int .i64 16] W fun e w' => e = .returned (.tuple #[.int .i64 0, .int .i64 (e1 : Int)]) ∧ U w' B b s q most sl out F ∧ Kp b sl W w' sl) := Lib.hid fun W hW => number_bad hs hW (by omega) (n := 16) n1 h1
    rw [h1] at hR
    have HE := Lib.hid hR
    clear h1 hR
    go_enter Tryd.func41, Tryd.ntmps41
    go_wp2_with (first
      | (go_at_call 18; refine (HAL.out _ HU.out).mono ?_; rintro e w2 ⟨rfl, hu2, hk2⟩)
      | (go_at_call 40; refine (HN.out _ hu2).mono ?_; rintro e w3 ⟨rfl, hu3, hk3⟩))
    go_ret
    rw [HE.out]
    exact ⟨rfl, n0, (hk2.trans hk3).belowU HU.out⟩
  | ok r1 =>
  obtain ⟨n, p1⟩ := r1
  obtain ⟨a1, a2, a3⟩ := I.num_16 h1
  have HN : Hid (∀ W, U W B b s q most sl out F → Calls Tryd.prog 40 #[.pointer (some ⟨b, 0, none⟩), .int .i64 16] W fun e w' => e = .returned (.tuple #[.int .i64 (n : Int), .int .i64 0]) ∧ U w' B b s p1 most sl out F ∧ Kp b sl W w' sl) := Lib.hid fun W hW => number_ok hs hW (by omega) (n := 16) n1 h1
  rw [h1] at hR
  simp only [] at hR
  clear h1
  cases h2 : I.num s p1 16 with
  | error e1 =>
    have n0 : e1 ≠ 0 := by have := (I.num_err h2).1; omega
    have q0 : ((e1 : Int) != 0) = true := by rw [bne_iff_ne]; omega
    have HN2 : Hid (∀ W, U W B b s p1 most sl out F → Calls Tryd.prog 40 #[.pointer (some ⟨b, 0, none⟩), .int .i64 16] W fun e w' => e = .returned (.tuple #[.int .i64 0, .int .i64 (e1 : Int)]) ∧ U w' B b s p1 most sl out F ∧ Kp b sl W w' sl) := Lib.hid fun W hW => number_bad hs hW (by omega) (n := 16) n1 h2
    rw [h2] at hR
    have HE := Lib.hid hR
    clear h2 hR
    go_enter Tryd.func41, Tryd.ntmps41
    go_upto_region 3 with (first
      | (go_at_call 18; refine (HAL.out _ HU.out).mono ?_; rintro e w2 ⟨rfl, hu2, hk2⟩)
      | (go_at_call 40; refine (HN.out _ hu2).mono ?_; rintro e w3 ⟨rfl, hu3, hk3⟩))
    go_wp2_with (go_at_call 40; refine (HN2.out _ hu3).mono ?_; rintro e w4 ⟨rfl, hu4, hk4⟩)
    go_ret
    rw [HE.out]
    exact ⟨rfl, n0, ((hk2.trans hk3).trans hk4).belowU HU.out⟩
  | ok r2 =>
  obtain ⟨m, p2⟩ := r2
  obtain ⟨c1, c2, c3⟩ := I.num_16 h2
  have HN2 : Hid (∀ W, U W B b s p1 most sl out F → Calls Tryd.prog 40 #[.pointer (some ⟨b, 0, none⟩), .int .i64 16] W fun e w' => e = .returned (.tuple #[.int .i64 (m : Int), .int .i64 0]) ∧ U w' B b s p2 most sl out F ∧ Kp b sl W w' sl) := Lib.hid fun W hW => number_ok hs hW (by omega) (n := 16) n1 h2
  rw [h2] at hR
  simp only [] at hR
  clear h2
  have hxe := xor_eq n a1
  by_cases d1 : m ≠ 65535 - n
  · have q1 : (((m : Int)) != bits BinOp.xor IntKind.i64 (n : Int) 65535) = true := by rw [hxe, bne_iff_ne]; omega
    rw [if_pos d1] at hR
    have HE := Lib.hid hR
    clear hR d1 hxe
    go_enter Tryd.func41, Tryd.ntmps41
    go_upto_region 3 with (first
      | (go_at_call 18; refine (HAL.out _ HU.out).mono ?_; rintro e w2 ⟨rfl, hu2, hk2⟩)
      | (go_at_call 40; refine (HN.out _ hu2).mono ?_; rintro e w3 ⟨rfl, hu3, hk3⟩))
    go_wp2_with (go_at_call 40; refine (HN2.out _ hu3).mono ?_; rintro e w4 ⟨rfl, hu4, hk4⟩)
    go_ret
    rw [HE.out]
    exact ⟨rfl, by omega, ((hk2.trans hk3).trans hk4).belowU HU.out⟩
  have q1 : (((m : Int)) != bits BinOp.xor IntKind.i64 (n : Int) 65535) = false := by rw [hxe, bne_eq_false_iff_eq]; omega
  rw [if_neg d1] at hR
  clear d1 hxe
  obtain ⟨L, hL⟩ : ∃ L, L = out.length := ⟨_, rfl⟩
  have HRM := Lib.hid (fun W (hW : U W B b s p2 most sl out F) => room_any hW hm ho)
  rw [← hL] at HRM hR ho
  have HLL := Lib.hid hL
  clear hL
  by_cases d2 : most < L + n
  · rw [if_pos d2] at hR
    have HE := Lib.hid hR
    clear hR
    go_enter Tryd.func41, Tryd.ntmps41
    go_upto_region 3 with (first
      | (go_at_call 18; refine (HAL.out _ HU.out).mono ?_; rintro e w2 ⟨rfl, hu2, hk2⟩)
      | (go_at_call 40; refine (HN.out _ hu2).mono ?_; rintro e w3 ⟨rfl, hu3, hk3⟩))
    go_wp2_with (first
      | (go_at_call 40; refine (HN2.out _ hu3).mono ?_; rintro e w4 ⟨rfl, hu4, hk4⟩)
      | (go_at_call 65; refine (HRM.out _ hu4).mono ?_; rintro e w5 ⟨rfl, nq, rfl⟩))
    go_ret
    rw [HE.out]
    exact ⟨rfl, by omega, (((hk2.trans hk3).trans hk4).trans (Kp.of_below b sl (bq_drewN (bq_refl w4) nq))).belowU HU.out⟩
  rw [if_neg d2] at hR
  have hdiv : ((p2 : Int) / 8) = ((p2 / 8 : Nat) : Int) := by omega
  have hp28 : p2 % 8 = 0 := by omega
  by_cases d3 : s.size < p2 / 8 + n
  · rw [if_pos d3] at hR
    have HE := Lib.hid hR
    clear hR hdiv
    go_enter Tryd.func41, Tryd.ntmps41
    go_upto_region 3 with (first
      | (go_at_call 18; refine (HAL.out _ HU.out).mono ?_; rintro e w2 ⟨rfl, hu2, hk2⟩)
      | (go_at_call 40; refine (HN.out _ hu2).mono ?_; rintro e w3 ⟨rfl, hu3, hk3⟩))
    go_upto_region 12 with (first
      | (go_at_call 40; refine (HN2.out _ hu3).mono ?_; rintro e w4 ⟨rfl, hu4, hk4⟩)
      | (go_at_call 65; refine (HRM.out _ hu4).mono ?_; rintro e w5 ⟨rfl, nq, rfl⟩))
    have HK5 := Lib.hid (((hk2.trans hk3).trans hk4).trans (Kp.of_below b sl (bq_drewN (bq_refl w4) nq)))
    have hu5 := hu4.drewN nq
    have c1' := hu5.c1
    have c0' := hu5.c0
    generalize w4.drewN nq = w5 at *
    clear hu2 hk2 hu3 hk3 hu4 hk4 hu5 HRM HN HN2 HAL
    go_wp2
    go_ret
    rw [HE.out]
    exact ⟨rfl, by omega, HK5.out.belowU HU.out⟩
  rw [if_neg d3] at hR
  have HE := Lib.hid hR
  obtain ⟨f, hf⟩ : ∃ f, f = p2 / 8 := ⟨_, rfl⟩
  rw [← hf] at d3 HE hdiv
  have HTL := Lib.hid (ext_list s f n (by omega))
  have htsz : (s.extract f (f + n)).size = n := by rw [ByteArray.size_extract]; omega
  have HOH : Hid (out.length + (s.extract f (f + n)).size ≤ 262144) := Lib.hid (by rw [htsz, ← HLL.out]; omega)
  have hp2e : p2 = 8 * f := by omega
  clear hR hf
  go_enter Tryd.func41, Tryd.ntmps41
  go_upto_region 3 with (first
    | (go_at_call 18; refine (HAL.out _ HU.out).mono ?_; rintro e w2 ⟨rfl, hu2, hk2⟩)
    | (go_at_call 40; refine (HN.out _ hu2).mono ?_; rintro e w3 ⟨rfl, hu3, hk3⟩))
  go_upto_region 12 with (first
    | (go_at_call 40; refine (HN2.out _ hu3).mono ?_; rintro e w4 ⟨rfl, hu4, hk4⟩)
    | (go_at_call 65; refine (HRM.out _ hu4).mono ?_; rintro e w5 ⟨rfl, nq, rfl⟩))
  have HK5 := Lib.hid (((hk2.trans hk3).trans hk4).trans (Kp.of_below b sl (bq_drewN (bq_refl w4) nq)))
  have hu5 := hu4.drewN nq
  have c1' := hu5.c1
  have c0' := hu5.c0
  have c3' := hu5.c3
  generalize w4.drewN nq = w5 at *
  obtain ⟨aa, nn, cc, w6, hrun, d3', f3', HF⟩ := str_run hu5 (bq_drew (bq_refl w5)) (s.extract f (f + n)) HOH 36
  have HRUN := Lib.hid hrun
  obtain ⟨t, htt⟩ : ∃ t, t = f + n := ⟨_, rfl⟩
  have hw64 : IntKind.i64.wrap ((f : Int) + (n : Int)) = (t : Int) := by rw [i64_wrap _ (by omega) (by omega)]; omega
  rw [← htt] at HRUN HF HTL
  have t0 : (0 : Int) ≤ (t : Int) := by omega
  have t1 : (t : Int) ≤ (s.size : Int) := by omega
  have t2 : (f : Int) ≤ (t : Int) := by omega
  have t3 : f ≤ t := by omega
  have t4 : t ≤ s.size := by omega
  clear hu2 hk2 hu3 hk3 hu4 hk4 hu5 HRM HN HN2 HAL hrun htsz HOH htt d2 hm ho q1 hal hal2 a2 a3 c2 c3
  go_upto_region 15 with (fail)
  go_region_law (refine step_append_run (by rfl) _ _ (by rfl) (by rfl) (by rfl) HRUN.out ?_)
  all_goals
    have HF2 := HF
    generalize w6.setCell ⟨b, 3, none⟩ (.slice aa nn cc) = w7 at HF2 ⊢
    have e1' := HF2.out.1.c1
    have g1' := HF2.out.1.f 1
    have HP8 : Hid ((8 * (f : Int) + 8 * (n : Int)) = ((p2 + 8 * n : Nat) : Int)) := Lib.hid (by omega)
    go_wp2
    rw [HP8.out]
    go_ret
    rw [HE.out]
    exact ⟨rfl, _, by rw [← HTL.out]; exact HF2.out.1.set1 _, (HK5.out.trans HF2.out.2).trans (Kp.set b _ w7 1 _)⟩
end
end Go.Proofs.YtddiccdfeckgaaaDoor
