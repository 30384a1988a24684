import Derived.Test.YtddiccdfeckgaaaDoorZC
/- Layer 5: the codes of two lists of lengths. -/
namespace Go.Proofs.YtddiccdfeckgaaaDoor
open Go.RowKit
set_option maxRecDepth 100000
set_option linter.unusedVariables false
theorem Turned.below' {B g : Nat} {a w w' : World} (h : Turned g w w') (hb : Below B a w) (hg : B ≤ g) : Below B a w' :=
  hb.trans ⟨h.os, h.tape, h.output, Nat.le_of_eq h.size.symm, fun k hk => h.block k (by omega)⟩
theorem U.turned {w w' : World} {B b g : Nat} {s : ByteArray} {p most : Nat} {sl : Value} {out : List UInt8} {F : Array Value} (h : U w B b s p most sl out F) (t : Turned g w w') (h1 : g ≠ b) (h2 : sl.ownBlock ≠ some g) (h3 : B ≤ g) : U w' B b s p most sl out F :=
  ⟨t.blk h.blk (Ne.symm h1), h.own.kept (row := some g) ⟨t.os, t.tape, t.output, Nat.le_of_eq t.size.symm, fun k _ hk => t.block k (fun e => hk (by rw [e]))⟩ (Or.inr h2), h.far, h.base, h.four, h.glob.keep (t.below' (Below.refl B w) h3) h.four⟩
theorem Kp.turned {b g : Nat} {sl sl' : Value} {w w' w'' : World} (h : Kp b sl w w' sl') (t : Turned g w' w'') (hg : w.heap.size ≤ g) : Kp b sl w w'' sl' :=
  ⟨t.os.trans h.os, t.tape.trans h.tape, t.output.trans h.output, by rw [t.size]; exact h.size, fun k hk h1 h2 => by rw [t.block k (by omega)]; exact h.block k hk h1 h2, h.own⟩
def zeroC : Array Value := tabA (fun _ => 0) none 0 ++ tabA (fun _ => 0) none 0
theorem zeroC_size : zeroC.size = 34 := by unfold zeroC; rw [Array.size_append, tabA_size]
theorem tbV_one (zs : List Int) (g : Nat) : (tbV zs g).all (·.oneCell') = true := tabA_one _ _ _
theorem zeroC_one : zeroC.all (·.oneCell') = true := by unfold zeroC; rw [Array.all_append, tabA_one]; rfl
theorem cdV_one (a d : List Int) (ga gd : Nat) : (cdV a d ga gd).all (·.oneCell') = true := by unfold cdV; rw [Array.all_append, tbV_one, tbV_one]; rfl
theorem size47 : (Tryd.prog.info? 45).map (·.size) = some 34 := by kernel_rfl
theorem zero47 (w : World) : (zeroValue 45).run Tryd.prog w = .ok (.agg zeroC) w := Tryd.zeroValue45 w
theorem built47 (a d : List Int) (ga gd : Nat) : Tryd.prog.built 45 [(0, .agg (tbV a ga)), (1, .agg (tbV d gd))] = some (cdV a d ga gd) := by kernel_rfl
/-- what made tells of two lists that may be tables -/
def MadePost (a d : List Int) (w : World) (e : Ending) (w' : World) : Prop :=
  ∃ ga gd, w.heap.size ≤ ga ∧ w.heap.size ≤ gd ∧ Tb w' a ga ∧ Tb w' d gd ∧ e = .returned (.tuple #[.agg (cdV a d ga gd), .int .i64 0]) ∧ Below w.heap.size w w'
set_option maxHeartbeats 1000000 in
theorem made_bad1 (a d : List Int) (aa ad : Option Addr) (ba oa bd od ca cd n : Nat) (w : World) (hla : a.length ≤ 1000) (ha : Hid (Ints w a aa ba oa)) (he : errN a = n) (h0 : n ≠ 0) :
    Calls Tryd.prog 39 #[.slice aa a.length ca, .slice ad d.length cd] w fun e w' => e = .returned (.tuple #[.agg zeroC, .int .i64 (n : Int)]) ∧ Below w.heap.size w w' := by
  have hn : n = 1 ∨ n = 4 := by have := errN_cases a; omega
  have HC := Lib.hid (fun W (h : Below w.heap.size w W) => new_bad a aa ba oa ca n W (by omega) (Lib.hid (ha.out.keep h)) he hn)
  have q : ((n : Int) != 0) = true := by rw [bne_iff_ne]; omega
  clear he ha
  go_enter Tryd.func39, Tryd.ntmps39
  go_wp2_with (first
    | (refine wl_alloc 45 _ zero47 rfl rfl ?_; intro W0 b0 B0 l0 k0)
    | (go_at_call 63; refine (HC.out _ k0).mono ?_; rintro e w5 ⟨rfl, hb5⟩)
    | (refine wl_alloc 43 _ zero27 rfl rfl ?_; intro W1 b1 B1 l1 k1)
    | (refine wl_store 43 17 size27 _ _ rfl rfl _ rfl (tabA (fun _ => 0) none 0) rfl _ _ B1 (tabA_size _ _ _) (tabA_size _ _ _) (tabA_one _ _ _) ?_; intro W5 hB5 hT5)
    | (refine wl_store 45 34 size47 _ _ rfl rfl _ rfl zeroC rfl _ _ (hT5.blk ((B0.keep hb5).keep k1) (by have := (B0.keep hb5).lt; omega)) zeroC_size zeroC_size zeroC_one ?_; intro W6 hB6 hT6))
  exact post_cell_tmp (v := .int .i64 (n : Int)) Tryd.underlying45 rfl size47 Tryd.results39 hB6 zeroC_size rfl rfl rfl ⟨rfl, hT6.below (hT5.below (bq_trans (bq_trans k0 hb5) k1) (by have := hb5.size; have := k0.size; omega)) l0⟩
set_option maxHeartbeats 1000000 in
theorem made_bad2 (a d : List Int) (aa ad : Option Addr) (ba oa bd od ca cd n : Nat) (w : World) (hld : d.length ≤ 1000) (ha : Hid (Ints w a aa ba oa)) (hd : Hid (Ints w d ad bd od)) (hea : errN a = 0) (he : errN d = n) (h0 : n ≠ 0) :
    Calls Tryd.prog 39 #[.slice aa a.length ca, .slice ad d.length cd] w fun e w' => e = .returned (.tuple #[.agg zeroC, .int .i64 (n : Int)]) ∧ Below w.heap.size w w' := by
  have hn : n = 1 ∨ n = 4 := by have := errN_cases d; omega
  have HA := Lib.hid (fun W (h : Below w.heap.size w W) => new_ok a aa ba oa ca W (Lib.hid (ha.out.keep h)) hea)
  have HC := Lib.hid (fun W (h : Below w.heap.size w W) => new_bad d ad bd od cd n W (by omega) (Lib.hid (hd.out.keep h)) he hn)
  have q : ((n : Int) != 0) = true := by rw [bne_iff_ne]; omega
  clear he ha hd hea
  go_enter Tryd.func39, Tryd.ntmps39
  go_upto_region 2 with (first
    | (refine wl_alloc 45 _ zero47 rfl rfl ?_; intro W0 b0 B0 l0 k0)
    | (go_at_call 63; refine (HA.out _ k0).mono ?_; rintro e w5 ⟨ga, lga, Ba, rfl, hb5⟩)
    | (refine wl_alloc 43 _ zero27 rfl rfl ?_; intro W1 b1 B1 l1 k1)
    | (refine wl_store 43 17 size27 _ _ rfl rfl _ rfl _ rfl _ _ B1 (tabA_size _ _ _) (tabA_size _ _ _) (tabA_one _ _ _) ?_; intro W5 hB5 hT5))
  have C0 := hT5.blk ((B0.keep hb5).keep k1) (by have := (B0.keep hb5).lt; omega)
  have H5 := Lib.hid (hT5.below (bq_trans (bq_trans k0 hb5) k1) (by have := hb5.size; have := k0.size; omega))
  clear B0 k0 hb5 B1 l1 k1 hT5 hB5 Ba HA
  go_wp2_with (first
    | (go_at_call 63; refine (HC.out _ H5.out).mono ?_; rintro e w7 ⟨rfl, hb7⟩)
    | (refine wl_alloc 43 _ zero27 rfl rfl ?_; intro W8 b8 B8 l8 k8)
    | (refine wl_store 43 17 size27 _ _ rfl rfl _ rfl (tabA (fun _ => 0) none 0) rfl _ _ B8 (tabA_size _ _ _) (tabA_size _ _ _) (tabA_one _ _ _) ?_; intro W9 hB9 hT9)
    | (refine wl_store 45 34 size47 _ _ rfl rfl _ rfl zeroC rfl _ _ (hT9.blk ((C0.keep hb7).keep k8) (by have := (C0.keep hb7).lt; omega)) zeroC_size zeroC_size zeroC_one ?_; intro W6 hB6 hT6))
  exact post_cell_tmp (v := .int .i64 (n : Int)) Tryd.underlying45 rfl size47 Tryd.results39 hB6 zeroC_size rfl rfl rfl ⟨rfl, hT6.below (hT9.below (bq_trans (bq_trans H5.out hb7) k8) (by have := hb7.size; have := H5.out.size; omega)) l0⟩
set_option maxHeartbeats 1000000 in
theorem made_ok (a d : List Int) (aa ad : Option Addr) (ba oa bd od ca cd : Nat) (w : World) (ha : Hid (Ints w a aa ba oa)) (hd : Hid (Ints w d ad bd od)) (hea : errN a = 0) (hed : errN d = 0) :
    Calls Tryd.prog 39 #[.slice aa a.length ca, .slice ad d.length cd] w fun e w' => MadePost a d w e w' := by
  have HA := Lib.hid (fun W (h : Below w.heap.size w W) => new_ok a aa ba oa ca W (Lib.hid (ha.out.keep h)) hea)
  have HC := Lib.hid (fun W (h : Below w.heap.size w W) => new_ok d ad bd od cd W (Lib.hid (hd.out.keep h)) hed)
  have hla := (errN_ok hea).1
  have hld := (errN_ok hed).1
  clear ha hd hea hed
  go_enter Tryd.func39, Tryd.ntmps39
  go_upto_region 2 with (first
    | (refine wl_alloc 45 _ zero47 rfl rfl ?_; intro W0 b0 B0 l0 k0)
    | (go_at_call 63; refine (HA.out _ k0).mono ?_; rintro e w5 ⟨ga, lga, Ba, rfl, hb5⟩)
    | (refine wl_alloc 43 _ zero27 rfl rfl ?_; intro W1 b1 B1 l1 k1)
    | (refine wl_store 43 17 size27 _ _ rfl rfl _ rfl _ rfl _ _ B1 (tabA_size _ _ _) (tabA_size _ _ _) (tabA_one _ _ _) ?_; intro W5 hB5 hT5))
  have y1 := B0.lt
  have y2 := Ba.lt
  have y3 := k0.size
  have y4 := hb5.size
  have y5 := k1.size
  have y6 := hT5.size
  have C0 := hT5.blk ((B0.keep hb5).keep k1) (by omega)
  have Ca := hT5.blk (Ba.keep k1) (by omega)
  have H5 := Lib.hid (hT5.below (bq_trans (bq_trans k0 hb5) k1) (by omega))
  have g0 : w.heap.size ≤ b0 := l0
  have ga0 : w.heap.size ≤ ga := by omega
  have m0 : b0 ≠ b1 := by omega
  have m1 : b0 ≠ ga := by omega
  have z5 : b1 < W5.heap.size := hB5.lt
  clear B0 k0 hb5 B1 l1 k1 hT5 Ba HA y1 y2 y3 y4 y5 y6 l0 lga
  go_upto_region 5 with (first
    | (go_at_call 63; refine (HC.out _ H5.out).mono ?_; rintro e w7 ⟨gd, lgd, Bd, rfl, hb7⟩)
    | (refine wl_alloc 43 _ zero27 rfl rfl ?_; intro W8 b8 B8 l8 k8)
    | (refine wl_store 43 17 size27 _ _ rfl rfl _ rfl _ rfl _ _ B8 (tabA_size _ _ _) (tabA_size _ _ _) (tabA_one _ _ _) ?_; intro W9 hB9 hT9))
  have y1 := C0.lt
  have y2 := Bd.lt
  have y3 := hb7.size
  have y4 := k8.size
  have y7 := H5.out.size
  have y8 := Ca.lt
  have D0 := hT9.blk ((C0.keep hb7).keep k8) (by omega)
  have Da := hT9.blk ((Ca.keep hb7).keep k8) (by omega)
  have Dt := hT9.blk ((hB5.keep hb7).keep k8) (by omega)
  have Dd := hT9.blk (Bd.keep k8) (by omega)
  have H9 := Lib.hid (hT9.below (bq_trans (bq_trans H5.out hb7) k8) (by omega))
  have gd0 : w.heap.size ≤ gd := by omega
  have m3 : b0 ≠ gd := by omega
  clear C0 Ca hB5 hb7 k8 hT9 Bd B8 H5 HC y1 y2 y3 y4 y7 y8 l8 lgd
  go_wp2_with (first
    | (refine wl_load 43 17 _ Tryd.underlying43 rfl size27 _ rfl rfl _ rfl _ _ Dt (tabA_size _ _ _) ?_)
    | (refine wl_load 43 17 _ Tryd.underlying43 rfl size27 _ rfl rfl _ rfl _ _ hB9 (tabA_size _ _ _) ?_)
    | (refine wlg_build 45 _ _ (built47 a d ga gd) _ rfl rfl rfl ?_)
    | (refine wl_store 45 34 size47 _ _ rfl rfl _ rfl (cdV a d ga gd) rfl _ _ D0 zeroC_size (cdV_size _ _ _ _) (cdV_one _ _ _ _) ?_; intro W6 hB6 hT6))
  exact post_cell_tmp (v := .int .i64 0) Tryd.underlying45 rfl size47 Tryd.results39 hB6 (cdV_size _ _ _ _) rfl rfl rfl
    ⟨ga, gd, ga0, gd0, ⟨hT6.blk Da (Ne.symm m1), hla⟩, ⟨hT6.blk Dd (Ne.symm m3), hld⟩, rfl, hT6.below H9.out g0⟩
end Go.Proofs.YtddiccdfeckgaaaDoor
/- Layer 5: the numbers of a block with codes of its own; the codes of its lengths. -/
namespace Go.Proofs.YtddiccdfeckgaaaDoor
open Go.RowKit
set_option maxRecDepth 100000
set_option linter.unusedVariables false
theorem I.num_5 {s : ByteArray} {p v q : Nat} (h : I.num s p 5 = .ok (v, q)) : v < 32 ∧ q ≤ 8 * s.size := ⟨I.num_32 h (by omega), by have := I.num_ok h; omega⟩
theorem I.num_4 {s : ByteArray} {p v q : Nat} (h : I.num s p 4 = .ok (v, q)) : v < 16 ∧ q ≤ 8 * s.size := by
  have a4 := nb_lt s p 4
  have a5 : B.P2 4 = 16 := rfl
  have := I.num_ok h
  omega
theorem I.num_3 {s : ByteArray} {p v q : Nat} (h : I.num s p 3 = .ok (v, q)) : v < 8 ∧ q ≤ 8 * s.size := by
  have a4 := nb_lt s p 3
  have a5 : B.P2 3 = 8 := rfl
  have := I.num_ok h
  omega
theorem cells3_one (x y z : Int) : (#[.int .i64 x, .int .i64 y, .int .i64 z] : Array Value).all (·.oneCell') = true := by simp [Value.oneCell']
theorem size115 : (Tryd.prog.info? 140).map (·.size) = some 3 := by kernel_rfl
section
variable {w : World} {B b : Nat} {s : ByteArray} {p most : Nat} {sl : Value} {out : List UInt8} {F : Array Value}
set_option maxHeartbeats 1000000 in
set_option maxRecDepth 100000 in
theorem counts_any (hs : s.size ≤ 1048576) (hu : U w B b s p most sl out F) (hp : p ≤ 8 * s.size) :
    Calls Tryd.prog 86 #[.pointer (some ⟨b, 0, none⟩)] w fun e w' => match I.cnts s p with
      | .ok ((x, y, z), q) => e = .returned (.tuple #[.agg #[.int .i64 ((x + 257 : Nat) : Int), .int .i64 ((y + 1 : Nat) : Int), .int .i64 ((z + 4 : Nat) : Int)], .int .i64 0]) ∧ U w' B b s q most sl out F ∧ Kp b sl w w' sl
      | .error e0 => e = .returned (.tuple #[.agg #[.int .i64 0, .int .i64 0, .int .i64 0], .int .i64 (e0 : Int)]) ∧ e0 ≠ 0 ∧ Kp b sl w w' sl := by
  have HU := Lib.hid hu
  cases h1 : I.num s p 5 with
  | error e1 =>
    have hR : I.cnts s p = .error e1 := by unfold I.cnts; rw [h1]
    rw [hR]
    have n0 : e1 ≠ 0 := by have := (I.num_err h1).1; omega
    have q0 : ((e1 : Int) != 0) = true := by rw [bne_iff_ne]; omega
    have H1 := Lib.hid (fun W (hW : U W B b s p most sl out F) => within_bad (l := 257) hs hW (by omega) (by omega) h1)
    clear hu h1 hR
    go_enter Tryd.func86, Tryd.ntmps86
    go_wp2_with (first
      | (refine wl_alloc 140 _ Tryd.zeroValue140 rfl rfl ?_; intro W0 b0 B0 l0 k0)
      | (go_at_call 84; refine (H1.out _ (HU.out.keep k0)).mono ?_; rintro e w2 ⟨rfl, hu2, hk2⟩)
      | (refine wl_store 140 3 size115 _ _ rfl rfl _ rfl _ rfl _ _ (hk2.blk B0 (HU.out.far_blk l0).1 (HU.out.far_blk l0).2) rfl rfl (cells3_one _ _ _) ?_; intro W6 hB6 hT6))
    exact post_cell_tmp (v := .int .i64 (e1 : Int)) Tryd.underlying140 rfl size115 Tryd.results86 hB6 rfl rfl rfl rfl
      ⟨rfl, n0, ((Kp.of_below b sl k0).trans hk2).turned hT6 l0⟩
  | ok r1 =>
  obtain ⟨x, p1⟩ := r1
  obtain ⟨x1, x2⟩ := I.num_5 h1
  have H1 := Lib.hid (fun W (hW : U W B b s p most sl out F) => within_ok (l := 257) hs hW (by omega) (by omega) (by omega) h1)
  cases h2 : I.num s p1 5 with
  | error e1 =>
    have hR : I.cnts s p = .error e1 := by unfold I.cnts; rw [h1]; simp only []; rw [h2]
    rw [hR]
    have n0 : e1 ≠ 0 := by have := (I.num_err h2).1; omega
    have q0 : ((e1 : Int) != 0) = true := by rw [bne_iff_ne]; omega
    have H2 := Lib.hid (fun W (hW : U W B b s p1 most sl out F) => within_bad (l := 1) hs hW (by omega) (by omega) h2)
    clear hu h1 hR h2
    go_enter Tryd.func86, Tryd.ntmps86
    go_upto_region 2 with (first
      | (refine wl_alloc 140 _ Tryd.zeroValue140 rfl rfl ?_; intro W0 b0 B0 l0 k0)
      | (go_at_call 84; refine (H1.out _ (HU.out.keep k0)).mono ?_; rintro e w2 ⟨rfl, hu2, hk2⟩))
    go_wp2_with (first
      | (go_at_call 84; refine (H2.out _ hu2).mono ?_; rintro e w3 ⟨rfl, hu3, hk3⟩)
      | (refine wl_store 140 3 size115 _ _ rfl rfl _ rfl _ rfl _ _ ((hk2.trans hk3).blk B0 (HU.out.far_blk l0).1 (HU.out.far_blk l0).2) rfl rfl (cells3_one _ _ _) ?_; intro W6 hB6 hT6))
    exact post_cell_tmp (v := .int .i64 (e1 : Int)) Tryd.underlying140 rfl size115 Tryd.results86 hB6 rfl rfl rfl rfl
      ⟨rfl, n0, ((Kp.of_below b sl k0).trans (hk2.trans hk3)).turned hT6 l0⟩
  | ok r2 =>
  obtain ⟨y, p2⟩ := r2
  obtain ⟨y1, y2⟩ := I.num_5 h2
  have H2 := Lib.hid (fun W (hW : U W B b s p1 most sl out F) => within_ok (l := 1) hs hW (by omega) (by omega) (by omega) h2)
  cases h3 : I.num s p2 4 with
  | error e1 =>
    have hR : I.cnts s p = .error e1 := by unfold I.cnts; rw [h1]; simp only []; rw [h2]; simp only []; rw [h3]
    rw [hR]
    have n0 : e1 ≠ 0 := by have := (I.num_err h3).1; omega
    have q0 : ((e1 : Int) != 0) = true := by rw [bne_iff_ne]; omega
    have H3 := Lib.hid (fun W (hW : U W B b s p2 most sl out F) => within_bad (l := 4) hs hW (by omega) (by omega) h3)
    clear hu h1 hR h2 h3
    go_enter Tryd.func86, Tryd.ntmps86
    go_upto_region 2 with (first
      | (refine wl_alloc 140 _ Tryd.zeroValue140 rfl rfl ?_; intro W0 b0 B0 l0 k0)
      | (go_at_call 84; refine (H1.out _ (HU.out.keep k0)).mono ?_; rintro e w2 ⟨rfl, hu2, hk2⟩))
    go_upto_region 5 with (go_at_call 84; refine (H2.out _ hu2).mono ?_; rintro e w3 ⟨rfl, hu3, hk3⟩)
    go_wp2_with (first
      | (go_at_call 84; refine (H3.out _ hu3).mono ?_; rintro e w4 ⟨rfl, hu4, hk4⟩)
      | (refine wl_store 140 3 size115 _ _ rfl rfl _ rfl _ rfl _ _ (((hk2.trans hk3).trans hk4).blk B0 (HU.out.far_blk l0).1 (HU.out.far_blk l0).2) rfl rfl (cells3_one _ _ _) ?_; intro W6 hB6 hT6))
    exact post_cell_tmp (v := .int .i64 (e1 : Int)) Tryd.underlying140 rfl size115 Tryd.results86 hB6 rfl rfl rfl rfl
      ⟨rfl, n0, ((Kp.of_below b sl k0).trans ((hk2.trans hk3).trans hk4)).turned hT6 l0⟩
  | ok r3 =>
  obtain ⟨z, p3⟩ := r3
  obtain ⟨z1, z2⟩ := I.num_4 h3
  have H3 := Lib.hid (fun W (hW : U W B b s p2 most sl out F) => within_ok (l := 4) hs hW (by omega) (by omega) (by omega) h3)
  by_cases c : 29 < x ∨ 29 < y
  · have hR : I.cnts s p = .error 3 := by unfold I.cnts; rw [h1]; simp only []; rw [h2]; simp only []; rw [h3]; simp only []; rw [if_pos c]
    rw [hR]
    clear hu h1 hR h2 h3
    go_enter Tryd.func86, Tryd.ntmps86
    go_upto_region 2 with (first
      | (refine wl_alloc 140 _ Tryd.zeroValue140 rfl rfl ?_; intro W0 b0 B0 l0 k0)
      | (go_at_call 84; refine (H1.out _ (HU.out.keep k0)).mono ?_; rintro e w2 ⟨rfl, hu2, hk2⟩))
    go_upto_region 5 with (go_at_call 84; refine (H2.out _ hu2).mono ?_; rintro e w3 ⟨rfl, hu3, hk3⟩)
    go_upto_region 10 with (go_at_call 84; refine (H3.out _ hu3).mono ?_; rintro e w4 ⟨rfl, hu4, hk4⟩)
    have HB4 := Lib.hid (((hk2.trans hk3).trans hk4).blk B0 (HU.out.far_blk l0).1 (HU.out.far_blk l0).2)
    have HBL := Lib.hid ((Kp.of_below b sl k0).trans ((hk2.trans hk3).trans hk4))
    have hB0 : B ≤ b0 := by have := HU.out.hB; omega
    clear B0 hu2 hk2 hu3 hk3 hu4 hk4 k0
    by_cases cx : 29 < x
    · go_wp2_with (refine wl_store 140 3 size115 _ _ rfl rfl _ rfl _ rfl _ _ HB4.out rfl rfl (cells3_one _ _ _) ?_; intro W6 hB6 hT6)
      exact post_cell_tmp (v := .int .i64 3) Tryd.underlying140 rfl size115 Tryd.results86 hB6 rfl rfl rfl rfl (by first | exact ⟨rfl, by omega, HBL.out.turned hT6 l0⟩ | exact ⟨rfl, HBL.out.turned hT6 l0⟩)
    · have cy : 29 < y := by omega
      go_wp2_with (refine wl_store 140 3 size115 _ _ rfl rfl _ rfl _ rfl _ _ HB4.out rfl rfl (cells3_one _ _ _) ?_; intro W6 hB6 hT6)
      exact post_cell_tmp (v := .int .i64 3) Tryd.underlying140 rfl size115 Tryd.results86 hB6 rfl rfl rfl rfl (by first | exact ⟨rfl, by omega, HBL.out.turned hT6 l0⟩ | exact ⟨rfl, HBL.out.turned hT6 l0⟩)
  · have hR : I.cnts s p = .ok ((x, y, z), p3) := by unfold I.cnts; rw [h1]; simp only []; rw [h2]; simp only []; rw [h3]; simp only []; rw [if_neg c]
    rw [hR]
    have cx : ¬ 29 < x := by omega
    have cy : ¬ 29 < y := by omega
    clear hu h1 hR h2 h3 c
    go_enter Tryd.func86, Tryd.ntmps86
    go_upto_region 2 with (first
      | (refine wl_alloc 140 _ Tryd.zeroValue140 rfl rfl ?_; intro W0 b0 B0 l0 k0)
      | (go_at_call 84; refine (H1.out _ (HU.out.keep k0)).mono ?_; rintro e w2 ⟨rfl, hu2, hk2⟩))
    go_upto_region 5 with (go_at_call 84; refine (H2.out _ hu2).mono ?_; rintro e w3 ⟨rfl, hu3, hk3⟩)
    go_upto_region 10 with (go_at_call 84; refine (H3.out _ hu3).mono ?_; rintro e w4 ⟨rfl, hu4, hk4⟩)
    have HB4 := Lib.hid (((hk2.trans hk3).trans hk4).blk B0 (HU.out.far_blk l0).1 (HU.out.far_blk l0).2)
    have HK4 := Lib.hid ((Kp.of_below b sl k0).trans ((hk2.trans hk3).trans hk4))
    have hB0 : B ≤ b0 := by have := HU.out.hB; omega
    have lb0 : w.heap.size ≤ b0 := l0
    have HU4 := Lib.hid hu4
    clear B0 hu2 hk2 hu3 hk3 hu4 hk4 k0 l0
    go_wp2_with (refine wl_store 140 3 size115 _ _ rfl rfl _ rfl _ rfl _ _ HB4.out rfl rfl (cells3_one _ _ _) ?_; intro W6 hB6 hT6)
    have fb := HU.out.far_blk lb0
    refine post_cell_tmp (v := .int .i64 0) Tryd.underlying140 rfl size115 Tryd.results86 hB6 rfl rfl rfl rfl ⟨?_, HU4.out.turned hT6 fb.1 fb.2 hB0, HK4.out.turned hT6 lb0⟩
    rw [show (257 : Int) + (x : Int) = ((x + 257 : Nat) : Int) by omega, show (1 : Int) + (y : Int) = ((y + 1 : Nat) : Int) by omega, show (4 : Int) + (z : Int) = ((z + 4 : Nat) : Int) by omega]
end
end Go.Proofs.YtddiccdfeckgaaaDoor
/- Layer 5: the codes in which the lengths are written; a length and how many times. -/
namespace Go.Proofs.YtddiccdfeckgaaaDoor
open Go.RowKit
set_option maxRecDepth 100000
set_option linter.unusedVariables false
theorem ints19_len (f : Nat → Nat) : (I.ints19 f).length = 19 := by simp [I.ints19]
theorem ints19_at {w : World} {g : Nat} {f : Nat → Nat} {t : TypeId} (h : Blk w g (intA f 19) t) (hf : ∀ i, f i < 8) : Ints w (I.ints19 f) (some ⟨g, 0, none⟩) g 0 := by
  refine ⟨Or.inr rfl, fun i hi => ?_, fun i hi => ?_⟩
  · simp only [I.ints19, List.getElem_map, List.getElem_range]
    have := hf i
    omega
  · rw [ints19_len] at hi
    rw [Nat.zero_add, h.cell i, intA_at f 19 i hi]
    simp [I.ints19]
def MeRel (w : World) (B b b0 bl : Nat) (s : ByteArray) (most : Nat) (sl : Value) (out : List UInt8) (F : Array Value) (n : Nat) (R : Except Nat (Nat × (Nat → Nat))) (i : Value) (wr : World) : Prop :=
  ∃ (k p : Nat) (f : Nat → Nat), k ≤ n ∧ i = .int .i64 (k : Int) ∧ U wr B b s p most sl out F ∧ Kp b sl w wr sl ∧ Blk wr b0 (tabA (fun _ => 0) none 0) 43 ∧ Blk wr bl (intA f 19) 3 ∧ p ≤ 8 * s.size ∧ (∀ j, f j < 8) ∧ I.metas s (n - k) k p f = R
/-- what lengthsCodes tells -/
def McPost (w : World) (B b : Nat) (s : ByteArray) (most : Nat) (sl : Value) (out : List UInt8) (F : Array Value) (R : Except Nat (Nat × (Nat → Nat))) (e : Ending) (w' : World) : Prop :=
  match R with
  | .error e0 => (∃ v, e = .returned (.tuple #[.agg v, .int .i64 (e0 : Int)]) ∧ v.size = 17 ∧ v.all (·.oneCell') = true) ∧ e0 ≠ 0 ∧ Kp b sl w w' sl
  | .ok (q, f) =>
    if errN (I.ints19 f) = 0 then ∃ g, w.heap.size ≤ g ∧ Tb w' (I.ints19 f) g ∧ e = .returned (.tuple #[.agg (tbV (I.ints19 f) g), .int .i64 0]) ∧ U w' B b s q most sl out F ∧ Kp b sl w w' sl
    else (∃ v, e = .returned (.tuple #[.agg v, .int .i64 (errN (I.ints19 f) : Int)]) ∧ v.size = 17 ∧ v.all (·.oneCell') = true) ∧ Kp b sl w w' sl
theorem od_lt (i : Nat) : I.od i < 19 := by
  by_cases h : i < 19
  · have : ∀ i : Fin 19, I.od i < 19 := by decide
    exact this ⟨i, h⟩
  · unfold I.od
    rw [List.getD_eq_getElem?_getD, List.getElem?_eq_none (by simp [I.ordT]; omega)]
    decide
section
variable {w : World} {B b : Nat} {s : ByteArray} {p most : Nat} {sl : Value} {out : List UInt8} {F : Array Value}
set_option maxHeartbeats 1000000 in
set_option maxRecDepth 100000 in
theorem metas_any {n : Nat} (hs : s.size ≤ 1048576) (hu : U w B b s p most sl out F) (hp : p ≤ 8 * s.size) (hn : n ≤ 19) :
    Calls Tryd.prog 87 #[.pointer (some ⟨b, 0, none⟩), .int .i64 (n : Int)] w (McPost w B b s most sl out F (I.metas s n 0 p (fun _ => 0))) := by
  obtain ⟨R, hR⟩ : ∃ R, R = I.metas s n 0 p (fun _ => 0) := ⟨_, rfl⟩
  rw [← hR]
  have HU := Lib.hid hu
  go_enter Tryd.func87, Tryd.ntmps87
  go_wp2_with (first
    | (refine wl_alloc 43 _ zero27 rfl rfl ?_; intro W0 b0 B0 l0 k0)
    | (refine wl_ints _ _ rfl rfl 19 rfl rfl (by omega) ?_; intro W1 bl Bl ll kl))
  have y0 := k0.size
  have y1 := B0.lt
  have C0 := B0.keep kl
  have HU1 := Lib.hid ((hu.keep k0).keep kl)
  have HK1 := Lib.hid (Kp.of_below b sl (bq_trans k0 kl))
  have fb0 := hu.far_blk l0
  have fbl := hu.far_blk (show w.heap.size ≤ bl by omega)
  have ne : b0 ≠ bl := by omega
  have lb0 : w.heap.size ≤ b0 := l0
  have lbl : w.heap.size ≤ bl := by omega
  have hB0 : B ≤ b0 := by have := hu.hB; omega
  have hBl : B ≤ bl := by have := hu.hB; omega
  have HC0 := Lib.hid C0
  have HBl := Lib.hid Bl
  have HP := Lib.hid (⟨hp, hR.symm⟩ : p ≤ 8 * s.size ∧ I.metas s n 0 p (fun _ => 0) = R)
  clear hu B0 l0 k0 ll kl Bl C0 y0 y1 hp hR
  go_loopw [12] (fun i wr => MeRel w B b b0 bl s most sl out F n R i wr) (fun i _ => n - (intOf i).toNat)
  case atStart => exact ⟨0, p, _, Nat.zero_le _, rfl, HU1.out, HK1.out, HC0.out, HBl.out, HP.out.1, fun _ => by omega, HP.out.2⟩
  case round =>
    obtain ⟨k, p2, f, hk, rfl, hu2, hk2, hb0, hbl, hp2, hf8, hR2⟩ := hrel
    clear HP HU1 HC0 HBl HK1
    have HU2 := Lib.hid hu2
    have HK2 := Lib.hid hk2
    have HBL : Hid (Below B w wr) := Lib.hid (hk2.belowU HU.out)
    by_cases hlt : k < n
    · rw [show n - k = (n - (k + 1)) + 1 by omega, I.metas] at hR2
      cases h1 : I.num s p2 3 with
      | error e1 =>
        rw [h1] at hR2
        have HE : Hid (R = .error e1) := Lib.hid hR2.symm
        have n0 : e1 ≠ 0 := by have := (I.num_err h1).1; omega
        have q0 : ((e1 : Int) != 0) = true := by rw [bne_iff_ne]; omega
        have HN : Hid (∀ W, U W B b s p2 most sl out F → Calls Tryd.prog 40 #[.pointer (some ⟨b, 0, none⟩), .int .i64 3] W fun e w' => e = .returned (.tuple #[.int .i64 0, .int .i64 (e1 : Int)]) ∧ U w' B b s p2 most sl out F ∧ Kp b sl W w' sl) := Lib.hid fun W hW => number_bad hs hW (by omega) (n := 3) (by omega) h1
        clear hu2 hk2 hbl hR2 h1 hf8
        go_wp2_with (first
          | (go_at_call 40; refine (HN.out _ HU2.out).mono ?_; rintro e w3 ⟨rfl, hu3, hk3⟩)
          | (refine wl_store 43 17 size27 _ _ rfl rfl _ rfl (tabA (fun _ => 0) none 0) rfl _ _ (hk3.blk hb0 fb0.1 fb0.2) (tabA_size _ _ _) (tabA_size _ _ _) (tabA_one _ _ _) ?_; intro W6 hB6 hT6))
        refine post_cell_tmp (v := .int .i64 (e1 : Int)) Tryd.underlying43 rfl size27 Tryd.results87 hB6 (tabA_size _ _ _) rfl rfl rfl ?_
        rw [HE.out]
        exact ⟨⟨_, rfl, tabA_size _ _ _, tabA_one _ _ _⟩, n0, (HK2.out.trans hk3).turned hT6 lb0⟩
      | ok r =>
        obtain ⟨x, p3⟩ := r
        rw [h1] at hR2
        simp only [] at hR2
        obtain ⟨x1, x2⟩ := I.num_3 h1
        have HN : Hid (∀ W, U W B b s p2 most sl out F → Calls Tryd.prog 40 #[.pointer (some ⟨b, 0, none⟩), .int .i64 3] W fun e w' => e = .returned (.tuple #[.int .i64 (x : Int), .int .i64 0]) ∧ U w' B b s p3 most sl out F ∧ Kp b sl W w' sl) := Lib.hid fun W hW => number_ok hs hW (by omega) (n := 3) (by omega) h1
        have HRR := Lib.hid hR2
        have HF8 : Hid (∀ j, (if j = I.od k then x else f j) < 8) := Lib.hid fun j => by split; exact x1; exact hf8 j
        have hol := od_lt k
        obtain ⟨v, hv⟩ : ∃ v, v = I.od k := ⟨_, rfl⟩
        rw [← hv] at hol HRR HF8
        have HV := Lib.hid hv
        have hk19 : k < 19 := by omega
        clear hu2 hk2 hR2 h1 hv
        go_upto_region 6 with (go_at_call 40; refine (HN.out _ HU2.out).mono ?_; rintro e w3 ⟨rfl, hu3, hk3⟩)
        have hb03 := hk3.blk hb0 fb0.1 fb0.2
        have hbl3 := hk3.blk hbl fbl.1 fbl.2
        have go := hu3.glob.ord k hk19
        rw [← HV.out] at go
        have cv := (hbl3.cell v).trans (intA_at f 19 v hol)
        have fv := hbl3.frozen v
        have HU3 := Lib.hid hu3
        have HK3 := Lib.hid (HK2.out.trans hk3)
        have HS := Lib.hid (hbl3.set v (.int .i64 (x : Int)))
        have HO := Lib.hid (hb03.other (a := ⟨bl, v, none⟩) (.int .i64 (x : Int)) ne)
        rw [intA_set] at HS
        clear hu3 hk3 hb0 hbl hb03 hbl3 HN
        go_wp2
        go_roundw
        case rel => exact ⟨k + 1, p3, _, by omega, by go_num, HU3.out.turned (turned_set w3 ⟨bl, v, none⟩ _) fbl.1 fbl.2 hBl, HK3.out.turned (turned_set w3 ⟨bl, v, none⟩ _) lbl, HO.out, HS.out, x2, HF8.out, HRR.out⟩
        case measure => simp [intOf]; omega
    · obtain rfl : k = n := by omega
      rw [Nat.sub_self, I.metas] at hR2
      have HE : Hid (R = .ok (p2, f)) := Lib.hid hR2.symm
      have hin := ints19_at hbl hf8
      have hlen := ints19_len f
      by_cases c : errN (I.ints19 f) = 0
      · have HN := Lib.hid (new_ok (I.ints19 f) (some ⟨bl, 0, none⟩) bl 0 19 wr (Lib.hid hin) c)
        rw [hlen] at HN
        clear hR2 hu2 hk2 hin hbl hf8
        go_wp2_with (first
          | (go_at_call 63; refine HN.out.mono ?_; rintro e w5 ⟨ga, lga, Ba, rfl, hb5⟩)
          | (refine wl_store 43 17 size27 _ _ rfl rfl _ rfl _ rfl _ _ (hb0.keep hb5) (tabA_size _ _ _) (tabA_size _ _ _) (tabA_one _ _ _) ?_; intro W6 hB6 hT6))
        refine post_cell_tmp (v := .int .i64 0) Tryd.underlying43 rfl size27 Tryd.results87 hB6 (tabA_size _ _ _) rfl rfl rfl ?_
        rw [HE.out]
        show if errN (I.ints19 f) = 0 then _ else _
        rw [if_pos c]
        have l1 := hb0.lt
        have l2 := HK2.out.size
        exact ⟨ga, by omega, ⟨hT6.blk Ba (by omega), by omega⟩, rfl, (HU2.out.keep hb5).turned hT6 fb0.1 fb0.2 hB0, (HK2.out.trans (Kp.of_below b sl hb5)).turned hT6 lb0⟩
      · obtain ⟨m, hm⟩ : ∃ m, errN (I.ints19 f) = m := ⟨_, rfl⟩
        have hm2 : m = 1 ∨ m = 4 := by have := errN_cases (I.ints19 f); omega
        have HN := Lib.hid (new_bad (I.ints19 f) (some ⟨bl, 0, none⟩) bl 0 19 m wr (by omega) (Lib.hid hin) hm hm2)
        rw [hlen] at HN
        clear hR2 hu2 hk2 hin hbl hf8
        go_wp2_with (first
          | (go_at_call 63; refine HN.out.mono ?_; rintro e w5 ⟨rfl, hb5⟩)
          | (refine wl_store 43 17 size27 _ _ rfl rfl _ rfl (tabA (fun _ => 0) none 0) rfl _ _ (hb0.keep hb5) (tabA_size _ _ _) (tabA_size _ _ _) (tabA_one _ _ _) ?_; intro W6 hB6 hT6))
        refine post_cell_tmp (v := .int .i64 (m : Int)) Tryd.underlying43 rfl size27 Tryd.results87 hB6 (tabA_size _ _ _) rfl rfl rfl ?_
        rw [HE.out]
        show if errN (I.ints19 f) = 0 then _ else _
        rw [if_neg c, hm]
        exact ⟨⟨_, rfl, tabA_size _ _ _, tabA_one _ _ _⟩, (HK2.out.trans (Kp.of_below b sl hb5)).turned hT6 lb0⟩
end
end Go.Proofs.YtddiccdfeckgaaaDoor
/- Layer 5: a length and how many times; all lengths of a block. -/
namespace Go.Proofs.YtddiccdfeckgaaaDoor
open Go.RowKit
set_option maxRecDepth 100000
set_option linter.unusedVariables false
def inL (l : List Nat) : List Value := l.map fun x : Nat => Value.int .i64 (x : Int)
theorem inL_len (l : List Nat) : (inL l).length = l.length := by simp [inL]
theorem inL_app (l m : List Nat) : inL (l ++ m) = inL l ++ inL m := by simp [inL]
theorem inL_at (l : List Nat) (i : Nat) (h : i < l.length) : (inL l)[i]? = some (.int .i64 (l[i] : Int)) := by simp [inL, h]
/-- lengths lie in the first places of block g -/
def Ln (w : World) (B g c : Nat) (l : List Nat) : Prop := w.ownsRow B 3 1 (.slice (some ⟨g, 0, none⟩) l.length c) l.length (inL l)
theorem Ln.cell {w : World} {B g c : Nat} {l : List Nat} (h : Ln w B g c l) (i : Nat) (hi : i < l.length) : w.cell? ⟨g, i, none⟩ = some (.int .i64 (l[i] : Int)) := by
  have := World.ownsRow.cells h (g := g) rfl i _ (inL_at l i hi)
  rwa [Addr.add_mid, Nat.zero_add] at this
theorem Ln.keepB {w w' : World} {B g c : Nat} {l : List Nat} (h : Ln w B g c l) (hb : w'.heap[g]? = w.heap[g]?) : Ln w' B g c l := by
  refine ⟨h.1, ?_⟩
  rcases h.2 with ⟨h1, _⟩ | ⟨g', cap, cur, h1, h2, h3, h4⟩
  · cases h1
  · have e1 : g' = g := by have := congrArg Value.ownBlock h1; simpa [Value.ownBlock] using this.symm
    subst e1
    exact Or.inr ⟨_, cap, cur, h1, h2, by rw [hb]; exact h3, h4⟩
theorem Ln.lt {w : World} {B g c : Nat} {l : List Nat} (h : Ln w B g c l) : B ≤ g ∧ g < w.heap.size := World.ownsRow.lt h g rfl
theorem Kp.ln {b : Nat} {sl sl' : Value} {w w' : World} {B g c : Nat} {l : List Nat} (k : Kp b sl w w' sl') (h : Ln w B g c l) (h1 : g ≠ b) (h2 : sl.ownBlock ≠ some g) : Ln w' B g c l :=
  h.keepB (k.block g h.lt.2 h1 h2)
theorem I.rpt_bd (k : Nat) : (I.rpt k).1 ≤ 11 ∧ (I.rpt k).2 ≤ 7 := by
  unfold I.rpt
  split
  · exact ⟨by decide, by decide⟩
  · split
    · exact ⟨by decide, by decide⟩
    · exact ⟨by decide, by decide⟩
theorem I.num_128 {s : ByteArray} {p n v q : Nat} (h : I.num s p n = .ok (v, q)) (hn : n ≤ 7) : v < 128 := by
  have a4 := nb_lt s p n
  have a5 : B.P2 n ≤ 128 := B.P2_le (b := 7) hn
  have := (I.num_ok h).1
  omega
def RpPost (w : World) (B b : Nat) (s : ByteArray) (most : Nat) (sl : Value) (out : List UInt8) (F : Array Value) (R : Except Nat ((Nat × Nat) × Nat)) (e : Ending) (w' : World) : Prop :=
  match R with
  | .ok ((v, t), q) => e = .returned (.tuple #[.int .i64 (v : Int), .int .i64 (t : Int), .int .i64 0]) ∧ U w' B b s q most sl out F ∧ Kp b sl w w' sl
  | .error e0 => (∃ x y : Int, e = .returned (.tuple #[.int .i64 x, .int .i64 y, .int .i64 (e0 : Int)])) ∧ e0 ≠ 0 ∧ Kp b sl w w' sl
section
variable {w : World} {B b : Nat} {s : ByteArray} {p most : Nat} {sl : Value} {out : List UInt8} {F : Array Value}
set_option maxHeartbeats 1000000 in
set_option maxRecDepth 100000 in
theorem rep_any {n g c : Nat} {l : List Nat} (hs : s.size ≤ 1048576) (hu : U w B b s p most sl out F) (hp : p ≤ 8 * s.size) (hn : n ≤ 18) (hl : Ln w B g c l) (hll : l.length ≤ 1000) :
    Calls Tryd.prog 93 #[.pointer (some ⟨b, 0, none⟩), .int .i64 (n : Int), .slice (some ⟨g, 0, none⟩) l.length c] w (RpPost w B b s most sl out F (I.rep s n p l)) := by
  have HU := Lib.hid hu
  by_cases c1 : n < 16
  · have hR : I.rep s n p l = .ok ((n, 1), p) := by unfold I.rep; rw [if_pos c1]
    rw [hR]
    clear hu hl hR
    generalize l.length = L at *
    go_enter Tryd.func93, Tryd.ntmps93
    go_wp2
    go_ret3
    exact ⟨rfl, HU.out, Kp.refl _ _ _⟩
  obtain ⟨j, hj⟩ : ∃ j, j = n - 16 := ⟨_, rfl⟩
  have hj3 : j < 3 := by omega
  have hsub : (n : Int) - 16 = (j : Int) := by omega
  have bd := I.rpt_bd j
  have gj := two_at (hu.glob.rpt j hj3)
  by_cases c2 : n = 16
  · have hj0 : I.rpt j = (3, 2) := by unfold I.rpt; rw [if_pos (by omega)]
    have qn : ((n : Int) == 16) = true := by rw [beq_iff_eq]; omega
    by_cases c3 : l = []
    · have hR : I.rep s n p l = .error 3 := by unfold I.rep; rw [if_neg c1, if_pos ⟨c2, c3⟩]
      rw [hR]
      have hl0 : l.length = 0 := by rw [c3]; rfl
      rw [hl0]
      clear hu hl hR bd gj c3 hl0
      go_enter Tryd.func93, Tryd.ntmps93
      go_wp2
      go_ret3
      exact ⟨⟨_, _, rfl⟩, by omega, Kp.refl _ _ _⟩
    · have h0 : 0 < l.length := List.length_pos_iff.2 c3
      obtain ⟨m, hm⟩ : ∃ m, l.length = m + 1 := ⟨l.length - 1, by omega⟩
      have hml : m < l.length := by omega
      have hc := hl.cell m hml
      have HV : Hid (l[m] = l.getD (l.length - 1) 0) := Lib.hid (by rw [hm, Nat.add_sub_cancel, List.getD_eq_getElem?_getD, List.getElem?_eq_getElem hml]; rfl)
      generalize l[m] = v at *
      have hR : I.rep s n p l = match I.num s p 2 with | .error e => .error e | .ok (x, q) => .ok ((v, 3 + x), q) := by
        unfold I.rep
        rw [if_neg c1, if_neg (fun h => c3 h.2), HV.out, ← hj, hj0, if_pos c2]
        rfl
      rw [hR]
      rw [hj0] at gj
      have hj00 : j = 0 := by omega
      have g0 : w.cell? ⟨3, 0, none⟩ = some (.int .i64 3) := by rw [hj00] at gj; exact gj.1
      have g1 : w.cell? ⟨3, 1, none⟩ = some (.int .i64 2) := by rw [hj00] at gj; exact gj.2
      cases h1 : I.num s p 2 with
      | error e1 =>
        have n0 : e1 ≠ 0 := by have := (I.num_err h1).1; omega
        have HW : Hid (∀ W, U W B b s p most sl out F → Calls Tryd.prog 84 #[.pointer (some ⟨b, 0, none⟩), .agg #[.int .i64 3, .int .i64 2]] W fun e w' => e = .returned (.tuple #[.int .i64 0, .int .i64 (e1 : Int)]) ∧ U w' B b s p most sl out F ∧ Kp b sl W w' sl) := Lib.hid fun W hW => within_bad (l := 3) (n := 2) hs hW (by omega) (by omega) h1
        rw [hm] at hll ⊢
        clear hu hl hR bd gj h1 c3 hj hj0 hm hml h0 HV hj00
        go_enter Tryd.func93, Tryd.ntmps93
        go_wp2_with (go_at_call 84; refine (HW.out _ HU.out).mono ?_; rintro e w2 ⟨rfl, hu2, hk2⟩)
        go_ret3
        exact ⟨⟨_, _, rfl⟩, n0, hk2⟩
      | ok r =>
        obtain ⟨x, q⟩ := r
        have HW : Hid (∀ W, U W B b s p most sl out F → Calls Tryd.prog 84 #[.pointer (some ⟨b, 0, none⟩), .agg #[.int .i64 3, .int .i64 2]] W fun e w' => e = .returned (.tuple #[.int .i64 ((3 + x : Nat) : Int), .int .i64 0]) ∧ U w' B b s q most sl out F ∧ Kp b sl W w' sl) := Lib.hid fun W hW => within_ok (l := 3) (n := 2) hs hW (by omega) (by omega) (by omega) h1
        rw [hm] at hll ⊢
        clear hu hl hR bd gj h1 c3 hj hj0 hm hml h0 HV hj00
        go_enter Tryd.func93, Tryd.ntmps93
        go_wp2_with (go_at_call 84; refine (HW.out _ HU.out).mono ?_; rintro e w2 ⟨rfl, hu2, hk2⟩)
        go_ret3
        exact ⟨by simp, hu2, hk2⟩
  · have hR : I.rep s n p l = match I.num s p (I.rpt j).2 with | .error e => .error e | .ok (x, q) => .ok ((0, (I.rpt j).1 + x), q) := by
      unfold I.rep
      rw [if_neg c1, if_neg (fun h => c2 h.1), hj]
      cases I.num s p (I.rpt (n - 16)).2 with
      | error e => rfl
      | ok r => simp only []; rw [if_neg c2]
    rw [hR]
    obtain ⟨g0, g1⟩ := gj
    generalize (I.rpt j).1 = l0 at *
    generalize (I.rpt j).2 = n1 at *
    clear hj
    cases h1 : I.num s p n1 with
    | error e1 =>
      have n0 : e1 ≠ 0 := by have := (I.num_err h1).1; omega
      have HW := Lib.hid (fun W (hW : U W B b s p most sl out F) => within_bad (l := l0) hs hW (by omega) (by omega) h1)
      generalize l.length = L at *
      clear hu hl hR bd h1
      go_enter Tryd.func93, Tryd.ntmps93
      go_wp2_with (go_at_call 84; refine (HW.out _ HU.out).mono ?_; rintro e w2 ⟨rfl, hu2, hk2⟩)
      go_ret3
      exact ⟨⟨_, _, rfl⟩, n0, hk2⟩
    | ok r =>
      obtain ⟨x, q⟩ := r
      have HW := Lib.hid (fun W (hW : U W B b s p most sl out F) => within_ok (l := l0) hs hW (by omega) (by omega) (by omega) h1)
      generalize l.length = L at *
      clear hu hl hR bd h1
      go_enter Tryd.func93, Tryd.ntmps93
      go_wp2_with (go_at_call 84; refine (HW.out _ HU.out).mono ?_; rintro e w2 ⟨rfl, hu2, hk2⟩)
      go_ret3
      exact ⟨by simp, hu2, hk2⟩
end
end Go.Proofs.YtddiccdfeckgaaaDoor
/- Layer 5: all lengths of a block. -/
namespace Go.Proofs.YtddiccdfeckgaaaDoor
open Go.RowKit
set_option maxRecDepth 100000
set_option linter.unusedVariables false
theorem Kp.grown {b : Nat} {sl sl' : Value} {w w' w'' : World} {row : Option Nat} (h : Kp b sl w w' sl') (hg : w'.grownBy w'' row) (hr : ∀ k, row = some k → w.heap.size ≤ k) : Kp b sl w w'' sl' :=
  ⟨hg.os.trans h.os, hg.tape.trans h.tape, hg.output.trans h.output, Nat.le_trans h.size hg.size, fun k hk h1 h2 => by
    rw [hg.block k (by have := h.size; omega) (fun e => by have := hr k e.symm; omega)]; exact h.block k hk h1 h2, h.own⟩
theorem U.grown {w w' : World} {B b : Nat} {s : ByteArray} {p most : Nat} {sl : Value} {out : List UInt8} {F : Array Value} {g : Nat} (h : U w B b s p most sl out F) (hg : w.grownBy w' (some g)) (h1 : g ≠ b) (h2 : sl.ownBlock ≠ some g) (h3 : B ≤ g) : U w' B b s p most sl out F :=
  ⟨by unfold Blk; rw [hg.block b h.lt (fun e => h1 (by injection e with e; exact e.symm))]; exact h.blk, h.own.kept hg (Or.inr h2), h.far, h.base, h.four,
   h.glob.keep (B := B) ⟨hg.os, hg.tape, hg.output, hg.size, fun k hk => hg.block k (by have := h.hB; omega) (fun e => by injection e with e; omega)⟩ h.four⟩
theorem int_info : (Tryd.prog.info? 3).map (fun i => (i.zero, i.size, i.bytes)) = some (some (.int .i64 0), 1, 8) := info3
/-- one length more, where there is room -/
theorem Ln.push {w W : World} {B g c : Nat} {l : List Nat} (h : Ln w B g c l) (hc : l.length + 1 ≤ c) (v k : Nat) (hW : Below w.heap.size w W) (hk : W.heap[k]? = some (.cells #[.int .i64 (v : Int)] 3 (0, 0))) (ty : TypeId) :
    ∃ w', (Builtin.append_ #[41, 41] ty #[.slice (some ⟨g, 0, none⟩) l.length c, .slice (some ⟨k, 0, none⟩) 1 1]).run Tryd.prog W = .ok (.slice (some ⟨g, 0, none⟩) (l.length + 1) c) w' ∧ Hid (Ln w' B g c (l ++ [v]) ∧ W.grownBy w' (some g)) := by
  obtain ⟨i0, hi, hz0, hz1, hz2⟩ := info_parts int_info
  have hL : Ln W B g c l := h.keepB (hW.block g h.lt.2)
  obtain ⟨w', h1, h2, h3⟩ := run_append_fits (P := Tryd.prog) W B 41 ty 3 i0 1 Tryd.underlying41 hi hz1 g l.length c (inL l) hL ⟨k, 0, none⟩ 1 1 [.int .i64 (v : Int)] rfl
    (World.news_of_block (cs := #[.int .i64 (v : Int)]) hk) (by simp [Value.oneCell']) hc
  exact ⟨w', h1, Lib.hid ⟨by unfold Ln; rw [inL_app, List.length_append]; exact h2, h3⟩⟩
/-- what codeLengths tells -/
def LnPost (w : World) (B b : Nat) (s : ByteArray) (most : Nat) (sl : Value) (out : List UInt8) (F : Array Value) (c : Nat) (R : Except Nat (Nat × List Nat)) (e : Ending) (w' : World) : Prop :=
  match R with
  | .ok (q, l) => ∃ g, w.heap.size ≤ g ∧ Ln w' B g c l ∧ e = .returned (.tuple #[.slice (some ⟨g, 0, none⟩) l.length c, .int .i64 0]) ∧ U w' B b s q most sl out F ∧ Kp b sl w w' sl
  | .error e0 => e = .returned (.tuple #[.slice none 0 0, .int .i64 (e0 : Int)]) ∧ e0 ≠ 0 ∧ Kp b sl w w' sl
def LsRel (w : World) (B b b4 g c : Nat) (s : ByteArray) (most : Nat) (sl : Value) (out : List UInt8) (F : Array Value) (zs : List Int) (gz : Nat) (R : Except Nat (Nat × List Nat)) (v : Value) (wr : World) : Prop :=
  ∃ (p : Nat) (l : List Nat), v = .slice (some ⟨g, 0, none⟩) l.length c ∧ Ln wr B g c l ∧ U wr B b s p most sl out F ∧ Kp b sl w wr sl ∧ Blk wr b4 (tbV zs gz) 43 ∧ p ≤ 8 * s.size ∧ l.length ≤ c ∧ I.lens zs s c p l = R
def LiRel (w W : World) (B b b4 g c : Nat) (s : ByteArray) (q most : Nat) (sl : Value) (out : List UInt8) (F : Array Value) (zs : List Int) (gz : Nat) (l : List Nat) (x t : Nat) (v i : Value) (wr : World) : Prop :=
  ∃ k : Nat, k ≤ t ∧ i = .int .i64 (k : Int) ∧ v = .slice (some ⟨g, 0, none⟩) (l.length + k) c ∧ Ln wr B g c (l ++ List.replicate k x) ∧ U wr B b s q most sl out F ∧ Kp b sl w wr sl ∧ Blk wr b4 (tbV zs gz) 43
theorem I.rep_bd {s : ByteArray} {n p q v t : Nat} {l : List Nat} (h : I.rep s n p l = .ok ((v, t), q)) : t ≤ 150 := by
  unfold I.rep at h
  split at h
  · injection h with h; injection h with h1 h2; injection h1 with h3 h4; omega
  · split at h
    · cases h
    · split at h
      · cases h
      · rename_i x q' h1
        have bd := I.rpt_bd (n - 16)
        have a1 := I.num_128 h1 bd.2
        injection h with h; injection h with h1 h2; injection h1 with h3 h4; omega
theorem blk_grown {w w' : World} {b g : Nat} {cs : Array Value} {t : TypeId} (h : Blk w b cs t) (hg : w.grownBy w' (some g)) (hn : b ≠ g) : Blk w' b cs t := by
  unfold Blk; rw [hg.block b h.lt (fun e => hn (by injection e))]; exact h
section
variable {ops : Array Oper} {rest : List Oper} {o : Oper} {a : Act} {w : World} {Q : Exit → Act → World → Prop}
theorem wl_mk0 (B : Nat) (hB : B ≤ w.heap.size) (l c : Operand) (ho : o.op = .makeSlice 41 l c) (hgd : o.guard = none) (n : Nat) (hl : a.eval l = .int .i64 0) (hcc : a.eval c = .int .i64 (n : Int)) (hn : n ≤ 1000000)
    (h : ∀ W g, Ln W B g n [] → w.heap.size ≤ g → Below w.heap.size w W → wpList Tryd.prog ops Q rest (a.put o.dst (.slice (some ⟨g, 0, none⟩) 0 n)) W) : wpList Tryd.prog ops Q (o :: rest) a w := by
  obtain ⟨i0, hi0, hz0, hz1, hz2⟩ := info_parts int_info
  refine wpList_make_own w hgd l c 41 ho B 3 i0 (.int .i64 0) 1 Tryd.underlying41 hi0 hz0 hz1 .i64 .i64 _ n hl hcc rfl (by rw [hz2]; omega) (by unfold maxLen; omega) hB ?_
  intro w' h1 h2
  exact h w' w.heap.size h1 (Nat.le_refl _) ⟨h2.os, h2.tape, h2.output, h2.size, fun k hk => h2.block k hk (by simp)⟩
end
section
variable {w : World} {B b : Nat} {s : ByteArray} {p most : Nat} {sl : Value} {out : List UInt8} {F : Array Value}
set_option maxHeartbeats 2000000 in
set_option maxRecDepth 100000 in
theorem lens_any {zs : List Int} {gz c : Nat} (hs : s.size ≤ 1048576) (hu : U w B b s p most sl out F) (hp : p ≤ 8 * s.size) (hc : c ≤ 1000) (hz : zs.length ≤ 19) (ht : Tb w zs gz) (hgz : gz ≠ b ∧ sl.ownBlock ≠ some gz) :
    Calls Tryd.prog 88 #[.pointer (some ⟨b, 0, none⟩), .agg (tbV zs gz), .int .i64 (c : Int)] w (LnPost w B b s most sl out F c (I.lens zs s c p [])) := by
  obtain ⟨R, hR⟩ : ∃ R, R = I.lens zs s c p [] := ⟨_, rfl⟩
  rw [← hR]
  have HU := Lib.hid hu
  go_enter Tryd.func88, Tryd.ntmps88
  go_wp2_with (first
    | (refine wl_box 43 _ _ rfl rfl rfl ?_; intro W0 b4 B4 l4 k4)
    | (refine wl_mk0 B (by have := HU.out.hB; have := k4.size; omega) _ _ rfl rfl c rfl rfl (by omega) ?_; intro W1 g hln lg kg))
  have y0 := k4.size
  have y1 := B4.lt
  have C4 := Lib.hid (B4.keep kg)
  have HU1 := Lib.hid ((hu.keep k4).keep kg)
  have HK1 := Lib.hid (Kp.of_below b sl (bq_trans k4 kg))
  have fb4 := hu.far_blk l4
  have fbg := hu.far_blk (show w.heap.size ≤ g by omega)
  have ne4 : b4 ≠ g := by omega
  have lg0 : w.heap.size ≤ g := by omega
  have hBg : B ≤ g := by have := hu.hB; omega
  have HLN := Lib.hid hln
  have HTB := Lib.hid ht
  have HP := Lib.hid (⟨hp, hR.symm⟩ : p ≤ 8 * s.size ∧ I.lens zs s c p [] = R)
  have lgz : gz ≠ g := by have := ht.1.lt; omega
  clear hu B4 l4 k4 lg kg hln y0 y1 hp hR ht
  go_loopw [8] (fun v wr => LsRel w B b b4 g c s most sl out F zs gz R v wr) (fun _ wr => 8 * s.size - atOf wr b)
  case atStart => exact ⟨p, [], rfl, HLN.out, HU1.out, HK1.out, C4.out, HP.out.1, Nat.zero_le _, HP.out.2⟩
  case round =>
    obtain ⟨p2, l, rfl, hln, hu2, hk2, hb4, hp2, hlc, hR2⟩ := hrel
    clear HP HU1 HLN HK1 C4
    have HU2 := Lib.hid hu2
    have HK2 := Lib.hid hk2
    have HAT := Lib.hid hu2.atOf
    have HBL : Hid (Below B w wr) := Lib.hid (hk2.belowU HU.out)
    have HTB2 := Lib.hid (hk2.tb HTB.out hgz.1 hgz.2)
    obtain ⟨L, hL⟩ : ∃ L, L = l.length := ⟨_, rfl⟩
    have HLL := Lib.hid hL
    by_cases hlt : c ≤ l.length
    · have HE : Hid (R = .ok (p2, l)) := Lib.hid (by rw [← hR2]; exact I.lens_end hlt)
      have HLN := Lib.hid hln
      rw [← hL] at hlt ⊢
      clear hu2 hk2 hR2 hln hb4 hlc hL
      go_wp2
      go_ret2
      rw [HE.out]
      exact ⟨g, lg0, HLN.out, by rw [← HLL.out]; rfl, HU2.out, HK2.out⟩
    · have hlt2 : l.length < c := by omega
      have hq : p2 ≤ 8388608 := by omega
      cases h1 : I.sym zs s p2 with
      | error e1 =>
        have HC := Lib.hid (symbol_bad hs hu2 hq HTB2.out h1)
        have n0 := (I.sym_err h1).1
        have q0 : ((e1 : Int) != 0) = true := by rw [bne_iff_ne]; omega
        have HE : Hid (R = .error e1) := Lib.hid (by rw [← hR2]; exact I.lens_err hlt2 (by unfold I.lstep; rw [h1]))
        rw [← hL] at hlt2 ⊢
        clear hu2 hk2 hR2 hln hlc hL h1 hlt
        go_wp2_with (first
          | (refine wl_load 43 17 _ Tryd.underlying43 rfl size27 _ rfl rfl _ rfl _ _ hb4 (tbV_size _ _) ?_)
          | (go_at_call 66; refine HC.out.mono ?_; rintro e w4 ⟨rfl, hu4, hk4⟩))
        go_ret2
        rw [HE.out]
        exact ⟨rfl, n0, HK2.out.trans hk4⟩
      | ok r =>
        obtain ⟨n, p3⟩ := r
        have hn18 : n ≤ 18 := by have := I.sym_in h1; omega
        have hl3 := I.sym_lt h1
        have HC := Lib.hid (symbol_ok hs hu2 hq HTB2.out h1)
        have HRP := Lib.hid (fun W (hW : U W B b s p3 most sl out F) (hN : Ln W B g c l) => rep_any hs hW (by omega) hn18 hN (by omega))
        cases h2 : I.rep s n p3 l with
        | error e1 =>
          rw [h2, ← hL] at HRP
          have HE : Hid (R = .error e1) := Lib.hid (by rw [← hR2]; exact I.lens_err hlt2 (by unfold I.lstep; rw [h1]; simp only []; rw [h2]))
          have HLN := Lib.hid hln
          rw [← hL] at hlt2 ⊢
          clear hu2 hk2 hR2 hln hlc hL h1 hlt h2
          go_upto_region 7 with (first
            | (refine wl_load 43 17 _ Tryd.underlying43 rfl size27 _ rfl rfl _ rfl _ _ hb4 (tbV_size _ _) ?_)
            | (go_at_call 66; refine HC.out.mono ?_; rintro e w4 ⟨rfl, hu4, hk4⟩)
            | (go_at_call 93; refine (HRP.out _ hu4 (hk4.ln HLN.out fbg.1 fbg.2)).mono ?_; rintro e w5 ⟨⟨x5, y5, rfl⟩, n0, hb5⟩))
          have q0 : ((e1 : Int) != 0) = true := by rw [bne_iff_ne]; omega
          go_wp2
          go_ret2
          rw [HE.out]
          exact ⟨rfl, n0, (HK2.out.trans hk4).trans hb5⟩
        | ok r =>
          obtain ⟨⟨x, t⟩, q⟩ := r
          rw [h2, ← hL] at HRP
          have hrl := I.rep_lt h2 hl3.2.1
          have ht150 := I.rep_bd h2
          have HLN := Lib.hid hln
          by_cases c5 : c < l.length + t
          · have HE : Hid (R = .error 3) := Lib.hid (by rw [← hR2]; exact I.lens_err hlt2 (by unfold I.lstep; rw [h1]; simp only []; rw [h2]; simp only []; rw [if_pos c5]))
            rw [← hL] at hlt2 c5 ⊢
            clear hu2 hk2 hR2 hln hlc hL h1 hlt h2
            go_upto_region 7 with (first
              | (refine wl_load 43 17 _ Tryd.underlying43 rfl size27 _ rfl rfl _ rfl _ _ hb4 (tbV_size _ _) ?_)
              | (go_at_call 66; refine HC.out.mono ?_; rintro e w4 ⟨rfl, hu4, hk4⟩)
              | (go_at_call 93; refine (HRP.out _ hu4 (hk4.ln HLN.out fbg.1 fbg.2)).mono ?_; rintro e w5 ⟨rfl, hu5, hk5⟩))
            go_wp2
            go_ret2
            rw [HE.out]
            exact ⟨rfl, by omega, (HK2.out.trans hk4).trans hk5⟩
          · have hst : I.lstep zs s c p2 l = .ok (q, l ++ List.replicate t x) := by unfold I.lstep; rw [h1]; simp only []; rw [h2]; simp only []; rw [if_neg c5]
            have HE : Hid (I.lens zs s c q (l ++ List.replicate t x) = R) := Lib.hid (by rw [← hR2]; exact (I.lens_more hlt2 hst).symm)
            have HQ : Hid (p2 < q ∧ q ≤ 8 * s.size) := Lib.hid (by omega)
            rw [← hL] at hlt2 c5 ⊢
            clear hu2 hk2 hR2 hln hlc hL h1 hlt h2 hst
            go_upto_region 7 with (first
              | (refine wl_load 43 17 _ Tryd.underlying43 rfl size27 _ rfl rfl _ rfl _ _ hb4 (tbV_size _ _) ?_)
              | (go_at_call 66; refine HC.out.mono ?_; rintro e w4 ⟨rfl, hu4, hk4⟩)
              | (go_at_call 93; refine (HRP.out _ hu4 (hk4.ln HLN.out fbg.1 fbg.2)).mono ?_; rintro e w5 ⟨rfl, hu5, hk5⟩))
            have HU5 := Lib.hid hu5
            have HK5 := Lib.hid ((HK2.out.trans hk4).trans hk5)
            have HL5 := Lib.hid (hk5.ln (hk4.ln HLN.out fbg.1 fbg.2) fbg.1 fbg.2)
            have HB5 := Lib.hid (hk5.blk (hk4.blk hb4 fb4.1 fb4.2) fb4.1 fb4.2)
            clear hu4 hk4 hu5 hk5 hb4 HLN HC HRP HU2 HK2 HTB2 HBL
            go_wp2
            go_loopw [8, 46] (fun v i wr => LiRel w w5 B b b4 g c s q most sl out F zs gz l x t v i wr) (fun _ i _ => t - (intOf i).toNat)
            case atStart => exact ⟨0, Nat.zero_le _, rfl, by rw [← HLL.out]; rfl, by rw [List.replicate_zero, List.append_nil]; exact HL5.out, HU5.out, HK5.out, HB5.out⟩
            case round =>
              rename_i wo
              obtain ⟨k, hkt, rfl, rfl, hln6, hu6, hk6, hb6⟩ := hrel
              clear HU5 HK5 HL5 HB5
              by_cases hk3 : k < t
              · have hlen6 : (l ++ List.replicate k x).length = L + k := by rw [List.length_append, List.length_replicate, ← HLL.out]
                obtain ⟨w7, hrun, HF⟩ := hln6.push (by rw [hlen6]; omega) x wr.heap.size (bq_alloc (bq_refl wr) (.cells #[.int .i64 (x : Int)] 3)) (heap_alloc_new wr _) 41
                rw [hlen6] at hrun
                have HRUN := Lib.hid hrun
                have hlg := hln6.lt.2
                have HU7 := Lib.hid ((hu6.keep (bq_alloc (bq_refl wr) (.cells #[.int .i64 (x : Int)] 3))).grown HF.out.2 fbg.1 fbg.2 hBg)
                have HK7 := Lib.hid ((hk6.trans (Kp.of_below b sl (bq_alloc (bq_refl wr) (.cells #[.int .i64 (x : Int)] 3)))).grown HF.out.2 (fun j hj => by injection hj with hj; omega))
                have HB7 := Lib.hid (blk_grown (hb6.alloc (.cells #[.int .i64 (x : Int)] 3)) HF.out.2 ne4)
                have HRE : Hid (l ++ List.replicate k x ++ [x] = l ++ List.replicate (k + 1) x) := Lib.hid (by rw [List.append_assoc, List.replicate_succ'])
                rw [← HLL.out]
                clear hrun hln6 hu6 hk6 hb6 hlen6
                go_wp2_with (refine wl_append rfl _ _ rfl rfl rfl HRUN.out ?_)
                go_roundw
                case rel => exact ⟨k + 1, by omega, by go_num, by rw [← HLL.out]; rfl, by rw [← HRE.out]; exact HF.out.1, HU7.out, HK7.out, HB7.out⟩
                case measure => simp [intOf]; omega
              · obtain rfl : k = t := by omega
                have HU6 := Lib.hid hu6
                have HK6 := Lib.hid hk6
                have HB6 := Lib.hid hb6
                have HL6 := Lib.hid hln6
                clear hln6 hu6 hk6 hb6
                go_wp2
                go_roundw
                case rel => exact ⟨q, l ++ List.replicate k x, by rw [List.length_append, List.length_replicate], HL6.out, HU6.out, HK6.out, HB6.out, HQ.out.2, by rw [List.length_append, List.length_replicate, ← HLL.out]; omega, HE.out⟩
                case measure => rw [HU6.out.atOf, HAT.out]; have := HQ.out; omega
end
end Go.Proofs.YtddiccdfeckgaaaDoor
