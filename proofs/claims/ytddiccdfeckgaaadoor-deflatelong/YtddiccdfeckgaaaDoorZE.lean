import Derived.Test.YtddiccdfeckgaaaDoorZD
/- Layer 5: a block's own codes. -/
namespace Go.Proofs.YtddiccdfeckgaaaDoor
open Go.RowKit
set_option maxRecDepth 100000
set_option linter.unusedVariables false
set_option linter.unusedSimpArgs false
def OwnPost (w : World) (B b : Nat) (s : ByteArray) (most : Nat) (sl : Value) (out : List UInt8) (F : Array Value) (R : Except Nat ((List Int × List Int) × Nat)) (e : Ending) (w' : World) : Prop :=
  match R with
  | .ok ((a, d), q) => ∃ ga gd, w.heap.size ≤ ga ∧ w.heap.size ≤ gd ∧ Tb w' a ga ∧ Tb w' d gd ∧ e = .returned (.tuple #[.agg (cdV a d ga gd), .int .i64 0]) ∧ U w' B b s q most sl out F ∧ Kp b sl w w' sl
  | .error e0 => (∃ v, e = .returned (.tuple #[.agg v, .int .i64 (e0 : Int)]) ∧ v.size = 34 ∧ v.all (·.oneCell') = true) ∧ e0 ≠ 0 ∧ Below B w w'
theorem I.ints_len (l : List Nat) : (I.ints l).length = l.length := by simp [I.ints]
theorem I.ints_at (l : List Nat) (i : Nat) (h : i < l.length) : (I.ints l)[i]'(by rw [I.ints_len]; exact h) = (l[i] : Int) := by simp [I.ints]
/-- lengths of a list that was read lie from o on -/
theorem Ln.ints {w : World} {B g c : Nat} {l : List Nat} (h : Ln w B g c l) (hb : ∀ x ∈ l, x ≤ 1000) (o n : Nat) (hn : o + n ≤ l.length) : Ints w (((I.ints l).drop o).take n) (some ⟨g, o, none⟩) g o := by
  have hlen : (((I.ints l).drop o).take n).length = n := by rw [List.length_take, List.length_drop, I.ints_len]; omega
  have hat : ∀ i (hi : i < (((I.ints l).drop o).take n).length), (((I.ints l).drop o).take n)[i] = (l[o + i]'(by omega) : Int) := fun i hi => by
    rw [List.getElem_take, List.getElem_drop, I.ints_at l (o + i) (by omega)]
  refine ⟨Or.inr rfl, fun i hi => ?_, fun i hi => ?_⟩
  · rw [hat i hi]
    have := hb (l[o + i]'(by omega)) (List.getElem_mem _)
    omega
  · rw [hat i hi]
    exact h.cell (o + i) (by omega)
theorem I.rep_small {s : ByteArray} {n p q v t : Nat} {l : List Nat} (h : I.rep s n p l = .ok ((v, t), q)) (hl : ∀ x ∈ l, x < 16) : v < 16 := by
  unfold I.rep at h
  split at h
  · injection h with h; injection h with h1 h2; injection h1 with h3 h4; omega
  · split at h
    · cases h
    · rename_i hne
      split at h
      · cases h
      · injection h with h; injection h with h1 h2; injection h1 with h3 h4
        rw [← h3]
        split
        · rename_i e16
          have h0 : l ≠ [] := fun e => hne ⟨e16, e⟩
          have hlt : l.length - 1 < l.length := by have := List.length_pos_iff.2 h0; omega
          rw [List.getD_eq_getElem?_getD, List.getElem?_eq_getElem hlt]
          exact hl _ (List.getElem_mem _)
        · omega
theorem I.lens_small (zs : List Int) (s : ByteArray) (all : Nat) : ∀ (f p q : Nat) (l m : List Nat), 8 * s.size - p ≤ f → (∀ x ∈ l, x < 16) → I.lens zs s all p l = .ok (q, m) → ∀ x ∈ m, x < 16 := by
  intro f
  induction f with
  | zero =>
    intro p q l m hf hl h
    rw [I.lens] at h
    split at h
    · injection h with h; injection h with e1 e2; subst e2; exact hl
    · split at h
      · cases h
      · rename_i h1
        have a1 := I.lstep_lt h1
        omega
  | succ f ih =>
    intro p q l m hf hl h
    rw [I.lens] at h
    split at h
    · injection h with h; injection h with e1 e2; subst e2; exact hl
    · split at h
      · cases h
      · rename_i q1 m1 h1
        have a1 := I.lstep_lt h1
        rw [if_pos ⟨a1.1, a1.2.1⟩] at h
        refine ih q1 q m1 m (by omega) ?_ h
        unfold I.lstep at h1
        split at h1
        · cases h1
        · split at h1
          · cases h1
          · rename_i v t q' h2
            split at h1
            · cases h1
            · injection h1 with h1; injection h1 with e1 e2; subst e2
              intro x hx
              rw [List.mem_append] at hx
              rcases hx with hx | hx
              · exact hl x hx
              · rw [List.eq_of_mem_replicate hx]; exact I.rep_small h2 hl
/-- what made tells, of whatever lists -/
def MdPost (a d : List Int) (W : World) (e : Ending) (w' : World) : Prop :=
  ∃ (V : Array Value) (E : Nat), e = .returned (.tuple #[.agg V, .int .i64 (E : Int)]) ∧ V.size = 34 ∧ V.all (·.oneCell') = true ∧ Below W.heap.size W w' ∧
    ((E ≠ 0 ∧ E = if errN a ≠ 0 then errN a else errN d) ∨ (E = 0 ∧ errN a = 0 ∧ errN d = 0 ∧ ∃ ga gd, W.heap.size ≤ ga ∧ W.heap.size ≤ gd ∧ Tb w' a ga ∧ Tb w' d gd ∧ V = cdV a d ga gd))
theorem made_any (a d : List Int) (aa ad : Option Addr) (ba oa bd od ca cd : Nat) (w : World) (hla : a.length ≤ 1000) (hld : d.length ≤ 1000) (ha : Hid (Ints w a aa ba oa)) (hd : Hid (Ints w d ad bd od)) :
    Calls Tryd.prog 39 #[.slice aa a.length ca, .slice ad d.length cd] w (MdPost a d w) := by
  by_cases h1 : errN a = 0
  · by_cases h2 : errN d = 0
    · refine (made_ok a d aa ad ba oa bd od ca cd w ha hd h1 h2).mono ?_
      rintro e w' ⟨ga, gd, l1, l2, t1, t2, rfl, hb⟩
      exact ⟨_, 0, rfl, cdV_size _ _ _ _, cdV_one _ _ _ _, hb, Or.inr ⟨rfl, h1, h2, ga, gd, l1, l2, t1, t2, rfl⟩⟩
    · refine (made_bad2 a d aa ad ba oa bd od ca cd _ w hld ha hd h1 rfl h2).mono ?_
      rintro e w' ⟨rfl, hb⟩
      exact ⟨_, _, rfl, zeroC_size, zeroC_one, hb, Or.inl ⟨h2, by rw [if_neg (fun h => h h1)]⟩⟩
  · refine (made_bad1 a d aa ad ba oa bd od ca cd _ w hla ha rfl h1).mono ?_
    rintro e w' ⟨rfl, hb⟩
    exact ⟨_, _, rfl, zeroC_size, zeroC_one, hb, Or.inl ⟨h1, by rw [if_pos h1]⟩⟩
theorem I.metas_err {s : ByteArray} : ∀ (k i p : Nat) (f : Nat → Nat) (e : Nat), I.metas s k i p f = .error e → e ≠ 0
  | 0, i, p, f, e, h => by cases h
  | k + 1, i, p, f, e, h => by
    rw [I.metas] at h
    split at h
    · rename_i e1 h1
      injection h with h
      have := (I.num_err h1).1
      omega
    · exact I.metas_err k _ _ _ e h
section
variable {w : World} {B b : Nat} {s : ByteArray} {p most : Nat} {sl : Value} {out : List UInt8} {F : Array Value}
/-- a result of codes that are none -/
theorem own_err {W : World} {a : Act} {n : Nat} {Q : Ending → World → Prop} {b2 : Nat} (hB : Blk W b2 zeroC 45) (h2 : a.tmps.getD 2 undef = .pointer (some ⟨b2, 0, none⟩)) (h3 : a.tmps.getD 3 undef = .int .i64 (n : Int)) (hdf : a.defers = [])
    (hQ : Q (.returned (.tuple #[.agg zeroC, .int .i64 (n : Int)])) W) : bodyPost Tryd.prog Tryd.f69 Q .ret a W :=
  post_cell_tmp (v := .int .i64 (n : Int)) Tryd.underlying45 rfl size47 Tryd.results69 hB zeroC_size h2 h3 hdf hQ
set_option maxHeartbeats 2000000 in
set_option maxRecDepth 100000 in
theorem own_any (hs : s.size ≤ 1048576) (hu : U w B b s p most sl out F) (hp : p ≤ 8 * s.size) :
    Calls Tryd.prog 69 #[.pointer (some ⟨b, 0, none⟩)] w (OwnPost w B b s most sl out F (I.own s p)) := by
  obtain ⟨R, hR⟩ : ∃ R, R = I.own s p := ⟨_, rfl⟩
  rw [← hR]
  unfold I.own at hR
  have HU := Lib.hid hu
  have HCN := Lib.hid (fun W (hW : U W B b s p most sl out F) => counts_any hs hW hp)
  cases h1 : I.cnts s p with
  | error e1 =>
    rw [h1] at hR HCN
    have HE := Lib.hid hR
    clear hu hR h1
    go_enter Tryd.func69, Tryd.ntmps69
    go_upto_region 2 with (first
      | (refine wl_alloc 45 _ zero47 rfl rfl ?_; intro W0 b2 B2 l2 k2)
      | (go_at_call 86; refine (HCN.out _ (HU.out.keep k2)).mono ?_; rintro e w3 ⟨rfl, n0, hk3⟩)
      | (refine wl_alloc 140 _ Tryd.zeroValue140 rfl rfl ?_; intro W4 b4 B4 l4 k4)
      | (refine wl_store 140 3 size115 _ _ rfl rfl _ rfl _ rfl _ _ B4 rfl rfl (cells3_one _ _ _) ?_; intro W5 hB5 hT5))
    have q0 : ((e1 : Int) != 0) = true := by rw [bne_iff_ne]; omega
    have fb := HU.out.far_blk l2
    have C3 := hk3.blk B2 fb.1 fb.2
    have y3 := C3.lt
    have C5 := hT5.blk (C3.keep k4) (by omega)
    have HK5 := Lib.hid ((((Kp.of_below b sl k2).trans hk3).trans (Kp.of_below b sl k4)).turned hT5 (by have := k2.size; have := hk3.size; omega))
    have lb2 : w.heap.size ≤ b2 := l2
    clear B2 l2 k2 hk3 C3 B4 l4 k4 hT5 hB5 y3 HCN
    go_wp2_with (refine wl_store 45 34 size47 _ _ rfl rfl _ rfl zeroC rfl _ _ C5 zeroC_size zeroC_size zeroC_one ?_; intro W6 hB6 hT6)
    refine own_err hB6 rfl rfl rfl ?_
    rw [HE.out]
    exact ⟨⟨_, rfl, zeroC_size, zeroC_one⟩, n0, (HK5.out.turned hT6 lb2).belowU HU.out⟩
  | ok r1 =>
  obtain ⟨⟨x, y, z⟩, p1⟩ := r1
  have a1 := I.cnts_lt h1
  rw [h1] at hR HCN
  simp only [] at hR HCN
  have hz19 : z + 4 ≤ 19 := by omega
  have HMT := Lib.hid (fun W (hW : U W B b s p1 most sl out F) => metas_any hs hW (by omega) hz19)
  obtain ⟨X, hX⟩ : ∃ X, X = x + 257 := ⟨_, rfl⟩
  obtain ⟨Y, hY⟩ : ∃ Y, Y = y + 1 := ⟨_, rfl⟩
  obtain ⟨Z, hZ⟩ : ∃ Z, Z = z + 4 := ⟨_, rfl⟩
  rw [← hX, ← hY, ← hZ] at HCN
  rw [← hZ] at HMT hR
  have hall : x + y + 258 = X + Y := by omega
  rw [hall, ← hX] at hR
  have hXb : X ≤ 286 := by omega
  have hYb : Y ≤ 30 := by omega
  have hX1 : 257 ≤ X := by omega
  have hY1 : 1 ≤ Y := by omega
  have hp1 : p1 ≤ 8 * s.size := a1.2.1
  clear hu h1 a1 hz19 hX hY hZ hall
  -- the metas that are none
  have bad : ∀ m : Nat, m ≠ 0 → (∀ W e w', McPost W B b s most sl out F (I.metas s Z 0 p1 fun _ => 0) e w' → (∃ v, e = .returned (.tuple #[.agg v, .int .i64 (m : Int)]) ∧ v.size = 17 ∧ v.all (·.oneCell') = true) ∧ Kp b sl W w' sl) → R = .error m →
      Calls Tryd.prog 69 #[.pointer (some ⟨b, 0, none⟩)] w (OwnPost w B b s most sl out F R) := by
    intro m n0 hpost hE
    have HE := Lib.hid hE
    have HPO := Lib.hid hpost
    have q0 : ((m : Int) != 0) = true := by rw [bne_iff_ne]; omega
    clear hE hpost hR
    go_enter Tryd.func69, Tryd.ntmps69
    go_upto_region 2 with (first
      | (refine wl_alloc 45 _ zero47 rfl rfl ?_; intro W0 b2 B2 l2 k2)
      | (go_at_call 86; refine (HCN.out _ (HU.out.keep k2)).mono ?_; rintro e w3 ⟨rfl, hu3, hk3⟩)
      | (refine wl_alloc 140 _ Tryd.zeroValue140 rfl rfl ?_; intro W4 b4 B4 l4 k4)
      | (refine wl_store 140 3 size115 _ _ rfl rfl _ rfl _ rfl _ _ B4 rfl rfl (cells3_one _ _ _) ?_; intro W5 hB5 hT5))
    have fb := HU.out.far_blk l2
    have C3 := hk3.blk B2 fb.1 fb.2
    have y3 := C3.lt
    have s2 := k2.size
    have s3 := hk3.size
    have lb4 : w.heap.size ≤ b4 := by omega
    have fb4 := HU.out.far_blk lb4
    have C5 := hT5.blk (C3.keep k4) (by omega)
    have HK5 := Lib.hid ((((Kp.of_below b sl k2).trans hk3).trans (Kp.of_below b sl k4)).turned hT5 lb4)
    have HU5 := Lib.hid ((hu3.keep k4).turned hT5 fb4.1 fb4.2 (by have := HU.out.hB; omega))
    have lb2 : w.heap.size ≤ b2 := l2
    have c2 : W5.cell? ⟨b4, 2, none⟩ = some (.int .i64 (Z : Int)) := hB5.cell 2
    clear B2 l2 k2 hk3 C3 B4 l4 k4 hT5 hB5 y3 HCN hu3 s2 s3
    go_upto_region 5 with (first
      | (go_at_call 87; refine (HMT.out _ HU5.out).mono ?_; intro e w6 h6; obtain ⟨⟨v6, rfl, z6, o6⟩, hk6⟩ := HPO.out _ _ _ h6)
      | (refine wl_alloc 43 _ zero27 rfl rfl ?_; intro W7 b7 B7 l7 k7)
      | (refine wl_store 43 17 size27 _ _ rfl rfl _ rfl v6 rfl _ _ B7 (tabA_size _ _ _) z6 o6 ?_; intro W8 hB8 hT8))
    have C6 := hk6.blk C5 fb.1 fb.2
    have y6 := C6.lt
    have C8 := hT8.blk (C6.keep k7) (by omega)
    have HK8 := Lib.hid (((HK5.out.trans hk6).trans (Kp.of_below b sl k7)).turned hT8 (by have := HK5.out.size; have := hk6.size; omega))
    clear C5 hk6 C6 B7 l7 k7 hT8 hB8 y6 h6 HMT HPO
    go_wp2_with (refine wl_store 45 34 size47 _ _ rfl rfl _ rfl zeroC rfl _ _ C8 zeroC_size zeroC_size zeroC_one ?_; intro W9 hB9 hT9)
    refine own_err hB9 rfl rfl rfl ?_
    rw [HE.out]
    exact ⟨⟨_, rfl, zeroC_size, zeroC_one⟩, n0, (HK8.out.turned hT9 lb2).belowU HU.out⟩
  cases h2 : I.metas s Z 0 p1 (fun _ => 0) with
  | error e1 =>
    rw [h2] at hR
    refine bad e1 (I.metas_err _ _ _ _ _ h2) ?_ hR
    intro W e w' h
    rw [h2] at h
    exact ⟨h.1, h.2.2⟩
  | ok r2 =>
  obtain ⟨p2, f⟩ := r2
  rw [h2] at hR
  simp only [] at hR
  have a2 := I.metas_lt _ _ _ _ _ _ h2 hp1
  by_cases c1 : errN (I.ints19 f) = 0
  rotate_left
  · rw [if_pos c1] at hR
    refine bad _ c1 ?_ hR
    intro W e w' h
    rw [h2] at h
    have h' : if errN (I.ints19 f) = 0 then _ else _ := h
    rw [if_neg c1] at h'
    exact h'
  rw [if_neg (fun h => h c1)] at hR
  clear bad
  have HMT2 : Hid (∀ W, U W B b s p1 most sl out F → Calls Tryd.prog 87 #[.pointer (some ⟨b, 0, none⟩), .int .i64 (Z : Int)] W fun e w' => ∃ g, W.heap.size ≤ g ∧ Tb w' (I.ints19 f) g ∧ e = .returned (.tuple #[.agg (tbV (I.ints19 f) g), .int .i64 0]) ∧ U w' B b s p2 most sl out F ∧ Kp b sl W w' sl) := Lib.hid fun W hW => by
    refine (HMT.out W hW).mono fun e w' h => ?_
    rw [h2] at h
    have h' : if errN (I.ints19 f) = 0 then _ else _ := h
    rw [if_pos c1] at h'
    exact h'
  have hz19 := ints19_len f
  clear HMT h2
  have HMT := HMT2
  clear HMT2
  generalize I.ints19 f = zs at *
  have HLN := Lib.hid (fun W g (hW : U W B b s p2 most sl out F) (hT : Tb W zs g) (hg : g ≠ b ∧ sl.ownBlock ≠ some g) => lens_any (c := X + Y) hs hW a2.2 (by omega) (by omega) hT hg)
  have HXY : Hid ((X : Int) + (Y : Int) = ((X + Y : Nat) : Int)) := Lib.hid (by omega)
  cases h3 : I.lens zs s (X + Y) p2 [] with
  | error e1 =>
    rw [h3] at hR HLN
    have HE := Lib.hid hR
    clear h3 hR c1 a2
    go_enter Tryd.func69, Tryd.ntmps69
    go_upto_region 2 with (first
      | (refine wl_alloc 45 _ zero47 rfl rfl ?_; intro W0 b2 B2 l2 k2)
      | (go_at_call 86; refine (HCN.out _ (HU.out.keep k2)).mono ?_; rintro e w3 ⟨rfl, hu3, hk3⟩)
      | (refine wl_alloc 140 _ Tryd.zeroValue140 rfl rfl ?_; intro W4 b4 B4 l4 k4)
      | (refine wl_store 140 3 size115 _ _ rfl rfl _ rfl _ rfl _ _ B4 rfl rfl (cells3_one _ _ _) ?_; intro W5 hB5 hT5))
    have fb := HU.out.far_blk l2
    have C3 := hk3.blk B2 fb.1 fb.2
    have y3 := C3.lt
    have s2 := k2.size
    have s3 := hk3.size
    have lb4 : w.heap.size ≤ b4 := by omega
    have ne24 : b2 ≠ b4 := by omega
    have fb4 := HU.out.far_blk lb4
    have C5 := hT5.blk (C3.keep k4) (by omega)
    have HK5 := Lib.hid ((((Kp.of_below b sl k2).trans hk3).trans (Kp.of_below b sl k4)).turned hT5 lb4)
    have HU5 := Lib.hid ((hu3.keep k4).turned hT5 fb4.1 fb4.2 (by have := HU.out.hB; omega))
    have lb2 : w.heap.size ≤ b2 := l2
    have c2 : W5.cell? ⟨b4, 2, none⟩ = some (.int .i64 (Z : Int)) := hB5.cell 2
    clear B2 l2 k2 hk3 C3 B4 l4 k4 hT5 y3 HCN hu3 s2 s3
    go_upto_region 5 with (first
      | (go_at_call 87; refine (HMT.out _ HU5.out).mono ?_; rintro e w6 ⟨g6, lg6, t6, rfl, hu6, hk6⟩)
      | (refine wl_alloc 43 _ zero27 rfl rfl ?_; intro W7 b7 B7 l7 k7)
      | (refine wl_store 43 17 size27 _ _ rfl rfl _ rfl (tbV zs g6) rfl _ _ B7 (tabA_size _ _ _) (tbV_size _ _) (tbV_one _ _) ?_; intro W8 hB8 hT8))
    have C6 := hk6.blk C5 fb.1 fb.2
    have D6 := hk6.blk hB5 fb4.1 fb4.2
    have y6 := C6.lt
    have y7 := D6.lt
    have y8 := t6.1.lt
    have s5 := HK5.out.size
    have s6 := hk6.size
    have lb7 : w.heap.size ≤ b7 := by omega
    have fb7 := HU.out.far_blk lb7
    have fg6 := HU.out.far_blk (show w.heap.size ≤ g6 by omega)
    have C8 := hT8.blk (C6.keep k7) (by omega)
    have D8 := hT8.blk (D6.keep k7) (by omega)
    have T8 : Tb W8 zs g6 := ⟨hT8.blk (t6.1.keep k7) (by omega), t6.2⟩
    have HK8 := Lib.hid (((HK5.out.trans hk6).trans (Kp.of_below b sl k7)).turned hT8 lb7)
    have HU8 := Lib.hid ((hu6.keep k7).turned hT8 fb7.1 fb7.2 (by have := HU.out.hB; omega))
    have d0 : W8.cell? ⟨b4, 0, none⟩ = some (.int .i64 (X : Int)) := D8.cell 0
    have d1 : W8.cell? ⟨b4, 1, none⟩ = some (.int .i64 (Y : Int)) := D8.cell 1
    have HT8 := Lib.hid T8
    clear C5 hk6 C6 D6 B7 l7 k7 hT8 y6 y7 y8 HMT hB5 t6 lg6 hu6 s5 s6 HU5 HK5 c2 T8
    go_upto_region 8 with (first
      | (refine wl_load 43 17 _ Tryd.underlying43 rfl size27 _ rfl rfl _ rfl _ _ hB8 (tbV_size _ _) ?_)
      | (go_at_call 88; rw [HXY.out]; refine (HLN.out _ _ HU8.out HT8.out fg6).mono ?_; rintro e w9 ⟨rfl, n0, hk9⟩))
    have q0 : ((e1 : Int) != 0) = true := by rw [bne_iff_ne]; omega
    have C9 := hk9.blk C8 fb.1 fb.2
    have HK9 := Lib.hid (HK8.out.trans hk9)
    clear C8 D8 d0 d1 hB8 HLN hk9 HU8 HT8 HK8
    go_wp2_with (refine wl_store 45 34 size47 _ _ rfl rfl _ rfl zeroC rfl _ _ C9 zeroC_size zeroC_size zeroC_one ?_; intro WA hBA hTA)
    refine own_err hBA rfl rfl rfl ?_
    rw [HE.out]
    exact ⟨⟨_, rfl, zeroC_size, zeroC_one⟩, n0, (HK9.out.turned hTA lb2).belowU HU.out⟩
  | ok r3 =>
    obtain ⟨p3, l⟩ := r3
    have a3 := I.lens_lt _ _ _ (8 * s.size) _ _ _ _ (by omega) (by simp) a2.2 h3
    have hsm := I.lens_small _ _ _ (8 * s.size) _ _ _ _ (by omega) (by simp) h3
    rw [h3] at hR HLN
    simp only [] at hR HLN
    have hlen : l.length = X + Y := a3.2.2
    clear h3 c1 a2
    go_enter Tryd.func69, Tryd.ntmps69
    go_upto_region 2 with (first
      | (refine wl_alloc 45 _ zero47 rfl rfl ?_; intro W0 b2 B2 l2 k2)
      | (go_at_call 86; refine (HCN.out _ (HU.out.keep k2)).mono ?_; rintro e w3 ⟨rfl, hu3, hk3⟩)
      | (refine wl_alloc 140 _ Tryd.zeroValue140 rfl rfl ?_; intro W4 b4 B4 l4 k4)
      | (refine wl_store 140 3 size115 _ _ rfl rfl _ rfl _ rfl _ _ B4 rfl rfl (cells3_one _ _ _) ?_; intro W5 hB5 hT5))
    have fb := HU.out.far_blk l2
    have C3 := hk3.blk B2 fb.1 fb.2
    have y3 := C3.lt
    have s2 := k2.size
    have s3 := hk3.size
    have lb4 : w.heap.size ≤ b4 := by omega
    have ne24 : b2 ≠ b4 := by omega
    have fb4 := HU.out.far_blk lb4
    have C5 := hT5.blk (C3.keep k4) (by omega)
    have HK5 := Lib.hid ((((Kp.of_below b sl k2).trans hk3).trans (Kp.of_below b sl k4)).turned hT5 lb4)
    have HU5 := Lib.hid ((hu3.keep k4).turned hT5 fb4.1 fb4.2 (by have := HU.out.hB; omega))
    have lb2 : w.heap.size ≤ b2 := l2
    have c2 : W5.cell? ⟨b4, 2, none⟩ = some (.int .i64 (Z : Int)) := hB5.cell 2
    clear B2 l2 k2 hk3 C3 B4 l4 k4 hT5 y3 HCN hu3 s2 s3
    go_upto_region 5 with (first
      | (go_at_call 87; refine (HMT.out _ HU5.out).mono ?_; rintro e w6 ⟨g6, lg6, t6, rfl, hu6, hk6⟩)
      | (refine wl_alloc 43 _ zero27 rfl rfl ?_; intro W7 b7 B7 l7 k7)
      | (refine wl_store 43 17 size27 _ _ rfl rfl _ rfl (tbV zs g6) rfl _ _ B7 (tabA_size _ _ _) (tbV_size _ _) (tbV_one _ _) ?_; intro W8 hB8 hT8))
    have C6 := hk6.blk C5 fb.1 fb.2
    have D6 := hk6.blk hB5 fb4.1 fb4.2
    have y6 := C6.lt
    have y7 := D6.lt
    have y8 := t6.1.lt
    have s5 := HK5.out.size
    have s6 := hk6.size
    have lb7 : w.heap.size ≤ b7 := by omega
    have fb7 := HU.out.far_blk lb7
    have fg6 := HU.out.far_blk (show w.heap.size ≤ g6 by omega)
    have C8 := hT8.blk (C6.keep k7) (by omega)
    have D8 := hT8.blk (D6.keep k7) (by omega)
    have T8 : Tb W8 zs g6 := ⟨hT8.blk (t6.1.keep k7) (by omega), t6.2⟩
    have HK8 := Lib.hid (((HK5.out.trans hk6).trans (Kp.of_below b sl k7)).turned hT8 lb7)
    have HU8 := Lib.hid ((hu6.keep k7).turned hT8 fb7.1 fb7.2 (by have := HU.out.hB; omega))
    have d0 : W8.cell? ⟨b4, 0, none⟩ = some (.int .i64 (X : Int)) := D8.cell 0
    have d1 : W8.cell? ⟨b4, 1, none⟩ = some (.int .i64 (Y : Int)) := D8.cell 1
    have HT8 := Lib.hid T8
    clear C5 hk6 C6 D6 B7 l7 k7 hT8 y6 y7 y8 HMT hB5 t6 lg6 hu6 s5 s6 HU5 HK5 c2 T8
    go_upto_region 8 with (first
      | (refine wl_load 43 17 _ Tryd.underlying43 rfl size27 _ rfl rfl _ rfl _ _ hB8 (tbV_size _ _) ?_)
      | (go_at_call 88; rw [HXY.out]; refine (HLN.out _ _ HU8.out HT8.out fg6).mono ?_; rintro e w9 ⟨g9, lg9, ln9, rfl, hu9, hk9⟩))
    have C9 := hk9.blk C8 fb.1 fb.2
    have D9 := hk9.blk D8 fb4.1 fb4.2
    have HK9 := Lib.hid (HK8.out.trans hk9)
    have HU9 := Lib.hid hu9
    have h256 : 256 < l.length := by omega
    have cl := ln9.cell 256 h256
    have HV : Hid (l.getD 256 0 = l[256]) := Lib.hid (by rw [List.getD_eq_getElem?_getD, List.getElem?_eq_getElem h256]; rfl)
    rw [HV.out] at hR
    have HLN9 := Lib.hid ln9
    try rw [hlen]
    generalize l[256] = v at *
    clear C8 D8 d0 d1 hB8 HLN hk9 HU8 HT8 HK8 hu9 HV
    by_cases c5 : v = 0
    · subst c5
      rw [if_pos rfl] at hR
      have HE := Lib.hid hR
      have cl0 : w9.cell? ⟨g9, 256, none⟩ = some (.int .i64 0) := cl
      clear hR cl ln9
      go_wp2_with (refine wl_store 45 34 size47 _ _ rfl rfl _ rfl zeroC rfl _ _ C9 zeroC_size zeroC_size zeroC_one ?_; intro WA hBA hTA)
      refine own_err (n := 3) hBA rfl rfl rfl ?_
      rw [HE.out]
      exact ⟨⟨_, rfl, zeroC_size, zeroC_one⟩, by omega, (HK9.out.turned hTA lb2).belowU HU.out⟩
    · rw [if_neg c5] at hR
      have qv : ((v : Int) == 0) = false := by rw [beq_eq_false_iff_ne]; omega
      obtain ⟨a, ha⟩ : ∃ a, a = (I.ints l).take X := ⟨_, rfl⟩
      obtain ⟨d, hd⟩ : ∃ d, d = (I.ints l).drop X := ⟨_, rfl⟩
      rw [← ha, ← hd] at hR
      have hla : a.length = X := by rw [ha, List.length_take, I.ints_len]; omega
      have hld : d.length = Y := by rw [hd, List.length_drop, I.ints_len]; omega
      have iA : ∀ W, Below w9.heap.size w9 W → Ints W a (some ⟨g9, 0, none⟩) g9 0 := fun W hW => by
        have := (ln9.keepB (hW.block g9 ln9.lt.2)).ints (fun x hx => by have := hsm x hx; omega) 0 X (by omega)
        rwa [List.drop_zero, ← ha] at this
      have iD : ∀ W, Below w9.heap.size w9 W → Ints W d (some ⟨g9, X, none⟩) g9 X := fun W hW => by
        have := (ln9.keepB (hW.block g9 ln9.lt.2)).ints (fun x hx => by have := hsm x hx; omega) X Y (by omega)
        rwa [← hd, List.take_of_length_le (by omega)] at this
      have HMD : Hid (∀ W, Below w9.heap.size w9 W → Calls Tryd.prog 39 #[.slice (some ⟨g9, 0, none⟩) X (X + Y), .slice (some ⟨g9, X, none⟩) Y Y] W (MdPost a d W)) := Lib.hid fun W hW => by
        have := made_any a d (some ⟨g9, 0, none⟩) (some ⟨g9, X, none⟩) g9 0 g9 X (X + Y) Y W (by omega) (by omega) (Lib.hid (iA W hW)) (Lib.hid (iD W hW))
        rwa [hla, hld] at this
      have d0 : w9.cell? ⟨b4, 0, none⟩ = some (.int .i64 (X : Int)) := D9.cell 0
      have HRR := Lib.hid hR
      clear iA iD ha hd hla hld ln9 hlen hsm hR
      have e1 : (0 : Int) ≤ (X : Int) := by omega
      have e2 : (X : Int) ≤ ((X + Y : Nat) : Int) := by omega
      have e3 : ¬ (X + Y = X) := by omega
      have e4 : X ≤ X + Y := by omega
      have e5 : X + Y - X = Y := by omega
      go_upto_region 12 with (fail)
      refine wp_region_held_drew (S := fun w' => w'.cell? ⟨b4, 0, none⟩ = some (.int .i64 (X : Int))) (by kernel_rfl) d0 (fun hHeld => ?_)
      refine wpAnyH_take (i := 0) (v := .slice (some ⟨g9, 0, none⟩) (X + Y) (X + Y)) rfl (by kernel_rfl) (by kernel_rfl) (by kernel_rfl) (fun _ _ _ h => h) (Or.inl ⟨by rfl, fun w' hSw => by dsimp only at hSw; go_simp⟩) (by assumption) ?_
      simp only [Act.put, List.getElem_toArray, List.getElem_cons_succ, List.getElem_cons_zero, List.setIfInBounds_toArray, List.set_cons_zero, List.set_cons_succ]
      refine wpAnyH_take (i := 1) (v := .pointer (some ⟨b4, 0, none⟩)) rfl (by kernel_rfl) (by kernel_rfl) (by kernel_rfl) (fun _ _ _ h => h) (Or.inl ⟨by rfl, fun w' hSw => by dsimp only at hSw; go_simp⟩) (by assumption) ?_
      simp only [Act.put, List.getElem_toArray, List.getElem_cons_succ, List.getElem_cons_zero, List.setIfInBounds_toArray, List.set_cons_zero, List.set_cons_succ]
      refine wpAnyH_take (i := 2) (v := .int .i64 (X : Int)) rfl (by kernel_rfl) (by kernel_rfl) (by kernel_rfl) (fun _ _ _ h => h) (Or.inl ⟨by rfl, fun w' hSw => by dsimp only at hSw; go_simp⟩) (by assumption) ?_
      simp only [Act.put, List.getElem_toArray, List.getElem_cons_succ, List.getElem_cons_zero, List.setIfInBounds_toArray, List.set_cons_zero, List.set_cons_succ]
      refine wpAnyH_take (i := 3) (v := .slice (some ⟨g9, 0, none⟩) X (X + Y)) rfl (by kernel_rfl) (by kernel_rfl) (by kernel_rfl) (fun _ _ _ h => h) (Or.inl ⟨by rfl, fun w' hSw => by dsimp only at hSw; go_simp; intro hh; exact absurd hh (by omega)⟩) (by assumption) ?_
      simp only [Act.put, List.getElem_toArray, List.getElem_cons_succ, List.getElem_cons_zero, List.setIfInBounds_toArray, List.set_cons_zero, List.set_cons_succ]
      refine wpAnyH_take (i := 4) (v := .slice (some ⟨g9, 0, none⟩) (X + Y) (X + Y)) rfl (by kernel_rfl) (by kernel_rfl) (by kernel_rfl) (fun _ _ _ h => h) (Or.inl ⟨by rfl, fun w' hSw => by dsimp only at hSw; go_simp⟩) (by assumption) ?_
      simp only [Act.put, List.getElem_toArray, List.getElem_cons_succ, List.getElem_cons_zero, List.setIfInBounds_toArray, List.set_cons_zero, List.set_cons_succ]
      refine wpAnyH_take (i := 5) (v := .pointer (some ⟨b4, 0, none⟩)) rfl (by kernel_rfl) (by kernel_rfl) (by kernel_rfl) (fun _ _ _ h => h) (Or.inl ⟨by rfl, fun w' hSw => by dsimp only at hSw; go_simp⟩) (by assumption) ?_
      simp only [Act.put, List.getElem_toArray, List.getElem_cons_succ, List.getElem_cons_zero, List.setIfInBounds_toArray, List.set_cons_zero, List.set_cons_succ]
      refine wpAnyH_take (i := 6) (v := .int .i64 (X : Int)) rfl (by kernel_rfl) (by kernel_rfl) (by kernel_rfl) (fun _ _ _ h => h) (Or.inl ⟨by rfl, fun w' hSw => by dsimp only at hSw; go_simp⟩) (by assumption) ?_
      simp only [Act.put, List.getElem_toArray, List.getElem_cons_succ, List.getElem_cons_zero, List.setIfInBounds_toArray, List.set_cons_zero, List.set_cons_succ]
      refine wpAnyH_take (i := 7) (v := .slice (some ⟨g9, X, none⟩) Y Y) rfl (by kernel_rfl) (by kernel_rfl) (by kernel_rfl) (fun _ _ _ h => h) (Or.inl ⟨by rfl, fun w' hSw => by dsimp only at hSw; go_simp; rw [if_pos (by omega), if_neg (by omega)]⟩) (by assumption) ?_
      simp only [Act.put, List.getElem_toArray, List.getElem_cons_succ, List.getElem_cons_zero, List.setIfInBounds_toArray, List.set_cons_zero, List.set_cons_succ]
      refine wpAnyH_ready (rs := [8]) (by kernel_rfl) (by simp) ?_
      refine AllReadyH.cons rfl (fun K hK => ?_) AllReadyH.nil
      go_simp
      go_at_call 39
      refine (HMD.out _ (bq_drew (bq_refl w9))).mono ?_
      rintro e wA ⟨V, E, rfl, zV, oV, hbA, hcase⟩
      have hb9A : Below w9.heap.size w9 wA := (bq_drew (bq_refl w9)).trans (hbA.mono (Nat.le_refl _))
      have CA := C9.keep hb9A
      have DA := D9.keep hb9A
      go_wp2_with fail
      refine hK.out _ _ (DA.cell 0) (fun hHeld2 => ?_)
      clear hK K
      try simp only [Act.put, List.getElem_toArray, List.getElem_cons_succ, List.getElem_cons_zero, List.setIfInBounds_toArray, List.set_cons_zero, List.set_cons_succ]
      refine wpAnyH_take (i := 9) (v := .agg V) rfl (by kernel_rfl) (by kernel_rfl) (by kernel_rfl) (fun _ _ _ h => h) (Or.inl ⟨by rfl, fun w' hSw => by dsimp only at hSw; go_simp⟩) (by assumption) ?_
      try simp only [Act.put, List.getElem_toArray, List.getElem_cons_succ, List.getElem_cons_zero, List.setIfInBounds_toArray, List.set_cons_zero, List.set_cons_succ]
      refine wpAnyH_take (i := 10) (v := .int .i64 (E : Int)) rfl (by kernel_rfl) (by kernel_rfl) (by kernel_rfl) (fun _ _ _ h => h) (Or.inl ⟨by rfl, fun w' hSw => by dsimp only at hSw; go_simp⟩) (by assumption) ?_
      try simp only [Act.put, List.getElem_toArray, List.getElem_cons_succ, List.getElem_cons_zero, List.setIfInBounds_toArray, List.set_cons_zero, List.set_cons_succ]
      refine wpAnyH_ready (rs := [11]) (by kernel_rfl) (by simp) ?_
      refine AllReadyH.cons rfl (fun K hK => ?_) AllReadyH.nil
      rw [if_pos (by rfl)]
      refine wp_store_row 45 _ _ rfl b2 V rfl rfl 45 zeroC CA (by rw [size47, zV]) (by rw [zeroC_size, zV]) oV ?_
      refine hK.out _ _ ((DA.rowOther b2 V (Ne.symm ne24)).cell 0) (fun hHeld3 => ?_)
      clear hK K
      try simp only [Act.put, List.getElem_toArray, List.getElem_cons_succ, List.getElem_cons_zero, List.setIfInBounds_toArray, List.set_cons_zero, List.set_cons_succ]
      refine wpAnyH_take (i := 12) (v := .int .i64 (E : Int)) rfl (by kernel_rfl) (by kernel_rfl) (by kernel_rfl) (fun _ _ _ h => h) (Or.inl ⟨by rfl, fun w' hSw => by dsimp only at hSw; go_simp⟩) (by assumption) ?_
      try simp only [Act.put, List.getElem_toArray, List.getElem_cons_succ, List.getElem_cons_zero, List.setIfInBounds_toArray, List.set_cons_zero, List.set_cons_succ]
      refine wpAnyH_done (by kernel_rfl) ?_ _
      have BR := CA.row V
      have HKR := Lib.hid ((HK9.out.trans (Kp.of_below b sl hb9A)).turned (turned_row wA b2 V) lb2)
      have HUR := Lib.hid ((HU9.out.keep hb9A).turned (turned_row wA b2 V) fb.1 fb.2 (by have := HU.out.hB; omega))
      have TR : ∀ zs' g', Tb wA zs' g' → g' ≠ b2 → Tb (wA.setRow b2 V) zs' g' := fun zs' g' t hne => ⟨t.1.rowOther b2 V hne, t.2⟩
      generalize wA.setRow b2 V = wB at *
      go_wp2
      refine post_cell_tmp (v := .int .i64 (E : Int)) Tryd.underlying45 rfl size47 Tryd.results69 BR zV rfl rfl rfl ?_
      rw [HRR.out]
      have sA := hb9A.size
      have sK := HK9.out.size
      have sD : w9.drew.heap.size = w9.heap.size := rfl
      rcases hcase with ⟨n0, hE⟩ | ⟨rfl, ea, ed, ga, gd, la, ld, ta, td, rfl⟩
      · have hRe : (if errN a ≠ 0 then Except.error (errN a) else if errN d ≠ 0 then Except.error (errN d) else Except.ok ((a, d), p3)) = (Except.error E : Except Nat ((List Int × List Int) × Nat)) := by
          by_cases h : errN a ≠ 0
          · rw [if_pos h] at hE ⊢; rw [hE]
          · rw [if_neg h] at hE ⊢
            rw [if_pos (by rw [← hE]; exact n0), hE]
        rw [hRe]
        exact ⟨⟨_, rfl, zV, oV⟩, n0, HKR.out.belowU HU.out⟩
      · rw [if_neg (fun h => h ea), if_neg (fun h => h ed)]
        have hw9 : b2 < w9.heap.size := C9.lt
        exact ⟨ga, gd, by omega, by omega, TR _ _ ta (by omega), TR _ _ td (by omega), rfl, HUR.out, HKR.out⟩
end
end Go.Proofs.YtddiccdfeckgaaaDoor
/- Layer 5: a block. -/
namespace Go.Proofs.YtddiccdfeckgaaaDoor
open Go.RowKit
set_option maxRecDepth 100000
set_option linter.unusedVariables false
def I.ownB (s : ByteArray) (most p : Nat) (out : List UInt8) : Except Nat (Nat × List UInt8) :=
  match I.own s p with
  | .error e => .error e
  | .ok ((a, d), q) => I.syms a d s most q out
def StepQ (w : World) (B b : Nat) (s : ByteArray) (most : Nat) (sl : Value) (F : Array Value) (R : Except Nat (Nat × List UInt8)) (E : Nat) (w' : World) : Prop :=
  match R with
  | .ok (q, o) => E = 0 ∧ ∃ sl', U w' B b s q most sl' o F ∧ Kp b sl w w' sl'
  | .error e0 => E = e0 ∧ e0 ≠ 0 ∧ Below B w w'
theorem step_form {w : World} {B b : Nat} {s : ByteArray} {most : Nat} {sl : Value} {F : Array Value} {R : Except Nat (Nat × List UInt8)} {e : Ending} {w' : World} (h : StepPost w B b s most sl F R e w') : ∃ E : Nat, e = .returned (.int .i64 (E : Int)) ∧ Hid (StepQ w B b s most sl F R E w') := by
  cases R with
  | ok r => obtain ⟨q, o⟩ := r; exact ⟨0, h.1, Lib.hid ⟨rfl, h.2⟩⟩
  | error e0 => exact ⟨e0, h.1, Lib.hid ⟨rfl, h.2⟩⟩
theorem step_back {w W : World} {B b : Nat} {s : ByteArray} {p most : Nat} {sl : Value} {out : List UInt8} {F : Array Value} {R : Except Nat (Nat × List UInt8)} {E : Nat} {w' : World} (hu : U w B b s p most sl out F) (hk : Kp b sl w W sl) (h : StepQ W B b s most sl F R E w') : StepPost w B b s most sl F R (.returned (.int .i64 (E : Int))) w' := by
  cases R with
  | ok r => obtain ⟨q, o⟩ := r; obtain ⟨rfl, sl', h1, h2⟩ := h; exact ⟨rfl, sl', h1, hk.trans h2⟩
  | error e0 => obtain ⟨rfl, h1, h2⟩ := h; exact ⟨rfl, h1, (hk.belowU hu).trans h2⟩
theorem upA_F (s : ByteArray) (p most : Nat) (sl : Value) (F : Array Value) (h : F.size = 34) : (upA s p most sl F).extract 4 (4 + 34) = F := by
  unfold upA
  rw [Array.extract_append]
  apply Array.ext'
  simp
  rw [List.take_of_length_le (by rw [Array.length_toList, h]; omega)]
theorem U.rangeF {w : World} {B b : Nat} {s : ByteArray} {p most : Nat} {sl : Value} {out : List UInt8} {F : Array Value} (h : U w B b s p most sl out F) (hF : F.size = 34) : w.rangeAt b 4 F.toList := by
  have := World.rangeAt_of_block h.blk 4 34
  rwa [upA_F s p most sl F hF] at this
section
variable {w : World} {B b : Nat} {s : ByteArray} {p most : Nat} {sl : Value} {out : List UInt8} {F : Array Value}
set_option maxRecDepth 100000 in
theorem ownBlock_any (hs : s.size ≤ 1048576) (hu : U w B b s p most sl out F) (hp : p ≤ 8 * s.size) (hm : most ≤ 262144) (ho : out.length ≤ most) :
    Calls Tryd.prog 43 #[.pointer (some ⟨b, 0, none⟩)] w (StepPost w B b s most sl F (I.ownB s most p out)) := by
  have HU := Lib.hid hu
  have HO := Lib.hid (fun W (hW : U W B b s p most sl out F) => own_any hs hW hp)
  unfold I.ownB
  cases h1 : I.own s p with
  | error e1 =>
    rw [h1] at HO
    clear hu h1
    go_enter Tryd.func43, Tryd.ntmps43
    go_upto_region 2 with (first
      | (go_at_call 69; refine (HO.out _ HU.out).mono ?_; rintro e w3 ⟨⟨v3, rfl, z3, o3⟩, n0, hb3⟩)
      | (refine wl_alloc 45 _ zero47 rfl rfl ?_; intro W4 b4 B4 l4 k4)
      | (refine wl_store 45 34 size47 _ _ rfl rfl _ rfl v3 rfl _ _ B4 zeroC_size z3 o3 ?_; intro W5 hB5 hT5))
    have q0 : ((e1 : Int) != 0) = true := by rw [bne_iff_ne]; omega
    have s3 := hb3.size
    have hB := HU.out.hB
    have HB5 := Lib.hid (hT5.below' (hb3.trans (k4.mono (by omega))) (by omega))
    clear hb3 k4 hT5 B4 l4 hB5
    go_wp2
    go_ret
    exact ⟨rfl, n0, HB5.out⟩
  | ok r =>
    obtain ⟨⟨a, d⟩, q⟩ := r
    have a1 := I.own_lt h1
    rw [h1] at HO
    have HSY := Lib.hid (fun W (ga gd : Nat) (hW : U W B b s q most sl out F) (ta : Tb W a ga) (td : Tb W d gd) (fa : ga ≠ b ∧ sl.ownBlock ≠ some ga) (fd : gd ≠ b ∧ sl.ownBlock ≠ some gd) => symbols_any hs hW a1.2.1 hm ho ta td fa fd)
    simp only []
    generalize I.syms a d s most q out = R at *
    clear hu h1 hm ho
    go_enter Tryd.func43, Tryd.ntmps43
    go_upto_region 2 with (first
      | (go_at_call 69; refine (HO.out _ HU.out).mono ?_; rintro e w3 ⟨ga, gd, lga, lgd, ta, td, rfl, hu3, hk3⟩)
      | (refine wl_alloc 45 _ zero47 rfl rfl ?_; intro W4 b4 B4 l4 k4)
      | (refine wl_store 45 34 size47 _ _ rfl rfl _ rfl (cdV a d ga gd) rfl _ _ B4 zeroC_size (cdV_size _ _ _ _) (cdV_one _ _ _ _) ?_; intro W5 hB5 hT5))
    have s3 := hk3.size
    have y1 := ta.1.lt
    have y2 := td.1.lt
    have lb4 : w.heap.size ≤ b4 := by omega
    have fb4 := HU.out.far_blk lb4
    have TA := Lib.hid (⟨hT5.blk (ta.1.keep k4) (by omega), ta.2⟩ : Tb W5 a ga)
    have TD := Lib.hid (⟨hT5.blk (td.1.keep k4) (by omega), td.2⟩ : Tb W5 d gd)
    have FA := Lib.hid (HU.out.far_blk lga)
    have FD := Lib.hid (HU.out.far_blk lgd)
    have HU5 := Lib.hid ((hu3.keep k4).turned hT5 fb4.1 fb4.2 (by have := HU.out.hB; omega))
    have HK5 := Lib.hid ((hk3.trans (Kp.of_below b sl k4)).turned hT5 lb4)
    clear hu3 hk3 k4 hT5 B4 l4 ta td y1 y2 lga lgd s3
    go_wp2_with (first
      | (refine wl_load 45 34 _ Tryd.underlying45 rfl size47 _ rfl rfl _ rfl _ _ hB5 (cdV_size _ _ _ _) ?_)
      | (go_at_call 42; refine (HSY.out _ ga gd HU5.out TA.out TD.out FA.out FD.out).mono ?_; intro e w6 h6; obtain ⟨E, rfl, h7⟩ := step_form h6))
    go_ret
    exact step_back HU.out HK5.out h7.out
def BlPost (w : World) (B b : Nat) (s : ByteArray) (most : Nat) (sl : Value) (F : Array Value) (R : Except Nat (Bool × Nat × List UInt8)) (e : Ending) (w' : World) : Prop :=
  match R with
  | .ok (t, q, o) => e = .returned (.tuple #[.bool t, .int .i64 0]) ∧ ∃ sl', U w' B b s q most sl' o F ∧ Kp b sl w w' sl'
  | .error e0 => (∃ t, e = .returned (.tuple #[.bool t, .int .i64 (e0 : Int)])) ∧ e0 ≠ 0 ∧ Below B w w'
theorem I.num_bit {s : ByteArray} {p v q : Nat} (h : I.num s p 1 = .ok (v, q)) : v < 2 ∧ q ≤ 8 * s.size := by
  have a4 := nb_lt s p 1
  have a5 : B.P2 1 = 2 := rfl
  have := I.num_ok h
  omega
theorem I.num_2 {s : ByteArray} {p v q : Nat} (h : I.num s p 2 = .ok (v, q)) : v < 4 ∧ q ≤ 8 * s.size := by
  have a4 := nb_lt s p 2
  have a5 : B.P2 2 = 4 := rfl
  have := I.num_ok h
  omega
def blR (x : Nat) (R : Except Nat (Nat × List UInt8)) : Except Nat (Bool × Nat × List UInt8) := match R with | .error e => .error e | .ok (q, o) => .ok (x == 1, q, o)
theorem block_back {w W : World} {B b : Nat} {s : ByteArray} {p most : Nat} {sl : Value} {out : List UInt8} {F : Array Value} {R : Except Nat (Nat × List UInt8)} {E x : Nat} {w' : World} (hu : U w B b s p most sl out F) (hk : Kp b sl w W sl) (h : StepQ W B b s most sl F R E w') :
    BlPost w B b s most sl F (blR x R) (.returned (.tuple #[.bool ((x : Int) == 1), .int .i64 (E : Int)])) w' := by
  have hx : ((x : Int) == 1) = (x == 1) := by
    rw [Bool.eq_iff_iff, beq_iff_eq, beq_iff_eq]; omega
  rw [hx]
  cases R with
  | ok r => obtain ⟨q, o⟩ := r; obtain ⟨rfl, sl', h1, h2⟩ := h; exact ⟨rfl, sl', h1, hk.trans h2⟩
  | error e0 => obtain ⟨rfl, h1, h2⟩ := h; exact ⟨⟨_, rfl⟩, h1, (hk.belowU hu).trans h2⟩
set_option maxHeartbeats 1000000 in
set_option maxRecDepth 100000 in
theorem block_any {ga gd : Nat} (hs : s.size ≤ 1048576) (hF : F = cdV I.fixA I.fixD ga gd) (hu : U w B b s p most sl out F) (hp : p ≤ 8 * s.size) (hm : most ≤ 262144) (ho : out.length ≤ most)
    (ta : Tb w I.fixA ga) (td : Tb w I.fixD gd) (fa : ga ≠ b ∧ sl.ownBlock ≠ some ga) (fd : gd ≠ b ∧ sl.ownBlock ≠ some gd) :
    Calls Tryd.prog 17 #[.pointer (some ⟨b, 0, none⟩)] w (BlPost w B b s most sl F (I.block s most p out)) := by
  have HU := Lib.hid hu
  unfold I.block
  cases h1 : I.num s p 1 with
  | error e1 =>
    have n0 : e1 ≠ 0 := by have := (I.num_err h1).1; omega
    have q0 : ((e1 : Int) != 0) = true := by rw [bne_iff_ne]; omega
    have HN : Hid (∀ W, U W B b s p most sl out F → Calls Tryd.prog 40 #[.pointer (some ⟨b, 0, none⟩), .int .i64 1] W fun e w' => e = .returned (.tuple #[.int .i64 0, .int .i64 (e1 : Int)]) ∧ U w' B b s p most sl out F ∧ Kp b sl W w' sl) := Lib.hid fun W hW => number_bad hs hW (by omega) (n := 1) (by omega) h1
    clear hu h1 hF
    go_enter Tryd.func17, Tryd.ntmps17
    go_wp2_with (go_at_call 40; refine (HN.out _ HU.out).mono ?_; rintro e w2 ⟨rfl, hu2, hk2⟩)
    go_ret2
    exact ⟨⟨_, rfl⟩, n0, hk2.belowU HU.out⟩
  | ok r1 =>
  obtain ⟨x, p1⟩ := r1
  obtain ⟨x1, x2⟩ := I.num_bit h1
  have HN : Hid (∀ W, U W B b s p most sl out F → Calls Tryd.prog 40 #[.pointer (some ⟨b, 0, none⟩), .int .i64 1] W fun e w' => e = .returned (.tuple #[.int .i64 (x : Int), .int .i64 0]) ∧ U w' B b s p1 most sl out F ∧ Kp b sl W w' sl) := Lib.hid fun W hW => number_ok hs hW (by omega) (n := 1) (by omega) h1
  simp only []
  cases h2 : I.num s p1 2 with
  | error e1 =>
    have n0 : e1 ≠ 0 := by have := (I.num_err h2).1; omega
    have q0 : ((e1 : Int) != 0) = true := by rw [bne_iff_ne]; omega
    have HN2 : Hid (∀ W, U W B b s p1 most sl out F → Calls Tryd.prog 40 #[.pointer (some ⟨b, 0, none⟩), .int .i64 2] W fun e w' => e = .returned (.tuple #[.int .i64 0, .int .i64 (e1 : Int)]) ∧ U w' B b s p1 most sl out F ∧ Kp b sl W w' sl) := Lib.hid fun W hW => number_bad hs hW (by omega) (n := 2) (by omega) h2
    clear hu h1 h2 hF
    go_enter Tryd.func17, Tryd.ntmps17
    go_upto_region 2 with (go_at_call 40; refine (HN.out _ HU.out).mono ?_; rintro e w2 ⟨rfl, hu2, hk2⟩)
    go_wp2_with (go_at_call 40; refine (HN2.out _ hu2).mono ?_; rintro e w3 ⟨rfl, hu3, hk3⟩)
    go_ret2
    exact ⟨⟨_, rfl⟩, n0, (hk2.trans hk3).belowU HU.out⟩
  | ok r2 =>
  obtain ⟨k, p2⟩ := r2
  obtain ⟨k1, k2⟩ := I.num_2 h2
  have HN2 : Hid (∀ W, U W B b s p1 most sl out F → Calls Tryd.prog 40 #[.pointer (some ⟨b, 0, none⟩), .int .i64 2] W fun e w' => e = .returned (.tuple #[.int .i64 (k : Int), .int .i64 0]) ∧ U w' B b s p2 most sl out F ∧ Kp b sl W w' sl) := Lib.hid fun W hW => number_ok hs hW (by omega) (n := 2) (by omega) h2
  simp only []
  have HT := Lib.hid (⟨ta, td⟩ : Tb w I.fixA ga ∧ Tb w I.fixD gd)
  have HFE := Lib.hid hF
  show Calls Tryd.prog 17 #[.pointer (some ⟨b, 0, none⟩)] w (BlPost w B b s most sl F (blR x (I.body s most p2 out k)))
  obtain ⟨R, hRb⟩ : ∃ R, R = I.body s most p2 out k := ⟨_, rfl⟩
  rw [← hRb]
  have HRB := Lib.hid hRb
  clear h1 h2 ta td hF hRb
  go_enter Tryd.func17, Tryd.ntmps17
  go_upto_region 2 with (go_at_call 40; refine (HN.out _ HU.out).mono ?_; rintro e w2 ⟨rfl, hu2, hk2⟩)
  go_upto_region 7 with (go_at_call 40; refine (HN2.out _ hu2).mono ?_; rintro e w3 ⟨rfl, hu3, hk3⟩)
  have HK3 := Lib.hid (hk2.trans hk3)
  have HU3 := Lib.hid hu3
  have rF := hu3.rangeF (by rw [HFE.out]; exact cdV_size _ _ _ _)
  rw [HFE.out] at rF
  have HTA := Lib.hid (HK3.out.tb HT.out.1 fa.1 fa.2)
  have HTD := Lib.hid (HK3.out.tb HT.out.2 fd.1 fd.2)
  have HST := Lib.hid (stored_any hs hu3 k2 hm ho)
  have HSY := Lib.hid (symbols_any hs hu3 k2 hm ho HTA.out HTD.out fa fd)
  have HOW := Lib.hid (ownBlock_any hs hu3 k2 hm ho)
  clear hu2 hk2 hu3 hk3 hu hm ho HN HN2
  by_cases c0 : k = 0
  · have HR : Hid (I.stored s most p2 out = R) := Lib.hid (by rw [HRB.out, c0]; rfl)
    rw [HR.out] at HST
    go_wp2_with (go_at_call 41; refine HST.out.mono ?_; intro e w6 h6; obtain ⟨E, rfl, h7⟩ := step_form h6)
    go_ret2
    exact block_back HU.out HK3.out h7.out
  by_cases c1 : k = 1
  · have HR : Hid (I.syms I.fixA I.fixD s most p2 out = R) := Lib.hid (by rw [HRB.out, c1]; rfl)
    rw [HR.out] at HSY
    go_wp2_with (first
      | (refine wl_mid 45 34 _ Tryd.underlying45 rfl size47 _ rfl rfl b 4 rfl _ rF (cdV_size _ _ _ _) ?_)
      | (go_at_call 42; refine HSY.out.mono ?_; intro e w6 h6; obtain ⟨E, rfl, h7⟩ := step_form h6))
    go_ret2
    exact block_back HU.out HK3.out h7.out
  by_cases c2 : k = 2
  · have HR : Hid (I.ownB s most p2 out = R) := Lib.hid (by rw [HRB.out, c2]; rfl)
    rw [HR.out] at HOW
    go_wp2_with (go_at_call 43; refine HOW.out.mono ?_; intro e w6 h6; obtain ⟨E, rfl, h7⟩ := step_form h6)
    go_ret2
    exact block_back HU.out HK3.out h7.out
  · have c3 : k = 3 := by omega
    have HR : Hid (R = .error 3) := Lib.hid (by rw [HRB.out, c3]; rfl)
    go_wp2
    go_ret2
    rw [HR.out]
    exact ⟨⟨_, rfl⟩, by omega, HK3.out.belowU HU.out⟩
end
end Go.Proofs.YtddiccdfeckgaaaDoor
