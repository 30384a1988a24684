import Derived.Test.YtddiccdfeckgaaaDoorZR
import Derived.Test.YtddiccdfeckgaaaDoorZQ
import Derived.Test.YtddiccdfeckgaaaDoorZH
import Derived.Test.YtddiccdfeckgaaaDoorZS
/- Layer 5: the document's Raw: what lies below. -/
namespace Go.Proofs.YtddiccdfeckgaaaDoor
open Go.RowKit
set_option maxRecDepth 100000
set_option linter.unusedVariables false
set_option linter.unusedSimpArgs false
theorem rsyms_any (s : ByteArray) (most p B : Nat) (sl : Value) (out : List UInt8) (za zb : List Int) (aa ab : Option Addr) (ba oa ca bb ob cb : Nat) (w : World) (hs : s.size ≤ 1048576) (hp : p ≤ 8 * s.size) (hm : most ≤ 262144) (ho : out.length ≤ most) (hro : RO w B sl out) (hB : B ≤ w.heap.size)
    (hza : za.length ≤ 1000) (hzb : zb.length ≤ 1000) (hia : Hid (Ints w za aa ba oa)) (hib : Hid (Ints w zb ab bb ob)) (hfa : sl.ownBlock ≠ some ba) (hfb : sl.ownBlock ≠ some bb) :
    Calls Tryd.prog 22 #[.string s, .agg (stA sl (p : Int) 0), .int .i64 (most : Int), .slice aa za.length ca, .slice ab zb.length cb] w (RPost w B sl (cdR s most p out za zb)) := by
  by_cases h : errN za = 0 ∧ errN zb = 0
  · have e : cdR s most p out za zb = I.syms za zb s most p out := by unfold cdR; rw [if_neg (fun k => k h.1), if_neg (fun k => k h.2)]
    rw [e]
    exact rcodes_ok s most p B sl out za zb aa ab ba oa ca bb ob cb w hs hp hm ho hro hB hia hib hfa hfb h.1 h.2
  · exact rcodes_bad s most p B sl out za zb aa ab ba oa ca bb ob cb w hs hp hm ho hro hB hza hzb hia hib hfa hfb h
theorem Ints.later {w0 w w' : World} {zs : List Int} {a : Option Addr} {b o g : Nat} (h : Ints w0 zs a b o) (k : Below w0.heap.size w0 w) (t : Turned g w w') (hg : w0.heap.size ≤ g) : Ints w' zs a b o :=
  ⟨h.1, h.2.1, fun i hi => by rw [t.cell (p := ⟨b, o + i, none⟩) (by have := h.lt (by omega); show b ≠ g; omega)]; exact (h.keep k).2.2 i hi⟩
/-- what a step of the document leaves -/
def RsOut (w : World) (B : Nat) (sl : Value) (R : Except Nat (Nat × List UInt8)) (a : Option Addr) (n c : Nat) (A : Int) (E : Nat) (w' : World) : Prop :=
  match R with
  | .ok (q, o) => A = (q : Int) ∧ E = 0 ∧ RO w' B (.slice a n c) o ∧ Kp w.heap.size sl w w' (.slice a n c)
  | .error e0 => E = e0 ∧ e0 ≠ 0 ∧ Below B w w'
theorem RPost.form {w : World} {B : Nat} {sl : Value} {R : Except Nat (Nat × List UInt8)} {e : Ending} {w' : World} (h : RPost w B sl R e w') : ∃ a n c A E, e = .returned (.agg (stA (.slice a n c) A ((E : Nat) : Int))) ∧ Hid (RsOut w B sl R a n c A E w') := by
  cases R with
  | error e0 =>
    obtain ⟨a, n, c, A, rfl, h0, hb⟩ := h
    exact ⟨a, n, c, A, e0, rfl, Lib.hid ⟨rfl, h0, hb⟩⟩
  | ok r =>
    obtain ⟨q, o⟩ := r
    obtain ⟨a, n, c, rfl, h1, h2⟩ := h
    exact ⟨a, n, c, (q : Int), 0, rfl, Lib.hid ⟨rfl, rfl, h1, h2⟩⟩
theorem RsOut.below {w : World} {B : Nat} {sl : Value} {R : Except Nat (Nat × List UInt8)} {a : Option Addr} {n c : Nat} {A : Int} {E : Nat} {w' : World} {o : List UInt8} (h : RsOut w B sl R a n c A E w') (hro : RO w B sl o) (hB : B ≤ w.heap.size) : Below B w w' := by
  cases R with
  | error e0 => exact h.2.2
  | ok r => obtain ⟨q, o2⟩ := r; exact h.2.2.2.belowR hro hB
theorem Blk.errOf {w : World} {b : Nat} {sl : Value} {A : Int} {E : Nat} {t : TypeId} (h : Blk w b (stA sl A (E : Int)) t) : errOf w b = E := by unfold Go.Proofs.YtddiccdfeckgaaaDoor.errOf; rw [h.st.2.2.1]; simp [intOf]
theorem Blk.atOf {w : World} {b : Nat} {sl : Value} {A : Nat} {E : Int} {t : TypeId} (h : Blk w b (stA sl (A : Int) E) t) : atOf w b = A := by unfold Go.Proofs.YtddiccdfeckgaaaDoor.atOf; rw [h.st.2.1]; simp [intOf]
/-- the document's unpacker goes on; or the last block has been; or there is an error -/
def RrRel (w : World) (B b : Nat) (s : ByteArray) (most : Nat) (R : Except Nat (Nat × List UInt8)) (t : Value) (wr : World) : Prop :=
  ∃ (x : Nat) (a : Option Addr) (n c : Nat) (A : Int) (E : Nat), t = .int .i64 (x : Int) ∧ x < 2 ∧ Blk wr b (stA (.slice a n c) A (E : Int)) 52 ∧ Below w.heap.size w wr ∧ B ≤ wr.heap.size ∧
    ((E ≠ 0 ∧ R = .error E) ∨ (E = 0 ∧ ∃ (p : Nat) (o : List UInt8), A = (p : Int) ∧ RO wr B (.slice a n c) o ∧ p ≤ 8 * s.size ∧ o.length ≤ most ∧ R = rwE (x == 1) s most p o))
theorem Below.low {w w' w'' : World} {X : Nat} (h : Below w.heap.size w w') (k : Below X w' w'') (hX : w.heap.size ≤ X) : Below w.heap.size w w'' := h.trans (k.mono hX)
theorem rr_step {w wr w2 w' W' : World} {B b : Nat} {s : ByteArray} {most p A1 A2 x k : Nat} {sl sl0 : Value} {o : List UInt8} {R R' : Except Nat (Nat × List UInt8)} {a : Option Addr} {n c : Nat} {A : Int} {E : Nat}
    (hr : R = I.blocks s most p o) (hn1 : I.num s p 1 = .ok (x, A1)) (hn2 : I.num s A1 2 = .ok (k, A2)) (hbody : I.body s most A2 o k = R') (ho : o.length ≤ most) (hp : p ≤ 8 * s.size)
    (h3 : RsOut w2 B sl R' a n c A E w') (hT : Turned b w' W') (hC : Blk W' b (stA (.slice a n c) A (E : Int)) 52) (hbl : Below w.heap.size w w2) (hwb : w.heap.size ≤ b) (hbB : b < B) (hB2 : B ≤ w2.heap.size) (hro : RO w2 B sl o)
    (hC0 : Blk wr b (stA sl0 (p : Int) 0) 52) :
    RrRel w B b s most R (.int .i64 (x : Int)) W' ∧ lgM s b W' < lgM s b wr := by
  have hx := (I.num_bit hn1).1
  have hb3 : Below B w2 w' := h3.below hro hB2
  have hbW : Below w.heap.size w W' := hT.below (hbl.trans (hb3.mono (by omega))) hwb
  have hsz : B ≤ W'.heap.size := by have := hb3.size; have := hT.size; omega
  have e0 : errOf wr b = 0 := Blk.errOf (E := 0) hC0
  cases R' with
  | error e1 =>
    obtain ⟨rfl, n0, _⟩ := h3
    refine ⟨⟨x, a, n, c, A, E, rfl, hx, hC, hbW, hsz, Or.inl ⟨n0, ?_⟩⟩, ?_⟩
    · rw [hr]
      exact I.blocks_err (by unfold I.block; rw [hn1]; simp only []; rw [hn2]; simp only []; rw [hbody])
    · unfold lgM
      rw [e0, hC.errOf, hC0.atOf, if_pos n0, if_neg (fun h => h rfl)]
      omega
  | ok r =>
    obtain ⟨q, o2⟩ := r
    obtain ⟨rfl, rfl, hro2, hk⟩ := h3
    have hblk : I.block s most p o = .ok (x == 1, q, o2) := by unfold I.block; rw [hn1]; simp only []; rw [hn2]; simp only []; rw [hbody]
    have a1 := I.block_lt hblk ho
    refine ⟨⟨x, a, n, c, (q : Int), 0, rfl, hx, hC, hbW, hsz, Or.inr ⟨rfl, q, o2, rfl, hro2.turned hT (fun e => ?_), a1.2.1, a1.2.2, ?_⟩⟩, ?_⟩
    · have := (hro2.lt b e).1; omega
    · rw [hr]
      cases hxx : (x == 1) with
      | false => rw [hxx] at hblk; exact I.blocks_more hblk ho
      | true => rw [hxx] at hblk; exact I.blocks_end hblk
    · unfold lgM
      have e1 : errOf W' b = 0 := Blk.errOf (E := 0) hC
      rw [e0, e1, hC0.atOf, hC.atOf, if_neg (fun h => h rfl), if_neg (fun h => h rfl)]
      omega
theorem I.body_0 (s : ByteArray) (most p : Nat) (o : List UInt8) : I.body s most p o 0 = I.stored s most p o := rfl
theorem I.body_1 (s : ByteArray) (most p : Nat) (o : List UInt8) : I.body s most p o 1 = cdR s most p o I.fixA I.fixD := by
  have e1 : errN I.fixA = 0 := fixA_err
  have e2 : errN I.fixD = 0 := by decide +kernel
  unfold cdR
  rw [if_neg (fun k => k e1), if_neg (fun k => k e2)]
  rfl
theorem I.body_2 (s : ByteArray) (most p : Nat) (o : List UInt8) : I.body s most p o 2 = match I.ownL s p with
    | .error e => .error e
    | .ok ((x, y), q) => cdR s most q o x y :=
  (show I.body s most p o 2 = I.ownB s most p o from rfl).trans (I.ownB_L s most p o)
theorem I.body_3 (s : ByteArray) (most p : Nat) (o : List UInt8) : I.body s most p o 3 = .error 3 := rfl
theorem I.ownL_lt {s : ByteArray} {p q : Nat} {x y : List Int} (h : I.ownL s p = .ok ((x, y), q)) : x.length ≤ 1000 ∧ y.length ≤ 1000 ∧ q ≤ 8 * s.size := by
  unfold I.ownL at h
  split at h
  · cases h
  · rename_i a b c p1 h1
    have b1 := I.cnts_lt h1
    split at h
    · cases h
    · rename_i p2 f h2
      have b2 := I.metas_lt _ _ _ _ _ _ h2 b1.2.1
      split at h
      · cases h
      · split at h
        · cases h
        · rename_i p3 l h3
          have b3 := I.lens_lt _ _ _ _ _ _ _ _ (Nat.le_refl _) (Nat.zero_le _) b2.2 h3
          split at h
          · cases h
          · injection h with h; injection h with h4 h5; injection h4 with h6 h7
            subst h5 h6 h7
            rw [List.length_take, List.length_drop, I.ints_len]
            omega
end Go.Proofs.YtddiccdfeckgaaaDoor
/- Layer 5: the document's Raw. -/
namespace Go.Proofs.YtddiccdfeckgaaaDoor
open Go.RowKit
set_option maxRecDepth 100000
set_option linter.unusedVariables false
set_option linter.unusedSimpArgs false
theorem built54 : Tryd.prog.built 52 [] = some (stA (.slice none 0 0) 0 0) := by kernel_rfl
theorem I.numS_2 {s : ByteArray} {A E v A' E' : Nat} (h : I.numS s 2 A E = (v, A', E')) : v < 4 := by
  unfold I.numS at h
  split at h
  · injection h with h1 h2; omega
  · split at h
    · rename_i hx
      have := (I.num_2 hx).1
      injection h with h1 h2; omega
    · injection h with h1 h2; omega
theorem I.block_S {s : ByteArray} {most p x A1 E1 k A2 E2 : Nat} {o : List UInt8} (h1 : I.numS s 1 p 0 = (x, A1, E1)) (h2 : I.numS s 2 A1 E1 = (k, A2, E2)) :
    (E2 ≠ 0 → I.block s most p o = .error E2) ∧ (E2 = 0 → I.num s p 1 = .ok (x, A1) ∧ I.num s A1 2 = .ok (k, A2)) := by
  constructor
  · intro e2
    unfold I.block
    by_cases e1 : E1 = 0
    · rw [(I.numS_zero h1 e1).2]
      simp only []
      rw [e1] at h2
      rw [I.numS_err h2 e2]
    · rw [I.numS_err h1 e1, I.numS_keep h2 e1]
  · intro e2
    obtain ⟨e1, n2⟩ := I.numS_zero h2 e2
    exact ⟨(I.numS_zero h1 e1).2, n2⟩
set_option maxHeartbeats 8000000 in
theorem rraw_any (s : ByteArray) (most : Int) (w : World) (hs : s.size ≤ 1048576) :
    Calls Tryd.prog 9 #[.string s, .int .i64 most] w fun e w' => e = .returned (rawR s most) ∧ Below w.heap.size w w' := by
  by_cases hm : most < 0 ∨ 262144 < most
  · have hR : rawR s most = rawT [] 0 1 := by unfold rawR I.raw; rw [if_pos hm]
    rw [hR]
    clear hR
    rcases hm with hm | hm
    · have q : decide (most < 0) = true := by rw [decide_eq_true_iff]; omega
      go_enter Tryd.func9, Tryd.ntmps9
      go_wp2
      go_ret3
      exact ⟨rfl, bq_refl _⟩
    · have q : decide (most < 0) = false := by rw [decide_eq_false_iff_not]; omega
      have q2 : decide (262144 < most) = true := by rw [decide_eq_true_iff]; omega
      go_enter Tryd.func9, Tryd.ntmps9
      go_wp2
      go_ret3
      exact ⟨rfl, bq_refl _⟩
  · obtain ⟨m, rfl⟩ : ∃ m : Nat, most = (m : Int) := ⟨most.toNat, by omega⟩
    have hm2 : m ≤ 262144 := by omega
    obtain ⟨R, hRe⟩ : ∃ R, R = I.blocks s m 0 [] := ⟨_, rfl⟩
    have hR : rawR s (m : Int) = rawV R := by rw [hRe]; exact rawR_eq s m hm2
    have HR := Lib.hid hR
    have HRE := Lib.hid hRe
    obtain ⟨V, hV⟩ : ∃ V, V = rawR s (m : Int) := ⟨_, rfl⟩
    rw [← hV] at HR ⊢
    have q : decide ((m : Int) < 0) = false := by rw [decide_eq_false_iff_not]; omega
    have q2 : decide (262144 < (m : Int)) = false := by rw [decide_eq_false_iff_not]; omega
    clear hm hR hRe hV
    go_enter Tryd.func9, Tryd.ntmps9
    go_upto_region 4 with (first
      | (refine wlg_build 52 _ _ built54 _ rfl rfl rfl ?_)
      | (refine wl_alloc 52 _ zero54 rfl rfl ?_; intro W3 b7 B7 l7 k7)
      | (refine wl_store 52 3 size54 _ _ rfl rfl b7 rfl (stA (.slice none 0 0) 0 0) rfl _ _ B7 rfl rfl (stA_one _ _ _ _ _) ?_; intro W4 C4 hT4))
    have lb7 : w.heap.size ≤ b7 := l7
    obtain ⟨B, hB⟩ : ∃ B, B = W4.heap.size := ⟨_, rfl⟩
    have hbB : b7 < B := by rw [hB]; exact C4.lt
    have HST : Hid (RrRel w B b7 s m R (.int .i64 0) W4) := Lib.hid ⟨0, none, 0, 0, 0, 0, rfl, by omega, C4, hT4.below k7 l7, by omega, Or.inr ⟨rfl, 0, [], rfl, RO.nil _ _, Nat.zero_le _, Nat.zero_le _, HRE.out⟩⟩
    have hwB : w.heap.size ≤ B := by omega
    clear B7 l7 k7 C4 hT4 hB HRE
    go_wp2
    go_loopw [8] (fun t wr => RrRel w B b7 s m R t wr) (fun _ wr => lgM s b7 wr)
    case atStart => exact HST.out
    case round =>
      obtain ⟨x, a, n, c, A, E, rfl, hx, hC, hbl, hBs, hQ⟩ := hrel
      clear HST
      obtain ⟨c0, c1, c2, g0, g1, g2⟩ := hC.st
      have HBL := Lib.hid hbl
      rcases hQ with ⟨e0, hRe⟩ | ⟨rfl, p, o, rfl, hro, hp, ho, hRe⟩
      · have HE : Hid (V = rawT [] 0 E) := Lib.hid (by rw [HR.out, hRe]; rfl)
        have q3 : ((E : Int) == 0) = false := by rw [beq_eq_false_iff_ne]; omega
        have q4 : ((E : Int) != 0) = true := by rw [bne_iff_ne]; omega
        clear hRe e0 hC hbl
        rcases (show x = 0 ∨ x = 1 by omega) with h0 | h0
        · rw [show ((x : Nat) : Int) = 0 by omega]
          clear h0
          go_upto_region 21 with (fail)
          go_quiet (fail)
          go_wp2
          go_ret3
          exact ⟨by rw [HE.out]; rfl, bq_drewN HBL.out nq⟩
        · rw [show ((x : Nat) : Int) = 1 by omega]
          clear h0
          go_upto_region 21 with (fail)
          go_quiet (fail)
          go_wp2
          go_ret3
          exact ⟨by rw [HE.out]; rfl, bq_drewN HBL.out nq⟩
      · have HRO := Lib.hid hro
        have c2 : wr.cell? ⟨b7, 2, none⟩ = some (.int .i64 0) := c2
        rcases (show x = 1 ∨ x = 0 by omega) with h0 | h0
        · have hr0 : R = .ok (p, o) := by rw [hRe, h0]; rfl
          have HE : Hid (V = rawT o ((p + 7) / 8) 0) := Lib.hid (by rw [HR.out, hr0]; rfl)
          rw [show ((x : Nat) : Int) = 1 by omega]
          obtain ⟨P7, hP7⟩ : ∃ P7, P7 = p + 7 := ⟨_, rfl⟩
          have e7 : (p : Int) + 7 = (P7 : Int) := by omega
          have hP9 : P7 ≤ 16777216 := by omega
          obtain ⟨D, hD⟩ : ∃ D, D = (p + 7) / 8 := ⟨_, rfl⟩
          have hdiv : (P7 : Int) / 8 = (D : Int) := by omega
          have HD := Lib.hid hdiv
          rw [← hD] at HE
          clear hr0 hRe h0 hC hbl hP7 hD hdiv hro
          go_upto_region 22 with (fail)
          have hcv : ∀ k, (convert 36 9 (.slice a n c)).run Tryd.prog (wr.drewN k) = .ok (.string (bs o)) (wr.drewN k) := fun k => (HRO.out.keep (bq_drewN (bq_refl wr) k)).str
          go_quiet (fail)
          go_wp2
          go_ret3
          exact ⟨by rw [HE.out]; unfold rawT; rw [← HD.out]; rfl, bq_drewN HBL.out nq⟩
        · have hr0 : R = I.blocks s m p o := by rw [hRe, h0]; rfl
          have HR0 := Lib.hid hr0
          rw [show ((x : Nat) : Int) = 0 by omega]
          obtain ⟨r1, hr1⟩ : ∃ r, I.numS s 1 p 0 = r := ⟨_, rfl⟩
          obtain ⟨y, A1, E1⟩ := r1
          have hp9 : p ≤ 16777216 := by omega
          obtain ⟨_, a1⟩ := I.numS_at hr1 hs (by omega) hp9
          obtain ⟨r2, hr2⟩ : ∃ r, I.numS s 2 A1 E1 = r := ⟨_, rfl⟩
          obtain ⟨k, A2, E2⟩ := r2
          obtain ⟨_, a2⟩ := I.numS_at hr2 hs (by omega) a1
          have hk4 := I.numS_2 hr2
          have HBS := Lib.hid (I.block_S (most := m) (o := o) hr1 hr2)
          have HN1 : Hid (∀ W, Calls Tryd.prog 19 #[.string s, .agg (stA (.slice a n c) (p : Int) 0), .int .i64 1] W fun e w' => e = .returned (.tuple #[.int .i64 (y : Int), .agg (stA (.slice a n c) (A1 : Int) (E1 : Int))]) ∧ Below W.heap.size W w') := Lib.hid fun W => rnumber_at hr1 a n c W hs hp9 (by omega)
          have HN2 : Hid (∀ W, Calls Tryd.prog 19 #[.string s, .agg (stA (.slice a n c) (A1 : Int) (E1 : Int)), .int .i64 2] W fun e w' => e = .returned (.tuple #[.int .i64 (k : Int), .agg (stA (.slice a n c) (A2 : Int) (E2 : Int))]) ∧ Below W.heap.size W w') := Lib.hid fun W => rnumber_at hr2 a n c W hs a1 (by omega)
          have fb7 : (Value.slice a n c).ownBlock ≠ some b7 := fun e => by have := (hro.lt b7 e).1; omega
          have C0 : Blk wr b7 (stA (.slice a n c) (p : Int) 0) 52 := hC
          have HC0 := Lib.hid C0
          clear hr0 hRe h0 hbl hC hr1 hr2 hro
          go_upto_region 8 with (first
            | (refine wl_load 52 3 _ Tryd.underlying52 rfl size54 _ rfl rfl _ rfl _ _ C0 (stA_size _ _ _) ?_)
            | (go_at_call 19; refine (HN1.out _).mono ?_; rintro e w1 ⟨rfl, hb1⟩)
            | (refine wl_store 52 3 size54 _ _ rfl rfl b7 rfl (stA (.slice a n c) (A1 : Int) (E1 : Int)) rfl _ _ (C0.keep hb1) rfl rfl (stA_one _ _ _ _ _) ?_; intro W1 C1 hT1))
          have HRO1 := Lib.hid ((HRO.out.keep hb1).turned hT1 fb7)
          have HBL1 := Lib.hid (hT1.below (bq_trans HBL.out hb1) lb7)
          have hB1 : B ≤ W1.heap.size := by have := hb1.size; have := hT1.size; omega
          clear C0 hb1 hT1 c0 c1 c2 g0 g1 g2 HN1
          go_upto_region 9 with (first
            | (refine wl_load 52 3 _ Tryd.underlying52 rfl size54 _ rfl rfl _ rfl _ _ C1 (stA_size _ _ _) ?_)
            | (go_at_call 19; refine (HN2.out _).mono ?_; rintro e w2 ⟨rfl, hb2⟩)
            | (refine wl_store 52 3 size54 _ _ rfl rfl b7 rfl (stA (.slice a n c) (A2 : Int) (E2 : Int)) rfl _ _ (C1.keep hb2) rfl rfl (stA_one _ _ _ _ _) ?_; intro W2 C2 hT2))
          have HRO2 := Lib.hid ((HRO1.out.keep hb2).turned hT2 fb7)
          have HBL2 := Lib.hid (hT2.below (bq_trans HBL1.out hb2) lb7)
          have hB2 : B ≤ W2.heap.size := by have := hb2.size; have := hT2.size; omega
          clear C1 hb2 hT2 HN2 HRO1 HBL1
          obtain ⟨c0, c1, c2, g0, g1, g2⟩ := C2.st
          by_cases hE2 : E2 = 0
          rotate_left
          · have HE : Hid (V = rawT [] 0 E2) := Lib.hid (by rw [HR.out, HR0.out, I.blocks_err (HBS.out.1 hE2)]; rfl)
            have q4 : ((E2 : Int) != 0) = true := by rw [bne_iff_ne]; omega
            clear hE2
            go_upto_region 21 with (fail)
            go_quiet (fail)
            go_wp2
            go_ret3
            exact ⟨by rw [HE.out]; rfl, bq_drewN HBL2.out nq⟩
          · obtain rfl : E2 = 0 := hE2
            have hnn := HBS.out.2 rfl
            have HNN := Lib.hid hnn
            have hA2 := (I.num_2 hnn.2).2
            have c2 : W2.cell? ⟨b7, 2, none⟩ = some (.int .i64 0) := c2
            have C2b : Blk W2 b7 (stA (.slice a n c) (A2 : Int) 0) 52 := C2
            clear hnn C2
            rcases (show k = 0 ∨ k = 1 ∨ k = 2 ∨ k = 3 by omega) with hk | hk | hk | hk
            · rw [show ((k : Nat) : Int) = 0 by omega]
              have HSTO := Lib.hid (rstored_any s m A2 B (.slice a n c) o W2 hs hA2 hm2 ho HRO2.out hB2)
              go_wp2_with (first
                | (refine wl_load 52 3 _ Tryd.underlying52 rfl size54 _ rfl rfl _ rfl _ _ C2b (stA_size _ _ _) ?_)
                | (go_at_call 20; refine HSTO.out.mono ?_; intro e w9 h9; obtain ⟨a9, n9, c9, A9, E9, rfl, HO9⟩ := RPost.form h9; have D9 := Blk.low C2b (HO9.out.below HRO2.out hB2) hbB)
                | (refine wl_store 52 3 size54 _ _ rfl rfl b7 rfl (stA (.slice a9 n9 c9) A9 (E9 : Int)) rfl _ _ D9 rfl rfl (stA_one _ _ _ _ _) ?_; intro W9 C9 hT9))
              have HFIN := Lib.hid (rr_step HR0.out HNN.out.1 HNN.out.2 (by rw [hk, I.body_0]) ho hp HO9.out hT9 C9 HBL2.out lb7 hbB hB2 HRO2.out HC0.out)
              clear HR0 HNN HC0
              go_roundw
              case rel => exact HFIN.out.1
              case measure => exact HFIN.out.2
            · rw [show ((k : Nat) : Int) = 1 by omega]
              go_upto_region 14 with (go_at_call 21; refine (plain_any _).mono ?_; rintro e w3 ⟨s3, t3, rfl, o3, p3, hb3⟩)
              obtain ⟨ga, ca, rfl, ia⟩ := o3.ints fixA_mem (by rw [fixA_len]; omega)
              obtain ⟨gb, cb, rfl, ib⟩ := p3.ints (fun x hx => by have := List.eq_of_mem_replicate hx; omega) (by rw [fixD_len]; omega)
              have fa : (Value.slice a n c).ownBlock ≠ some ga := fun e => by have := (HRO2.out.lt ga e).2; have := (World.ownsRow.lt o3 ga rfl).1; omega
              have fb : (Value.slice a n c).ownBlock ≠ some gb := fun e => by have := (HRO2.out.lt gb e).2; have := (World.ownsRow.lt p3 gb rfl).1; omega
              have HRO3 := Lib.hid (HRO2.out.keep hb3)
              have hB3 : B ≤ w3.heap.size := by have := hb3.size; omega
              have HBL3 := Lib.hid (bq_trans HBL2.out hb3)
              have C3 := C2b.keep hb3
              have HCD := Lib.hid (rsyms_any s m A2 B (.slice a n c) o I.fixA I.fixD (some ⟨ga, 0, none⟩) (some ⟨gb, 0, none⟩) ga 0 ca gb 0 cb w3 hs hA2 hm2 ho HRO3.out hB3 (by rw [fixA_len]; omega) (by rw [fixD_len]; omega) (Lib.hid ia) (Lib.hid ib) fa fb)
              generalize I.fixA.length = la at *
              generalize I.fixD.length = lb at *
              clear o3 p3 hb3 ia ib fa fb c0 c1 c2 g0 g1 g2 C2b
              go_wp2_with (first
                | (refine wl_load 52 3 _ Tryd.underlying52 rfl size54 _ rfl rfl _ rfl _ _ C3 (stA_size _ _ _) ?_)
                | (go_at_call 22; refine HCD.out.mono ?_; intro e w9 h9; obtain ⟨a9, n9, c9, A9, E9, rfl, HO9⟩ := RPost.form h9; have D9 := Blk.low C3 (HO9.out.below HRO3.out hB3) hbB)
                | (refine wl_store 52 3 size54 _ _ rfl rfl b7 rfl (stA (.slice a9 n9 c9) A9 (E9 : Int)) rfl _ _ D9 rfl rfl (stA_one _ _ _ _ _) ?_; intro W9 C9 hT9))
              have HFIN := Lib.hid (rr_step HR0.out HNN.out.1 HNN.out.2 (by rw [hk, I.body_1]) ho hp HO9.out hT9 C9 HBL3.out lb7 hbB hB3 HRO3.out HC0.out)
              clear HR0 HNN HC0
              go_roundw
              case rel => exact HFIN.out.1
              case measure => exact HFIN.out.2
            · rw [show ((k : Nat) : Int) = 2 by omega]
              have HLG := Lib.hid (rlengths_any s A2 B (.slice a n c) o W2 hs hA2 HRO2.out hB2)
              have HB2 := Lib.hid (I.body_2 s m A2 o)
              cases hL : I.ownL s A2 with
              | error e1 =>
                rw [hL] at HLG HB2
                simp only [] at HB2
                clear hL
                go_upto_region 17 with (first
                  | (refine wl_load 52 3 _ Tryd.underlying52 rfl size54 _ rfl rfl _ rfl _ _ C2b (stA_size _ _ _) ?_)
                  | (go_at_call 23; refine HLG.out.mono ?_; rintro e w3 ⟨A3, rfl, n0, hro3, hk3⟩)
                  | (refine wl_alloc 52 _ zero54 rfl rfl ?_; intro W4 b14 B4 l4 k4)
                  | (refine wl_store 52 3 size54 _ _ rfl rfl b14 rfl (stA (.slice a n c) (A3 : Int) (e1 : Int)) rfl _ _ B4 rfl rfl (stA_one _ _ _ _ _) ?_; intro W5 C5 hT5))
                have hb3 : Below B W2 w3 := hk3.belowR HRO2.out hB2
                have hB3 : B ≤ w3.heap.size := by have := hb3.size; omega
                have hB4 : B ≤ W4.heap.size := by have := k4.size; omega
                have hB5 : B ≤ W5.heap.size := by have := hT5.size; omega
                have f14 : (Value.slice a n c).ownBlock ≠ some b14 := fun e => by have := (hro3.lt b14 e).2; omega
                have HRO5 := Lib.hid ((hro3.keep k4).turned hT5 f14)
                have D5 : Blk W5 b7 (stA (.slice a n c) (A2 : Int) 0) 52 := hT5.blk ((C2b.low hb3 hbB).keep k4) (by omega)
                have HBL5 := Lib.hid (hT5.below (bq_trans (HBL2.out.trans (hb3.mono hwB)) k4) (by omega))
                have HCD := Lib.hid (fun ga gb la ca lb cb => rcodes_err s A3 e1 m n0 a n c ga gb la ca lb cb W5)
                clear hro3 hk3 B4 l4 k4 hT5 hb3 C2b c0 c1 c2 g0 g1 g2
                go_wp2_with (first
                  | (refine wl_load 52 3 _ Tryd.underlying52 rfl size54 _ rfl rfl _ rfl _ _ C5 (stA_size _ _ _) ?_)
                  | (go_at_call 22; refine (HCD.out _ _ _ _ _ _).mono ?_; rintro e w9 ⟨rfl, hb9⟩; have D9 := D5.keep hb9)
                  | (refine wl_store 52 3 size54 _ _ rfl rfl b7 rfl (stA (.slice a n c) (A3 : Int) (e1 : Int)) rfl _ _ D9 rfl rfl (stA_one _ _ _ _ _) ?_; intro W9 C9 hT9))
                have HO9 : Hid (RsOut W5 B (.slice a n c) (.error e1) a n c (A3 : Int) e1 w9) := Lib.hid ⟨rfl, n0, hb9.mono hB5⟩
                have HFIN := Lib.hid (rr_step HR0.out HNN.out.1 HNN.out.2 (by rw [hk]; exact HB2.out) ho hp HO9.out hT9 C9 HBL5.out lb7 hbB hB5 HRO5.out HC0.out)
                clear HR0 HNN HC0
                go_roundw
                case rel => exact HFIN.out.1
                case measure => exact HFIN.out.2
              | ok r =>
                obtain ⟨⟨xs, ys⟩, q⟩ := r
                have hlt := I.ownL_lt hL
                rw [hL] at HLG HB2
                simp only [] at HB2
                clear hL
                go_upto_region 17 with (first
                  | (refine wl_load 52 3 _ Tryd.underlying52 rfl size54 _ rfl rfl _ rfl _ _ C2b (stA_size _ _ _) ?_)
                  | (go_at_call 23; refine HLG.out.mono ?_; rintro e w3 ⟨g, d1, d2, rfl, ia, ib, lg, hro3, hk3⟩)
                  | (refine wl_alloc 52 _ zero54 rfl rfl ?_; intro W4 b14 B4 l4 k4)
                  | (refine wl_store 52 3 size54 _ _ rfl rfl b14 rfl (stA (.slice a n c) (q : Int) 0) rfl _ _ B4 rfl rfl (stA_one _ _ _ _ _) ?_; intro W5 C5 hT5))
                have hb3 : Below B W2 w3 := hk3.belowR HRO2.out hB2
                have hB3 : B ≤ w3.heap.size := by have := hb3.size; omega
                have hB4 : B ≤ W4.heap.size := by have := k4.size; omega
                have hB5 : B ≤ W5.heap.size := by have := hT5.size; omega
                have f14 : (Value.slice a n c).ownBlock ≠ some b14 := fun e => by have := (hro3.lt b14 e).2; omega
                have fg : (Value.slice a n c).ownBlock ≠ some g := fun e => by have := (HRO2.out.lt g e).2; omega
                have HRO5 := Lib.hid ((hro3.keep k4).turned hT5 f14)
                have D5 : Blk W5 b7 (stA (.slice a n c) (A2 : Int) 0) 52 := hT5.blk ((C2b.low hb3 hbB).keep k4) (by omega)
                have HBL5 := Lib.hid (hT5.below (bq_trans (HBL2.out.trans (hb3.mono hwB)) k4) (by omega))
                have ia5 := Lib.hid (ia.later k4 hT5 l4)
                have ib5 := Lib.hid (ib.later k4 hT5 l4)
                have HCD := Lib.hid (rsyms_any s m q B (.slice a n c) o xs ys (some ⟨g, 0, none⟩) (some ⟨g, xs.length, none⟩) g 0 d1 g xs.length d2 W5 hs hlt.2.2 hm2 ho HRO5.out hB5 hlt.1 hlt.2.1 ia5 ib5 fg fg)
                clear hro3 hk3 B4 l4 k4 hT5 hb3 C2b c0 c1 c2 g0 g1 g2 ia ib ia5 ib5 hlt
                go_wp2_with (first
                  | (refine wl_load 52 3 _ Tryd.underlying52 rfl size54 _ rfl rfl _ rfl _ _ C5 (stA_size _ _ _) ?_)
                  | (go_at_call 22; refine HCD.out.mono ?_; intro e w9 h9; obtain ⟨a9, n9, c9, A9, E9, rfl, HO9⟩ := RPost.form h9; have D9 := Blk.low D5 (HO9.out.below HRO5.out hB5) hbB)
                  | (refine wl_store 52 3 size54 _ _ rfl rfl b7 rfl (stA (.slice a9 n9 c9) A9 (E9 : Int)) rfl _ _ D9 rfl rfl (stA_one _ _ _ _ _) ?_; intro W9 C9 hT9))
                have HFIN := Lib.hid (rr_step HR0.out HNN.out.1 HNN.out.2 (by rw [hk]; exact HB2.out) ho hp HO9.out hT9 C9 HBL5.out lb7 hbB hB5 HRO5.out HC0.out)
                clear HR0 HNN HC0
                go_roundw
                case rel => exact HFIN.out.1
                case measure => exact HFIN.out.2
            · rw [show ((k : Nat) : Int) = 3 by omega]
              have HO9 : Hid (RsOut W2 B (.slice a n c) (.error 3) a n c (A2 : Int) 3 W2) := Lib.hid ⟨rfl, by omega, Below.refl _ _⟩
              have HFIN := Lib.hid (rr_step HR0.out HNN.out.1 HNN.out.2 (by rw [hk, I.body_3]) ho hp HO9.out (turned_set W2 ⟨b7, 2, none⟩ (.int .i64 3)) (C2b.st2 3) HBL2.out lb7 hbB hB2 HRO2.out HC0.out)
              clear HR0 HNN HC0
              clear C2b
              go_wp2
              go_roundw
              case rel => exact HFIN.out.1
              case measure => exact HFIN.out.2
end Go.Proofs.YtddiccdfeckgaaaDoor
/- Layer 5: the document's Open. -/
namespace Go.Proofs.YtddiccdfeckgaaaDoor
open Go.RowKit
set_option maxRecDepth 100000
set_option linter.unusedVariables false
set_option linter.unusedSimpArgs false
def RclRel (t : ByteArray) (v i : Value) : Prop := ∃ k : Nat, k ≤ 4 ∧ i = .int .i64 (k : Int) ∧ v = .int .i64 (I.be t k : Int)
set_option maxHeartbeats 4000000 in
theorem ropen_any (s : ByteArray) (most : Int) (w : World) (hs : s.size ≤ 1048576) :
    Calls Tryd.prog 11 #[.string s, .int .i64 most] w fun e w' => e = .returned (opV (I.opn s most)) ∧ Below w.heap.size w w' := by
  obtain ⟨V, hV⟩ : ∃ V, V = opV (I.opn s most) := ⟨_, rfl⟩
  rw [← hV]
  unfold I.opn at hV
  by_cases hm : most < 0 ∨ 262144 < most
  · rw [if_pos hm] at hV
    have HV := Lib.hid hV
    clear hV
    rcases hm with hm | hm
    · have q : decide (most < 0) = true := by rw [decide_eq_true_iff]; omega
      go_enter Tryd.func11, Tryd.ntmps11
      go_wp2
      go_ret2
      exact ⟨by rw [HV.out]; rfl, bq_refl _⟩
    · have q : decide (most < 0) = false := by rw [decide_eq_false_iff_not]; omega
      have q2 : decide (262144 < most) = true := by rw [decide_eq_true_iff]; omega
      go_enter Tryd.func11, Tryd.ntmps11
      go_wp2
      go_ret2
      exact ⟨by rw [HV.out]; rfl, bq_refl _⟩
  rw [if_neg hm] at hV
  have m0 : 0 ≤ most := by omega
  have m1 : most ≤ 262144 := by omega
  have q : decide (most < 0) = false := by rw [decide_eq_false_iff_not]; omega
  have q2 : decide (262144 < most) = false := by rw [decide_eq_false_iff_not]; omega
  clear hm
  by_cases h2 : s.size < 2
  · rw [if_pos h2] at hV
    have HV := Lib.hid hV
    clear hV
    go_enter Tryd.func11, Tryd.ntmps11
    go_wp2
    go_ret2
    exact ⟨by rw [HV.out]; rfl, bq_refl _⟩
  rw [if_neg h2] at hV
  have s0 : 0 < s.size := by omega
  have s1 : 1 < s.size := by omega
  have s2 : 2 ≤ s.size := by omega
  have i1 : (1 : Int) < (s.size : Int) := by omega
  have i2 : (1 : Int) ≤ (s.size : Int) := by omega
  have v0 : IntKind.i64.wrap (s[0].toNat : Int) = (s[0].toNat : Int) := by have := s[0].toNat_lt; exact i64_wrap _ (by omega) (by omega)
  have v1 : IntKind.i64.wrap (s[1].toNat : Int) = (s[1].toNat : Int) := by have := s[1].toNat_lt; exact i64_wrap _ (by omega) (by omega)
  have q1 : decide ((s.size : Int) < 2) = false := by rw [decide_eq_false_iff_not]; omega
  rw [I.byt_at s 0 s0, I.byt_at s 1 s1] at hV
  have HV := Lib.hid hV
  clear hV
  go_enter Tryd.func11, Tryd.ntmps11
  go_upto_region 5 with (fail)
  go_quiet (fail)
  have HB1 := Lib.hid (bq_drewN (bq_refl w) nq)
  generalize w.drewN nq = w1 at *
  have hx := s[0].toNat_lt
  have hy := s[1].toNat_lt
  generalize s[0].toNat = x at *
  generalize s[1].toNat = y at *
  obtain ⟨tt, htt⟩ : ∃ tt, tt = !(I.hd x y) := ⟨_, rfl⟩
  obtain ⟨x1, hx1⟩ : ∃ z, z = x % 16 := ⟨_, rfl⟩
  obtain ⟨x2, hx2⟩ : ∃ z, z = x / 16 := ⟨_, rfl⟩
  obtain ⟨x3, hx3⟩ : ∃ z, z = 256 * x + y := ⟨_, rfl⟩
  obtain ⟨x4, hx4⟩ : ∃ z, z = x3 % 31 := ⟨_, rfl⟩
  obtain ⟨y1, hy1⟩ : ∃ z, z = y / 32 := ⟨_, rfl⟩
  obtain ⟨y2, hy2⟩ : ∃ z, z = y1 % 2 := ⟨_, rfl⟩
  have e1 : (x : Int) % 16 = (x1 : Int) := by omega
  have e2 : (x : Int) / 16 = (x2 : Int) := by omega
  have e3 : 256 * (x : Int) + (y : Int) = (x3 : Int) := by omega
  have e4 : (x3 : Int) % 31 = (x4 : Int) := by omega
  have e5 : (y : Int) / 32 = (y1 : Int) := by omega
  have e6 : (y1 : Int) % 2 = (y2 : Int) := by omega
  have b3 : x3 ≤ 100000 := by omega
  have b1 : x1 ≤ 300 ∧ x2 ≤ 300 ∧ x4 ≤ 300 ∧ y1 ≤ 300 ∧ y2 ≤ 300 := by omega
  obtain ⟨b11, b12, b14, b15, b16⟩ := b1
  have htt2 : tt = (decide (x1 ≠ 8) || decide (7 < x2) || decide (x4 ≠ 0) || decide (y2 = 1)) := by
    rw [htt]
    unfold I.hd
    rw [Bool.eq_iff_iff]
    simp only [Bool.not_eq_true', Bool.and_eq_false_iff, Bool.or_eq_true, beq_eq_false_iff_ne, decide_eq_false_iff_not, decide_eq_true_eq]
    omega
  have HTT := Lib.hid htt2
  have HTD := Lib.hid htt
  clear htt htt2 hx1 hx2 hx3 hx4 hy1 hy2
  go_upto_region 6 with (fail)
  go_cut [50] (fun v wx => v = .bool tt ∧ w1 = wx)
  case first =>
    by_cases c1 : x1 = 8
    · have r1 : ((x1 : Int) != 8) = false := by rw [bne_eq_false_iff_eq]; omega
      by_cases c2 : 7 < x2
      · have r2 : decide (7 < (x2 : Int)) = true := by rw [decide_eq_true_iff]; omega
        have ht : tt = true := by rw [HTT.out]; simp [c2]
        subst ht
        go_wp2
        go_meet
        case rel => exact ⟨rfl, rfl⟩
      · have r2 : decide (7 < (x2 : Int)) = false := by rw [decide_eq_false_iff_not]; omega
        by_cases c3 : x4 = 0
        · have r3 : ((x4 : Int) != 0) = false := by rw [bne_eq_false_iff_eq]; omega
          by_cases c4 : y2 = 1
          · have r4 : ((y2 : Int) == 1) = true := by rw [beq_iff_eq]; omega
            have ht : tt = true := by rw [HTT.out]; simp [c4]
            subst ht
            go_wp2
            go_meet
            case rel => exact ⟨rfl, rfl⟩
          · have r4 : ((y2 : Int) == 1) = false := by rw [beq_eq_false_iff_ne]; omega
            have ht : tt = false := by rw [HTT.out]; simp [c1, c2, c3, c4]
            subst ht
            go_wp2
            go_meet
            case rel => exact ⟨rfl, rfl⟩
        · have r3 : ((x4 : Int) != 0) = true := by rw [bne_iff_ne]; omega
          have ht : tt = true := by rw [HTT.out]; simp [c3]
          subst ht
          go_wp2
          go_meet
          case rel => exact ⟨rfl, rfl⟩
    · have r1 : ((x1 : Int) != 8) = true := by rw [bne_iff_ne]; omega
      have ht : tt = true := by rw [HTT.out]; simp [c1]
      subst ht
      go_wp2
      go_meet
      case rel => exact ⟨rfl, rfl⟩
  case rest =>
    obtain ⟨rfl, rfl⟩ := hcut
    clear HTT
    cases tt with
    | true =>
      have HV2 : Hid (V = opV (.error 3)) := Lib.hid (by rw [HV.out, if_pos (by have := HTD.out; revert this; cases I.hd x y <;> simp)])
      clear HV HTD
      go_wp2
      go_ret2
      exact ⟨by rw [HV2.out]; rfl, HB1.out⟩
    | false =>
      have HV2 := Lib.hid (HV.out.trans (congrArg opV (if_neg (by have := HTD.out; revert this; cases I.hd x y <;> simp))))
      clear HV HTD
      go_upto_region 8 with (fail)
      obtain ⟨t, htt⟩ : ∃ t, t = s.extract 2 s.size := ⟨_, rfl⟩
      have hts : t.size = s.size - 2 := by rw [htt]; exact ext_size s 2
      have hex : ∀ n : Nat, n ≤ t.size → s.extract (2 + n) s.size = t.extract n t.size := fun n hn => by
        rw [htt, ext_size, ByteArray.extract_extract]
        congr 1
        omega
      have HEX := Lib.hid hex
      rw [← htt] at HV2
      have HTS := Lib.hid hts
      have ht1 : t.size ≤ 1048576 := by omega
      have HTE := Lib.hid htt
      clear htt hts hex
      have hrw := rraw_any t most w1 ht1
      cases h4 : I.raw t most with
      | error e1 =>
        rw [h4] at HV2
        rw [rawR_err h4] at hrw
        unfold rawT at hrw
        rw [HTE.out] at hrw
        have HRW := Lib.hid hrw
        clear hrw
        have n0 : e1 ≠ 0 := I.raw_err h4
        have q0 : ((e1 : Int) != 0) = true := by rw [bne_iff_ne]; omega
        clear h4
        go_wp2_with (go_at_call 9; refine HRW.out.mono ?_; rintro e w2 ⟨rfl, hb2⟩)
        go_ret2
        exact ⟨by rw [HV2.out]; rfl, bq_trans HB1.out hb2⟩
      | ok r =>
        obtain ⟨o, n⟩ := r
        rw [h4] at HV2
        rw [rawR_ok h4] at hrw
        unfold rawT at hrw
        rw [HTE.out] at hrw
        have HRW := Lib.hid hrw
        clear hrw
        obtain ⟨r0, r1, r2, r3, r4⟩ := I.raw_ok h4
        have hos : (bs o).size ≤ 1048576 := by rw [bs_size]; omega
        have HSM := Lib.hid (fun W => Ad.refsum_any (bs o) W hos)
        obtain ⟨sm1, sm2⟩ := I.sm_eq o
        rw [sm1] at HSM
        obtain ⟨S, hS⟩ : ∃ S, S = I.sm o := ⟨_, rfl⟩
        rw [← hS] at HSM sm2
        have hnt : n ≤ t.size := by omega
        obtain ⟨u, hu⟩ : ∃ u, u = t.extract n t.size := ⟨_, rfl⟩
        have hus : u.size = t.size - n := by rw [hu, ext_size]
        have hsu : s.extract (2 + n) s.size = u := by rw [HEX.out n hnt, hu]
        have HV3 : Hid (V = opV (if I.cl u S = 0 then .ok o else .error (I.cl u S))) := Lib.hid (by have hv := HV2.out; simp only [] at hv; rw [hv, hu, hS])
        obtain ⟨N2, hN2⟩ : ∃ N2, N2 = 2 + n := ⟨_, rfl⟩
        have en2 : 2 + (n : Int) = (N2 : Int) := by omega
        rw [← hN2] at hsu
        have HSU := Lib.hid hsu
        have hN3 : N2 ≤ s.size := by have := HTS.out; omega
        have hN4 : (N2 : Int) ≤ (s.size : Int) := by omega
        clear h4 HV2 hS hu sm1 hos hsu hN2 HEX
        go_upto_region 11 with (go_at_call 9; refine HRW.out.mono ?_; rintro e w2 ⟨rfl, hb2⟩)
        have HB2 := Lib.hid (bq_trans HB1.out hb2)
        clear hb2 HRW HB1
        go_upto_region 12 with (fail)
        rw [HSU.out]
        clear HSU
        by_cases c4 : u.size < 4
        · have HV4 : Hid (V = opT [] 2) := Lib.hid (by rw [HV3.out]; unfold I.cl; rw [if_pos c4]; rfl)
          go_wp2
          go_ret2
          exact ⟨by rw [HV4.out]; rfl, HB2.out⟩
        have q4 : decide ((u.size : Int) < 4) = false := by rw [decide_eq_false_iff_not]; omega
        have hu9 : u.size ≤ 1048576 := by omega
        go_wp2
        go_loop [12, 13] (fun v i => RclRel u v i) (fun _ i => 4 - (intOf i).toNat)
        case atStart => exact ⟨0, by omega, rfl, rfl⟩
        case round =>
          obtain ⟨k, hk, rfl, rfl⟩ := hrel
          have hb := I.be_lt u k hk
          by_cases hlt : k < 4
          · have hkt : k < u.size := by omega
            have HB : Hid (256 * I.be u k + I.byt u k = I.be u (k + 1)) := Lib.hid rfl
            rw [I.byt_at u k hkt] at HB
            have hc := u[k].toNat_lt
            obtain ⟨N, hN⟩ : ∃ N, N = I.be u (k + 1) := ⟨_, rfl⟩
            rw [← hN] at HB
            have HN := Lib.hid hN
            have e9 : 256 * (I.be u k : Int) + (u[k].toNat : Int) = (N : Int) := by have := HB.out; omega
            have b9 := I.be_lt u (k + 1) (by omega)
            rw [← hN] at b9
            clear hN HB
            generalize I.be u k = M at *
            go_wp2
            go_round
            case rel => exact ⟨k + 1, by omega, by go_num, by rw [← HN.out]⟩
            case measure => simp [intOf]; omega
          · obtain rfl : k = 4 := by omega
            have HV4 : Hid (V = opV (if (if I.be u 4 ≠ S then 5 else if 4 < u.size then 3 else 0) = 0 then .ok o else .error (if I.be u 4 ≠ S then 5 else if 4 < u.size then 3 else 0))) := Lib.hid (by rw [HV3.out]; unfold I.cl; rw [if_neg c4])
            generalize I.be u 4 = M at *
            obtain ⟨C, hC⟩ : ∃ C, C = (if M ≠ S then 5 else if 4 < u.size then 3 else 0) := ⟨_, rfl⟩
            rw [← hC] at HV4
            have HC := Lib.hid hC
            clear hC
            by_cases hM : M = S
            · subst hM
              by_cases h4 : 4 < u.size
              · have HF : Hid (V = opT [] 3) := Lib.hid (by rw [HV4.out, HC.out]; simp only [ne_eq, not_true_eq_false, if_false, if_pos h4]; rfl)
                go_wp2_with (go_at_call 27; refine (HSM.out _).mono ?_; rintro e w' ⟨rfl, rfl⟩)
                go_ret2
                exact ⟨by rw [HF.out]; rfl, HB2.out⟩
              · have HF : Hid (V = opT o 0) := Lib.hid (by rw [HV4.out, HC.out]; simp only [ne_eq, not_true_eq_false, if_false, if_neg h4]; rfl)
                go_wp2_with (go_at_call 27; refine (HSM.out _).mono ?_; rintro e w' ⟨rfl, rfl⟩)
                go_ret2
                exact ⟨by rw [HF.out]; rfl, HB2.out⟩
            · have HF : Hid (V = opT [] 5) := Lib.hid (by rw [HV4.out, HC.out, if_pos hM]; rfl)
              have q5 : ((M : Int) != (S : Int)) = true := by rw [bne_iff_ne]; omega
              go_wp2_with (go_at_call 27; refine (HSM.out _).mono ?_; rintro e w' ⟨rfl, rfl⟩)
              go_ret2
              exact ⟨by rw [HF.out]; rfl, HB2.out⟩
end Go.Proofs.YtddiccdfeckgaaaDoor
/- Layer 5: two laws: any packed bytes, any wrapped bytes are what the document says. -/
namespace Go.Proofs.YtddiccdfeckgaaaDoor
open Go.RowKit
set_option maxRecDepth 100000
set_option linter.unusedVariables false
set_option linter.unusedSimpArgs false
theorem rawR_form (s : ByteArray) (most : Int) : ∃ (A : ByteArray) (n e : Nat), rawR s most = .tuple #[.string A, .int .i64 (n : Int), .int .i64 (e : Int)] := by
  unfold rawR
  split
  · exact ⟨_, _, _, rfl⟩
  · exact ⟨_, _, _, rfl⟩
theorem opV_form (R : Except Nat (List UInt8)) : ∃ (A : ByteArray) (e : Nat), opV R = .tuple #[.string A, .int .i64 (e : Int)] := by
  unfold opV
  split
  · exact ⟨_, _, rfl⟩
  · exact ⟨_, _, rfl⟩
set_option maxHeartbeats 1000000 in
theorem inflateRaw_walk (s : ByteArray) (most : Int) (w : World) (hs : s.size ≤ maxLen) (hg : Gl w) :
    Calls Tryd.prog 3 #[.string s, .int .i64 most] w fun e w' => e = .returned (.bool true) ∧ Below w.heap.size w w' := by
  have HAW := Lib.hid (fun W (h : Gl W) => awake_any W h)
  have HG := Lib.hid hg
  have hs9 : s.size ≤ 9223372036854775807 := by unfold maxLen at hs; omega
  by_cases hl : 1024 < s.size
  · have q : decide (1024 < (s.size : Int)) = true := by rw [decide_eq_true_iff]; omega
    clear hg hs
    go_enter Tryd.func3, Tryd.ntmps3
    go_wp2_with (go_at_call 7; refine (HAW.out _ HG.out).mono ?_; rintro e w2 ⟨rfl, hb2⟩)
    go_ret
    exact ⟨rfl, hb2⟩
  · have q : decide (1024 < (s.size : Int)) = false := by rw [decide_eq_false_iff_not]; omega
    have H1 := Lib.hid (raw_any s most w (by omega) hg)
    have H2 := Lib.hid (fun W => rraw_any s most W (by omega))
    obtain ⟨A, n, e, hR⟩ := rawR_form s most
    rw [hR] at H1 H2
    clear hg hs hR
    go_enter Tryd.func3, Tryd.ntmps3
    go_upto_region 4 with (go_at_call 8; refine H1.out.mono ?_; rintro e w1 ⟨rfl, hb1⟩)
    have HB1 := Lib.hid hb1
    clear hb1 H1
    go_upto_region 5 with (go_at_call 9; refine (H2.out _).mono ?_; rintro e w2 ⟨rfl, hb2⟩)
    have HB2 := Lib.hid (bq_trans HB1.out hb2)
    have HG2 := Lib.hid (HG.out.keep HB2.out HG.out.four)
    clear hb2 H2
    go_wp2_with (go_at_call 7; refine (HAW.out _ HG2.out).mono ?_; rintro e w3 ⟨rfl, hb3⟩)
    go_ret
    exact ⟨rfl, bq_trans HB2.out hb3⟩
set_option maxHeartbeats 1000000 in
theorem inflateOpens_walk (s : ByteArray) (most : Int) (w : World) (hs : s.size ≤ maxLen) (hg : Gl w) :
    Calls Tryd.prog 4 #[.string s, .int .i64 most] w fun e w' => e = .returned (.bool true) ∧ Below w.heap.size w w' := by
  have HAW := Lib.hid (fun W (h : Gl W) => awake_any W h)
  have HG := Lib.hid hg
  have hs9 : s.size ≤ 9223372036854775807 := by unfold maxLen at hs; omega
  by_cases hl : 1024 < s.size
  · have q : decide (1024 < (s.size : Int)) = true := by rw [decide_eq_true_iff]; omega
    clear hg hs
    go_enter Tryd.func4, Tryd.ntmps4
    go_wp2_with (go_at_call 7; refine (HAW.out _ HG.out).mono ?_; rintro e w2 ⟨rfl, hb2⟩)
    go_ret
    exact ⟨rfl, hb2⟩
  · have q : decide (1024 < (s.size : Int)) = false := by rw [decide_eq_false_iff_not]; omega
    have H1 := Lib.hid (open_any s most w (by omega) hg)
    have H2 := Lib.hid (fun W => ropen_any s most W (by omega))
    obtain ⟨A, e, hR⟩ := opV_form (I.opn s most)
    rw [hR] at H1 H2
    clear hg hs hR
    go_enter Tryd.func4, Tryd.ntmps4
    go_upto_region 4 with (go_at_call 10; refine H1.out.mono ?_; rintro e w1 ⟨rfl, hb1⟩)
    have HB1 := Lib.hid hb1
    clear hb1 H1
    go_upto_region 5 with (go_at_call 11; refine (H2.out _).mono ?_; rintro e w2 ⟨rfl, hb2⟩)
    have HB2 := Lib.hid (bq_trans HB1.out hb2)
    have HG2 := Lib.hid (HG.out.keep HB2.out HG.out.four)
    clear hb2 H2
    go_wp2_with (go_at_call 7; refine (HAW.out _ HG2.out).mono ?_; rintro e w3 ⟨rfl, hb3⟩)
    go_ret
    exact ⟨rfl, bq_trans HB2.out hb3⟩
end Go.Proofs.YtddiccdfeckgaaaDoor
