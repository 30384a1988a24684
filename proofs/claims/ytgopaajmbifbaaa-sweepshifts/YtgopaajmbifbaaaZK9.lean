import Derived.Test.YtgopaajmbifbaaaZK8
import Derived.BigRegion
namespace Go.Proofs.Ytgopaajmbifbaaa
open Go.RowKit
set_option linter.unusedVariables false
set_option linter.unusedSimpArgs false
set_option maxRecDepth 100000
theorem made_ints (k : Int) (n : Nat) (hk : k = (n : Int)) (hn : n ≤ 1000000) (w : World) : (Instr.makeSlice 37 (.int .i64 k) (.int .i64 k)).run Try.prog w = .ok (.slice (some ⟨w.heap.size, 0, none⟩) n n) (w.alloc (.cells (rowF n fun _ => 0) 3)) := by
  obtain ⟨i, hi, h2⟩ := Option.map_eq_some_iff.1 int_info
  have hz : i.zero = some (.int .i64 0) := congrArg (·.1) h2
  have hs : i.size = 1 := congrArg (·.2.1) h2
  have hb : i.bytes = 8 := congrArg (·.2.2) h2
  subst hk
  have hr := run_make (P := Try.prog) w 37 3 i (.int .i64 0) Try.underlying37 hi hz .i64 .i64 n n (by omega) (by omega) (by rw [hb]; omega) (by omega)
  have e1 : madeCells (Value.cells (.int .i64 0)) (n * i.size) = Array.replicate n (.int .i64 0) := by
    rw [hs, show (Value.cells (.int .i64 0)) = #[.int .i64 0] from rfl]
    unfold madeCells
    apply Array.ext
    · simp
    · intro j hj hj2
      simp [Nat.mod_one]
  simp only [Int.toNat_natCast, e1, rowF_rep] at hr
  exact hr
theorem find17_n (D : List Sg) (v : Value) (y : Int) (cols n : Nat) (hn0 : n = D.length) (bf bn : Nat) (f0 g0 : Nat → Int) (w0 w : World) (hL : Sgs w0 v D) (hb0 : Below w0.heap.size w0 w) (hf : w0.heap.size ≤ bf) (hn : w0.heap.size ≤ bn) (nfn : bf ≠ bn)
    (hr : allR D = true) (hy : smpB y = true) (hc : cols ≤ 1000000) (hl : n ≤ 1000000) (BF : Blk w bf (rowF cols f0) 3) (BN : Blk w bn (rowF n g0) 3) :
    Calls Try.prog 37 #[.agg #[.slice (some ⟨bf, 0, none⟩) cols cols, .slice (some ⟨bn, 0, none⟩) n n], v, .int .i64 y] w fun e w' => e = .returned (.tuple #[]) ∧ (∃ f g, Blk w' bf (rowF cols f) 3 ∧ Blk w' bn (rowF n g) 3 ∧ Ch (cl D y) cols n f g) ∧ But bf bn w w' := by
  subst hn0
  exact find17_any D v y cols bf bn f0 g0 w0 w hL hb0 hf hn nfn hr hy hc hl BF BN
theorem row17_n (D : List Sg) (v : Value) (c : Nat → Int) (cols off cap N n : Nat) (hn0 : n = D.length) (bo bf bn : Nat) (f g h : Nat → Int) (w0 w : World) (hL : Sgs w0 v D) (hb0 : Below w0.heap.size w0 w) (ho : w0.heap.size ≤ bo) (nof : bo ≠ bf) (non : bo ≠ bn) (nfn : bf ≠ bn)
    (hr : allR D = true) (hc : cols ≤ 1000) (hl : n ≤ 1000) (hoff : off + cols ≤ N) (hN : N ≤ 1000000) (BO : Blk w bo (rowF N h) 3) (BF : Blk w bf (rowF cols f) 3) (BN : Blk w bn (rowF n g) 3) (hch : Ch c cols n f g) :
    Calls Try.prog 38 #[.slice (some ⟨bo, off, none⟩) cols cap, v, .agg #[.slice (some ⟨bf, 0, none⟩) cols cols, .slice (some ⟨bn, 0, none⟩) n n]] w fun e w' => e = .returned (.tuple #[]) ∧ (∃ h', Blk w' bo (rowF N h') 3 ∧ Own D c n off cols h h') ∧ But bo bo w w' := by
  subst hn0
  exact row17_any D v c cols off cap N bo bf bn f g h w0 w hL hb0 ho nof non nfn hr hc hl hoff hN BO BF BN hch
theorem blk_new2 (w : World) (o : Obj) (cs : Array Value) (t : TypeId) : Blk ((w.alloc o).alloc (.cells cs t)) (w.heap.size + 1) cs t := by
  have h := blk_new (w.alloc o) cs t
  rwa [show (w.alloc o).heap.size = w.heap.size + 1 by simp] at h
theorem blk_new3 (w : World) (o p : Obj) (cs : Array Value) (t : TypeId) : Blk (((w.alloc o).alloc p).alloc (.cells cs t)) (w.heap.size + 1 + 1) cs t := by
  have h := blk_new2 (w.alloc o) p cs t
  rwa [show (w.alloc o).heap.size = w.heap.size + 1 by simp] at h
theorem szMt : (Try.prog.info? 63).map (·.size) = some 2 := by kernel_rfl
structure Three (W0 : World) (cols n : Nat) (p : Value) (wx : World) (bm bf bn : Nat) : Prop where
  ptr : p = .pointer (some ⟨bm, 0, none⟩)
  m : Blk wx bm #[.slice (some ⟨bf, 0, none⟩) cols cols, .slice (some ⟨bn, 0, none⟩) n n] 63
  f : Blk wx bf (rowF cols fun _ => 0) 3
  n : Blk wx bn (rowF n fun _ => 0) 3
  fn : bf ≠ bn
  mf : bm ≠ bf
  mn : bm ≠ bn
  gm : W0.heap.size ≤ bm
  gf : W0.heap.size ≤ bf
  gn : W0.heap.size ≤ bn
  bel : Below W0.heap.size W0 wx
set_option maxHeartbeats 8000000 in
theorem rows17_any (D : List Sg) (v : Value) (cols cnt n N : Nat) (w : World) (hL : Sgs w v D) (hr : allR D = true) (hn0 : n = D.length) (hc0 : 0 < cols) (hc : cols ≤ 1000) (hct : cnt ≤ 1000) (hl : n ≤ 1000) (hN0 : N = cols * cnt) (hN : N ≤ 1000000) :
    Calls Try.prog 32 #[v, .int .i64 (cols : Int), .int .i64 (cnt : Int)] w fun e w' => (∃ b h, e = .returned (.slice (some ⟨b, 0, none⟩) N N) ∧ Blk w' b (rowF N h) 3 ∧ (∀ i : Nat, i < cnt → ∀ j : Nat, j < cols → h (cols * i + j) = (topF (fun t : Nat => tl D (cl D (16 * (i : Int) + 7)) ((j : Int) + 1) n n (t : Int)) : Int))) ∧ Below w.heap.size w w' := by
  have HSG := Lib.hid hL
  obtain ⟨la, lc, lb, lo, rfl, llen, lget⟩ := hL.at
  have HR := Lib.hid hr
  have HN0 := Lib.hid hN0
  have HNL := Lib.hid hn0
  have hc9 : (cols : Int) ≤ 1000 := by omega
  have hct9 : (cnt : Int) ≤ 1000 := by omega
  have hn9 : (n : Int) ≤ 1000 := by omega
  have e1 : wrap64 ((cols : Int) * (cnt : Int)) = (N : Int) := by
    rw [show (cols : Int) * (cnt : Int) = (N : Int) by rw [hN0]; push_cast; rfl]
    exact w64 _ (by omega)
  rw [← hn0] at HSG ⊢
  have hmk := made_ints (cols : Int) cols rfl (by omega)
  have hmk2 := made_ints (n : Int) n rfl (by omega)
  have hmk3 := made_ints (N : Int) N rfl hN
  clear llen lget hr hL hN0 hn0
  have BO0 : Hid (Blk (w.alloc (.cells (rowF N fun _ => 0) 3)) w.heap.size (rowF N fun _ => 0) 3) := Lib.hid (blk_new _ _ _)
  have HW1 : Hid (Below w.heap.size w (w.alloc (.cells (rowF N fun _ => 0) 3))) := Lib.hid (bq_alloc (bq_refl w) _)
  obtain ⟨bo, hbo⟩ : ∃ bo, bo = w.heap.size := ⟨_, rfl⟩
  have HBO := Lib.hid hbo
  go_enter Try.func32, Try.ntmps32
  go_upto_region 2 with (fail)
  generalize w.alloc (.cells (rowF N fun _ => 0) 3) = W1 at *
  rw [← hbo] at BO0
  rw [← hbo]
  clear hbo hmk3
  go_cut [14, 15, 16, 17, 18, 19, 8] (fun _ _ _ _ _ _ p wx => ∃ bm bf bn, Three W1 cols n p wx bm bf bn)
  case first =>
    go_region
    all_goals
      go_wp2_with fail
      go_meet
      first
        | exact ⟨_, W1.heap.size, (W1.heap.size + 1), Three.mk rfl (by first | exact (blk_new3 _ _ _ _ _).drew | exact ((blk_new2 _ _ _ _).alloc _).drew | exact (((blk_new _ _ _).alloc _).alloc _).drew) (by first | exact (blk_new3 _ _ _ _ _).drew | exact ((blk_new2 _ _ _ _).alloc _).drew | exact (((blk_new _ _ _).alloc _).alloc _).drew) (by first | exact (blk_new3 _ _ _ _ _).drew | exact ((blk_new2 _ _ _ _).alloc _).drew | exact (((blk_new _ _ _).alloc _).alloc _).drew) (by omega) (by omega) (by omega) (by omega) (by omega) (by omega) (bq_drew (bq_alloc (bq_alloc (bq_alloc (bq_refl _) _) _) _))⟩
        | exact ⟨_, W1.heap.size, (W1.heap.size + 1 + 1), Three.mk rfl (by first | exact (blk_new3 _ _ _ _ _).drew | exact ((blk_new2 _ _ _ _).alloc _).drew | exact (((blk_new _ _ _).alloc _).alloc _).drew) (by first | exact (blk_new3 _ _ _ _ _).drew | exact ((blk_new2 _ _ _ _).alloc _).drew | exact (((blk_new _ _ _).alloc _).alloc _).drew) (by first | exact (blk_new3 _ _ _ _ _).drew | exact ((blk_new2 _ _ _ _).alloc _).drew | exact (((blk_new _ _ _).alloc _).alloc _).drew) (by omega) (by omega) (by omega) (by omega) (by omega) (by omega) (bq_drew (bq_alloc (bq_alloc (bq_alloc (bq_refl _) _) _) _))⟩
        | exact ⟨_, (W1.heap.size + 1), W1.heap.size, Three.mk rfl (by first | exact (blk_new3 _ _ _ _ _).drew | exact ((blk_new2 _ _ _ _).alloc _).drew | exact (((blk_new _ _ _).alloc _).alloc _).drew) (by first | exact (blk_new3 _ _ _ _ _).drew | exact ((blk_new2 _ _ _ _).alloc _).drew | exact (((blk_new _ _ _).alloc _).alloc _).drew) (by first | exact (blk_new3 _ _ _ _ _).drew | exact ((blk_new2 _ _ _ _).alloc _).drew | exact (((blk_new _ _ _).alloc _).alloc _).drew) (by omega) (by omega) (by omega) (by omega) (by omega) (by omega) (bq_drew (bq_alloc (bq_alloc (bq_alloc (bq_refl _) _) _) _))⟩
        | exact ⟨_, (W1.heap.size + 1), (W1.heap.size + 1 + 1), Three.mk rfl (by first | exact (blk_new3 _ _ _ _ _).drew | exact ((blk_new2 _ _ _ _).alloc _).drew | exact (((blk_new _ _ _).alloc _).alloc _).drew) (by first | exact (blk_new3 _ _ _ _ _).drew | exact ((blk_new2 _ _ _ _).alloc _).drew | exact (((blk_new _ _ _).alloc _).alloc _).drew) (by first | exact (blk_new3 _ _ _ _ _).drew | exact ((blk_new2 _ _ _ _).alloc _).drew | exact (((blk_new _ _ _).alloc _).alloc _).drew) (by omega) (by omega) (by omega) (by omega) (by omega) (by omega) (bq_drew (bq_alloc (bq_alloc (bq_alloc (bq_refl _) _) _) _))⟩
        | exact ⟨_, (W1.heap.size + 1 + 1), W1.heap.size, Three.mk rfl (by first | exact (blk_new3 _ _ _ _ _).drew | exact ((blk_new2 _ _ _ _).alloc _).drew | exact (((blk_new _ _ _).alloc _).alloc _).drew) (by first | exact (blk_new3 _ _ _ _ _).drew | exact ((blk_new2 _ _ _ _).alloc _).drew | exact (((blk_new _ _ _).alloc _).alloc _).drew) (by first | exact (blk_new3 _ _ _ _ _).drew | exact ((blk_new2 _ _ _ _).alloc _).drew | exact (((blk_new _ _ _).alloc _).alloc _).drew) (by omega) (by omega) (by omega) (by omega) (by omega) (by omega) (bq_drew (bq_alloc (bq_alloc (bq_alloc (bq_refl _) _) _) _))⟩
        | exact ⟨_, (W1.heap.size + 1 + 1), (W1.heap.size + 1), Three.mk rfl (by first | exact (blk_new3 _ _ _ _ _).drew | exact ((blk_new2 _ _ _ _).alloc _).drew | exact (((blk_new _ _ _).alloc _).alloc _).drew) (by first | exact (blk_new3 _ _ _ _ _).drew | exact ((blk_new2 _ _ _ _).alloc _).drew | exact (((blk_new _ _ _).alloc _).alloc _).drew) (by first | exact (blk_new3 _ _ _ _ _).drew | exact ((blk_new2 _ _ _ _).alloc _).drew | exact (((blk_new _ _ _).alloc _).alloc _).drew) (by omega) (by omega) (by omega) (by omega) (by omega) (by omega) (bq_drew (bq_alloc (bq_alloc (bq_alloc (bq_refl _) _) _) _))⟩
  case rest =>
    obtain ⟨bm, bf, bn, rfl, Bm, Bf, Bn, nfn, nmf, nmn, gm, gf, gn, hbx⟩ := hcut
    have HWC := Lib.hid (bq_trans HW1.out hbx)
    have BO1 := BO0.out.keep hbx
    have lto := BO0.out.lt
    have nof : bo ≠ bf := by omega
    have non : bo ≠ bn := by omega
    have nmo : bm ≠ bo := by omega
    have go : w.heap.size ≤ bo := by rw [HBO.out]; exact Nat.le_refl _
    have gm1 : w.heap.size ≤ bm := Nat.le_trans HW1.out.size gm
    have gf1 : w.heap.size ≤ bf := Nat.le_trans HW1.out.size gf
    have gn1 : w.heap.size ≤ bn := Nat.le_trans HW1.out.size gn
    clear hbx BO0 HW1 HBO lto gm gf gn hmk hmk2 e1
    go_wp2_with fail
    go_loopw [21] (fun i wr => ∃ k : Nat, k ≤ cnt ∧ i = .int .i64 (k : Int) ∧ (∃ h f g, Blk wr bo (rowF N h) 3 ∧ Blk wr bf (rowF cols f) 3 ∧ Blk wr bn (rowF n g) 3 ∧ (∀ i : Nat, i < k → ∀ j : Nat, j < cols → h (cols * i + j) = (topF (fun t : Nat => tl D (cl D (16 * (i : Int) + 7)) ((j : Int) + 1) n n (t : Int)) : Int))) ∧ Blk wr bm #[.slice (some ⟨bf, 0, none⟩) cols cols, .slice (some ⟨bn, 0, none⟩) n n] 63 ∧ Below w.heap.size w wr) (fun i _ => cnt - (intOf i).toNat)
    case atStart => exact ⟨0, by omega, rfl, ⟨_, _, _, BO1, Bf, Bn, fun i hi => absurd hi (by omega)⟩, Bm, HWC.out⟩
    case round =>
      obtain ⟨k, hk, rfl, ⟨h, f, g, Ro, Rf, Rn, hd1⟩, Rm, hbel⟩ := hrel
      clear BO1 Bf Bn Bm
      have HD := Lib.hid hd1
      clear hd1
      by_cases hlt : k < cnt
      · have HB := Lib.hid hbel
        have i1 : (0 : Int) ≤ (k : Int) := by omega
        have i2 : (k : Int) < (cnt : Int) := by omega
        have HY : Hid (smpB (16 * (k : Int) + 7) = true) := Lib.hid (smpB_of (by omega) (by omega) (by omega))
        clear hbel
        go_upto_region 7 with (go_big_may; first
          | (refine wl_load 63 2 _ Try.underlying63 rfl szMt _ rfl rfl _ rfl _ _ Rm rfl ?_)
          | (go_at_call 37; (with_reducible refine (find17_n D (.slice la n lc) (16 * (k : Int) + 7) cols n HNL.out bf bn f g w wr HSG.out HB.out gf1 gn1 nfn HR.out HY.out (by omega) (by omega) Rf Rn).mono ?_); rintro e W3 ⟨rfl, ⟨f2, g2, Rf2, Rn2, hch⟩, hbu⟩; have HCH := Lib.hid hch; have HB3 := Lib.hid (hbu.below HB.out gf1 gn1); have Ro2 := Ro.but hbu nof non; have Rm2 := Rm.but hbu nmf nmn; clear hch hbu Ro Rm Rf Rn))
        have hA : ∃ A, A = cols * k := ⟨_, rfl⟩
        obtain ⟨A, hA⟩ := hA
        have hAE : A + cols ≤ N := by
          have h1 := HN0.out
          have h2 : cols * (k + 1) ≤ cols * cnt := Nat.mul_le_mul_left cols (by omega)
          rw [Nat.mul_succ] at h2
          omega
        have eA : (cols : Int) * (k : Int) = (A : Int) := by rw [hA]; push_cast; rfl
        obtain ⟨E, hE⟩ : ∃ E, E = A + cols := ⟨_, rfl⟩
        have eE : (cols : Int) * ((k : Int) + 1) = (E : Int) := by rw [Int.mul_add, eA, hE]; push_cast; omega
        have HEA := Lib.hid hE
        have HA := Lib.hid hA
        have HE1 : Hid (IntKind.i64.wrap ((cols : Int) * (k : Int)) = (A : Int)) := Lib.hid (by rw [eA]; exact wI _ (by omega))
        have HE2 : Hid (IntKind.i64.wrap ((cols : Int) * ((k : Int) + 1)) = (E : Int)) := Lib.hid (by rw [eE]; exact wI _ (by omega))
        clear hA eA eE hE
        refine Det.wp_region_last (S := fun w' => Below W3.heap.size W3 w') 11 (by kernel_rfl) (by kernel_rfl) (by kernel_rfl) rfl (bq_drew (bq_refl _)) ?_
        refine Det.det_take (v := ?_) (by rfl) ?_ ?_
        rotate_left
        · (intro w hSw; go_simp; try with_reducible rfl)
        try simp only [Act.put, List.setIfInBounds_toArray, List.set_cons_zero, List.set_cons_succ]
        refine Det.det_take (v := ?_) (by rfl) ?_ ?_
        rotate_left
        · (intro w hSw; go_simp; try with_reducible rfl)
        try simp only [Act.put, List.setIfInBounds_toArray, List.set_cons_zero, List.set_cons_succ]
        refine Det.det_take (v := ?_) (by rfl) ?_ ?_
        rotate_left
        · (intro w hSw; go_simp; try with_reducible rfl)
        try simp only [Act.put, List.setIfInBounds_toArray, List.set_cons_zero, List.set_cons_succ]
        refine Det.det_take (v := ?_) (by rfl) ?_ ?_
        rotate_left
        · (intro w hSw; have ew := HE1.out; go_simp; try with_reducible rfl)
        try simp only [Act.put, List.setIfInBounds_toArray, List.set_cons_zero, List.set_cons_succ]
        refine Det.det_take (v := ?_) (by rfl) ?_ ?_
        rotate_left
        · (intro w hSw; go_simp; try with_reducible rfl)
        try simp only [Act.put, List.setIfInBounds_toArray, List.set_cons_zero, List.set_cons_succ]
        refine Det.det_take (v := ?_) (by rfl) ?_ ?_
        rotate_left
        · (intro w hSw; go_simp; try with_reducible rfl)
        try simp only [Act.put, List.setIfInBounds_toArray, List.set_cons_zero, List.set_cons_succ]
        refine Det.det_take (v := ?_) (by rfl) ?_ ?_
        rotate_left
        · (intro w hSw; have ew := wI ((k : Int) + 1) (by omega); go_simp; try with_reducible rfl)
        try simp only [Act.put, List.setIfInBounds_toArray, List.set_cons_zero, List.set_cons_succ]
        refine Det.det_take (v := ?_) (by rfl) ?_ ?_
        rotate_left
        · (intro w hSw; have ew := HE2.out; go_simp; try with_reducible rfl)
        try simp only [Act.put, List.setIfInBounds_toArray, List.set_cons_zero, List.set_cons_succ]
        refine Det.det_take (v := ?_) (by rfl) ?_ ?_
        rotate_left
        · (intro w hSw; have i3 : (0 : Int) ≤ (A : Int) := (by omega); have i4 : (A : Int) ≤ (E : Int) := (by have := HEA.out; omega); have i5 : (E : Int) ≤ (N : Int) := (by have := HEA.out; omega); have i6 : ¬ N = A := (by have := HEA.out; omega); have i7 : E - A = cols := (by have := HEA.out; omega); go_simp; try with_reducible rfl)
        try simp only [Act.put, List.setIfInBounds_toArray, List.set_cons_zero, List.set_cons_succ]
        refine Det.det_take (v := ?_) (by rfl) ?_ ?_
        rotate_left
        · (intro w hSw; go_simp; try with_reducible rfl)
        try simp only [Act.put, List.setIfInBounds_toArray, List.set_cons_zero, List.set_cons_succ]
        refine Det.det_load 63 2 _ Try.underlying63 rfl szMt _ rfl (by rfl) _ rfl _ _ (fun w hS => Rm2.keep hS) rfl ?_
        try simp only [Act.put, List.setIfInBounds_toArray, List.set_cons_zero, List.set_cons_succ]
        refine Det.det_nil (fun W31 k31 => ?_)
        have Bo_31 := Ro2.keep k31
        have Bf_31 := Rf2.keep k31
        have Bn_31 := Rn2.keep k31
        have Bm_31 := Rm2.keep k31
        have Hw31 := bq_trans HB3 k31
        clear k31 Ro2 Rf2 Rn2 Rm2 HB3
        go_wp2_with (first
          | (go_at_call 38; (with_reducible refine (row17_n D (.slice la n lc) (cl D (16 * (k : Int) + 7)) cols A (N - A) N n HNL.out bo bf bn f2 g2 h w W31 HSG.out Hw31 go nof non nfn HR.out (by omega) (by omega) (by have := HEA.out; omega) hN Bo_31 Bf_31 Bn_31 HCH.out).mono ?_); rintro e W4 ⟨rfl, ⟨h4, Ro4, hown⟩, hbu4⟩; have HO4 := Lib.hid hown; have HB4 := Lib.hid (hbu4.below Hw31 go go); have Rm4 := Bm_31.but hbu4 nmo nmo; have Rf4 := Bf_31.but hbu4 (Ne.symm nof) (Ne.symm nof); have Rn4 := Bn_31.but hbu4 (Ne.symm non) (Ne.symm non); clear hown hbu4 Bo_31 Bm_31 Bf_31 Bn_31))
        go_roundw
        case rel =>
          refine ⟨k + 1, by omega, by go_num, ⟨h4, f2, g2, Ro4, Rf4, Rn4, fun i hi j hj => ?_⟩, Rm4, HB4.out⟩
          have hA := HA.out
          rcases Nat.lt_or_ge i k with h5 | h5
          · have h6 : cols * i + j < A := by
              have h7 : cols * (i + 1) ≤ cols * k := Nat.mul_le_mul_left cols (by omega)
              rw [Nat.mul_succ] at h7
              omega
            rw [HO4.out.rest _ (Or.inl h6)]
            exact HD.out i h5 j hj
          · obtain rfl : i = k := by omega
            rw [← hA]
            exact HO4.out.here j hj
        case measure => simp [intOf]; omega
      · have hkn : k = cnt := by omega
        subst hkn
        have HB := Lib.hid hbel
        clear hbel
        go_wp2_with fail
        go_ret
        exact ⟨⟨bo, h, rfl, Ro, HD.out⟩, HB.out⟩
end Go.Proofs.Ytgopaajmbifbaaa
namespace Go.Proofs.Ytgopaajmbifbaaa
open Go.RowKit
set_option linter.unusedVariables false
set_option linter.unusedSimpArgs false
set_option maxRecDepth 100000
def frmB (w h : Int) : Bool := decide (1 ≤ w) && decide (w ≤ 256) && decide (1 ≤ h) && decide (h ≤ 256)
theorem frmB_bd {w h : Int} (q : frmB w h = true) : 1 ≤ w ∧ w ≤ 256 ∧ 1 ≤ h ∧ h ≤ 256 := by simp [frmB] at q; omega
theorem frmB_of {w h : Int} (q : 1 ≤ w ∧ w ≤ 256 ∧ 1 ≤ h ∧ h ≤ 256) : frmB w h = true := by simp [frmB]; omega
theorem frmB_no {w h : Int} (q : ¬ (1 ≤ w ∧ w ≤ 256 ∧ 1 ≤ h ∧ h ≤ 256)) : frmB w h = false := by
  cases e : frmB w h
  · rfl
  · exact absurd (frmB_bd e) q
set_option maxHeartbeats 1000000 in
theorem frm_core (x y : Int) (q : Bool) (w : World) (hq : x < 1 ∧ q = false ∨ 1 ≤ x ∧ 256 < x ∧ q = false ∨ 1 ≤ x ∧ x ≤ 256 ∧ y < 1 ∧ q = false ∨ 1 ≤ x ∧ x ≤ 256 ∧ 1 ≤ y ∧ 256 < y ∧ q = false ∨ 1 ≤ x ∧ x ≤ 256 ∧ 1 ≤ y ∧ y ≤ 256 ∧ q = true) :
    Calls Try.prog 30 #[.int .i64 x, .int .i64 y] w fun e w' => e = .returned (.bool q) ∧ w = w' := by
  rcases hq with ⟨h0, rfl⟩ | ⟨h0, h1, rfl⟩ | ⟨h0, h1, h2, rfl⟩ | ⟨h0, h1, h2, h3, rfl⟩ | ⟨h0, h1, h2, h3, rfl⟩
  all_goals
    go_enter Try.func30, Try.ntmps30
    go_wp2_with fail
    go_ret
    exact ⟨by first | rfl | exact ret_bool (by simp; try omega), rfl⟩
theorem frm_any (x y : Int) (w : World) : Calls Try.prog 30 #[.int .i64 x, .int .i64 y] w fun e w' => e = .returned (.bool (frmB x y)) ∧ Below w.heap.size w w' := by
  refine (frm_core x y (frmB x y) w ?_).mono fun e w' ⟨h1, h2⟩ => ⟨h1, h2 ▸ bq_refl w⟩
  by_cases h1 : 1 ≤ x
  · by_cases h2 : x ≤ 256
    · by_cases h3 : 1 ≤ y
      · by_cases h4 : y ≤ 256
        · exact Or.inr (Or.inr (Or.inr (Or.inr ⟨h1, h2, h3, h4, frmB_of ⟨h1, h2, h3, h4⟩⟩)))
        · exact Or.inr (Or.inr (Or.inr (Or.inl ⟨h1, h2, h3, by omega, frmB_no (by omega)⟩)))
      · exact Or.inr (Or.inr (Or.inl ⟨h1, h2, by omega, frmB_no (by omega)⟩))
    · exact Or.inr (Or.inl ⟨h1, by omega, frmB_no (by omega)⟩)
  · exact Or.inl ⟨by omega, frmB_no (by omega)⟩
set_option maxHeartbeats 2000000 in
theorem owners_core (L : List Sg) (v : Value) (x y : Int) (cols cnt n N : Nat) (w : World) (hL : Sgs w v L) (hn : n = (L.map dnS).length) (hl3 : n ≤ 1000) (hRR : allR (L.map dnS) = true) (hl : L.length ≤ 1000) (hc0 : 0 < cols) (hc1 : cols ≤ 1000) (hct : cnt ≤ 1000) (hN0 : N = cols * cnt) (hN : N ≤ 1000000)
    (ex : wrap64 (4 * x) = (cols : Int)) (ey : wrap64 (4 * y) = (cnt : Int)) (H1 : Hid (∀ W, Calls Try.prog 30 #[.int .i64 x, .int .i64 y] W fun e w' => e = .returned (.bool true) ∧ Below W.heap.size W w')) (H2 : Hid (∀ W, Below w.heap.size w W → Calls Try.prog 31 #[v] W fun e w' => e = .returned (.bool true) ∧ Below W.heap.size W w')) :
    Calls Try.prog 18 #[v, .int .i64 x, .int .i64 y] w fun e w' => (∃ b h, e = .returned (.tuple #[.slice (some ⟨b, 0, none⟩) N N, .int .i64 0]) ∧ Blk w' b (rowF N h) 3 ∧ (∀ i : Nat, i < cnt → ∀ j : Nat, j < cols → h (cols * i + j) = (topF (fun t : Nat => tl (L.map dnS) (cl (L.map dnS) (16 * (i : Int) + 7)) ((j : Int) + 1) n n (t : Int)) : Int))) ∧ Below w.heap.size w w' := by
  have HL := Lib.hid hL
  have HN := Lib.hid hn
  have HRR := Lib.hid hRR
  have HN0 := Lib.hid hN0
  clear hL hn hRR hN0
  go_enter Try.func18, Try.ntmps18
  go_upto_region 3 with (go_big_may; first
    | (go_at_call 30; (with_reducible refine (H1.out _).mono ?_); rintro e W1 ⟨rfl, k1⟩; have Hw1 := k1; clear k1)
    | (go_at_call 31; (with_reducible refine (H2.out _ Hw1).mono ?_); rintro e W2 ⟨rfl, k2⟩; have Hw2 := bq_trans Hw1 k2; clear k2 Hw1))
  go_wp2_with (first
    | (go_at_call 33; (with_reducible refine (alldown17_any L v W2 (HL.out.keep Hw2) (by omega)).mono ?_); rintro e W3 ⟨⟨v3, rfl, hS3⟩, k3⟩; have HS3 := Lib.hid hS3; have Hw3 := bq_trans Hw2 k3; clear hS3 k3 Hw2)
    | (go_at_call 32; (with_reducible refine (rows17_any (L.map dnS) v3 cols cnt n N W3 HS3.out HRR.out HN.out hc0 hc1 hct hl3 HN0.out hN).mono ?_); rintro e W4 ⟨⟨b4, h4, rfl, B4, hd4⟩, k4⟩; have HD4 := Lib.hid hd4; have Hw4 := bq_trans Hw3 k4; clear hd4 k4 Hw3))
  go_ret2
  exact ⟨⟨b4, h4, rfl, B4, HD4.out⟩, Hw4⟩
theorem owners_any (L : List Sg) (v : Value) (x y : Nat) (w : World) (hL : Sgs w v L) (hr : allR L = true) (hl : L.length ≤ 300) (hx : 1 ≤ x ∧ x ≤ 8) (hy : 1 ≤ y ∧ y ≤ 8) :
    Calls Try.prog 18 #[v, .int .i64 (x : Int), .int .i64 (y : Int)] w fun e w' => (∃ b h, e = .returned (.tuple #[.slice (some ⟨b, 0, none⟩) (4 * x * (4 * y)) (4 * x * (4 * y)), .int .i64 0]) ∧ Blk w' b (rowF (4 * x * (4 * y)) h) 3 ∧ (∀ k : Nat, k < 4 * y → ∀ i : Nat, i < 4 * x → h (4 * x * k + i) = (ownV L (16 * (i : Int) + 7) (16 * (k : Int) + 7) : Int))) ∧ Below w.heap.size w w' := by
  have hall := List.all_eq_true.1 hr
  have hN : 4 * x * (4 * y) ≤ 32 * 32 := Nat.mul_le_mul (by omega) (by omega)
  refine (owners_core L v (x : Int) (y : Int) (4 * x) (4 * y) L.length (4 * x * (4 * y)) w hL (by simp) (by omega) ?_ (by omega) (by omega) (by omega) (by omega) rfl (by omega)
    (by rw [w64 _ (by omega)]; push_cast; rfl) (by rw [w64 _ (by omega)]; push_cast; rfl) (Lib.hid fun W => ?_) (Lib.hid fun W hW => hr ▸ allright17_any L v W (hL.keep hW))).mono fun e w' ⟨⟨b, h, h1, h2, h3⟩, h4⟩ => ⟨⟨b, h, h1, h2, fun k hk i hi => ?_⟩, h4⟩
  · rw [allR, List.all_eq_true]
    intro s hs
    obtain ⟨t, ht, rfl⟩ := List.mem_map.1 hs
    rw [rgtS_dn]
    exact hall t ht
  · have h := frm_any (x : Int) (y : Int) W
    rw [frmB_of (by omega)] at h
    exact h
  · rw [h3 k hk i hi]
    unfold topF ownV
    congr 1
    refine topN_congr _ _ _ fun s hs => ?_
    exact tl_full L hall (16 * (k : Int) + 7) (i : Int) (by omega) (s : Int)
end Go.Proofs.Ytgopaajmbifbaaa
namespace Go.Proofs.Ytgopaajmbifbaaa
open Go.RowKit
set_option linter.unusedVariables false
set_option linter.unusedSimpArgs false
set_option maxRecDepth 100000
def zF (zs : List Int) (i : Nat) : Int := zs.getD i 0
theorem zF_at (zs : List Int) (i : Nat) (h : i < zs.length) : zF zs i = zs[i] := by simp [zF, h]
def cnR (z : Nat → Int) (a : Nat) (st : Int) : Nat → Int
  | 0 => 0
  | j + 1 => cnR z a st j + (if z (a + j) = st then 1 else 0)
def cov (z : Nat → Int) (w x y : Nat) (st : Int) : Nat → Int
  | 0 => 0
  | k + 1 => cov z w x y st k + cnR z ((4 * y + k) * 4 * w + 4 * x) st 4
theorem cnR_bd (z : Nat → Int) (a : Nat) (st : Int) : ∀ j : Nat, 0 ≤ cnR z a st j ∧ cnR z a st j ≤ (j : Int)
  | 0 => by simp [cnR]
  | j + 1 => by
    have h := cnR_bd z a st j
    unfold cnR
    split <;> omega
theorem cov_bd (z : Nat → Int) (w x y : Nat) (st : Int) : ∀ k : Nat, 0 ≤ cov z w x y st k ∧ cov z w x y st k ≤ 4 * (k : Int)
  | 0 => by simp [cov]
  | k + 1 => by
    have h := cov_bd z w x y st k
    have h2 := cnR_bd z ((4 * y + k) * 4 * w + 4 * x) st 4
    unfold cov
    omega
theorem cov_facts {n c x P A : Nat} (hA : A = P + 4 * x) (hf : A + 4 ≤ n) (hnc : n ≤ c) (hn : n ≤ 1048576) :
    (P : Int) + 4 * (x : Int) = (A : Int) ∧ ¬ c = A ∧ ((A : Int) + 4).toNat - A = 4 ∧ A + 4 - A = 4 ∧ (A : Int) + 4 ≤ (c : Int) ∧ A + 4 ≤ c ∧ (P : Int) ≤ 1048576 ∧ (A : Int) ≤ 1048576 := by
  refine ⟨?_, ?_, ?_, ?_, ?_, ?_, ?_, ?_⟩ <;> omega
def covB (n : Nat) (w h x y : Int) : Bool := frmB w h && decide ((n : Int) = 16 * w * h) && decide (0 ≤ x) && decide (x < w) && decide (0 ≤ y) && decide (y < h)
set_option maxHeartbeats 4000000 in
theorem cover_yes (zs : List Int) (b o n c : Nat) (w h x y : Nat) (st : Int) (w0 : World) (hz : Ints w0 zs (some ⟨b, o, none⟩) b o) (hn : n = zs.length) (hnc : n ≤ c) (hw0 : 1 ≤ w) (hw1 : w ≤ 256) (hh0 : 1 ≤ h) (hh1 : h ≤ 256) (hx : x < w) (hy : y < h) (hN : n = 16 * w * h) :
    Calls Try.prog 21 #[.slice (some ⟨b, o, none⟩) n c, .int .i64 (w : Int), .int .i64 (h : Int), .int .i64 (x : Int), .int .i64 (y : Int), .int .i64 st] w0 fun e w' => e = .returned (.int .i64 (cov (zF zs) w x y st 4)) ∧ Below w0.heap.size w0 w' := by
  have H1 : Hid (∀ W, Calls Try.prog 30 #[.int .i64 (w : Int), .int .i64 (h : Int)] W fun e w' => e = .returned (.bool true) ∧ Below W.heap.size W w') := Lib.hid fun W => by
    have h1 := frm_any (w : Int) (h : Int) W
    rw [frmB_of (by omega)] at h1
    exact h1
  have hm : 16 * w * h ≤ 4096 * 256 := Nat.mul_le_mul (by omega) (by omega)
  have ew : wrap64 (16 * (w : Int) * (h : Int)) = (n : Int) := by
    rw [show 16 * (w : Int) * (h : Int) = (n : Int) by rw [hN]; push_cast; rfl]
    exact w64 _ (by omega)
  have hl : ((n : Int) != (n : Int)) = false := by simp
  have HF : Hid (∀ k, k < 4 → (4 * y + k) * 4 * w + 4 * x + 4 ≤ n) := Lib.hid fun k hk => by
    have h1 : (4 * y + k + 1) * (4 * w) ≤ (4 * h) * (4 * w) := Nat.mul_le_mul_right _ (by omega)
    have h2 : (4 * h) * (4 * w) = 16 * w * h := by grind
    have h3 : (4 * y + k + 1) * (4 * w) = (4 * y + k) * 4 * w + 4 * w := by grind
    omega
  have HZ := Lib.hid hz
  have HN := Lib.hid hn
  have hn9 : n ≤ 1048576 := by omega
  have x1 : (x : Int) < (w : Int) := by omega
  have y1 : (y : Int) < (h : Int) := by omega
  have hw9 : (w : Int) ≤ 256 := by omega
  have hh9 : (h : Int) ≤ 256 := by omega
  have hw8 : 1 ≤ (w : Int) := by omega
  have hh8 : 1 ≤ (h : Int) := by omega
  clear hm hN hn hz
  go_enter Try.func21, Try.ntmps21
  go_wp2_with (first
    | (go_at_call 30; (with_reducible refine (H1.out _).mono ?_); rintro e W1 ⟨rfl, k1⟩; have Hw1 := k1; clear k1))
  have HB0 := Lib.hid Hw1
  clear Hw1 ew hl
  go_loopw [13, 49] (fun t i wr => ∃ k : Nat, k ≤ 4 ∧ i = .int .i64 (k : Int) ∧ t = .int .i64 (cov (zF zs) w x y st k) ∧ Below w0.heap.size w0 wr) (fun _ i _ => 4 - (intOf i).toNat)
  case atStart => exact ⟨0, by omega, rfl, rfl, HB0.out⟩
  case round =>
    obtain ⟨k, hk, rfl, rfl, hbel⟩ := hrel
    have tb := cov_bd (zF zs) w x y st k
    have HB := Lib.hid hbel
    clear hbel
    by_cases hlt : k < 4
    · have HK : Hid (cov (zF zs) w x y st (k + 1) = cov (zF zs) w x y st k + cnR (zF zs) ((4 * y + k) * 4 * w + 4 * x) st 4) := Lib.hid rfl
      have hf := HF.out k hlt
      obtain ⟨P, hP⟩ : ∃ P, P = (4 * y + k) * 4 * w := ⟨_, rfl⟩
      have e1 : wrap64 ((4 * (y : Int) + (k : Int)) * 4 * (w : Int)) = (P : Int) := by
        rw [show (4 * (y : Int) + (k : Int)) * 4 * (w : Int) = (P : Int) by rw [hP]; push_cast; rfl]
        exact w64 _ (by omega)
      rw [← hP] at HK hf
      obtain ⟨A, hA⟩ : ∃ A, A = P + 4 * x := ⟨_, rfl⟩
      rw [← hA] at HK hf
      obtain ⟨hAi, i6, i7, i8, i9, ia, ib, ic⟩ := cov_facts hA hf hnc hn9
      clear hP hA
      generalize cov (zF zs) w x y st k = T at *
      have t0 : 0 ≤ T := tb.1
      have t1 : T ≤ 4 * (k : Int) := tb.2
      clear tb
      have k4 : (k : Int) < 4 := by omega
      go_upto_region 9 with (fail)
      go_loop [13, 68] (fun t i => ∃ j : Nat, j ≤ 4 ∧ i = .int .i64 (j : Int) ∧ t = .int .i64 (T + cnR (zF zs) A st j)) (fun _ i => 4 - (intOf i).toNat)
      case atStart => exact ⟨0, by omega, rfl, by simp [cnR]⟩
      case round =>
        obtain ⟨j, hj, rfl, rfl⟩ := hrel
        have cb := cnR_bd (zF zs) A st j
        by_cases hjl : j < 4
        · have j4 : (j : Int) < 4 := by omega
          have HA4 : Hid (A + j < zs.length) := Lib.hid (by have := HN.out; omega)
          have cz : wr.cell? ⟨b, o + A + j, none⟩ = some (.int .i64 (zF zs (A + j))) := by
            rw [zF_at zs _ HA4.out, Nat.add_assoc]
            exact ((HZ.out.at HB.out (A + j) HA4.out).2.2.2)
          have HJ : Hid (cnR (zF zs) A st (j + 1) = cnR (zF zs) A st j + (if zF zs (A + j) = st then 1 else 0)) := Lib.hid rfl
          generalize cnR (zF zs) A st j = C at *
          generalize zF zs (A + j) = Z at *
          have c0 : 0 ≤ C := cb.1
          have c1 : C ≤ (j : Int) := cb.2
          by_cases hq : Z = st
          · have HQ := Lib.hid hq
            have q1 : (Z == st) = true := beq_iff_eq.2 hq
            clear hq
            go_wp2_with fail
            go_round
            case rel => exact ⟨j + 1, by omega, by go_num, congrArg (Value.int .i64) (by rw [HJ.out, if_pos HQ.out]; omega)⟩
            case measure => simp [intOf]; omega
          · have HQ := Lib.hid hq
            have q1 : (Z == st) = false := beq_eq_false_iff_ne.2 hq
            clear hq
            go_wp2_with fail
            go_round
            case rel => exact ⟨j + 1, by omega, by go_num, congrArg (Value.int .i64) (by rw [HJ.out, if_neg HQ.out]; omega)⟩
            case measure => simp [intOf]; omega
        · obtain rfl : j = 4 := by omega
          generalize cnR (zF zs) A st 4 = C at *
          go_wp2_with fail
          go_roundw
          case rel => exact ⟨k + 1, by omega, by go_num, congrArg (Value.int .i64) HK.out.symm, HB.out⟩
          case measure => simp [intOf]; omega
    · obtain rfl : k = 4 := by omega
      go_wp2_with fail
      go_ret
      exact ⟨rfl, HB.out⟩
end Go.Proofs.Ytgopaajmbifbaaa
namespace Go.Proofs.Ytgopaajmbifbaaa
open Go.RowKit
set_option linter.unusedVariables false
set_option linter.unusedSimpArgs false
set_option maxRecDepth 100000
structure Bst (L : List Sg) (x y : Int) (P : Int → Prop) (m : Nat) : Prop where
  le : m ≤ 255
  pos : m = 0 ∨ 0 < wnd L (m : Int) x y
  no : ∀ t : Int, P t → (m : Int) < t → ¬ 0 < wnd L t x y
def seen (L : List Sg) (t : Int) : Prop := ∃ s ∈ L, t = s.l ∨ t = s.r
end Go.Proofs.Ytgopaajmbifbaaa
