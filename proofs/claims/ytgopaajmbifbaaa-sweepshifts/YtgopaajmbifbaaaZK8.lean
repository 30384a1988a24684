import Derived.Test.YtgopaajmbifbaaaZK7
namespace Go.Proofs.Ytgopaajmbifbaaa
open Go.RowKit
set_option linter.unusedVariables false
set_option linter.unusedSimpArgs false
set_option maxRecDepth 100000
theorem But.tp {p q : Nat} {a w w' : World} (h : But p q a w) (T : Turned p w w') : But p q a w' :=
  ⟨T.os.trans h.os, T.tape.trans h.tape, T.output.trans h.output, by rw [T.size]; exact h.size, fun k hk hp hq => (T.block k hp).trans (h.block k hk hp hq)⟩
theorem But.up {p q : Nat} {a w w' : World} (h : But p q a w) (hb : Below w.heap.size w w') : But p q a w' :=
  ⟨hb.os.trans h.os, hb.tape.trans h.tape, hb.output.trans h.output, Nat.le_trans h.size hb.size, fun k hk hp hq => (hb.block k (Nat.lt_of_lt_of_le hk h.size)).trans (h.block k hk hp hq)⟩
theorem But.pre {p q : Nat} {a w w' : World} (hb : Below a.heap.size a w) (h : But p q w w') : But p q a w' :=
  ⟨h.os.trans hb.os, h.tape.trans hb.tape, h.output.trans hb.output, Nat.le_trans hb.size h.size, fun k hk hp hq => (h.block k (Nat.lt_of_lt_of_le hk hb.size) hp hq).trans (hb.block k hk)⟩
theorem But.wide {p q : Nat} {a w : World} (h : But p p a w) : But p q a w := ⟨h.os, h.tape, h.output, h.size, fun k hk hp hq => h.block k hk hp hp⟩
theorem But.trans {p q : Nat} {a w w' : World} (h : But p q a w) (k : But p q w w') : But p q a w' :=
  ⟨k.os.trans h.os, k.tape.trans h.tape, k.output.trans h.output, Nat.le_trans h.size k.size, fun i hi hp hq => (k.block i (Nat.lt_of_lt_of_le hi h.size) hp hq).trans (h.block i hi hp hq)⟩
theorem But.drw {p q : Nat} {a w : World} (h : But p q a w) : But p q a w.drew := ⟨h.os, h.tape, h.output, h.size, h.block⟩
set_option maxHeartbeats 4000000 in
theorem find17_any (D : List Sg) (v : Value) (y : Int) (cols : Nat) (bf bn : Nat) (f0 g0 : Nat → Int) (w0 w : World) (hL : Sgs w0 v D) (hb0 : Below w0.heap.size w0 w) (hf : w0.heap.size ≤ bf) (hn : w0.heap.size ≤ bn) (nfn : bf ≠ bn)
    (hr : allR D = true) (hy : smpB y = true) (hc : cols ≤ 1000000) (hl : D.length ≤ 1000000) (BF : Blk w bf (rowF cols f0) 3) (BN : Blk w bn (rowF D.length g0) 3) :
    Calls Try.prog 37 #[.agg #[.slice (some ⟨bf, 0, none⟩) cols cols, .slice (some ⟨bn, 0, none⟩) D.length D.length], v, .int .i64 y] w fun e w' => e = .returned (.tuple #[]) ∧ (∃ f g, Blk w' bf (rowF cols f) 3 ∧ Blk w' bn (rowF D.length g) 3 ∧ Ch (cl D y) cols D.length f g) ∧ But bf bn w w' := by
  obtain ⟨la, lc, lb, lo, rfl, llen, lget⟩ := hL.at
  have HG := Lib.hid lget
  have HR := Lib.hid (List.all_eq_true.1 hr)
  have HY := Lib.hid hy
  clear hL lget hr hy
  obtain ⟨n, hn'⟩ : ∃ n, n = D.length := ⟨_, rfl⟩
  rw [← hn'] at hl BN
  rw [← hn']
  have HN := Lib.hid hn'
  have hn9 : (n : Int) ≤ 1000000 := by omega
  have hc9 : (cols : Int) ≤ 1000000 := by omega
  have HB00 := Lib.hid hb0
  clear hn' llen hb0
  go_enter Try.func37, Try.ntmps37
  go_wp2_with (first
    | (refine wl_box 63 _ _ rfl rfl (show _ = Value.agg #[.slice (some ⟨bf, 0, none⟩) cols cols, .slice (some ⟨bn, 0, none⟩) n n] from rfl) ?_; intro W1 bm Bm_1 l1 k1; have gm : w.heap.size ≤ bm := l1; have nfm : bf ≠ bm := Nat.ne_of_lt (Nat.lt_of_lt_of_le BF.lt l1); have nnm : bn ≠ bm := Nat.ne_of_lt (Nat.lt_of_lt_of_le BN.lt l1); have Bf_1 := BF.keep k1; have Bn_1 := BN.keep k1; have Hw1 := k1; clear l1 k1 BF BN; have cm_0_1 : W1.cell? ⟨bm, 0, none⟩ = some (.slice (some ⟨bf, 0, none⟩) cols cols) := Bm_1.cell 0))
  have HW1 := Lib.hid Hw1
  clear Hw1
  go_loopw [13] (fun i wr => ∃ k : Nat, k ≤ cols ∧ i = .int .i64 (k : Int) ∧ (∃ f, Blk wr bf (rowF cols f) 3 ∧ ∀ j, j < k → f j = -1) ∧ But bf bf W1 wr) (fun i _ => cols - (intOf i).toNat)
  case atStart => exact ⟨0, by omega, rfl, ⟨f0, Bf_1, fun j hj => absurd hj (by omega)⟩, But.of (bq_refl _)⟩
  case round =>
    obtain ⟨k, hk, rfl, ⟨f, Rf, hf1⟩, hbut⟩ := hrel
    have Rm := Bm_1.but hbut (Ne.symm nfm) (Ne.symm nfm)
    have cm : wr.cell? ⟨bm, 0, none⟩ = some (.slice (some ⟨bf, 0, none⟩) cols cols) := Rm.cell 0
    by_cases hlt : k < cols
    · have i1 : (0 : Int) ≤ (k : Int) := by omega
      have i2 : (k : Int) < (cols : Int) := by omega
      have HF1 := Lib.hid hf1
      clear hf1
      go_wp2_with (first
        | (refine wl_set 3 _ _ rfl rfl bf k rfl (.int .i64 (-1)) rfl rfl szInt _ _ Rf (by rw [rowF_size]; exact hlt) ?_; intro W21 Bf_21 T21; have HBU := hbut.tp T21; clear T21))
      go_roundw
      case rel => exact ⟨k + 1, by omega, by go_num, ⟨_, by rw [rowF_set] at Bf_21; exact Bf_21, fun j hj => by
        by_cases e : j = k
        · rw [e, updN_same]
        · rw [updN_other _ _ _ _ e]; exact HF1.out j (by omega)⟩, HBU⟩
      case measure => simp [intOf]; omega
    · have hkn : k = cols := by omega
      subst hkn
      have Rn := Bn_1.but hbut (Ne.symm nfn) (Ne.symm nfn)
      have HB1 : Hid (But bf bn W1 wr) := Lib.hid hbut.wide
      have HC0 := Lib.hid (ch_zero (cl D y) k f g0 hf1)
      clear cm hf1 hbut hlt hk
      clear Bf_1 Bn_1 Bm_1
      go_wp2_with fail
      generalize wr = W9 at *
      go_loopw [23] (fun i wr => ∃ m : Nat, m ≤ n ∧ i = .int .i64 (m : Int) ∧ (∃ f g, Blk wr bf (rowF k f) 3 ∧ Blk wr bn (rowF n g) 3 ∧ Ch (cl D y) k m f g) ∧ But bf bn W9 wr) (fun i _ => n - (intOf i).toNat)
      case atStart => exact ⟨0, by omega, rfl, ⟨f, g0, Rf, Rn, HC0.out⟩, But.of (bq_refl _)⟩
      case round =>
        obtain ⟨m, hm, rfl, ⟨f1, g1, Rf1, Rn1, hch⟩, hbut⟩ := hrel
        have Rm1 := Rm.but hbut (Ne.symm nfm) (Ne.symm nnm)
        clear Rf Rn Rm
        by_cases hlt : m < n
        · obtain ⟨rfl, he⟩ := HG.out m (by have := HN.out; omega)
          have HB9 : Hid (Below w0.heap.size w0 wr) := Lib.hid (hbut.below (HB1.out.below (bq_trans HB00.out HW1.out) hf hn) hf hn)
          have RE := he.keep HB9.out
          have ltL := RE.lt
          have i1 : (0 : Int) ≤ (m : Int) := by omega
          have i2 : (m : Int) < (n : Int) := by omega
          have hrs := HR.out (D[m]'(by have := HN.out; omega)) (List.getElem_mem _)
          have HCL : Hid (cl D y m = if crsS (D[m]'(by have := HN.out; omega)) y then colS (D[m]'(by have := HN.out; omega)) y else -1) := Lib.hid (by unfold cl; rw [List.getElem?_eq_getElem (show m < D.length by have := HN.out; omega)])
          clear he HG
          generalize D[m]'(by have := HN.out; omega) = s at *
          have HBU := Lib.hid hbut
          have HCH := Lib.hid hch
          have HRS := Lib.hid hrs
          clear hbut hch hrs
          have H3 := Lib.hid fun W => crs_any s y W
          cases q : crsS s y with
          | false =>
            rw [q] at H3 HCL
            clear q
            go_wp2_with (first
              | (refine wpList_load_mid rfl 27 _ rfl lb (lo + m * 6) rfl [.int .i64 s.ax, .int .i64 s.ay, .int .i64 s.bx, .int .i64 s.by1, .int .i64 s.l, .int .i64 s.r] _ RE.rg Try.underlying27 rfl szSg ?_)
              | (refine wl_alloc 27 _ zeSg rfl rfl ?_; intro W41 bs Bs_41 l41 k41; have gs : wr.heap.size ≤ bs := l41; have nfs : bf ≠ bs := Nat.ne_of_lt (Nat.lt_of_lt_of_le Rf1.lt l41); have nms : bm ≠ bs := Nat.ne_of_lt (Nat.lt_of_lt_of_le Rm1.lt l41); have nns : bn ≠ bs := Nat.ne_of_lt (Nat.lt_of_lt_of_le Rn1.lt l41); have Bf_41 := Rf1.keep k41; have Bm_41 := Rm1.keep k41; have Bn_41 := Rn1.keep k41; have Oe_41 := RE.keep k41; have Hw41 := k41; clear l41 k41 Rf1 Rm1 Rn1 RE)
              | (refine wl_store 27 6 szSg _ _ rfl rfl _ rfl #[.int .i64 s.ax, .int .i64 s.ay, .int .i64 s.bx, .int .i64 s.by1, .int .i64 s.l, .int .i64 s.r] rfl _ _ Bs_41 rfl rfl (by kernel_rfl) ?_; intro W42 Bs_42 T42; have Bf_42 := T42.blk Bf_41 nfs; have Bm_42 := T42.blk Bm_41 nms; have Bn_42 := T42.blk Bn_41 nns; have Oe_42 := Oe_41.turned T42 (Nat.ne_of_lt (Nat.lt_of_lt_of_le ltL gs)); have Hw42 := T42.below Hw41 gs; clear T42 Bf_41 Bm_41 Bn_41 Oe_41 Bs_41 Hw41)
              | (refine wl_load 27 6 _ Try.underlying27 rfl szSg _ rfl rfl _ rfl _ _ Bs_42 rfl ?_)
              | (go_at_call 35; (with_reducible refine (H3.out _).mono ?_); rintro e W43 ⟨rfl, k43⟩; have Bf_43 := Bf_42.keep k43; have Bm_43 := Bm_42.keep k43; have Bn_43 := Bn_42.keep k43; have Bs_43 := Bs_42.keep k43; have Oe_43 := Oe_42.keep k43; have Hw43 := bq_trans Hw42 k43; clear k43 Bf_42 Bm_42 Bn_42 Bs_42 Oe_42 Hw42))
            go_roundw
            case rel => exact ⟨m + 1, by omega, by go_num, ⟨_, _, Bf_43, Bn_43, HCH.out.skip (by have := HCL.out; simp at this; omega)⟩, HBU.out.up Hw43⟩
            case measure => simp [intOf]; omega
          | true =>
            rw [q] at H3 HCL
            have H4 := Lib.hid fun W => col_any s y W HRS.out HY.out q
            have hC0 := col_pos s y
            clear q
            generalize colS s y = C at *
            by_cases hCC : C < (k : Int)
            · obtain ⟨j, rfl⟩ := Int.eq_ofNat_of_zero_le hC0
              have hj : j < k := by omega
              go_upto_region 10 with (go_big_may; first
                | (refine wpList_load_mid rfl 27 _ rfl lb (lo + m * 6) rfl [.int .i64 s.ax, .int .i64 s.ay, .int .i64 s.bx, .int .i64 s.by1, .int .i64 s.l, .int .i64 s.r] _ RE.rg Try.underlying27 rfl szSg ?_)
                | (refine wl_alloc 27 _ zeSg rfl rfl ?_; intro W41 bs Bs_41 l41 k41; have gs : wr.heap.size ≤ bs := l41; have nfs : bf ≠ bs := Nat.ne_of_lt (Nat.lt_of_lt_of_le Rf1.lt l41); have nms : bm ≠ bs := Nat.ne_of_lt (Nat.lt_of_lt_of_le Rm1.lt l41); have nns : bn ≠ bs := Nat.ne_of_lt (Nat.lt_of_lt_of_le Rn1.lt l41); have Bf_41 := Rf1.keep k41; have Bm_41 := Rm1.keep k41; have Bn_41 := Rn1.keep k41; have Oe_41 := RE.keep k41; have Hw41 := k41; clear l41 k41 Rf1 Rm1 Rn1 RE)
                | (refine wl_store 27 6 szSg _ _ rfl rfl _ rfl #[.int .i64 s.ax, .int .i64 s.ay, .int .i64 s.bx, .int .i64 s.by1, .int .i64 s.l, .int .i64 s.r] rfl _ _ Bs_41 rfl rfl (by kernel_rfl) ?_; intro W42 Bs_42 T42; have Bf_42 := T42.blk Bf_41 nfs; have Bm_42 := T42.blk Bm_41 nms; have Bn_42 := T42.blk Bn_41 nns; have Oe_42 := Oe_41.turned T42 (Nat.ne_of_lt (Nat.lt_of_lt_of_le ltL gs)); have Hw42 := T42.below Hw41 gs; clear T42 Bf_41 Bm_41 Bn_41 Oe_41 Bs_41 Hw41)
                | (refine wl_load 27 6 _ Try.underlying27 rfl szSg _ rfl rfl _ rfl _ _ Bs_42 rfl ?_)
                | (go_at_call 35; (with_reducible refine (H3.out _).mono ?_); rintro e W43 ⟨rfl, k43⟩; have Bf_43 := Bf_42.keep k43; have Bm_43 := Bm_42.keep k43; have Bn_43 := Bn_42.keep k43; have Bs_43 := Bs_42.keep k43; have Oe_43 := Oe_42.keep k43; have Hw43 := bq_trans Hw42 k43; clear k43 Bf_42 Bm_42 Bn_42 Bs_42 Oe_42 Hw42))
              go_upto_region 12 with (go_big_may; first
                | (refine wl_load 27 6 _ Try.underlying27 rfl szSg _ rfl rfl _ rfl _ _ Bs_43 rfl ?_)
                | (go_at_call 41; (with_reducible refine (H4.out _).mono ?_); rintro e W44 ⟨rfl, k44⟩; have Bf_44 := Bf_43.keep k44; have Bm_44 := Bm_43.keep k44; have Bn_44 := Bn_43.keep k44; have Bs_44 := Bs_43.keep k44; have Oe_44 := Oe_43.keep k44; have Hw44 := bq_trans Hw43 k44; clear k44 Bf_43 Bm_43 Bn_43 Bs_43 Oe_43 Hw43; have cm_0_44 : W44.cell? ⟨bm, 0, none⟩ = some (.slice (some ⟨bf, 0, none⟩) k k) := Bm_44.cell 0))
              have cm0 : W44.cell? ⟨bm, 0, none⟩ = some (.slice (some ⟨bf, 0, none⟩) k k) := Bm_44.cell 0
              have cm1 : W44.cell? ⟨bm, 1, none⟩ = some (.slice (some ⟨bn, 0, none⟩) n n) := Bm_44.cell 1
              have cf : W44.cell? ⟨bf, j, none⟩ = some (.int .i64 (f1 j)) := (Bf_44.cell j).trans (rowF_at _ _ _ hj)
              have cn : W44.cell? ⟨bn, m, none⟩ = some (.int .i64 (g1 m)) := (Bn_44.cell m).trans (rowF_at _ _ _ hlt)
              have fn := Bn_44.frozen m
              have HE : Hid (Blk (W44.setCell ⟨bn, m, none⟩ (.int .i64 (f1 j))).drew bf (rowF k f1) 3 ∧ Blk (W44.setCell ⟨bn, m, none⟩ (.int .i64 (f1 j))).drew bn (rowF n (updN g1 m (f1 j))) 3 ∧ Blk (W44.setCell ⟨bn, m, none⟩ (.int .i64 (f1 j))).drew bm #[.slice (some ⟨bf, 0, none⟩) k k, .slice (some ⟨bn, 0, none⟩) n n] 63 ∧ But bf bn W9 (W44.setCell ⟨bn, m, none⟩ (.int .i64 (f1 j))).drew) :=
                Lib.hid ⟨(Bf_44.other (a := ⟨bn, m, none⟩) _ nfn).drew, by rw [← rowF_set]; exact (Bn_44.set m _).drew, (Bm_44.other (a := ⟨bn, m, none⟩) _ (Ne.symm nnm)).drew, ((HBU.out.up Hw44).setq m _).drw⟩
              clear Bf_44 Bn_44 Bm_44 cm_0_44
              go_region
              obtain ⟨Rf2, Rn2, Rm2, hbu2⟩ := HE.out
              clear cm0 cm1 cf cn fn HE
              generalize (W44.setCell ⟨bn, m, none⟩ (.int .i64 (f1 j))).drew = W8 at *
              have HBU8 := Lib.hid hbu2
              have cm0 : W8.cell? ⟨bm, 0, none⟩ = some (.slice (some ⟨bf, 0, none⟩) k k) := Rm2.cell 0
              clear hbu2 Hw44
              go_wp2_with (first
                | (refine wl_set 3 _ _ rfl rfl bf j rfl (.int .i64 (m : Int)) rfl rfl szInt _ _ Rf2 (by rw [rowF_size]; exact hj) ?_; intro W7 Rf3 T7; have Rn3 := T7.blk Rn2 (Ne.symm nfn); have HBU7 := HBU8.out.tp T7; clear T7 cm0 Rf2 Rn2 Rm2))
              go_roundw
              case rel => exact ⟨m + 1, by omega, by go_num, ⟨_, _, by rw [rowF_set] at Rf3; exact Rf3, Rn3, HCH.out.put j hj (by have := HCL.out; simpa using this)⟩, HBU7⟩
              case measure => simp [intOf]; omega
            · have hCK : (k : Int) ≤ C := by omega
              go_upto_region 10 with (go_big_may; first
                | (refine wpList_load_mid rfl 27 _ rfl lb (lo + m * 6) rfl [.int .i64 s.ax, .int .i64 s.ay, .int .i64 s.bx, .int .i64 s.by1, .int .i64 s.l, .int .i64 s.r] _ RE.rg Try.underlying27 rfl szSg ?_)
                | (refine wl_alloc 27 _ zeSg rfl rfl ?_; intro W41 bs Bs_41 l41 k41; have gs : wr.heap.size ≤ bs := l41; have nfs : bf ≠ bs := Nat.ne_of_lt (Nat.lt_of_lt_of_le Rf1.lt l41); have nms : bm ≠ bs := Nat.ne_of_lt (Nat.lt_of_lt_of_le Rm1.lt l41); have nns : bn ≠ bs := Nat.ne_of_lt (Nat.lt_of_lt_of_le Rn1.lt l41); have Bf_41 := Rf1.keep k41; have Bm_41 := Rm1.keep k41; have Bn_41 := Rn1.keep k41; have Oe_41 := RE.keep k41; have Hw41 := k41; clear l41 k41 Rf1 Rm1 Rn1 RE)
                | (refine wl_store 27 6 szSg _ _ rfl rfl _ rfl #[.int .i64 s.ax, .int .i64 s.ay, .int .i64 s.bx, .int .i64 s.by1, .int .i64 s.l, .int .i64 s.r] rfl _ _ Bs_41 rfl rfl (by kernel_rfl) ?_; intro W42 Bs_42 T42; have Bf_42 := T42.blk Bf_41 nfs; have Bm_42 := T42.blk Bm_41 nms; have Bn_42 := T42.blk Bn_41 nns; have Oe_42 := Oe_41.turned T42 (Nat.ne_of_lt (Nat.lt_of_lt_of_le ltL gs)); have Hw42 := T42.below Hw41 gs; clear T42 Bf_41 Bm_41 Bn_41 Oe_41 Bs_41 Hw41)
                | (refine wl_load 27 6 _ Try.underlying27 rfl szSg _ rfl rfl _ rfl _ _ Bs_42 rfl ?_)
                | (go_at_call 35; (with_reducible refine (H3.out _).mono ?_); rintro e W43 ⟨rfl, k43⟩; have Bf_43 := Bf_42.keep k43; have Bm_43 := Bm_42.keep k43; have Bn_43 := Bn_42.keep k43; have Bs_43 := Bs_42.keep k43; have Oe_43 := Oe_42.keep k43; have Hw43 := bq_trans Hw42 k43; clear k43 Bf_42 Bm_42 Bn_42 Bs_42 Oe_42 Hw42))
              go_wp2_with (first
                | (refine wl_load 27 6 _ Try.underlying27 rfl szSg _ rfl rfl _ rfl _ _ Bs_43 rfl ?_)
                | (go_at_call 41; (with_reducible refine (H4.out _).mono ?_); rintro e W44 ⟨rfl, k44⟩; have Bf_44 := Bf_43.keep k44; have Bm_44 := Bm_43.keep k44; have Bn_44 := Bn_43.keep k44; have Bs_44 := Bs_43.keep k44; have Oe_44 := Oe_43.keep k44; have Hw44 := bq_trans Hw43 k44; clear k44 Bf_43 Bm_43 Bn_43 Bs_43 Oe_43 Hw43; have cm_0_44 : W44.cell? ⟨bm, 0, none⟩ = some (.slice (some ⟨bf, 0, none⟩) k k) := Bm_44.cell 0))
              go_roundw
              case rel => exact ⟨m + 1, by omega, by go_num, ⟨_, _, Bf_44, Bn_44, HCH.out.skip (by have := HCL.out; simp at this; omega)⟩, HBU.out.up Hw44⟩
              case measure => simp [intOf]; omega
        · have hmn : m = n := by omega
          have HBU := Lib.hid hbut
          have HCH := Lib.hid hch
          clear hbut hch
          subst hmn
          go_wp2_with fail
          refine bodyPost_end (results_none rfl _ _ _) rfl ⟨rfl, ⟨f1, g1, Rf1, Rn1, HCH.out⟩, ?_⟩
          exact But.pre HW1.out (HB1.out.trans HBU.out)
end Go.Proofs.Ytgopaajmbifbaaa
namespace Go.Proofs.Ytgopaajmbifbaaa
open Go.RowKit
set_option linter.unusedVariables false
set_option linter.unusedSimpArgs false
set_option maxRecDepth 100000
theorem tal_info : (Try.prog.info? 71).map (·.zero) = some (some (.agg (talC (fun _ => 0) (fun _ => 0)))) := by kernel_rfl
theorem zeTal (w : World) : (zeroValue 71).run Try.prog w = .ok (.agg (talC (fun _ => 0) (fun _ => 0))) w := by
  obtain ⟨i, h1, h2⟩ := Option.map_eq_some_iff.1 tal_info
  simp [zeroValue, typeInfo, h1, h2]
theorem But.low {p q : Nat} {a w w' : World} (hb : Below a.heap.size a w) (h : But p q w w') (hq : a.heap.size ≤ q) : But p p a w' :=
  ⟨h.os.trans hb.os, h.tape.trans hb.tape, h.output.trans hb.output, Nat.le_trans hb.size h.size, fun k hk hp _ => (h.block k (Nat.lt_of_lt_of_le hk hb.size) hp (by omega)).trans (hb.block k hk)⟩
theorem But.widen {p q : Nat} {a w : World} (h : But q q a w) : But p q a w := ⟨h.os, h.tape, h.output, h.size, fun k hk hp hq => h.block k hk hq hq⟩
theorem Sgm.keepBut {w w' : World} {b o p q : Nat} {s : Sg} (h : Sgm w b o s) (hb : But p q w w') (hp : b ≠ p) (hq : b ≠ q) : Sgm w' b o s :=
  ⟨fun j u hj => (World.cell?_of_block (w := w) (hb.block b h.lt hp hq)).trans (h.rg j u hj)⟩
structure Own (D : List Sg) (c : Nat → Int) (n off k : Nat) (h h' : Nat → Int) : Prop where
  here : ∀ j : Nat, j < k → h' (off + j) = (topF (fun t : Nat => tl D c ((j : Int) + 1) n n (t : Int)) : Int)
  rest : ∀ j, j < off ∨ off + k ≤ j → h' j = h j
theorem Own.next {D : List Sg} {c : Nat → Int} {n off k : Nat} {h h' : Nat → Int} (H : Own D c n off k h h') : Own D c n off (k + 1) h (updN h' (off + k) (topF (fun t : Nat => tl D c ((k : Int) + 1) n n (t : Int)) : Int)) := by
  refine ⟨fun j hj => ?_, fun j hj => ?_⟩
  · by_cases e : j = k
    · subst e; rw [updN_same]
    · rw [updN_other _ _ _ _ (by omega)]; exact H.here j (by omega)
  · rw [updN_other _ _ _ _ (by omega)]; exact H.rest j (by omega)
theorem up_two {D : List Sg} {c : Nat → Int} {i : Nat} {m q n ln rn : Nat} {s : Sg} (hm : m < q) (hc : c m = (i : Int)) (hn : ∀ t, m < t → t < q → c t ≠ (i : Int)) (hmn : m < n) (hs : D[m]? = some s) (hl : s.l = (ln : Int)) (hr : s.r = (rn : Int)) :
    upF (upF (fun t : Nat => tl D c (i : Int) q n (t : Int)) ln 1) rn (-1) = (fun t : Nat => tl D c (i : Int) m n (t : Int)) := by
  funext t
  simp only [upF]
  rw [tl_step D c (i : Int) m q (t : Int) (by omega) hm hc hn n, if_pos hmn]
  unfold sdn sd
  rw [hs]
  simp only [hl, hr]
  omega
set_option maxHeartbeats 8000000 in
theorem row17_any (D : List Sg) (v : Value) (c : Nat → Int) (cols off cap N : Nat) (bo bf bn : Nat) (f g h : Nat → Int) (w0 w : World) (hL : Sgs w0 v D) (hb0 : Below w0.heap.size w0 w) (ho : w0.heap.size ≤ bo) (nof : bo ≠ bf) (non : bo ≠ bn) (nfn : bf ≠ bn)
    (hr : allR D = true) (hc : cols ≤ 1000) (hl : D.length ≤ 1000) (hoff : off + cols ≤ N) (hN : N ≤ 1000000) (BO : Blk w bo (rowF N h) 3) (BF : Blk w bf (rowF cols f) 3) (BN : Blk w bn (rowF D.length g) 3) (hch : Ch c cols D.length f g) :
    Calls Try.prog 38 #[.slice (some ⟨bo, off, none⟩) cols cap, v, .agg #[.slice (some ⟨bf, 0, none⟩) cols cols, .slice (some ⟨bn, 0, none⟩) D.length D.length]] w fun e w' => e = .returned (.tuple #[]) ∧ (∃ h', Blk w' bo (rowF N h') 3 ∧ Own D c D.length off cols h h') ∧ But bo bo w w' := by
  obtain ⟨la, lc, lb, lo, rfl, llen, lget⟩ := hL.at
  have HG := Lib.hid lget
  have HR := Lib.hid (List.all_eq_true.1 hr)
  have HCH := Lib.hid hch
  clear hL lget hr hch
  obtain ⟨n, hn'⟩ : ∃ n, n = D.length := ⟨_, rfl⟩
  rw [← hn'] at hl BN HCH
  rw [← hn']
  have HN := Lib.hid hn'
  have HL := Lib.hid hl
  have hn9 : (n : Int) ≤ 1000 := by omega
  have hc9 : (cols : Int) ≤ 1000 := by omega
  have HB00 := Lib.hid hb0
  clear hn' llen hb0
  go_enter Try.func38, Try.ntmps38
  go_wp2_with (first
    | (refine wl_box 63 _ _ rfl rfl (show _ = Value.agg #[.slice (some ⟨bf, 0, none⟩) cols cols, .slice (some ⟨bn, 0, none⟩) n n] from rfl) ?_; intro W1 bm Bm_1 l1 k1; have gm : w.heap.size ≤ bm := l1; have nfm : bf ≠ bm := Nat.ne_of_lt (Nat.lt_of_lt_of_le BF.lt l1); have nnm : bn ≠ bm := Nat.ne_of_lt (Nat.lt_of_lt_of_le BN.lt l1); have nom : bo ≠ bm := Nat.ne_of_lt (Nat.lt_of_lt_of_le BO.lt l1); have Bf_1 := BF.keep k1; have Bn_1 := BN.keep k1; have Bo_1 := BO.keep k1; have Hw1 := k1; clear l1 k1 BF BN BO)
    | (refine wl_alloc 71 _ zeTal rfl rfl ?_; intro W2 bt Bt_2 l2 k2; have gt : w.heap.size ≤ bt := Nat.le_trans Hw1.size l2; have nft : bf ≠ bt := Nat.ne_of_lt (Nat.lt_of_lt_of_le Bf_1.lt l2); have nnt : bn ≠ bt := Nat.ne_of_lt (Nat.lt_of_lt_of_le Bn_1.lt l2); have not : bo ≠ bt := Nat.ne_of_lt (Nat.lt_of_lt_of_le Bo_1.lt l2); have nmt : bm ≠ bt := Nat.ne_of_lt (Nat.lt_of_lt_of_le Bm_1.lt l2); have Bf_2 := Bf_1.keep k2; have Bn_2 := Bn_1.keep k2; have Bo_2 := Bo_1.keep k2; have Bm_2 := Bm_1.keep k2; have Hw2 := bq_trans Hw1 k2; clear l2 k2 Bf_1 Bn_1 Bo_1 Bm_1 Hw1))
  have HW1 := Lib.hid Hw2
  have HT0 : Hid (Tal W2 bt (fun t : Nat => tl D c (0 : Int) n n (t : Int))) := Lib.hid ⟨fun _ => 0, by
    have e : (fun t : Nat => tl D c (0 : Int) n n (t : Int)) = fun _ => 0 := by
      funext t
      exact tl_zero D c n (t : Int) n (Nat.le_refl _)
    rw [e]
    exact Bt_2, by
    have e : (fun t : Nat => tl D c (0 : Int) n n (t : Int)) = fun _ => 0 := by
      funext t
      exact tl_zero D c n (t : Int) n (Nat.le_refl _)
    rw [e]
    exact words_zero⟩
  clear Hw2
  go_loopw [11] (fun i wr => ∃ k : Nat, k ≤ cols ∧ i = .int .i64 (k : Int) ∧ (∃ h', Blk wr bo (rowF N h') 3 ∧ Own D c n off k h h') ∧ Tal wr bt (fun t : Nat => tl D c (k : Int) n n (t : Int)) ∧ But bo bt W2 wr) (fun i _ => cols - (intOf i).toNat)
  case atStart => exact ⟨0, by omega, rfl, ⟨h, Bo_2, ⟨fun j hj => absurd hj (by omega), fun j _ => rfl⟩⟩, HT0.out, But.of (bq_refl _)⟩
  case round =>
    obtain ⟨k, hk, rfl, ⟨h', Ro, hown⟩, hT, hbut⟩ := hrel
    have Rm := Bm_2.but hbut (Ne.symm nom) nmt
    have Rf := Bf_2.but hbut (Ne.symm nof) nft
    have Rn := Bn_2.but hbut (Ne.symm non) nnt
    have HBU := Lib.hid hbut
    have HT := Lib.hid hT
    have HO := Lib.hid hown
    clear hbut hT hown Bm_2 Bf_2 Bn_2 Bo_2 Bt_2 HT0
    by_cases hlt : k < cols
    · have i1 : (0 : Int) ≤ (k : Int) := by omega
      have i2 : (k : Int) < (cols : Int) := by omega
      have cm : wr.cell? ⟨bm, 0, none⟩ = some (.slice (some ⟨bf, 0, none⟩) cols cols) := Rm.cell 0
      have cf : wr.cell? ⟨bf, k, none⟩ = some (.int .i64 (hd c (k : Int) n)) := ((Rf.cell k).trans (rowF_at _ _ _ hlt)).trans (by rw [HCH.out.first k hlt])
      go_wp2_with fail
      clear cm cf
      generalize wr = WQ at *
      go_loopw [8] (fun x wr => ∃ q : Nat, q ≤ n ∧ x = .int .i64 (hd c (k : Int) q) ∧ Tal wr bt (fun t : Nat => tl D c (k : Int) q n (t : Int)) ∧ But bt bt WQ wr) (fun x _ => (intOf x + 1).toNat)
      case atStart => exact ⟨n, Nat.le_refl _, rfl, HT.out, But.of (bq_refl _)⟩
      case round =>
        obtain ⟨q, hq, rfl, hT2, hbut2⟩ := hrel
        have HTa := Lib.hid hT2
        have HKa := Lib.hid hbut2
        clear hT2 hbut2
        have Rm2 := Rm.but HKa.out nmt nmt
        have Rn2 := Rn.but HKa.out nnt nnt
        have Ro2 := Ro.but HKa.out not not
        clear Rm Rn Rf Ro
        rcases hd_cases c (k : Int) q with ⟨hm1, hm2⟩ | ⟨m, hm1, hm2, hm3, hm4⟩
        · have HD : Hid (Tal wr bt (fun t : Nat => tl D c ((k : Int) + 1) n n (t : Int))) := Lib.hid (by
            have e : (fun t : Nat => tl D c (k : Int) q n (t : Int)) = (fun t : Nat => tl D c ((k : Int) + 1) n n (t : Int)) := by
              funext t
              exact tl_done D c (k : Int) q n (t : Int) hm2 n (Nat.le_refl _)
            rw [← e]
            exact HTa.out)
          have hd1 := hm1
          clear hm1 hm2
          generalize hd c (k : Int) q = X at *
          subst hd1
          have HGR := Lib.hid fun W hW => greatest17_any (fun t : Nat => tl D c ((k : Int) + 1) n n (t : Int)) bt W hW
          go_wp2_with (first
            | (go_at_call 43; (with_reducible refine (HGR.out _ HD.out).mono ?_); rintro e w9 ⟨rfl, rfl⟩)
            | (refine wl_set 3 _ _ rfl rfl bo (off + k) rfl (.int .i64 (topF (fun t : Nat => tl D c ((k : Int) + 1) n n (t : Int)) : Int)) rfl rfl szInt _ _ Ro2 (by rw [rowF_size]; omega) ?_; intro W3 Ro3 T3; have HT3 : Hid (Tal W3 bt (fun t : Nat => tl D c ((k : Int) + 1) n n (t : Int))) := Lib.hid (HD.out.turned T3 (Ne.symm not)); have HK3 : Hid (But bo bt W2 W3) := Lib.hid ((HBU.out.trans HKa.out.widen).tp T3); clear T3))
          go_roundw
          case rel => exact ⟨k + 1, by omega, by go_num, ⟨_, by rw [rowF_set] at Ro3; exact Ro3, HO.out.next⟩, by push_cast; exact HT3.out, HK3.out⟩
          case measure => simp [intOf]; omega
        · have hmn : m < n := by omega
          obtain ⟨rfl, he⟩ := HG.out m (by have := HN.out; omega)
          have gt0 : w0.heap.size ≤ bt := Nat.le_trans HB00.out.size gt
          have nbt : lb ≠ bt := Nat.ne_of_lt (Nat.lt_of_lt_of_le he.lt gt0)
          have HB9 : Hid (Below w0.heap.size w0 wr) := Lib.hid (HKa.out.below (HBU.out.below (bq_trans HB00.out HW1.out) ho gt0) gt0 gt0)
          have RE := he.keep HB9.out
          have HNX : Hid (g m = hd c (k : Int) m) := Lib.hid (HCH.out.next m hmn k hlt hm3)
          have hds : D[m]? = some (D[m]'(by have := HN.out; omega)) := List.getElem?_eq_getElem _
          have hrs := (rgtS_bd (HR.out (D[m]'(by have := HN.out; omega)) (List.getElem_mem _))).2.2
          clear he HG
          generalize D[m]'(by have := HN.out; omega) = s at *
          obtain ⟨ln, hln⟩ := Int.eq_ofNat_of_zero_le hrs.1.1
          obtain ⟨rn, hrn⟩ := Int.eq_ofNat_of_zero_le hrs.2.1
          have HL2 : Hid (ln < 256 ∧ rn < 256) := Lib.hid (by omega)
          have HUP : Hid (upF (upF (fun t : Nat => tl D c (k : Int) q n (t : Int)) ln 1) rn (-1) = (fun t : Nat => tl D c (k : Int) m n (t : Int))) := Lib.hid (up_two hm1 hm3 hm4 hmn hds hln hrn)
          have HBD : Hid (∀ t : Nat, -1000 ≤ tl D c (k : Int) q n (t : Int) ∧ tl D c (k : Int) q n (t : Int) ≤ 1000) := Lib.hid fun t => by have := tl_bd D c (k : Int) q (t : Int) n; have := HL.out; omega
          have cl0 : wr.cell? ⟨lb, lo + m * 6 + 4, none⟩ = some (.int .i64 (ln : Int)) := RE.l.trans (by rw [hln])
          have hr0 : (s.r : Int) = (rn : Int) := hrn
          have HRN := Lib.hid hrn
          have hd2 := hm2
          have hX : Hid ((m : Int) ≠ -1) := Lib.hid (by omega)
          clear hm1 hm2 hm3 hm4 hds hln hrn hr0 hrs
          generalize hd c (k : Int) q = X at *
          subst hd2
          have j1 : (0 : Int) ≤ (m : Int) := by omega
          have j2 : (m : Int) < (n : Int) := by omega
          go_upto_region 9 with (go_big_may; first
            | (go_at_call 42; (with_reducible refine (add17_any _ ln 1 bt _ HL2.out.1 HTa.out (by have := HBD.out ln; omega) (by have := HBD.out ln; omega) (by decide) (by decide)).mono ?_); rintro e W3 ⟨rfl, hT3, hK3⟩; have HT3 := Lib.hid hT3; have HK3 : Hid (But bt bt WQ W3) := Lib.hid (HKa.out.trans hK3); have RE3 := Sgm.keepBut RE hK3 nbt nbt; have Rm3 := Rm2.but hK3 nmt nmt; have Rn3 := Rn2.but hK3 nnt nnt; clear hT3 hK3 RE Rm2 Rn2 Ro2 cl0))
          have cr0 : W3.cell? ⟨lb, lo + m * 6 + 5, none⟩ = some (.int .i64 (rn : Int)) := RE3.r.trans (by rw [HRN.out])
          go_upto_region 7 with (go_big_may; first
            | (go_at_call 42; (with_reducible refine (add17_any _ rn (-1) bt _ HL2.out.2 HT3.out (by have := HBD.out rn; simp only [upF]; split <;> omega) (by have := HBD.out rn; simp only [upF]; split <;> omega) (by decide) (by decide)).mono ?_); rintro e W4 ⟨rfl, hT4, hK4⟩; have HT4 := Lib.hid hT4; have HK4 : Hid (But bt bt WQ W4) := Lib.hid (HK3.out.trans hK4); have Rm4 := Rm3.but hK4 nmt nmt; have Rn4 := Rn3.but hK4 nnt nnt; clear hT4 hK4 RE3 Rm3 Rn3 cr0))
          have cm1 : W4.cell? ⟨bm, 1, none⟩ = some (.slice (some ⟨bn, 0, none⟩) n n) := Rm4.cell 1
          have cg : W4.cell? ⟨bn, m, none⟩ = some (.int .i64 (hd c (k : Int) m)) := ((Rn4.cell m).trans (rowF_at _ _ _ hmn)).trans (by rw [HNX.out])
          go_wp2_with fail
          go_roundw
          case rel => exact ⟨m, by omega, rfl, by rw [← HUP.out]; exact HT4.out, HK4.out⟩
          case measure => have := hd_bd c (k : Int) m; simp [intOf]; omega
    · have hkn : k = cols := by omega
      subst hkn
      go_wp2_with fail
      refine bodyPost_end (results_none rfl _ _ _) rfl ⟨rfl, ⟨h', Ro, HO.out⟩, ?_⟩
      exact But.low HW1.out HBU.out gt
end Go.Proofs.Ytgopaajmbifbaaa
