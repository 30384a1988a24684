import Derived.Test.YthlnjipefeglpaaZU34
import Derived.Test.YthlnjipefeglpaaZU35
namespace Go.Proofs.Ythlnjipefeglpaa
open Go.RowKit
set_option linter.unusedVariables false
set_option linter.unusedSimpArgs false
set_option maxRecDepth 100000
theorem OwnFM.under {w w' : World} {B M : Nat} {v : Value} {Fs : List FV} (h : OwnFM w B M v Fs) (hb : Below M w w') : OwnFM w' B M v Fs := by
  obtain ⟨svs, h1, h2, h4, h3⟩ := h
  exact ⟨svs, h1, h2.same fun g hg => hb.block g (h4 g hg), h4, fun i g1 g2 => ⟨(h3 i g1 g2).1, ⟨(h3 i g1 g2).2.1.1.same fun g hg => hb.block g ((h3 i g1 g2).2.2 g hg).2, (h3 i g1 g2).2.1.2⟩, (h3 i g1 g2).2.2⟩⟩
theorem OwnF.snoc2 {w w' : World} {B B2 : Nat} {v v' sv : Value} {Fs : List FV} {F : FV} (svs : List Value) (l1 : svs.length = Fs.length) (l2 : OwnC w B 28 14 v (List.zipWith fillC Fs svs)) (l3 : ∀ i (h1 : i < Fs.length) (h2 : i < svs.length), Fs[i].Fit ∧ OwnP w B 65 svs[i] Fs[i].st ∧ ∀ g, svs[i].ownBlock = some g → v.ownBlock ≠ some g)
    (hF : F.Fit) (hs : OwnP w B2 65 sv F.st) (hB : B ≤ B2) (hv : ∀ g, v.ownBlock = some g → g < B2)
    (h2 : OwnC w' B 28 14 v' (List.zipWith fillC Fs svs ++ [fillC F sv])) (hg : w.grownBy w' v.ownBlock) (ha : v'.ownBlock = v.ownBlock ∨ v'.ownBlock = some w.heap.size) : OwnF w' B v' (Fs ++ [F]) := by
  have hsn : ∀ g, sv.ownBlock = some g → v.ownBlock ≠ some g := fun g h1 h2 => by
    have := (hs.1.lt h1).1
    have := hv g h2
    omega
  have keep : ∀ (s : Value) (st : List (List Int)) (B3 : Nat), OwnP w B3 65 s st → (∀ g, s.ownBlock = some g → v.ownBlock ≠ some g) → OwnP w' B3 65 s st ∧ ∀ g, s.ownBlock = some g → v'.ownBlock ≠ some g := fun s st B3 hp hn => by
    refine ⟨⟨hp.1.same fun g h1 => hg.block g (hp.1.lt h1).2 fun e => hn g h1 e.symm, hp.2⟩, fun g h1 h2 => ?_⟩
    rcases ha with ha | ha
    · exact hn g h1 (ha ▸ h2)
    · rw [ha] at h2
      have := (hp.1.lt h1).2
      simp only [Option.some.injEq] at h2
      omega
  refine ⟨svs ++ [sv], by simp [l1], ?_, fun i g1 g2 => ?_⟩
  · rw [List.zipWith_append l1.symm]
    exact h2
  · rcases Nat.lt_or_ge i Fs.length with hi | hi
    · have hi2 : i < svs.length := by omega
      rw [List.getElem_append_left hi, List.getElem_append_left hi2]
      obtain ⟨k1, k2, k3⟩ := l3 i hi hi2
      exact ⟨k1, keep _ _ _ k2 k3⟩
    · have hi2 : i = Fs.length := by simp at g1; omega
      subst hi2
      have e1 : (Fs ++ [F])[Fs.length] = F := by simp
      have e2 : (svs ++ [sv])[Fs.length] = sv := by rw [List.getElem_append_right (by omega)]; simp
      rw [e1, e2]
      exact ⟨hF, keep _ _ _ (hs.weaken hB) hsn⟩
theorem OwnF.weaken {w : World} {B B' : Nat} {v : Value} {Fs : List FV} (h : OwnF w B v Fs) (hB : B' ≤ B) : OwnF w B' v Fs := by
  obtain ⟨svs, h1, h2, h3⟩ := h
  exact ⟨svs, h1, h2.weaken hB, fun i g1 g2 => ⟨(h3 i g1 g2).1, (h3 i g1 g2).2.1.weaken hB, (h3 i g1 g2).2.2⟩⟩
def TfRel (w : World) (WB : Nat) (u : RS) (N bx bo : Nat) (v i : Value) (wr : World) : Prop :=
  ∃ (k : Nat) (v' : Value), v' = v ∧ k ≤ N ∧ i = .int .i64 k ∧ Blk wr bx (fillsT u k).2.cells 53 ∧ Blk wr bo #[.string ⟨#[]⟩, .int .i64 0, .int .i64 0] 53 ∧ OwnF wr WB v' (fillsT u k).1 ∧ (fillsT u k).1.length = k ∧ Below w.heap.size w wr ∧ WB ≤ wr.heap.size
def TlRel (w : World) (WA WB : Nat) (fv : Value) (Fs : List FV) (u : RS) (N bx bo : Nat) (v i : Value) (wr : World) : Prop :=
  ∃ (k : Nat) (v' : Value), v' = v ∧ k ≤ N ∧ i = .int .i64 k ∧ Blk wr bx (linesT u k).2.cells 53 ∧ Blk wr bo #[.string ⟨#[]⟩, .int .i64 0, .int .i64 0] 53 ∧ OwnFM wr WA WB fv Fs ∧ OwnP wr WB 30 v' (linesT u k).1 ∧ (linesT u k).1.length = k ∧ Below w.heap.size w wr ∧ WB ≤ wr.heap.size
end Go.Proofs.Ythlnjipefeglpaa
namespace Go.Proofs.Ythlnjipefeglpaa
open Go.RowKit
set_option linter.unusedVariables false
set_option linter.unusedSimpArgs false
set_option maxRecDepth 100000
def PfRel (w : World) (u : RS) (N bp : Nat) (l : Value) (wr : World) : Prop :=
  ∃ k : Nat, k ≤ N ∧ OwnF wr w.heap.size l (fillsT u k).1 ∧ (fillsT u k).1.length = k ∧ Blk wr bp (fillsT u k).2.cells 79 ∧ Bt bp w wr
set_option maxHeartbeats 4000000 in
theorem ptfills_any (x : RS) (bp : Nat) (w : World) (hx : Tk8 w bp x) (hs : x.s.size ≤ 1000000) :
    Calls Try.prog 41 #[.pointer (some ⟨bp, 0, none⟩), .func (.func 42) #[] #[]] w fun e w' => ∃ v, e = .returned v ∧ OwnF w' w.heap.size v (fillsX x).1 ∧ Tk8 w' bp (fillsX x).2 ∧ Bt bp w w' := by
  have HN : Hid (∀ W, Blk W bp x.cells 79 → Calls Try.prog 55 #[.pointer (some ⟨bp, 0, none⟩), .int .i64 1] W fun e w' => e = .returned (.int .i64 (x.li 1)) ∧ Blk w' bp (x.liS 1).cells 79 ∧ But bp bp W w') := Lib.hid fun W h => tnumber_any x 1 bp W h hs (by decide) (by decide)
  have HVB := li1_bd x
  have HD : Hid (∀ W, Blk W bp (x.liS 1).cells 79 → Calls Try.prog 56 #[.pointer (some ⟨bp, 0, none⟩), .bool (decide (x.li 1 ≤ 15)), .int .i64 7] W fun r w' => r = .returned (.tuple #[]) ∧ Blk w' bp (cntX x).cells 79 ∧ But bp bp W w') := Lib.hid fun W h => not_lt_dec 15 (x.li 1) ▸ demand_any (x.liS 1) (decide (15 < x.li 1)) 7 bp W h
  have hus := cntX_size hs
  have Bp_0 : Blk w bp x.cells 79 := hx
  have hpw := Bp_0.lt
  have HBt : Bt bp w w := but_refl _ _ _
  have SM : SzM w w.heap.size w.heap.size := ⟨Nat.le_refl _⟩
  have hsz : w.heap.size ≤ w.heap.size := Nat.le_refl _
  show Calls _ _ _ _ fun e w' => ∃ v, _ ∧ OwnF w' w.heap.size v (fillsT (cntX x) (x.li 1).toNat).1 ∧ Blk w' bp (fillsT (cntX x) (x.li 1).toNat).2.cells 79 ∧ _
  clear hx hs
  obtain ⟨n, hn⟩ : ∃ n : Nat, x.li 1 = (n : Int) := ⟨(x.li 1).toNat, by omega⟩
  rw [hn] at HN HVB HD ⊢
  have hn0 : ((n : Nat) : Int).toNat = n := by omega
  rw [hn0]
  have hn1 : n ≤ 255 := by omega
  clear hn HVB hn0
  generalize x.liS 1 = y at *
  generalize cntX x = u at *
  go_enter Try.func41, Try.ntmps41
  go_wp2_with (first
    | (go_at_call 55; (with_reducible refine (HN.out _ Bp_0).mono ?_); rintro e W1 ⟨rfl, Bp_1, k1⟩; have Ob_1 := HBt.but k1 (Or.inl rfl); have Om_1 := SM.but k1 (Or.inl hpw); clear k1 HBt SM Bp_0)
    | (go_at_call 56; (with_reducible refine (HD.out _ Bp_1).mono ?_); rintro e W2 ⟨rfl, Bp_2, k2⟩; have Ob_2 := Ob_1.but k2 (Or.inl rfl); have Om_2 := Om_1.but k2 (Or.inl hpw); clear k2 Ob_1 Om_1 Bp_1))
  have CB := Bp_2
  have CT := Ob_2
  clear Bp_2 Ob_2 Om_2 HN HD
  go_loopw [6] (fun l wr => PfRel w u n bp l wr) (fun l _ => n - lenOf l)
  case atStart => exact ⟨0, by omega, ownF_nil _ _, rfl, CB, CT⟩
  case round =>
    obtain ⟨k, hk, hown, hlen, BX, hbt⟩ := hrel
    clear CB CT
    have HEX : Hid (n ≤ k ∨ (fillsT u k).2.e ≠ 0 → fillsT u n = fillsT u k) := Lib.hid (fun h => by
      by_cases hkn : n ≤ k
      · rw [show n = k by omega]
      · have := fills_stuck (h.resolve_left hkn) (n - k)
        rwa [show k + (n - k) = n by omega] at this)
    have hps : (fillsT u k).2.s.size ≤ 1000000 := fillsT_size hus k
    have HST : Hid (∀ L y, fillsT u k = (L, y) → y.e = 0 → fillsT u (k + 1) = (L ++ [(fillT y).1], (fillT y).2)) := Lib.hid (fun L y h he => by
      show fillStep (fillsT u k) = _
      rw [h]
      exact if_pos he)
    obtain ⟨L, z, hLy⟩ : ∃ L z, fillsT u k = (L, z) := ⟨_, _, rfl⟩
    have HST2 := Lib.hid (HST.out L z hLy)
    rw [hLy] at BX hown hlen hps HEX
    clear HST hLy
    dsimp only at BX hown hlen hps HEX
    obtain ⟨ps, pa, pe⟩ := z
    have HOW := Lib.hid hown
    have HBT := Lib.hid hbt
    have cx2 : wr.cell? ⟨bp, 2, none⟩ = some (.int .i64 pe) := BX.cell 2
    obtain ⟨css, hcl, hoc⟩ := hown.row
    obtain ⟨la, lc, rfl⟩ := hoc.slice
    have ek : css.length = k := by omega
    rw [ek] at HOW
    rw [ek]
    clear hown hbt ek hoc hcl
    by_cases hlt : k < n
    · by_cases he : pe = 0
      · subst he
        have HST3 := Lib.hid (HST2.out rfl)
        have i2 : (k : Int) < (n : Int) := by omega
        have SM : SzM wr w.heap.size wr.heap.size := ⟨Nat.le_refl _⟩
        have HBt := HBT.out
        have hsz : w.heap.size ≤ wr.heap.size := HBt.size
        have BX1 : Blk wr bp #[.string ps, .int .i64 pa, .int .i64 0] 79 := BX
        have HLN := Lib.hid hlen
        clear HST2 HEX BX HBT hus
        have HF0 := Lib.hid (fun W (h : Blk W bp #[.string ps, .int .i64 pa, .int .i64 0] 79) => ptfill_any ⟨ps, pa, 0⟩ bp W h hps)
        have hfit := fillT_fit ⟨ps, pa, 0⟩
        unfold PtFill at HF0
        have OM : OwnFM wr w.heap.size wr.heap.size (.slice la k lc) L := HOW.out.m
        clear hps HOW
        generalize fillT ⟨ps, pa, 0⟩ = FZ at *
        obtain ⟨F, z⟩ := FZ
        obtain ⟨fk, fc, fm, sp, st, id⟩ := F
        have lc4 := hfit.c
        have lm6 := hfit.m
        dsimp only at lc4 lm6 HF0
        obtain ⟨r, g, b, a, rfl⟩ := list4 fc lc4
        obtain ⟨m0, m1, m2, m3, m4, m5, rfl⟩ := list6 fm lm6
        have HFit := Lib.hid hfit
        have HF : Hid (∀ W, Blk W bp #[.string ps, .int .i64 pa, .int .i64 0] 79 → Calls Try.prog 42 #[.pointer (some ⟨bp, 0, none⟩)] W fun e w' => ∃ sa sn sc, e = .returned (.agg #[.int .i64 fk, .int .i64 r, .int .i64 g, .int .i64 b, .int .i64 a, .int .i64 m0, .int .i64 m1, .int .i64 m2, .int .i64 m3, .int .i64 m4, .int .i64 m5, .int .i64 sp, .slice sa sn sc, .int .i64 id]) ∧ OwnP w' W.heap.size 65 (.slice sa sn sc) st ∧ Blk w' bp z.cells 79 ∧ But bp bp W w') := Lib.hid fun W hW => (HF0.out W hW).mono fun e w' ⟨sv, h1, h2, h3, h4⟩ => by
          obtain ⟨sa, sc, hsv⟩ := h2.1.slice
          subst hsv
          exact ⟨sa, _, sc, h1, h2, h3, h4⟩
        have HLE : Hid (L.length ≤ 1000000) := Lib.hid (by omega)
        clear HF0 hfit lc4 lm6
        go_wp2_with (first
          | (go_at_call 42; (with_reducible refine (HF.out _ BX1).mono ?_); rintro e W41 ⟨sa, sn, sc, rfl, hO, Bp_41, k41⟩; have leB := Nat.le_trans hsz SM.le; have leM := SM.le; have OS := hO.m; clear hO; have Ob_41 := HBt.but k41 (Or.inl rfl); have Om_41 := SM.but k41 (Or.inl hpw); have Ov_41 := OM.but k41 (Or.inl hpw); clear k41 HBt SM OM BX1)
          | (refine wlg_slice 36 28 1 _ _ (fill1_run fk r g b a m0 m1 m2 m3 m4 m5 sp id sa sn sc) _ rfl rfl rfl ?_; intro W42 bn Bn_42 l42 k42; have npn : bp ≠ bn := Nat.ne_of_lt (Nat.lt_of_lt_of_le Bp_41.lt l42); have lon := Nat.le_trans Om_41.le l42; have Bp_42 := Bp_41.keep k42; have Ob_42 := Ob_41.keep k42; have Om_42 := Om_41.keep k42; have Ov_42 := Ov_41.keep k42; have Os_42 := OS.keep k42; clear l42 k42 Bp_41 Ob_41 Om_41 Ov_41 OS)
          | (obtain ⟨svs, l1, l2, l4, l3⟩ := Ov_42; refine wl_appC 36 28 14 _ Try.underlying36 fl_info rfl (by decide) _ _ rfl rfl w.heap.size _ rfl _ l2 bn 1 _ _ rfl Bn_42 rfl (by kernel_rfl) (by rw [List.length_zipWith, l1, Nat.min_self]; exact HLE.out) (Nat.le_trans hsz Om_42.le) ?_; intro vn W43 hO k43 hgr hat; have Bp_43 := Bp_42.under k43 hpw; have Ob : Bt bp w W43 := ⟨hgr.os.trans Ob_42.os, hgr.tape.trans Ob_42.tape, hgr.output.trans Ob_42.output, Nat.le_trans Ob_42.size hgr.size, fun i hi h1 _ => (k43.block i hi).trans (Ob_42.block i hi h1 h1)⟩; have Ov := OwnF.snoc2 svs l1 l2 (fun i g1 g2 => ⟨(l3 i g1 g2).1, (l3 i g1 g2).2.1, fun g hg => ((l3 i g1 g2).2.2 g hg).1⟩) HFit.out Os_42.1 leB (fun g hg => Nat.lt_of_lt_of_le (l4 g hg) leM) hO hgr hat; clear hgr hat hO k43 l1 l2 l3 l4 Om_42 Ob_42 Os_42 Bn_42 Bp_42))
        have HVN : Hid (lenOf vn = k + 1) := Lib.hid (by
          obtain ⟨css, hcl, hoc⟩ := Ov.row
          obtain ⟨va, vc, hvn⟩ := hoc.slice
          rw [hvn]
          show css.length = k + 1
          rw [hcl, List.length_append, HLN.out]; rfl)
        go_roundw
        case rel => exact ⟨k + 1, by omega, by rw [HST3.out]; exact Ov, by rw [HST3.out]; simp [HLN.out], by rw [HST3.out]; exact Bp_43, Ob⟩
        case measure => rw [HVN.out]; show n - (k + 1) < n - k; omega
      · have q1 : (pe == 0) = false := beq_eq_false_iff_ne.2 he
        have i2 : (k : Int) < (n : Int) := by omega
        have HR := Lib.hid (HEX.out (Or.inr he))
        have BX2 := Lib.hid BX
        clear HEX HST2 hps BX
        go_wp2_with fail
        go_ret
        exact ⟨.slice la k lc, rfl, by rw [HR.out]; exact HOW.out, by rw [HR.out]; exact BX2.out, HBT.out⟩
    · have i2 : ¬ (k : Int) < (n : Int) := by omega
      have HR := Lib.hid (HEX.out (Or.inl (by omega)))
      have BX2 := Lib.hid BX
      clear HEX HST2 hps BX
      go_wp2_with fail
      go_ret
      exact ⟨.slice la k lc, rfl, by rw [HR.out]; exact HOW.out, by rw [HR.out]; exact BX2.out, HBT.out⟩
def PlRel (w : World) (u : RS) (N bp : Nat) (l : Value) (wr : World) : Prop :=
  ∃ k : Nat, k ≤ N ∧ OwnP wr w.heap.size 30 l (linesT u k).1 ∧ (linesT u k).1.length = k ∧ Blk wr bp (linesT u k).2.cells 79 ∧ Bt bp w wr
set_option maxHeartbeats 4000000 in
theorem ptlines_any (x : RS) (bp : Nat) (w : World) (hx : Tk8 w bp x) (hs : x.s.size ≤ 1000000) :
    Calls Try.prog 43 #[.pointer (some ⟨bp, 0, none⟩), .func (.func 44) #[] #[]] w fun e w' => ∃ v, e = .returned v ∧ OwnP w' w.heap.size 30 v (linesX x).1 ∧ Tk8 w' bp (linesX x).2 ∧ Bt bp w w' := by
  have HN : Hid (∀ W, Blk W bp x.cells 79 → Calls Try.prog 55 #[.pointer (some ⟨bp, 0, none⟩), .int .i64 1] W fun e w' => e = .returned (.int .i64 (x.li 1)) ∧ Blk w' bp (x.liS 1).cells 79 ∧ But bp bp W w') := Lib.hid fun W h => tnumber_any x 1 bp W h hs (by decide) (by decide)
  have HVB := li1_bd x
  have HD : Hid (∀ W, Blk W bp (x.liS 1).cells 79 → Calls Try.prog 56 #[.pointer (some ⟨bp, 0, none⟩), .bool (decide (x.li 1 ≤ 15)), .int .i64 7] W fun r w' => r = .returned (.tuple #[]) ∧ Blk w' bp (cntX x).cells 79 ∧ But bp bp W w') := Lib.hid fun W h => not_lt_dec 15 (x.li 1) ▸ demand_any (x.liS 1) (decide (15 < x.li 1)) 7 bp W h
  have hus := cntX_size hs
  have Bp_0 : Blk w bp x.cells 79 := hx
  have hpw := Bp_0.lt
  have HBt : Bt bp w w := but_refl _ _ _
  have SM : SzM w w.heap.size w.heap.size := ⟨Nat.le_refl _⟩
  have hsz : w.heap.size ≤ w.heap.size := Nat.le_refl _
  show Calls _ _ _ _ fun e w' => ∃ v, _ ∧ OwnP w' w.heap.size 30 v (linesT (cntX x) (x.li 1).toNat).1 ∧ Blk w' bp (linesT (cntX x) (x.li 1).toNat).2.cells 79 ∧ _
  clear hx hs
  obtain ⟨n, hn⟩ : ∃ n : Nat, x.li 1 = (n : Int) := ⟨(x.li 1).toNat, by omega⟩
  rw [hn] at HN HVB HD ⊢
  have hn0 : ((n : Nat) : Int).toNat = n := by omega
  rw [hn0]
  have hn1 : n ≤ 255 := by omega
  clear hn HVB hn0
  generalize x.liS 1 = y at *
  generalize cntX x = u at *
  go_enter Try.func43, Try.ntmps43
  go_wp2_with (first
    | (go_at_call 55; (with_reducible refine (HN.out _ Bp_0).mono ?_); rintro e W1 ⟨rfl, Bp_1, k1⟩; have Ob_1 := HBt.but k1 (Or.inl rfl); have Om_1 := SM.but k1 (Or.inl hpw); clear k1 HBt SM Bp_0)
    | (go_at_call 56; (with_reducible refine (HD.out _ Bp_1).mono ?_); rintro e W2 ⟨rfl, Bp_2, k2⟩; have Ob_2 := Ob_1.but k2 (Or.inl rfl); have Om_2 := Om_1.but k2 (Or.inl hpw); clear k2 Ob_1 Om_1 Bp_1))
  have CB := Bp_2
  have CT := Ob_2
  clear Bp_2 Ob_2 Om_2 HN HD
  go_loopw [6] (fun l wr => PlRel w u n bp l wr) (fun l _ => n - lenOf l)
  case atStart => exact ⟨0, by omega, ownP_nil _ _ _, rfl, CB, CT⟩
  case round =>
    obtain ⟨k, hk, hown, hlen, BX, hbt⟩ := hrel
    clear CB CT
    have HEX : Hid (n ≤ k ∨ (linesT u k).2.e ≠ 0 → linesT u n = linesT u k) := Lib.hid (fun h => by
      by_cases hkn : n ≤ k
      · rw [show n = k by omega]
      · have := lines_stuck (h.resolve_left hkn) (n - k)
        rwa [show k + (n - k) = n by omega] at this)
    have hps : (linesT u k).2.s.size ≤ 1000000 := linesT_size hus k
    have HST : Hid (∀ L y, linesT u k = (L, y) → y.e = 0 → linesT u (k + 1) = (L ++ [y.li 2 :: (y.liS 2).cv], (y.liS 2).cvS)) := Lib.hid (fun L y h he => by
      show lineStep (linesT u k) = _
      rw [h]
      exact if_pos he)
    have HFV : Hid (∀ x ∈ (linesT u (k + 1)).1, x.length = 5 ∧ ∀ v ∈ x, I64 v) := Lib.hid (lines_five _ _)
    obtain ⟨L, z, hLy⟩ : ∃ L z, linesT u k = (L, z) := ⟨_, _, rfl⟩
    have HST2 := Lib.hid (HST.out L z hLy)
    rw [hLy] at BX hown hlen hps HEX
    clear HST hLy
    dsimp only at BX hown hlen hps HEX
    obtain ⟨ps, pa, pe⟩ := z
    have HOW := Lib.hid hown
    have HBT := Lib.hid hbt
    have cx2 : wr.cell? ⟨bp, 2, none⟩ = some (.int .i64 pe) := BX.cell 2
    obtain ⟨la, lc, rfl⟩ := hown.1.slice
    have ek : (L.map iL).length = k := by rw [List.length_map]; exact hlen
    rw [ek] at HOW
    rw [ek]
    clear hown hbt ek
    by_cases hlt : k < n
    · by_cases he : pe = 0
      · subst he
        have HST3 := Lib.hid (HST2.out rfl)
        have i2 : (k : Int) < (n : Int) := by omega
        have SM : SzM wr w.heap.size wr.heap.size := ⟨Nat.le_refl _⟩
        have HBt := HBT.out
        have hsz : w.heap.size ≤ wr.heap.size := HBt.size
        have BX1 : Blk wr bp #[.string ps, .int .i64 pa, .int .i64 0] 79 := BX
        have HLN := Lib.hid hlen
        clear HST2 HEX BX HBT hus
        have HF0 := Lib.hid (fun W (h : Blk W bp #[.string ps, .int .i64 pa, .int .i64 0] 79) => ptstroke_any ⟨ps, pa, 0⟩ bp W h hps)
        have OM : OwnM wr w.heap.size wr.heap.size 30 (.slice la k lc) L := HOW.out.m
        obtain ⟨r, g, b, a, hcv⟩ := list4 _ (cv_len ((⟨ps, pa, 0⟩ : RS).liS 2))
        have HST4 : Hid (linesT u (k + 1) = (L ++ [(⟨ps, pa, 0⟩ : RS).li 2 :: ((⟨ps, pa, 0⟩ : RS).liS 2).cv], ((⟨ps, pa, 0⟩ : RS).liS 2).cvS)) := HST3
        rw [hcv] at HF0 HST4
        clear HST3
        have HST3 := HST4
        generalize (⟨ps, pa, 0⟩ : RS).li 2 = lw at *
        have HF1 : Hid (∀ W, Blk W bp #[.string ps, .int .i64 pa, .int .i64 0] 79 → Calls Try.prog 44 #[.pointer (some ⟨bp, 0, none⟩)] W fun e w' => e = .returned (.agg #[.int .i64 lw, .int .i64 r, .int .i64 g, .int .i64 b, .int .i64 a]) ∧ Blk w' bp ((⟨ps, pa, 0⟩ : RS).liS 2).cvS.cells 79 ∧ But bp bp W w') := HF0
        generalize ((⟨ps, pa, 0⟩ : RS).liS 2).cvS = z at *
        have H5 : Hid (∀ x ∈ [lw, r, g, b, a], I64 x) := Lib.hid (fun x hx => (HFV.out [lw, r, g, b, a] (by rw [HST3.out]; simp)).2 x hx)
        have HLE : Hid ((L.map iL).length ≤ 1000000) := Lib.hid (by rw [List.length_map, hlen]; omega)
        clear HF0 hcv hps HOW HFV HST4
        go_wp2_with (first
          | (go_at_call 44; (with_reducible refine (HF1.out _ BX1).mono ?_); rintro e W41 ⟨rfl, Bp_41, k41⟩; have Ob_41 := HBt.but k41 (Or.inl rfl); have Om_41 := SM.but k41 (Or.inl hpw); have Ov_41 := OM.but k41 (Or.inl hpw); clear k41 HBt SM OM BX1)
          | (refine wlg_slice 37 30 1 _ _ (line1_run lw r g b a) _ rfl rfl rfl ?_; intro W42 bn Bn_42 l42 k42; have npn : bp ≠ bn := Nat.ne_of_lt (Nat.lt_of_lt_of_le Bp_41.lt l42); have lon := Nat.le_trans Om_41.le l42; have Bp_42 := Bp_41.keep k42; have Ob_42 := Ob_41.keep k42; have Om_42 := Om_41.keep k42; have Ov_42 := Ov_41.keep k42; clear l42 k42 Bp_41 Ob_41 Om_41 Ov_41)
          | (refine wl_appC 37 30 5 _ Try.underlying37 sk_info rfl (by decide) _ _ rfl rfl w.heap.size _ rfl (L.map iL) Ov_42.1.1 bn 1 _ _ rfl Bn_42 rfl (by kernel_rfl) HLE.out (Nat.le_trans hsz Om_42.le) ?_; intro vn W43 hO k43 hgr hat; have Bp_43 := Bp_42.under k43 hpw; have Ov := OwnP.snoc (x := [lw, r, g, b, a]) Ov_42.1 rfl H5.out hO; have Ob : Bt bp w W43 := ⟨hgr.os.trans Ob_42.os, hgr.tape.trans Ob_42.tape, hgr.output.trans Ob_42.output, Nat.le_trans Ob_42.size hgr.size, fun i hi h1 _ => (k43.block i hi).trans (Ob_42.block i hi h1 h1)⟩; clear hgr hat hO k43 Ov_42 Om_42 Ob_42 Bn_42 Bp_42))
        have HVN : Hid (lenOf vn = k + 1) := Lib.hid (by
          obtain ⟨va, vc, hvn⟩ := Ov.1.slice
          rw [hvn]
          show (List.map iL (L ++ [[lw, r, g, b, a]])).length = k + 1
          rw [List.length_map, List.length_append, HLN.out]; rfl)
        go_roundw
        case rel => exact ⟨k + 1, by omega, by rw [HST3.out]; exact Ov, by rw [HST3.out]; simp [HLN.out], by rw [HST3.out]; exact Bp_43, Ob⟩
        case measure => rw [HVN.out]; show n - (k + 1) < n - k; omega
      · have q1 : (pe == 0) = false := beq_eq_false_iff_ne.2 he
        have i2 : (k : Int) < (n : Int) := by omega
        have HR := Lib.hid (HEX.out (Or.inr he))
        have BX2 := Lib.hid BX
        clear HEX HST2 hps BX
        go_wp2_with fail
        go_ret
        exact ⟨.slice la k lc, rfl, by rw [HR.out]; exact HOW.out, by rw [HR.out]; exact BX2.out, HBT.out⟩
    · have i2 : ¬ (k : Int) < (n : Int) := by omega
      have HR := Lib.hid (HEX.out (Or.inl (by omega)))
      have BX2 := Lib.hid BX
      clear HEX HST2 hps BX
      go_wp2_with fail
      go_ret
      exact ⟨.slice la k lc, rfl, by rw [HR.out]; exact HOW.out, by rw [HR.out]; exact BX2.out, HBT.out⟩
end Go.Proofs.Ythlnjipefeglpaa
