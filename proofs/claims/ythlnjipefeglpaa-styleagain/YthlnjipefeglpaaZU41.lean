import Derived.Test.YthlnjipefeglpaaZU40
namespace Go.Proofs.Ythlnjipefeglpaa
open Go.RowKit
set_option linter.unusedVariables false
set_option linter.unusedSimpArgs false
set_option maxRecDepth 100000
def CellM (w : World) (B M : Nat) (p : Addr) (v : Value) : Prop := w.cell? p = some v ∧ p.block < M
theorem CellM.keep {w w' : World} {B M : Nat} {p : Addr} {v : Value} (h : CellM w B M p v) (hb : Below w.heap.size w w') : CellM w' B M p v := ⟨by rw [hb.cell (p := p) (block_lt_of_cell h.1)]; exact h.1, h.2⟩
theorem CellM.turned {w w' : World} {M q : Nat} {p : Addr} {v : Value} (h : CellM w 0 M p v) (hb : Turned q w w') (hq : q < 0 ∨ M ≤ q) : CellM w' 0 M p v :=
  ⟨by rw [hb.cell (p := p) (by have := h.2; omega)]; exact h.1, h.2⟩
theorem fills_one {w : World} {b : Nat} {F : FV} {sv : Value} {t : TypeId} (h : Blk w b (fillC F sv).toArray t) (hF : F.Fit) (hs : Stops w sv F.st) : Fills w (.slice (some ⟨b, 0, none⟩) 1 1) [F] := by
  refine ⟨some ⟨b, 0, none⟩, 1, b, 0, rfl, by simp, Or.inr ⟨rfl, h.lt⟩, fun i hi => ?_⟩
  have hi0 : i = 0 := by simp at hi; omega
  subst hi0
  refine ⟨fillC F sv, fillC_len8 hF sv, ⟨hF, sv, rfl, hs⟩, fun j v hv => ?_⟩
  rw [h.cell]
  simpa using hv
theorem i64_zero : I64 0 := by unfold I64; omega
theorem aw8_put : (⟨#[]⟩ : ByteArray) ++ bs (listB [⟨0, [255, 0, 0, 255], [0, 0, 0, 0, 0, 0], 0, [], 0⟩] []) = ⟨#[1, 0, 255, 0, 0, 255, 0]⟩ := by decide +kernel
theorem aw8_ok : listsOk [⟨0, [255, 0, 0, 255], [0, 0, 0, 0, 0, 0], 0, [], 0⟩] [] = true := by decide +kernel
theorem aw8_F : takeF ⟨⟨#[1, 0, 255, 0, 0, 255, 0]⟩, 0, 0⟩ = [⟨0, [255, 0, 0, 255], [0, 0, 0, 0, 0, 0], 0, [], 0⟩] := by decide +kernel
theorem aw8_L : takeL ⟨⟨#[1, 0, 255, 0, 0, 255, 0]⟩, 0, 0⟩ = [] := by decide +kernel
theorem aw8_X : takeX ⟨⟨#[1, 0, 255, 0, 0, 255, 0]⟩, 0, 0⟩ = ⟨⟨#[1, 0, 255, 0, 0, 255, 0]⟩, 56, 0⟩ := by
  have h1 : (takeX ⟨⟨#[1, 0, 255, 0, 0, 255, 0]⟩, 0, 0⟩).s = ⟨#[1, 0, 255, 0, 0, 255, 0]⟩ := by decide +kernel
  have h2 : (takeX ⟨⟨#[1, 0, 255, 0, 0, 255, 0]⟩, 0, 0⟩).a = 56 := by decide +kernel
  have h3 : (takeX ⟨⟨#[1, 0, 255, 0, 0, 255, 0]⟩, 0, 0⟩).e = 0 := by decide +kernel
  generalize takeX ⟨⟨#[1, 0, 255, 0, 0, 255, 0]⟩, 0, 0⟩ = x at *
  obtain ⟨s, a, e⟩ := x
  dsimp only at h1 h2 h3
  subst h1 h2 h3
  rfl
set_option maxHeartbeats 4000000 in
theorem awake8_any (w : World) : Calls Try.prog 8 #[] w fun e w' => e = .returned (.bool true) ∧ Below w.heap.size w w' := by
  have HP : Hid (∀ W b, Blk W b #[.int .i64 0, .int .i64 255, .int .i64 0, .int .i64 0, .int .i64 255, .int .i64 0, .int .i64 0, .int .i64 0, .int .i64 0, .int .i64 0, .int .i64 0, .int .i64 0, .slice none 0 0, .int .i64 0] 28 → Calls Try.prog 16 #[.agg #[.string ⟨#[]⟩, .int .i64 0], .slice (some ⟨b, 0, none⟩) 1 1, .slice none 0 0] W fun e w' => e = .returned (.tuple #[.agg #[.string ⟨#[1, 0, 255, 0, 0, 255, 0]⟩, .int .i64 0], .int .i64 0]) ∧ Below W.heap.size W w') := Lib.hid fun W b h => by
    have hfit : (⟨0, [255, 0, 0, 255], [0, 0, 0, 0, 0, 0], 0, [], 0⟩ : FV).Fit := ⟨i64_zero, rfl, rfl, i64_zero, i64_zero, fun v hv => by simp at hv; unfold I64; omega, i64_z6⟩
    have := pput_ok ⟨#[]⟩ 0 [⟨0, [255, 0, 0, 255], [0, 0, 0, 0, 0, 0], 0, [], 0⟩] [] (.slice (some ⟨b, 0, none⟩) 1 1) (.slice none 0 0) W (by decide) (fills_one (sv := .slice none 0 0) h hfit (sl_nil _ _ _)) (sl_nil _ _ _) aw8_ok
    rw [aw8_put] at this
    exact this
  have HT : Hid (∀ W, Calls Try.prog 20 #[.agg #[.string ⟨#[1, 0, 255, 0, 0, 255, 0]⟩, .int .i64 0]] W fun e w' => ∃ fb fo fc sa sc, e = .returned (.tuple #[.slice (some ⟨fb, fo, none⟩) 1 fc, .slice sa 0 sc, .agg #[.string ⟨#[1, 0, 255, 0, 0, 255, 0]⟩, .int .i64 56], .int .i64 0]) ∧ w'.cell? ⟨fb, fo + 1, none⟩ = some (.int .i64 255) ∧ Below W.heap.size W w') := Lib.hid fun W => (take8_any ⟨#[1, 0, 255, 0, 0, 255, 0]⟩ 0 W (by decide)).mono fun e w' ⟨fv, sv, h1, h2, h3, h4⟩ => by
    rw [aw8_X] at h1
    rw [aw8_F] at h2
    rw [aw8_L] at h3
    obtain ⟨fa, fc, fb, fo, rfl, _, hg⟩ := h2.fills.get
    obtain ⟨sa, sc, rfl⟩ := h3.1.slice
    obtain ⟨rfl, _, cs, _, ⟨_, s, rfl, _⟩, hr⟩ := hg 0 (by decide)
    exact ⟨fb, fo, fc, sa, sc, h1, hr 1 _ rfl, h4⟩
  go_enter Try.func8, Try.ntmps8
  go_upto_region 3 with (go_big_may; first
    | (refine wlg_slice 36 28 1 _ _ (fill1_run 0 255 0 0 255 0 0 0 0 0 0 0 0 none 0 0) _ rfl rfl rfl ?_; intro W1 bn Bn_1 l1 k1; have gn : w.heap.size ≤ bn := l1; have Hw1 := k1; clear l1 k1)
    | (go_at_call 16; (with_reducible refine (HP.out _ _ Bn_1).mono ?_); rintro e W2 ⟨rfl, k2⟩; have Bn_2 := Bn_1.keep k2; have Hw2 := bq_trans Hw1 k2; clear k2 Bn_1 Hw1)
    | (refine wl_alloc 40 _ zero40p rfl rfl ?_; intro W3 bw Bw_3 l3 k3; have gw : w.heap.size ≤ bw := Nat.le_trans Hw2.size l3; have nnw : bn ≠ bw := Nat.ne_of_lt (Nat.lt_of_lt_of_le Bn_2.lt l3); have Bn_3 := Bn_2.keep k3; have Hw3 := bq_trans Hw2 k3; clear l3 k3 Bn_2 Hw2)
    | (refine wl_store 40 2 size40p _ _ rfl rfl _ rfl #[.string ⟨#[1, 0, 255, 0, 0, 255, 0]⟩, .int .i64 0] rfl _ _ Bw_3 rfl rfl (by kernel_rfl) ?_; intro W4 Bw_4 T4; have Bn_4 := T4.blk Bn_3 nnw; have Hw4 := T4.below Hw3 gw; clear T4 Bn_3 Bw_3 Hw3)
    | (go_at_call 20; (with_reducible refine (HT.out _).mono ?_); rintro e W5 ⟨fb, fo, fc, sa, sc, rfl, hcl, k5⟩; have Bn_5 := Bn_4.keep k5; have Bw_5 := Bw_4.keep k5; have Hw5 := bq_trans Hw4 k5; have CL : CellM W5 0 W5.heap.size ⟨fb, fo + 1, none⟩ (.int .i64 255) := ⟨hcl, block_lt_of_cell hcl⟩; have SM : SzM W5 0 W5.heap.size := ⟨Nat.le_refl _⟩; clear hcl; clear k5 Bn_4 Bw_4 Hw4)
    | (refine wl_alloc 46 _ zero51r rfl rfl ?_; intro W6 bd Bd_6 l6 k6; have gd : w.heap.size ≤ bd := Nat.le_trans Hw5.size l6; have nnd : bn ≠ bd := Nat.ne_of_lt (Nat.lt_of_lt_of_le Bn_5.lt l6); have nwd : bw ≠ bd := Nat.ne_of_lt (Nat.lt_of_lt_of_le Bw_5.lt l6); have lod := Nat.le_trans SM.le l6; have Bn_6 := Bn_5.keep k6; have Bw_6 := Bw_5.keep k6; have Oc_6 := CL.keep k6; have Om_6 := SM.keep k6; have Hw6 := bq_trans Hw5 k6; clear l6 k6 Bn_5 Bw_5 CL SM Hw5)
    | (refine wl_store 46 2 size51r _ _ rfl rfl _ rfl #[.string ⟨#[1, 0, 255, 0, 0, 255, 0]⟩, .int .i64 56] rfl _ _ Bd_6 rfl rfl (by kernel_rfl) ?_; intro W7 Bd_7 T7; have Bn_7 := T7.blk Bn_6 nnd; have Bw_7 := T7.blk Bw_6 nwd; have Oc_7 := Oc_6.turned T7 (Or.inr lod); have Om_7 := Om_6.turned T7 (Or.inr lod); have Hw7 := T7.below Hw6 gd; clear T7 Bn_6 Bw_6 Oc_6 Om_6 Bd_6 Hw6; have cw_0_7 : W7.cell? ⟨bw, 0, none⟩ = some (.string ⟨#[1, 0, 255, 0, 0, 255, 0]⟩) := Bw_7.cell 0))
  have c1 := Oc_7.1
  have HB := Lib.hid Hw7
  clear Oc_7 Hw7 HP HT
  go_wp2_with fail
  go_ret
  exact ⟨rfl, HB.out⟩
end Go.Proofs.Ythlnjipefeglpaa
namespace Go.Proofs.Ythlnjipefeglpaa
open Go.RowKit
set_option linter.unusedVariables false
set_option linter.unusedSimpArgs false
set_option maxRecDepth 100000
theorem samelists_same (A : List FV) (xs : List (List Int)) (fa fb sa sb : Value) (w : World) (hA : Fills w fa A) (hB : Fills w fb A) (hX : Strokes w sa xs) (hY : Strokes w sb xs) :
    Calls Try.prog 21 #[fa, fb, sa, sb] w fun e w' => e = .returned (.bool true) ∧ Below w.heap.size w w' := by
  have h := refsamelists_any A A xs xs fa fb sa sb w hA hB hX hY
  rw [decide_eq_true (show A = A ∧ xs = xs from ⟨rfl, rfl⟩)] at h
  exact h
theorem samelists_own (A : List FV) (xs : List (List Int)) {fa fb sa sb : Value} {w : World} {B1 B2 B3 B4 M1 M2 M3 M4 : Nat} {e3 e4 : TypeId} (h1 : OwnFM w B1 M1 fa A) (h2 : OwnFM w B2 M2 fb A) (h3 : OwnM w B3 M3 e3 sa xs) (h4 : OwnM w B4 M4 e4 sb xs) :
    Calls Try.prog 21 #[fa, fb, sa, sb] w fun e w' => e = .returned (.bool true) ∧ Below w.heap.size w w' :=
  samelists_same A xs fa fb sa sb w h1.f.fills h2.f.fills h3.1.sl h4.1.sl
end Go.Proofs.Ythlnjipefeglpaa
namespace Go.Proofs.Ythlnjipefeglpaa
open Go.RowKit
set_option linter.unusedVariables false
set_option linter.unusedSimpArgs false
set_option maxRecDepth 100000
theorem idx_bs (l : List UInt8) (i : Nat) (x : UInt8) (h : l[i]? = some x) (W : World) : (Instr.index 9 (.string (bs l)) (.int .i64 (i : Int))).run Try.prog W = .ok (.int .u8 (x.toNat : Int)) W := by
  obtain ⟨hi, hx⟩ := List.getElem?_eq_some_iff.1 h
  have hs : i < (bs l).size := by rw [bs_size]; exact hi
  have hg : (bs l)[i]? = some x := by
    rw [getElem?_pos (bs l) i hs]
    exact congrArg some (by subst hx; rfl)
  simp [Instr.index, asIntOf, run_underlying Try.underlying9, hg]
theorem flat_rep (f : FV → List UInt8) (F : FV) (n : Nat) : ((List.replicate n F).flatMap f).length = n * (f F).length := by
  induction n with
  | zero => simp
  | succ n ih => rw [List.replicate_succ, List.flatMap_cons, List.length_append, ih, Nat.succ_mul]; omega
theorem flat_rep2 (f : List Int → List UInt8) (x : List Int) (n : Nat) : ((List.replicate n x).flatMap f).length = n * (f x).length := by
  induction n with
  | zero => simp
  | succ n ih => rw [List.replicate_succ, List.flatMap_cons, List.length_append, ih, Nat.succ_mul]; omega
theorem at_first (n m : Nat) (A B : List UInt8) : (by1 n ++ A ++ by1 m ++ B)[0]? = some (UInt8.ofNat n) := by simp [by1]
theorem at_second (n m : Nat) (A B : List UInt8) (hA : A.length = 5 * n) : (by1 n ++ A ++ by1 m ++ B)[1 + 5 * n]? = some (UInt8.ofNat m) := by
  have h : (by1 n ++ A).length = 1 + 5 * n := by rw [List.length_append, hA]; rfl
  rw [List.append_assoc (by1 n ++ A), List.getElem?_append_right (by omega), h, Nat.sub_self]
  rfl
def S1Rel (w : World) (WB : Nat) (n bc : Nat) (cc : Array Value) (F : FV) (v i : Value) (wr : World) : Prop :=
  ∃ (k : Nat) (v' : Value), v' = v ∧ k ≤ n ∧ i = .int .i64 k ∧ OwnF wr WB v' (List.replicate k F) ∧ Blk wr bc cc 23 ∧ Below w.heap.size w wr ∧ WB ≤ wr.heap.size
def S2Rel (w : World) (WA WB : Nat) (fv : Value) (Fs : List FV) (m bc : Nat) (cc : Array Value) (x : List Int) (v i : Value) (wr : World) : Prop :=
  ∃ (k : Nat) (v' : Value), v' = v ∧ k ≤ m ∧ i = .int .i64 k ∧ OwnFM wr WA WB fv Fs ∧ OwnP wr WB 30 v' (List.replicate k x) ∧ Blk wr bc cc 23 ∧ Below w.heap.size w wr ∧ WB ≤ wr.heap.size
set_option maxHeartbeats 8000000 in
theorem styleSizes_walk (p q wd : Nat) (r g b a : Int) (w : World) (hp : p ≤ 255) (hq : q ≤ 255) (hw : wd ≤ 65535) (hr : I64 r) (hg : I64 g) (hb : I64 b) (ha : I64 a) :
    Calls Try.prog 7 #[.int .u8 (p : Int), .int .u8 (q : Int), .agg #[.int .i64 r, .int .i64 g, .int .i64 b, .int .i64 a], .int .u16 (wd : Int)] w fun e w' => e = .returned (.bool true) ∧ Below w.heap.size w w' := by
  have HA := Lib.hid awake8_any
  have HFit : Hid ((⟨0, [r, g, b, a], [0, 0, 0, 0, 0, 0], 0, [], 0⟩ : FV).Fit) := Lib.hid ⟨i64_zero, rfl, rfl, i64_zero, i64_zero, (by
    intro v hv
    simp at hv
    rcases hv with rfl | rfl | rfl | rfl <;> assumption), i64_z6⟩
  have H5 : Hid (∀ z ∈ [(wd : Int), r, g, b, a], I64 z) := Lib.hid (by
    intro v hv
    simp at hv
    rcases hv with rfl | rfl | rfl | rfl | rfl
    · unfold I64; omega
    all_goals assumption)
  have HRG := Lib.hid (fun W => refrgba_any r g b a W hr hg hb ha)
  obtain ⟨n, hn⟩ : ∃ n, n = p % 16 := ⟨_, rfl⟩
  obtain ⟨m, hm⟩ : ∃ m, m = q % 16 := ⟨_, rfl⟩
  have hn1 : n ≤ 15 := by omega
  have hm1 : m ≤ 15 := by omega
  have e1 : (p : Int) % 16 = (n : Int) := by omega
  have e2 : (q : Int) % 16 = (m : Int) := by omega
  have HW := Lib.hid hw
  clear hn hm hr hg hb ha
  go_enter Try.func7, Try.ntmps7
  go_upto_region 1 with (go_big_may; first
    | (refine wl_box 23 _ _ rfl rfl (show _ = Value.agg #[.int .i64 r, .int .i64 g, .int .i64 b, .int .i64 a] from rfl) ?_; intro W1 bc Bc_1 l1 k1; have gc : w.heap.size ≤ bc := l1; have Hw1 := k1; clear l1 k1))
  generalize W1 = WA at *
  have BC := Bc_1
  have HB0 := Hw1
  have gc' := gc
  have ltc := BC.lt
  have leA := HB0.size
  clear Bc_1 Hw1
  go_wp2_with fail
  clear e1 e2 hp hq
  go_loopw [11, 13] (fun v i wr => S1Rel w WA.heap.size n bc #[.int .i64 r, .int .i64 g, .int .i64 b, .int .i64 a] (⟨0, [r, g, b, a], [0, 0, 0, 0, 0, 0], 0, [], 0⟩ : FV) v i wr) (fun _ i _ => n - (intOf i).toNat)
  case atStart => exact ⟨0, _, rfl, by omega, rfl, ownF_nil _ _, BC, HB0, Nat.le_refl _⟩
  case round =>
    obtain ⟨k, v, hv, hk, rfl, hown, BC1, hbel, hWB⟩ := hrel
    subst hv
    clear BC HB0
    by_cases hlt : k < n
    · have i2 : (k : Int) < (n : Int) := by omega
      have OM := hown.m
      have HWB := Lib.hid hWB
      have HBw := hbel
      clear hown hWB hbel
      go_wp2_with (first
        | (refine wl_load 23 4 _ Try.underlying23 rfl sizeRG8 _ rfl rfl _ rfl _ _ BC1 rfl ?_)
        | (refine wlg_slice 36 28 1 _ _ (fill1_run 0 r g b a 0 0 0 0 0 0 0 0 none 0 0) _ rfl rfl rfl ?_; intro W21 bn Bn_21 l21 k21; have lwr := l21; have gn : w.heap.size ≤ bn := Nat.le_trans HBw.size l21; have ncn : bc ≠ bn := Nat.ne_of_lt (Nat.lt_of_lt_of_le BC1.lt l21); have Bc_21 := BC1.keep k21; have Ov_21 := OM.keep k21; have Hw21 := bq_trans HBw k21; clear l21 k21 BC1 OM HBw)
        | (obtain ⟨svs, l1, l2, l4, l3⟩ := Ov_21; refine wl_appC 36 28 14 _ Try.underlying36 fl_info rfl (by decide) _ _ rfl rfl WA.heap.size _ rfl _ l2 bn 1 _ _ rfl Bn_21 rfl (by kernel_rfl) (by rw [List.length_zipWith, l1, Nat.min_self, List.length_replicate]; omega) (Nat.le_trans HWB.out (Nat.le_trans lwr (Nat.le_of_lt Bn_21.lt))) ?_; intro vn W22 hO k22 hgr hat; have Bc_22 := Bc_21.under k22 ltc; have Hw22 := Hw21.trans (k22.mono leA); have Ov := OwnF.snoc2 svs l1 l2 (fun i g1 g2 => ⟨(l3 i g1 g2).1, (l3 i g1 g2).2.1, fun g hg => ((l3 i g1 g2).2.2 g hg).1⟩) HFit.out (ownP_nil W21 wr.heap.size _) HWB.out (fun g hg => l4 g hg) hO hgr hat; have hsz := Nat.le_trans (Nat.le_trans HWB.out (Nat.le_trans lwr (Nat.le_of_lt Bn_21.lt))) hgr.size; clear hgr hat hO k22 l1 l2 l3 l4 Bn_21 Bc_21 Hw21))
      have hrep : List.replicate (k + 1) (⟨0, [r, g, b, a], [0, 0, 0, 0, 0, 0], 0, [], 0⟩ : FV) = List.replicate k (⟨0, [r, g, b, a], [0, 0, 0, 0, 0, 0], 0, [], 0⟩ : FV) ++ [(⟨0, [r, g, b, a], [0, 0, 0, 0, 0, 0], 0, [], 0⟩ : FV)] := List.replicate_succ'
      have HREP := Lib.hid hrep
      clear hrep
      go_roundw
      case rel => exact ⟨k + 1, vn, rfl, by omega, by go_num, by rw [HREP.out]; exact Ov, Bc_22, Hw22, hsz⟩
      case measure => simp [intOf]; omega
    · have i2 : ¬ (k : Int) < (n : Int) := by omega
      have hkn : k = n := by omega
      rw [hkn] at hown
      have HOF := Lib.hid hown
      have HB1 := Lib.hid hbel
      have HWB := Lib.hid hWB
      clear hown hbel hWB hkn
      go_wp2_with fail
      have leC : w.heap.size ≤ wr.heap.size := HB1.out.size
      have ltcC := BC1.lt
      have HW1 := Lib.hid HWB.out
      generalize hWC : wr = WC at *
      clear hWC
      go_loopw [12, 14] (fun vv i wr => S2Rel w WA.heap.size WC.heap.size v (List.replicate n (⟨0, [r, g, b, a], [0, 0, 0, 0, 0, 0], 0, [], 0⟩ : FV)) m bc #[.int .i64 r, .int .i64 g, .int .i64 b, .int .i64 a] [(wd : Int), r, g, b, a] vv i wr) (fun _ i _ => m - (intOf i).toNat)
      case atStart => exact ⟨0, _, rfl, by omega, rfl, HOF.out.m, ownP_nil _ _ _, BC1, HB1.out, Nat.le_refl _⟩
      case round =>
        obtain ⟨j, v2, hv, hj, rfl, hof, hown, BC2, hbel, hWB2⟩ := hrel
        subst hv
        by_cases hlt2 : j < m
        · have i3 : (j : Int) < (m : Int) := by omega
          have OM := hown.m
          have HWB2 := Lib.hid hWB2
          have HBw := hbel
          have hw1 := HW.out
          clear hown hWB2 hbel BC1
          go_wp2_with (first
            | (refine wl_load 23 4 _ Try.underlying23 rfl sizeRG8 _ rfl rfl _ rfl _ _ BC2 rfl ?_)
            | (refine wlg_slice 37 30 1 _ _ (line1_run (wd : Int) r g b a) _ rfl rfl rfl ?_; intro W41 bn Bn_41 l41 k41; have lwr := l41; have gn : w.heap.size ≤ bn := Nat.le_trans HBw.size l41; have ncn : bc ≠ bn := Nat.ne_of_lt (Nat.lt_of_lt_of_le BC2.lt l41); have Bc_41 := BC2.keep k41; have Of_41 := hof.keep k41; have Ov_41 := OM.keep k41; have Hw41 := bq_trans HBw k41; clear l41 k41 BC2 hof OM HBw)
            | (refine wl_appC 37 30 5 _ Try.underlying37 sk_info rfl (by decide) _ _ rfl rfl WC.heap.size _ rfl ((List.replicate j [(wd : Int), r, g, b, a]).map iL) Ov_41.1.1 bn 1 _ _ rfl Bn_41 rfl (by kernel_rfl) (by rw [List.length_map, List.length_replicate]; omega) (Nat.le_trans HWB2.out (Nat.le_trans lwr (Nat.le_of_lt Bn_41.lt))) ?_; intro vn W42 hO k42 hgr hat; have Bc_42 := Bc_41.under k42 ltcC; have Hw42 := Hw41.trans (k42.mono leC); have Of_42 := Of_41.under k42; have Ov := OwnP.snoc (x := [(wd : Int), r, g, b, a]) Ov_41.1 rfl H5.out hO; have hsz := Nat.le_trans (Nat.le_trans HWB2.out (Nat.le_trans lwr (Nat.le_of_lt Bn_41.lt))) hgr.size; clear hgr hat hO k42 Of_41 Ov_41 Bn_41 Bc_41 Hw41))
          have hrep : List.replicate (j + 1) [(wd : Int), r, g, b, a] = List.replicate j [(wd : Int), r, g, b, a] ++ [[(wd : Int), r, g, b, a]] := List.replicate_succ'
          have HREP := Lib.hid hrep
          clear hrep
          go_roundw
          case rel => exact ⟨j + 1, vn, rfl, by omega, by go_num, Of_42, by rw [HREP.out]; exact Ov, Bc_42, Hw42, hsz⟩
          case measure => simp [intOf]; omega
        · have i3 : ¬ (j : Int) < (m : Int) := by omega
          have hjm : j = m := by omega
          rw [hjm] at hown
          have hok : listsOk (List.replicate n (⟨0, [r, g, b, a], [0, 0, 0, 0, 0, 0], 0, [], 0⟩ : FV)) (List.replicate m [(wd : Int), r, g, b, a]) = ((decide (n = 0) || rgbaOk r g b a) && (decide (m = 0) || rgbaOk r g b a)) := by
            have hs0 : strokeL [(wd : Int), r, g, b, a] = rgbaOk r g b a := by
              show (decide (0 ≤ (wd : Int)) && decide ((wd : Int) < 65536) && rgbaOk r g b a) = _
              have := HW.out
              rw [decide_eq_true (show 0 ≤ (wd : Int) by omega), decide_eq_true (show (wd : Int) < 65536 by omega)]; rfl
            have hf0 : fillOk (⟨0, [r, g, b, a], [0, 0, 0, 0, 0, 0], 0, [], 0⟩ : FV) = rgbaOk r g b a := by
              show (decide ([(0 : Int), 0, 0, 0, 0, 0] = [0, 0, 0, 0, 0, 0]) && decide ((0 : Int) = 0) && decide ((0 : Int) = 0) && decide (([] : List (List Int)).length = 0) && rgbaOk r g b a) = _
              simp
            unfold listsOk
            rw [List.all_replicate, List.all_replicate, hs0, hf0, List.length_replicate, List.length_replicate, decide_eq_true (show n < 16 by omega), decide_eq_true (show m < 16 by omega)]
            generalize rgbaOk r g b a = z
            cases n <;> cases m <;> cases z <;> simp
          have HOF2 := hof.f.fills
          have HOX2 : Strokes wr v2 (List.replicate m [(wd : Int), r, g, b, a]) := hown.sl
          have HBw := hbel
          clear hof hown hbel BC1 HOF hjm hlt2
          cases hz : listsOk (List.replicate n (⟨0, [r, g, b, a], [0, 0, 0, 0, 0, 0], 0, [], 0⟩ : FV)) (List.replicate m [(wd : Int), r, g, b, a])
          · have HP := Lib.hid (pput_bad ⟨#[]⟩ 0 _ _ v v2 wr HOF2 HOX2 hz)
            rw [hz] at hok
            have hz2 : rgbaOk r g b a = false ∧ 0 < n + m := by
              generalize rgbaOk r g b a = z at hok
              cases z
              · refine ⟨rfl, ?_⟩
                simp at hok
                omega
              · simp at hok
            have hpos : decide ((0 : Int) < (n : Int) + (m : Int)) = true := decide_eq_true (by omega)
            rw [hz2.1] at HRG
            clear hz2 hz hok HOF2 HOX2
            go_wp2_with (first
              | (go_at_call 16; (with_reducible refine (HP.out).mono ?_); rintro e W61 ⟨rfl, k61⟩; have Bc_61 := BC2.keep k61; have Hw61 := bq_trans HBw k61; clear k61 BC2 HBw)
              | (refine wl_alloc 40 _ zero40p rfl rfl ?_; intro W62 bt Bt_62 l62 k62; have gt : w.heap.size ≤ bt := Nat.le_trans Hw61.size l62; have nct : bc ≠ bt := Nat.ne_of_lt (Nat.lt_of_lt_of_le Bc_61.lt l62); have Bc_62 := Bc_61.keep k62; have Hw62 := bq_trans Hw61 k62; clear l62 k62 Bc_61 Hw61)
              | (refine wl_store 40 2 size40p _ _ rfl rfl _ rfl #[.string ⟨#[]⟩, .int .i64 0] rfl _ _ Bt_62 rfl rfl (by kernel_rfl) ?_; intro W63 Bt_63 T63; have Bc_63 := T63.blk Bc_62 nct; have Hw63 := T63.below Hw62 gt; clear T63 Bc_62 Bt_62 Hw62)
              | (refine wl_load 23 4 _ Try.underlying23 rfl sizeRG8 _ rfl rfl _ rfl _ _ Bc_63 rfl ?_)
              | (go_at_call 23; (with_reducible refine (HRG.out _).mono ?_); rintro e W64 ⟨rfl, k64⟩; have Bc_64 := Bc_63.keep k64; have Bt_64 := Bt_63.keep k64; have Hw64 := bq_trans Hw63 k64; clear k64 Bc_63 Bt_63 Hw63)
              | (go_at_call 8; (with_reducible refine (HA.out _).mono ?_); rintro e W65 ⟨rfl, k65⟩; have Bc_65 := Bc_64.keep k65; have Bt_65 := Bt_64.keep k65; have Hw65 := bq_trans Hw64 k65; clear k65 Bc_64 Bt_64 Hw64))
            go_ret
            exact ⟨rfl, Hw65⟩
          · have HP0 := pput_ok ⟨#[]⟩ 0 _ _ v v2 wr (by decide) HOF2 HOX2 hz
            rw [empty_bs] at HP0
            have HP := Lib.hid HP0
            have lf : (fillB (⟨0, [r, g, b, a], [0, 0, 0, 0, 0, 0], 0, [], 0⟩ : FV)).length = 5 := rfl
            have ll : (lineB [(wd : Int), r, g, b, a]).length = 6 := rfl
            have hfm := flat_rep fillB (⟨0, [r, g, b, a], [0, 0, 0, 0, 0, 0], 0, [], 0⟩ : FV) n
            have hlm := flat_rep2 lineB [(wd : Int), r, g, b, a] m
            rw [lf] at hfm
            rw [ll] at hlm
            have hlb : listB (List.replicate n (⟨0, [r, g, b, a], [0, 0, 0, 0, 0, 0], 0, [], 0⟩ : FV)) (List.replicate m [(wd : Int), r, g, b, a]) = by1 n ++ (List.replicate n (⟨0, [r, g, b, a], [0, 0, 0, 0, 0, 0], 0, [], 0⟩ : FV)).flatMap fillB ++ by1 m ++ (List.replicate m [(wd : Int), r, g, b, a]).flatMap lineB := by
              unfold listB
              rw [List.length_replicate, List.length_replicate]
            have hsz : (bs (listB (List.replicate n (⟨0, [r, g, b, a], [0, 0, 0, 0, 0, 0], 0, [], 0⟩ : FV)) (List.replicate m [(wd : Int), r, g, b, a]))).size = 2 + 5 * n + 6 * m := by
              rw [bs_size, hlb, List.length_append, List.length_append, List.length_append, hfm, hlm]
              show 1 + n * 5 + 1 + m * 6 = _
              omega
            have hi0 : ∀ W, (Instr.index 9 (.string (bs (listB (List.replicate n (⟨0, [r, g, b, a], [0, 0, 0, 0, 0, 0], 0, [], 0⟩ : FV)) (List.replicate m [(wd : Int), r, g, b, a])))) (.int .i64 0)).run Try.prog W = .ok (.int .u8 (n : Int)) W := fun W => by
              have h := idx_bs (listB (List.replicate n (⟨0, [r, g, b, a], [0, 0, 0, 0, 0, 0], 0, [], 0⟩ : FV)) (List.replicate m [(wd : Int), r, g, b, a])) 0 (UInt8.ofNat n) (by rw [hlb]; exact at_first _ _ _ _) W
              rw [B.ofNat_toNat _ (by omega)] at h
              exact h
            have hi1 : ∀ W, (Instr.index 9 (.string (bs (listB (List.replicate n (⟨0, [r, g, b, a], [0, 0, 0, 0, 0, 0], 0, [], 0⟩ : FV)) (List.replicate m [(wd : Int), r, g, b, a])))) (.int .i64 (1 + 5 * (n : Int)))).run Try.prog W = .ok (.int .u8 (m : Int)) W := fun W => by
              have h := idx_bs (listB (List.replicate n (⟨0, [r, g, b, a], [0, 0, 0, 0, 0, 0], 0, [], 0⟩ : FV)) (List.replicate m [(wd : Int), r, g, b, a])) (1 + 5 * n) (UInt8.ofNat m) (by rw [hlb]; exact at_second _ _ _ _ (by omega)) W
              rw [B.ofNat_toNat _ (by omega), show ((1 + 5 * n : Nat) : Int) = 1 + 5 * (n : Int) by omega] at h
              exact h
            generalize bs (listB (List.replicate n (⟨0, [r, g, b, a], [0, 0, 0, 0, 0, 0], 0, [], 0⟩ : FV)) (List.replicate m [(wd : Int), r, g, b, a])) = t at *
            have hs2 : ((t.size : Int) == 2 + 5 * (n : Int) + 6 * (m : Int)) = true := beq_iff_eq.2 (by omega)
            clear hz hok HOF2 HOX2 HP0 lf ll hfm hlm hlb hsz
            go_wp2_with (first
              | (go_at_call 16; (with_reducible refine (HP.out).mono ?_); rintro e W61 ⟨rfl, k61⟩; have Bc_61 := BC2.keep k61; have Hw61 := bq_trans HBw k61; clear k61 BC2 HBw)
              | (refine wl_alloc 40 _ zero40p rfl rfl ?_; intro W62 bt Bt_62 l62 k62; have gt : w.heap.size ≤ bt := Nat.le_trans Hw61.size l62; have nct : bc ≠ bt := Nat.ne_of_lt (Nat.lt_of_lt_of_le Bc_61.lt l62); have Bc_62 := Bc_61.keep k62; have Hw62 := bq_trans Hw61 k62; clear l62 k62 Bc_61 Hw61)
              | (refine wl_store 40 2 size40p _ _ rfl rfl _ rfl #[.string t, .int .i64 0] rfl _ _ Bt_62 rfl rfl (by kernel_rfl) ?_; intro W63 Bt_63 T63; have Bc_63 := T63.blk Bc_62 nct; have Hw63 := T63.below Hw62 gt; clear T63 Bc_62 Bt_62 Hw62; have ct_0_63 : W63.cell? ⟨bt, 0, none⟩ = some (.string t) := Bt_63.cell 0)
              | (go_at_call 8; (with_reducible refine (HA.out _).mono ?_); rintro e W64 ⟨rfl, k64⟩; have Bc_64 := Bc_63.keep k64; have Bt_64 := Bt_63.keep k64; have Hw64 := bq_trans Hw63 k64; clear k64 Bc_63 Bt_63 ct_0_63 Hw63))
            go_ret
            exact ⟨rfl, Hw64⟩
theorem styleSizes_law (a0 a1 r g b a a3 : Int) (w : World) (h0 : 0 ≤ a0 ∧ a0 ≤ 255) (h1 : 0 ≤ a1 ∧ a1 ≤ 255) (hr : I64 r) (hg : I64 g) (hb : I64 b) (ha : I64 a) (h3 : 0 ≤ a3 ∧ a3 ≤ 65535) :
    Calls Try.prog 7 #[.int .u8 a0, .int .u8 a1, .agg #[.int .i64 r, .int .i64 g, .int .i64 b, .int .i64 a], .int .u16 a3] w fun e w' => e = .returned (.bool true) ∧ Below w.heap.size w w' := by
  obtain ⟨p, rfl⟩ := Int.eq_ofNat_of_zero_le h0.1
  obtain ⟨q, rfl⟩ := Int.eq_ofNat_of_zero_le h1.1
  obtain ⟨d, rfl⟩ := Int.eq_ofNat_of_zero_le h3.1
  exact styleSizes_walk p q d r g b a w (by omega) (by omega) (by omega) hr hg hb ha
end Go.Proofs.Ythlnjipefeglpaa
