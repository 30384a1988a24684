import Derived.Test.YthlnjipefeglpaaZT49
namespace Go.Proofs.Ythlnjipefeglpaa
open Go.RowKit
set_option linter.unusedVariables false
set_option linter.unusedSimpArgs false
set_option maxRecDepth 100000
def CellM (w : World) (B M : Nat) (p : Addr) (v : Value) : Prop := w.cell? p = some v ∧ p.block < M
theorem CellM.keep {w w' : World} {B M : Nat} {p : Addr} {v : Value} (h : CellM w B M p v) (hb : Below w.heap.size w w') : CellM w' B M p v := ⟨by rw [hb.cell (p := p) (block_lt_of_cell h.1)]; exact h.1, h.2⟩
theorem CellM.turned {w w' : World} {M q : Nat} {p : Addr} {v : Value} (h : CellM w 0 M p v) (hb : Turned q w w') (hq : q < 0 ∨ M ≤ q) : CellM w' 0 M p v :=
  ⟨by rw [hb.cell (p := p) (by have := h.2; omega)]; exact h.1, h.2⟩
theorem fills_one {w : World} {b : Nat} {F : FV} {sv : Value} {t : TypeId} (h : Blk w b (fillC F sv).toArray t) (hF : F.Fit) (hs : Stops w sv F.st) : Fills w (.slice (some ⟨b, 0, none⟩) 1 1) [F] := by
  refine ⟨some ⟨b, 0, none⟩, 1, b, 0, rfl, by simp, Or.inr ⟨rfl, h.lt⟩, fun i hi => ?_⟩
  have hi0 : i = 0 := by simp at hi; omega
  subst hi0
  refine ⟨fillC F sv, fillC_len8 hF sv, ⟨hF, sv, rfl, hs⟩, fun j v hv => ?_⟩
  rw [h.cell]
  simpa using hv
theorem i64_zero : I64 0 := by unfold I64; omega
theorem aw8_put : (⟨#[]⟩ : ByteArray) ++ bs (listB [⟨0, [255, 0, 0, 255], [0, 0, 0, 0, 0, 0], 0, [], 0⟩] []) = ⟨#[1, 0, 255, 0, 0, 255, 0]⟩ := by decide +kernel
theorem aw8_ok : listsOk [⟨0, [255, 0, 0, 255], [0, 0, 0, 0, 0, 0], 0, [], 0⟩] [] = true := by decide +kernel
theorem aw8_F : takeF ⟨⟨#[1, 0, 255, 0, 0, 255, 0]⟩, 0, 0⟩ = [⟨0, [255, 0, 0, 255], [0, 0, 0, 0, 0, 0], 0, [], 0⟩] := by decide +kernel
theorem aw8_L : takeL ⟨⟨#[1, 0, 255, 0, 0, 255, 0]⟩, 0, 0⟩ = [] := by decide +kernel
theorem aw8_X : takeX ⟨⟨#[1, 0, 255, 0, 0, 255, 0]⟩, 0, 0⟩ = ⟨⟨#[1, 0, 255, 0, 0, 255, 0]⟩, 56, 0⟩ := by
  have h1 : (takeX ⟨⟨#[1, 0, 255, 0, 0, 255, 0]⟩, 0, 0⟩).s = ⟨#[1, 0, 255, 0, 0, 255, 0]⟩ := by decide +kernel
  have h2 : (takeX ⟨⟨#[1, 0, 255, 0, 0, 255, 0]⟩, 0, 0⟩).a = 56 := by decide +kernel
  have h3 : (takeX ⟨⟨#[1, 0, 255, 0, 0, 255, 0]⟩, 0, 0⟩).e = 0 := by decide +kernel
  generalize takeX ⟨⟨#[1, 0, 255, 0, 0, 255, 0]⟩, 0, 0⟩ = x at *
  obtain ⟨s, a, e⟩ := x
  dsimp only at h1 h2 h3
  subst h1 h2 h3
  rfl
set_option maxHeartbeats 4000000 in
theorem awake8_any (w : World) : Calls Try.prog 8 #[] w fun e w' => e = .returned (.bool true) ∧ Below w.heap.size w w' := by
  have HP : Hid (∀ W b, Blk W b #[.int .i64 0, .int .i64 255, .int .i64 0, .int .i64 0, .int .i64 255, .int .i64 0, .int .i64 0, .int .i64 0, .int .i64 0, .int .i64 0, .int .i64 0, .int .i64 0, .slice none 0 0, .int .i64 0] 28 → Calls Try.prog 16 #[.agg #[.string ⟨#[]⟩, .int .i64 0], .slice (some ⟨b, 0, none⟩) 1 1, .slice none 0 0] W fun e w' => e = .returned (.tuple #[.agg #[.string ⟨#[1, 0, 255, 0, 0, 255, 0]⟩, .int .i64 0], .int .i64 0]) ∧ Below W.heap.size W w') := Lib.hid fun W b h => by
    have hfit : (⟨0, [255, 0, 0, 255], [0, 0, 0, 0, 0, 0], 0, [], 0⟩ : FV).Fit := ⟨i64_zero, rfl, rfl, i64_zero, i64_zero, fun v hv => by simp at hv; unfold I64; omega, i64_z6⟩
    have := pput_ok ⟨#[]⟩ 0 [⟨0, [255, 0, 0, 255], [0, 0, 0, 0, 0, 0], 0, [], 0⟩] [] (.slice (some ⟨b, 0, none⟩) 1 1) (.slice none 0 0) W (by decide) (fills_one (sv := .slice none 0 0) h hfit (sl_nil _ _ _)) (sl_nil _ _ _) aw8_ok
    rw [aw8_put] at this
    exact this
  have HT : Hid (∀ W, Calls Try.prog 20 #[.agg #[.string ⟨#[1, 0, 255, 0, 0, 255, 0]⟩, .int .i64 0]] W fun e w' => ∃ fb fo fc sa sc, e = .returned (.tuple #[.slice (some ⟨fb, fo, none⟩) 1 fc, .slice sa 0 sc, .agg #[.string ⟨#[1, 0, 255, 0, 0, 255, 0]⟩, .int .i64 56], .int .i64 0]) ∧ w'.cell? ⟨fb, fo + 1, none⟩ = some (.int .i64 255) ∧ Below W.heap.size W w') := Lib.hid fun W => (take8_any ⟨#[1, 0, 255, 0, 0, 255, 0]⟩ 0 W (by decide)).mono fun e w' ⟨fv, sv, h1, h2, h3, h4⟩ => by
    rw [aw8_X] at h1
    rw [aw8_F] at h2
    rw [aw8_L] at h3
    obtain ⟨fa, fc, fb, fo, rfl, _, hg⟩ := h2.fills.get
    obtain ⟨sa, sc, rfl⟩ := h3.1.slice
    obtain ⟨rfl, _, cs, _, ⟨_, s, rfl, _⟩, hr⟩ := hg 0 (by decide)
    exact ⟨fb, fo, fc, sa, sc, h1, hr 1 _ rfl, h4⟩
  go_enter Try.func8, Try.ntmps8
  go_upto_region 3 with (go_big_may; first
    | (refine wlg_slice 36 28 1 _ _ (fill1_run 0 255 0 0 255 0 0 0 0 0 0 0 0 none 0 0) _ rfl rfl rfl ?_; intro W1 bn Bn_1 l1 k1; have gn : w.heap.size ≤ bn := l1; have Hw1 := k1; clear l1 k1)
    | (go_at_call 16; (with_reducible refine (HP.out _ _ Bn_1).mono ?_); rintro e W2 ⟨rfl, k2⟩; have Bn_2 := Bn_1.keep k2; have Hw2 := bq_trans Hw1 k2; clear k2 Bn_1 Hw1)
    | (refine wl_alloc 40 _ zero40p rfl rfl ?_; intro W3 bw Bw_3 l3 k3; have gw : w.heap.size ≤ bw := Nat.le_trans Hw2.size l3; have nnw : bn ≠ bw := Nat.ne_of_lt (Nat.lt_of_lt_of_le Bn_2.lt l3); have Bn_3 := Bn_2.keep k3; have Hw3 := bq_trans Hw2 k3; clear l3 k3 Bn_2 Hw2)
    | (refine wl_store 40 2 size40p _ _ rfl rfl _ rfl #[.string ⟨#[1, 0, 255, 0, 0, 255, 0]⟩, .int .i64 0] rfl _ _ Bw_3 rfl rfl (by kernel_rfl) ?_; intro W4 Bw_4 T4; have Bn_4 := T4.blk Bn_3 nnw; have Hw4 := T4.below Hw3 gw; clear T4 Bn_3 Bw_3 Hw3)
    | (go_at_call 20; (with_reducible refine (HT.out _).mono ?_); rintro e W5 ⟨fb, fo, fc, sa, sc, rfl, hcl, k5⟩; have Bn_5 := Bn_4.keep k5; have Bw_5 := Bw_4.keep k5; have Hw5 := bq_trans Hw4 k5; have CL : CellM W5 0 W5.heap.size ⟨fb, fo + 1, none⟩ (.int .i64 255) := ⟨hcl, block_lt_of_cell hcl⟩; have SM : SzM W5 0 W5.heap.size := ⟨Nat.le_refl _⟩; clear hcl; clear k5 Bn_4 Bw_4 Hw4)
    | (refine wl_alloc 46 _ zero51r rfl rfl ?_; intro W6 bd Bd_6 l6 k6; have gd : w.heap.size ≤ bd := Nat.le_trans Hw5.size l6; have nnd : bn ≠ bd := Nat.ne_of_lt (Nat.lt_of_lt_of_le Bn_5.lt l6); have nwd : bw ≠ bd := Nat.ne_of_lt (Nat.lt_of_lt_of_le Bw_5.lt l6); have lod := Nat.le_trans SM.le l6; have Bn_6 := Bn_5.keep k6; have Bw_6 := Bw_5.keep k6; have Oc_6 := CL.keep k6; have Om_6 := SM.keep k6; have Hw6 := bq_trans Hw5 k6; clear l6 k6 Bn_5 Bw_5 CL SM Hw5)
    | (refine wl_store 46 2 size51r _ _ rfl rfl _ rfl #[.string ⟨#[1, 0, 255, 0, 0, 255, 0]⟩, .int .i64 56] rfl _ _ Bd_6 rfl rfl (by kernel_rfl) ?_; intro W7 Bd_7 T7; have Bn_7 := T7.blk Bn_6 nnd; have Bw_7 := T7.blk Bw_6 nwd; have Oc_7 := Oc_6.turned T7 (Or.inr lod); have Om_7 := Om_6.turned T7 (Or.inr lod); have Hw7 := T7.below Hw6 gd; clear T7 Bn_6 Bw_6 Oc_6 Om_6 Bd_6 Hw6; have cw_0_7 : W7.cell? ⟨bw, 0, none⟩ = some (.string ⟨#[1, 0, 255, 0, 0, 255, 0]⟩) := Bw_7.cell 0))
  have c1 := Oc_7.1
  have HB := Lib.hid Hw7
  clear Oc_7 Hw7 HP HT
  go_wp2_with fail
  go_ret
  exact ⟨rfl, HB.out⟩
end Go.Proofs.Ythlnjipefeglpaa
namespace Go.Proofs.Ythlnjipefeglpaa
open Go.RowKit
set_option linter.unusedVariables false
set_option linter.unusedSimpArgs false
set_option maxRecDepth 100000
theorem eqRd8 (s : ByteArray) (a : Int) (w : World) : (Op.equalIn 10000 51 (.agg #[.string s, .int .i64 a]) (.agg #[.string s, .int .i64 a])).run Try.prog w = .ok true w := by
  go_simp
theorem samelists_same (A : List FV) (xs : List (List Int)) (fa fb sa sb : Value) (w : World) (hA : Fills w fa A) (hB : Fills w fb A) (hX : Strokes w sa xs) (hY : Strokes w sb xs) :
    Calls Try.prog 21 #[fa, fb, sa, sb] w fun e w' => e = .returned (.bool true) ∧ Below w.heap.size w w' := by
  have h := refsamelists_any A A xs xs fa fb sa sb w hA hB hX hY
  rw [decide_eq_true (show A = A ∧ xs = xs from ⟨rfl, rfl⟩)] at h
  exact h
theorem samelists_own (A : List FV) (xs : List (List Int)) {fa fb sa sb : Value} {w : World} {B1 B2 B3 B4 M1 M2 M3 M4 : Nat} {e3 e4 : TypeId} (h1 : OwnFM w B1 M1 fa A) (h2 : OwnFM w B2 M2 fb A) (h3 : OwnM w B3 M3 e3 sa xs) (h4 : OwnM w B4 M4 e4 sb xs) :
    Calls Try.prog 21 #[fa, fb, sa, sb] w fun e w' => e = .returned (.bool true) ∧ Below w.heap.size w w' :=
  samelists_same A xs fa fb sa sb w h1.f.fills h2.f.fills h3.1.sl h4.1.sl
set_option maxHeartbeats 4000000 in
theorem styleTakes_walk (s : ByteArray) (a : Int) (w : World) :
    Calls Try.prog 5 #[.agg #[.string s, .int .i64 a]] w fun e w' => e = .returned (.bool true) ∧ Below w.heap.size w w' := by
  have HA := Lib.hid awake8_any
  by_cases hs : 1024 < s.size
  · have q1 : decide ((1024 : Int) < (s.size : Int)) = true := decide_eq_true (by omega)
    go_enter Try.func5, Try.ntmps5
    go_wp2_with (first
      | (refine wl_box 46 _ _ rfl rfl (show _ = Value.agg #[.string s, .int .i64 a] from rfl) ?_; intro W1 bx Bx_1 l1 k1; have gx : w.heap.size ≤ bx := l1; have Hw1 := k1; clear l1 k1; have cx_0_1 : W1.cell? ⟨bx, 0, none⟩ = some (.string s) := Bx_1.cell 0)
      | (go_at_call 8; (with_reducible refine (HA.out _).mono ?_); rintro e W2 ⟨rfl, k2⟩; have Bx_2 := Bx_1.keep k2; have Hw2 := bq_trans Hw1 k2; clear k2 Bx_1 cx_0_1 Hw1))
    go_ret
    exact ⟨rfl, Hw2⟩
  have q1 : decide ((1024 : Int) < (s.size : Int)) = false := decide_eq_false (by omega)
  have HT := Lib.hid (fun W => take8_any s a W (by omega))
  have HR0 := Lib.hid (fun W => rtake8_any ⟨s, a, 0⟩ W (show s.size ≤ 1000000 by omega))
  unfold TakePost at HT
  clear hs
  generalize takeF ⟨s, a, 0⟩ = A at *
  generalize takeL ⟨s, a, 0⟩ = xs at *
  generalize takeX ⟨s, a, 0⟩ = z at *
  obtain ⟨zs, za, ze⟩ := z
  have HR : Hid (∀ W, Calls Try.prog 22 #[.agg #[.string s, .int .i64 a, .int .i64 0]] W fun e w' => ∃ fv sv, e = .returned (.tuple #[fv, sv, .agg #[.string zs, .int .i64 za, .int .i64 ze]]) ∧ OwnF w' W.heap.size fv A ∧ OwnP w' W.heap.size 30 sv xs ∧ Below W.heap.size W w') := HR0
  have HT2 : Hid (∀ W, Calls Try.prog 20 #[.agg #[.string s, .int .i64 a]] W fun e w' => ∃ fv sv, e = .returned (.tuple #[fv, sv, .agg #[.string zs, .int .i64 za], .int .i64 ze]) ∧ OwnF w' W.heap.size fv A ∧ OwnP w' W.heap.size 30 sv xs ∧ Below W.heap.size W w') := HT
  have q2 := fun W => eqRd8 zs za W
  clear HR0 HT
  go_enter Try.func5, Try.ntmps5
  go_wp2_with (first
    | (refine wl_box 46 _ _ rfl rfl (show _ = Value.agg #[.string s, .int .i64 a] from rfl) ?_; intro W1 bx Bx_1 l1 k1; have gx : w.heap.size ≤ bx := l1; have Hw1 := k1; clear l1 k1; have cx_0_1 : W1.cell? ⟨bx, 0, none⟩ = some (.string s) := Bx_1.cell 0)
    | (refine wl_load 46 2 _ Try.underlying46 rfl size51r _ rfl rfl _ rfl _ _ Bx_1 rfl ?_)
    | (go_at_call 20; (with_reducible refine (HT2.out _).mono ?_); rintro e W2 ⟨f0, s0, rfl, h0, j0, k2⟩; have Bx_2 := Bx_1.keep k2; have Hw2 := bq_trans Hw1 k2; have P0f := h0.m; have P0s := j0.m; have PM0 : SzM W2 0 W2.heap.size := ⟨Nat.le_refl _⟩; clear h0 j0; clear k2 Bx_1 cx_0_1 Hw1)
    | (refine wl_alloc 46 _ zero51r rfl rfl ?_; intro W3 bd Bd_3 l3 k3; have gd : w.heap.size ≤ bd := Nat.le_trans Hw2.size l3; have nxd : bx ≠ bd := Nat.ne_of_lt (Nat.lt_of_lt_of_le Bx_2.lt l3); have lod := Nat.le_trans PM0.le l3; have Bx_3 := Bx_2.keep k3; have Of0_3 := P0f.keep k3; have Os0_3 := P0s.keep k3; have Om_3 := PM0.keep k3; have Hw3 := bq_trans Hw2 k3; clear l3 k3 Bx_2 P0f P0s PM0 Hw2)
    | (refine wl_store 46 2 size51r _ _ rfl rfl _ rfl #[.string zs, .int .i64 za] rfl _ _ Bd_3 rfl rfl (by kernel_rfl) ?_; intro W4 Bd_4 T4; have Bx_4 := T4.blk Bx_3 nxd; have Of0_4 := Of0_3.turned T4 (Or.inr lod); have Os0_4 := Os0_3.turned T4 (Or.inr lod); have Om_4 := Om_3.turned T4 (Or.inr lod); have Hw4 := T4.below Hw3 gd; clear T4 Bx_3 Of0_3 Os0_3 Om_3 Bd_3 Hw3)
    | (refine wl_load 46 2 _ Try.underlying46 rfl size51r _ rfl rfl _ rfl _ _ Bx_4 rfl ?_)
    | (go_at_call 22; (with_reducible refine (HR.out _).mono ?_); rintro e W5 ⟨f1, s1, rfl, h1, j1, k5⟩; have Bx_5 := Bx_4.keep k5; have Bd_5 := Bd_4.keep k5; have Of0_5 := Of0_4.keep k5; have Os0_5 := Os0_4.keep k5; have Om_5 := Om_4.keep k5; have Hw5 := bq_trans Hw4 k5; have P0f := Of0_5.f.m; have P0s := Os0_5.1.m; clear Of0_5 Os0_5; clear Om_5; have P1f := h1.m; have P1s := j1.m; have PM1 : SzM W5 0 W5.heap.size := ⟨Nat.le_refl _⟩; clear h1 j1; clear k5 Bx_4 Bd_4 Of0_4 Os0_4 Om_4 Hw4)
    | (refine wl_alloc 53 _ zero62 rfl rfl ?_; intro W6 bq Bq_6 l6 k6; have gq : w.heap.size ≤ bq := Nat.le_trans Hw5.size l6; have nxq : bx ≠ bq := Nat.ne_of_lt (Nat.lt_of_lt_of_le Bx_5.lt l6); have ndq : bd ≠ bq := Nat.ne_of_lt (Nat.lt_of_lt_of_le Bd_5.lt l6); have loq := Nat.le_trans PM1.le l6; have Bx_6 := Bx_5.keep k6; have Bd_6 := Bd_5.keep k6; have Of0_6 := P0f.keep k6; have Os0_6 := P0s.keep k6; have Of1_6 := P1f.keep k6; have Os1_6 := P1s.keep k6; have Om_6 := PM1.keep k6; have Hw6 := bq_trans Hw5 k6; clear l6 k6 Bx_5 Bd_5 P0f P0s P1f P1s PM1 Hw5)
    | (refine wl_store 53 3 size62 _ _ rfl rfl _ rfl #[.string zs, .int .i64 za, .int .i64 ze] rfl _ _ Bq_6 rfl rfl (by kernel_rfl) ?_; intro W7 Bq_7 T7; have Bx_7 := T7.blk Bx_6 nxq; have Bd_7 := T7.blk Bd_6 ndq; have Of0_7 := Of0_6.turned T7 (Or.inr loq); have Os0_7 := Os0_6.turned T7 (Or.inr loq); have Of1_7 := Of1_6.turned T7 (Or.inr loq); have Os1_7 := Os1_6.turned T7 (Or.inr loq); have Om_7 := Om_6.turned T7 (Or.inr loq); have Hw7 := T7.below Hw6 gq; clear T7 Bx_6 Bd_6 Of0_6 Os0_6 Of1_6 Os1_6 Om_6 Bq_6 Hw6)
    | (go_at_call 21; (with_reducible refine (samelists_own A xs Of0_7 Of1_7 Os0_7 Os1_7).mono ?_); rintro e W8 ⟨rfl, k8⟩; have Bx_8 := Bx_7.keep k8; have Bd_8 := Bd_7.keep k8; have Bq_8 := Bq_7.keep k8; have Of0_8 := Of0_7.keep k8; have Os0_8 := Os0_7.keep k8; have Of1_8 := Of1_7.keep k8; have Os1_8 := Os1_7.keep k8; have Om_8 := Om_7.keep k8; have Hw8 := bq_trans Hw7 k8; clear k8 Bx_7 Bd_7 Bq_7 Of0_7 Os0_7 Of1_7 Os1_7 Om_7 Hw7; have cd_0_8 : W8.cell? ⟨bd, 0, none⟩ = some (.string zs) := Bd_8.cell 0; have cd_1_8 : W8.cell? ⟨bd, 1, none⟩ = some (.int .i64 za) := Bd_8.cell 1; have cq_0_8 : W8.cell? ⟨bq, 0, none⟩ = some (.string zs) := Bq_8.cell 0; have cq_1_8 : W8.cell? ⟨bq, 1, none⟩ = some (.int .i64 za) := Bq_8.cell 1; have cq_2_8 : W8.cell? ⟨bq, 2, none⟩ = some (.int .i64 ze) := Bq_8.cell 2)
    | (go_at_call 8; (with_reducible refine (HA.out _).mono ?_); rintro e W9 ⟨rfl, k9⟩; have Bx_9 := Bx_8.keep k9; have Bd_9 := Bd_8.keep k9; have Bq_9 := Bq_8.keep k9; have Of0_9 := Of0_8.keep k9; have Os0_9 := Os0_8.keep k9; have Of1_9 := Of1_8.keep k9; have Os1_9 := Os1_8.keep k9; have Om_9 := Om_8.keep k9; have Hw9 := bq_trans Hw8 k9; clear k9 Bx_8 Bd_8 Bq_8 Of0_8 Os0_8 Of1_8 Os1_8 Om_8 cd_0_8 cd_1_8 cq_0_8 cq_1_8 cq_2_8 Hw8))
  go_ret
  exact ⟨rfl, Hw9⟩
end Go.Proofs.Ythlnjipefeglpaa
