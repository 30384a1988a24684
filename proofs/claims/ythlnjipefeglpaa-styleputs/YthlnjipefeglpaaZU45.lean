import Derived.Test.YthlnjipefeglpaaZU41
import Derived.Test.YthlnjipefeglpaaZU44
namespace Go.Proofs.Ythlnjipefeglpaa
open Go.RowKit
set_option linter.unusedVariables false
set_option linter.unusedSimpArgs false
set_option maxRecDepth 100000
theorem again_ok (s : ByteArray) (hs : s.size ≤ 1024) (h : (takeE ⟨s, 0, 0⟩).e = 0) : listsOk (takeF ⟨s, 0, 0⟩) (takeL ⟨s, 0, 0⟩) = true ∧ (takeX ⟨s, 0, 0⟩).e = 0 ∧ 8 * ((bs (listB (takeF ⟨s, 0, 0⟩) (takeL ⟨s, 0, 0⟩))).size : Int) ≤ (takeX ⟨s, 0, 0⟩).a ∧
    takeF ⟨bs (listB (takeF ⟨s, 0, 0⟩) (takeL ⟨s, 0, 0⟩)), 0, 0⟩ = takeF ⟨s, 0, 0⟩ ∧ takeL ⟨bs (listB (takeF ⟨s, 0, 0⟩) (takeL ⟨s, 0, 0⟩)), 0, 0⟩ = takeL ⟨s, 0, 0⟩ ∧ takeX ⟨bs (listB (takeF ⟨s, 0, 0⟩) (takeL ⟨s, 0, 0⟩)), 0, 0⟩ = ⟨bs (listB (takeF ⟨s, 0, 0⟩) (takeL ⟨s, 0, 0⟩)), 8 * ((bs (listB (takeF ⟨s, 0, 0⟩) (takeL ⟨s, 0, 0⟩))).size : Int), 0⟩ := by
  obtain ⟨h1, _, _, h4, _⟩ := take_right _ h
  have h5 := take_adv s h
  obtain ⟨b1, b2, b3⟩ := take_back (T := listB (takeF ⟨s, 0, 0⟩) (takeL ⟨s, 0, 0⟩)) (p := []) (q := []) (by simp) h1
  refine ⟨h1, by rw [h4]; exact h, by rw [bs_size]; exact h5, b1, b2, ?_⟩
  refine b3.trans ?_
  unfold At8
  rw [List.nil_append, bs_size]
  congr 1
theorem pright_own (A : List FV) (xs : List (List Int)) {fa sa : Value} {w : World} {B1 B3 M1 M3 : Nat} {e3 : TypeId} (h1 : OwnFM w B1 M1 fa A) (h3 : OwnM w B3 M3 e3 sa xs) (hok : listsOk A xs = true) :
    Calls Try.prog 18 #[fa, sa] w fun e w' => e = .returned (.bool true) ∧ Below w.heap.size w w' := by
  have h := pright_any A xs fa sa w h1.f.fills h3.1.sl
  rw [hok] at h
  exact h
theorem pput_own (A : List FV) (xs : List (List Int)) {fa sa : Value} {w : World} {B1 B3 M1 M3 : Nat} {e3 : TypeId} (h1 : OwnFM w B1 M1 fa A) (h3 : OwnM w B3 M3 e3 sa xs) (hok : listsOk A xs = true) (t : ByteArray) (ht : bs (listB A xs) = t) :
    Calls Try.prog 16 #[.agg #[.string ⟨#[]⟩, .int .i64 0], fa, sa] w fun e w' => e = .returned (.tuple #[.agg #[.string t, .int .i64 0], .int .i64 0]) ∧ Below w.heap.size w w' := by
  have h := pput_ok ⟨#[]⟩ 0 A xs fa sa w (by decide) h1.f.fills h3.1.sl hok
  rw [empty_bs, ht] at h
  exact h
theorem fillB_small {F : FV} (h : fillOk F = true) : (fillB F).length ≤ 70 := by
  have hb := fill_back (T := [] ++ (fillB F ++ [])) (p := []) (q := []) rfl h
  have hf := fillT_fit (At8 ([] ++ (fillB F ++ [])) [])
  rw [hb] at hf
  exact fillB_len h hf
theorem listB_small {Fs : List FV} {xs : List (List Int)} (h : listsOk Fs xs = true) : (listB Fs xs).length ≤ 2000 := by
  unfold listsOk at h
  simp only [Bool.and_eq_true, decide_eq_true_eq] at h
  obtain ⟨⟨⟨h1, h2⟩, h3⟩, h4⟩ := h
  have a := flat_len fillB Fs 70 fun F hF => fillB_small (List.all_eq_true.1 h1 F hF)
  have b := flat_len lineB xs 6 fun x _ => lineB_len x
  have l1 : ∀ n, (by1 n).length = 1 := fun n => rfl
  have c : Fs.length * 70 ≤ 15 * 70 := Nat.mul_le_mul_right _ (by omega)
  have d : xs.length * 6 ≤ 15 * 6 := Nat.mul_le_mul_right _ (by omega)
  unfold listB
  rw [List.length_append, List.length_append, List.length_append, l1, l1]
  omega
set_option maxHeartbeats 4000000 in
theorem styleAgain_walk (s : ByteArray) (w : World) :
    Calls Try.prog 6 #[.string s] w fun e w' => e = .returned (.bool true) ∧ Below w.heap.size w w' := by
  have HA := Lib.hid awake8_any
  by_cases hs : 1024 < s.size
  · have q1 : decide ((1024 : Int) < (s.size : Int)) = true := decide_eq_true (by omega)
    go_enter Try.func6, Try.ntmps6
    go_wp2_with (first
      | (go_at_call 8; (with_reducible refine (HA.out _).mono ?_); rintro e W1 ⟨rfl, k1⟩; have Hw1 := k1; clear k1))
    go_ret
    exact ⟨rfl, Hw1⟩
  have q1 : decide ((1024 : Int) < (s.size : Int)) = false := decide_eq_false (by omega)
  have HT := Lib.hid (fun W => take8_any s 0 W (by omega))
  unfold TakePost at HT
  by_cases he : (takeE ⟨s, 0, 0⟩).e = 0
  rotate_left
  · obtain ⟨h1, h2, h3⟩ := take_wrong _ he
    rw [h1, h2, h3] at HT
    generalize (takeE ⟨s, 0, 0⟩).e = ee at *
    have HT2 : Hid (∀ W, Calls Try.prog 20 #[.agg #[.string s, .int .i64 0]] W fun e w' => ∃ fa fc sa sc, e = .returned (.tuple #[.slice fa 0 fc, .slice sa 0 sc, .agg #[.string ⟨#[]⟩, .int .i64 0], .int .i64 ee]) ∧ Below W.heap.size W w') := Lib.hid fun W => (HT.out W).mono fun e w' ⟨fv, sv, g1, g2, g3, g4⟩ => by
      obtain ⟨css, hc, hoc⟩ := g2.row
      obtain ⟨fa, fc, rfl⟩ := hoc.slice
      obtain ⟨sa, sc, rfl⟩ := g3.1.slice
      rw [hc] at g1
      exact ⟨fa, fc, sa, sc, g1, g4⟩
    have q2 : (ee != 0) = true := by rw [bne_iff_ne]; exact he
    clear HT h1 h2 h3 he hs
    go_enter Try.func6, Try.ntmps6
    go_wp2_with (first
      | (go_at_call 20; (with_reducible refine (HT2.out _).mono ?_); rintro e W1 ⟨fa, fc, sa, sc, rfl, k1⟩; have Hw1 := k1; clear k1)
      | (refine wl_alloc 46 _ zero51r rfl rfl ?_; intro W2 bx Bx_2 l2 k2; have gx : w.heap.size ≤ bx := Nat.le_trans Hw1.size l2; have Hw2 := bq_trans Hw1 k2; clear l2 k2 Hw1)
      | (refine wl_store 46 2 size51r _ _ rfl rfl _ rfl #[.string ⟨#[]⟩, .int .i64 0] rfl _ _ Bx_2 rfl rfl (by kernel_rfl) ?_; intro W3 Bx_3 T3; have Hw3 := T3.below Hw2 gx; clear T3 Bx_2 Hw2; have cx_1_3 : W3.cell? ⟨bx, 1, none⟩ = some (.int .i64 0) := Bx_3.cell 1)
      | (go_at_call 8; (with_reducible refine (HA.out _).mono ?_); rintro e W4 ⟨rfl, k4⟩; have Bx_4 := Bx_3.keep k4; have Hw4 := bq_trans Hw3 k4; clear k4 Bx_3 cx_1_3 Hw3))
    go_ret
    exact ⟨rfl, Hw4⟩
  · obtain ⟨h1, h2, h3, h4, h5, h6⟩ := again_ok s (by omega) he
    have hsz : (bs (listB (takeF ⟨s, 0, 0⟩) (takeL ⟨s, 0, 0⟩))).size ≤ 1000000 := by
      rw [bs_size]
      exact Nat.le_trans (listB_small h1) (by decide)
    have HT3 := Lib.hid (fun W => take8_any (bs (listB (takeF ⟨s, 0, 0⟩) (takeL ⟨s, 0, 0⟩))) 0 W hsz)
    unfold TakePost at HT3
    rw [h4, h5, h6] at HT3
    clear h4 h5 h6 hs he
    generalize htt : bs (listB (takeF ⟨s, 0, 0⟩) (takeL ⟨s, 0, 0⟩)) = t at *
    generalize takeF ⟨s, 0, 0⟩ = A at *
    generalize takeL ⟨s, 0, 0⟩ = xs at *
    generalize takeX ⟨s, 0, 0⟩ = z at *
    obtain ⟨zs, za, ze⟩ := z
    have h2 : ze = 0 := h2
    subst h2
    have h3 : 8 * (t.size : Int) ≤ za := h3
    have HT2 : Hid (∀ W, Calls Try.prog 20 #[.agg #[.string s, .int .i64 0]] W fun e w' => ∃ fv sv, e = .returned (.tuple #[fv, sv, .agg #[.string zs, .int .i64 za], .int .i64 0]) ∧ OwnF w' W.heap.size fv A ∧ OwnP w' W.heap.size 30 sv xs ∧ Below W.heap.size W w') := HT
    have HT4 : Hid (∀ W, Calls Try.prog 20 #[.agg #[.string t, .int .i64 0]] W fun e w' => ∃ fv sv, e = .returned (.tuple #[fv, sv, .agg #[.string t, .int .i64 (8 * (t.size : Int))], .int .i64 0]) ∧ OwnF w' W.heap.size fv A ∧ OwnP w' W.heap.size 30 sv xs ∧ Below W.heap.size W w') := HT3
    have q3 : decide (8 * (t.size : Int) ≤ za) = true := decide_eq_true h3
    have HOK := Lib.hid h1
    have HTT := Lib.hid htt
    clear HT HT3 h1 h3 htt
    go_enter Try.func6, Try.ntmps6
    go_wp2_with (first
      | (go_at_call 20; (with_reducible refine (HT2.out _).mono ?_); rintro e W1 ⟨f0, s0, rfl, h0, j0, k1⟩; have Hw1 := k1; have P0f := h0.m; have P0s := j0.m; have PM0 : SzM W1 0 W1.heap.size := ⟨Nat.le_refl _⟩; clear h0 j0; clear k1)
      | (refine wl_alloc 46 _ zero51r rfl rfl ?_; intro W2 bx Bx_2 l2 k2; have gx : w.heap.size ≤ bx := Nat.le_trans Hw1.size l2; have lox := Nat.le_trans PM0.le l2; have Of0_2 := P0f.keep k2; have Os0_2 := P0s.keep k2; have Om_2 := PM0.keep k2; have Hw2 := bq_trans Hw1 k2; clear l2 k2 P0f P0s PM0 Hw1)
      | (refine wl_store 46 2 size51r _ _ rfl rfl _ rfl #[.string zs, .int .i64 za] rfl _ _ Bx_2 rfl rfl (by kernel_rfl) ?_; intro W3 Bx_3 T3; have Of0_3 := Of0_2.turned T3 (Or.inr lox); have Os0_3 := Os0_2.turned T3 (Or.inr lox); have Om_3 := Om_2.turned T3 (Or.inr lox); have Hw3 := T3.below Hw2 gx; clear T3 Of0_2 Os0_2 Om_2 Bx_2 Hw2)
      | (go_at_call 16; (with_reducible refine (pput_own A xs Of0_3 Os0_3 HOK.out t HTT.out).mono ?_); rintro e W4 ⟨rfl, k4⟩; have Bx_4 := Bx_3.keep k4; have Of0_4 := Of0_3.keep k4; have Os0_4 := Os0_3.keep k4; have Om_4 := Om_3.keep k4; have Hw4 := bq_trans Hw3 k4; clear k4 Bx_3 Of0_3 Os0_3 Om_3 Hw3)
      | (refine wl_alloc 40 _ zero40p rfl rfl ?_; intro W5 bv Bv_5 l5 k5; have gv : w.heap.size ≤ bv := Nat.le_trans Hw4.size l5; have nxv : bx ≠ bv := Nat.ne_of_lt (Nat.lt_of_lt_of_le Bx_4.lt l5); have lov := Nat.le_trans Om_4.le l5; have Bx_5 := Bx_4.keep k5; have Of0_5 := Of0_4.keep k5; have Os0_5 := Os0_4.keep k5; have Om_5 := Om_4.keep k5; have Hw5 := bq_trans Hw4 k5; clear l5 k5 Bx_4 Of0_4 Os0_4 Om_4 Hw4)
      | (refine wl_store 40 2 size40p _ _ rfl rfl _ rfl #[.string t, .int .i64 0] rfl _ _ Bv_5 rfl rfl (by kernel_rfl) ?_; intro W6 Bv_6 T6; have Bx_6 := T6.blk Bx_5 nxv; have Of0_6 := Of0_5.turned T6 (Or.inr lov); have Os0_6 := Os0_5.turned T6 (Or.inr lov); have Om_6 := Om_5.turned T6 (Or.inr lov); have Hw6 := T6.below Hw5 gv; clear T6 Bx_5 Of0_5 Os0_5 Om_5 Bv_5 Hw5; have cv_0_6 : W6.cell? ⟨bv, 0, none⟩ = some (.string t) := Bv_6.cell 0)
      | (go_at_call 20; (with_reducible refine (HT4.out _).mono ?_); rintro e W7 ⟨f1, s1, rfl, h1, j1, k7⟩; have Bx_7 := Bx_6.keep k7; have Bv_7 := Bv_6.keep k7; have Of0_7 := Of0_6.keep k7; have Os0_7 := Os0_6.keep k7; have Om_7 := Om_6.keep k7; have Hw7 := bq_trans Hw6 k7; have P0f := Of0_7.f.m; have P0s := Os0_7.1.m; clear Of0_7 Os0_7; clear Om_7; have P1f := h1.m; have P1s := j1.m; have PM1 : SzM W7 0 W7.heap.size := ⟨Nat.le_refl _⟩; clear h1 j1; clear k7 Bx_6 Bv_6 Of0_6 Os0_6 Om_6 cv_0_6 Hw6)
      | (refine wl_alloc 46 _ zero51r rfl rfl ?_; intro W8 bu Bu_8 l8 k8; have gu : w.heap.size ≤ bu := Nat.le_trans Hw7.size l8; have nxu : bx ≠ bu := Nat.ne_of_lt (Nat.lt_of_lt_of_le Bx_7.lt l8); have nvu : bv ≠ bu := Nat.ne_of_lt (Nat.lt_of_lt_of_le Bv_7.lt l8); have lou := Nat.le_trans PM1.le l8; have Bx_8 := Bx_7.keep k8; have Bv_8 := Bv_7.keep k8; have Of0_8 := P0f.keep k8; have Os0_8 := P0s.keep k8; have Of1_8 := P1f.keep k8; have Os1_8 := P1s.keep k8; have Om_8 := PM1.keep k8; have Hw8 := bq_trans Hw7 k8; clear l8 k8 Bx_7 Bv_7 P0f P0s P1f P1s PM1 Hw7)
      | (refine wl_store 46 2 size51r _ _ rfl rfl _ rfl #[.string t, .int .i64 (8 * (t.size : Int))] rfl _ _ Bu_8 rfl rfl (by kernel_rfl) ?_; intro W9 Bu_9 T9; have Bx_9 := T9.blk Bx_8 nxu; have Bv_9 := T9.blk Bv_8 nvu; have Of0_9 := Of0_8.turned T9 (Or.inr lou); have Os0_9 := Os0_8.turned T9 (Or.inr lou); have Of1_9 := Of1_8.turned T9 (Or.inr lou); have Os1_9 := Os1_8.turned T9 (Or.inr lou); have Om_9 := Om_8.turned T9 (Or.inr lou); have Hw9 := T9.below Hw8 gu; clear T9 Bx_8 Bv_8 Of0_8 Os0_8 Of1_8 Os1_8 Om_8 Bu_8 Hw8)
      | (go_at_call 18; (with_reducible refine (pright_own A xs Of0_9 Os0_9 HOK.out).mono ?_); rintro e W10 ⟨rfl, k10⟩; have Bx_10 := Bx_9.keep k10; have Bv_10 := Bv_9.keep k10; have Bu_10 := Bu_9.keep k10; have Of0_10 := Of0_9.keep k10; have Os0_10 := Os0_9.keep k10; have Of1_10 := Of1_9.keep k10; have Os1_10 := Os1_9.keep k10; have Om_10 := Om_9.keep k10; have Hw10 := bq_trans Hw9 k10; clear k10 Bx_9 Bv_9 Bu_9 Of0_9 Os0_9 Of1_9 Os1_9 Om_9 Hw9)
      | (go_at_call 21; (with_reducible refine (samelists_own A xs Of0_10 Of1_10 Os0_10 Os1_10).mono ?_); rintro e W11 ⟨rfl, k11⟩; have Bx_11 := Bx_10.keep k11; have Bv_11 := Bv_10.keep k11; have Bu_11 := Bu_10.keep k11; have Of0_11 := Of0_10.keep k11; have Os0_11 := Os0_10.keep k11; have Of1_11 := Of1_10.keep k11; have Os1_11 := Os1_10.keep k11; have Om_11 := Om_10.keep k11; have Hw11 := bq_trans Hw10 k11; clear k11 Bx_10 Bv_10 Bu_10 Of0_10 Os0_10 Of1_10 Os1_10 Om_10 Hw10; have cu_1_11 : W11.cell? ⟨bu, 1, none⟩ = some (.int .i64 (8 * (t.size : Int))) := Bu_11.cell 1; have cv_0_11 : W11.cell? ⟨bv, 0, none⟩ = some (.string t) := Bv_11.cell 0; have cx_1_11 : W11.cell? ⟨bx, 1, none⟩ = some (.int .i64 za) := Bx_11.cell 1)
      | (go_at_call 8; (with_reducible refine (HA.out _).mono ?_); rintro e W12 ⟨rfl, k12⟩; have Bx_12 := Bx_11.keep k12; have Bv_12 := Bv_11.keep k12; have Bu_12 := Bu_11.keep k12; have Of0_12 := Of0_11.keep k12; have Os0_12 := Os0_11.keep k12; have Of1_12 := Of1_11.keep k12; have Os1_12 := Os1_11.keep k12; have Om_12 := Om_11.keep k12; have Hw12 := bq_trans Hw11 k12; clear k12 Bx_11 Bv_11 Bu_11 Of0_11 Os0_11 Of1_11 Os1_11 Om_11 cu_1_11 cv_0_11 cx_1_11 Hw11))
    go_ret
    exact ⟨rfl, Hw12⟩
end Go.Proofs.Ythlnjipefeglpaa
