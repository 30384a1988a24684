import Derived.Test.YthlnjipefeglpaaZU45
import Derived.Test.YthlnjipefeglpaaZU38
namespace Go.Proofs.Ythlnjipefeglpaa
open Go.RowKit
set_option linter.unusedVariables false
set_option linter.unusedSimpArgs false
set_option maxRecDepth 100000
theorem samelists_arg (A : List FV) (xs : List (List Int)) {fa fb sa sb : Value} {w W : World} {B1 B3 M1 M3 : Nat} {e3 : TypeId} (h1 : OwnFM W B1 M1 fa A) (h3 : OwnM W B3 M3 e3 sa xs) (hf : Fills w fb A) (hx : Strokes w sb xs) (hW : Below w.heap.size w W) :
    Calls Try.prog 21 #[fa, fb, sa, sb] W fun e w' => e = .returned (.bool true) ∧ Below W.heap.size W w' :=
  samelists_same A xs fa fb sa sb W h1.f.fills (Sl.keep fill_lasts hf hW) h3.1.sl (Sl.keep num5_lasts hx hW)
theorem puts_back (s : ByteArray) (Fs : List FV) (xs : List (List Int)) (hok : listsOk Fs xs = true) : takeF ⟨s ++ bs (listB Fs xs) ++ ⟨#[120]⟩, 8 * (s.size : Int), 0⟩ = Fs ∧ takeL ⟨s ++ bs (listB Fs xs) ++ ⟨#[120]⟩, 8 * (s.size : Int), 0⟩ = xs ∧ takeX ⟨s ++ bs (listB Fs xs) ++ ⟨#[120]⟩, 8 * (s.size : Int), 0⟩ = ⟨s ++ bs (listB Fs xs) ++ ⟨#[120]⟩, 8 * ((s ++ bs (listB Fs xs)).size : Int), 0⟩ := by
  obtain ⟨p, hp⟩ : ∃ p : List UInt8, s = bs p := ⟨s.data.toList, by cases s; simp [bs]⟩
  have e1 : s ++ bs (listB Fs xs) ++ ⟨#[120]⟩ = bs (p ++ (listB Fs xs ++ [120])) := by
    have : (⟨#[120]⟩ : ByteArray) = bs [120] := rfl
    rw [hp, this, cat_bs, bs_append]
  have e2 : (8 * (s.size : Int)) = ((8 * p.length : Nat) : Int) := by rw [hp, bs_size]; omega
  have e3 : 8 * ((s ++ bs (listB Fs xs)).size : Int) = ((8 * (p ++ listB Fs xs).length : Nat) : Int) := by rw [hp, bs_append, bs_size]; omega
  rw [e1, e2, e3]
  exact take_back (T := p ++ (listB Fs xs ++ [120])) (p := p) (q := [120]) rfl hok
set_option maxHeartbeats 8000000 in
theorem stylePuts_walk (s : ByteArray) (Fs : List FV) (xs : List (List Int)) (fv sv : Value) (w : World) (hf : Fills w fv Fs) (hx : Strokes w sv xs) :
    Calls Try.prog 4 #[.string s, fv, sv] w fun e w' => e = .returned (.bool true) ∧ Below w.heap.size w w' := by
  have HA := Lib.hid awake8_any
  by_cases hs : 1024 < s.size
  · have q1 : decide ((1024 : Int) < (s.size : Int)) = true := decide_eq_true (by omega)
    go_enter Try.func4, Try.ntmps4
    go_wp2_with (first
      | (go_at_call 8; (with_reducible refine (HA.out _).mono ?_); rintro e W1 ⟨rfl, k1⟩; have Hw1 := k1; clear k1))
    go_ret
    exact ⟨rfl, Hw1⟩
  have q1 : decide ((1024 : Int) < (s.size : Int)) = false := decide_eq_false (by omega)
  have HS : Hid (∀ W, Below w.heap.size w W → Calls Try.prog 15 #[fv, sv] W fun e w' => e = .returned (.bool (smallOk Fs xs)) ∧ Below W.heap.size W w') := Lib.hid fun W hW => (refsmall_any Fs xs fv sv W (Sl.keep fill_lasts hf hW) (Sl.keep num5_lasts hx hW)).mono fun e w' ⟨g1, g2⟩ => ⟨g1, g2 ▸ bq_refl W⟩
  cases hsm : smallOk Fs xs <;> rw [hsm] at HS
  · go_enter Try.func4, Try.ntmps4
    go_wp2_with (first
      | (go_at_call 15; (with_reducible refine (HS.out _ (bq_refl w)).mono ?_); rintro e W1 ⟨rfl, k1⟩; have Hw1 := k1; clear k1)
      | (go_at_call 8; (with_reducible refine (HA.out _).mono ?_); rintro e W2 ⟨rfl, k2⟩; have Hw2 := bq_trans Hw1 k2; clear k2 Hw1))
    go_ret
    exact ⟨rfl, Hw2⟩
  have HRR : Hid (∀ W, Below w.heap.size w W → Calls Try.prog 17 #[fv, sv] W fun e w' => e = .returned (.bool (listsOk Fs xs)) ∧ Below W.heap.size W w') := Lib.hid fun W hW => refright8_any Fs xs fv sv W (Sl.keep fill_lasts hf hW) (Sl.keep num5_lasts hx hW)
  have HRI : Hid (∀ W, Below w.heap.size w W → Calls Try.prog 18 #[fv, sv] W fun e w' => e = .returned (.bool (listsOk Fs xs)) ∧ Below W.heap.size W w') := Lib.hid fun W hW => pright_any Fs xs fv sv W (Sl.keep fill_lasts hf hW) (Sl.keep num5_lasts hx hW)
  cases hok : listsOk Fs xs <;> rw [hok] at HRR HRI
  · have HP : Hid (∀ W, Below w.heap.size w W → Calls Try.prog 16 #[.agg #[.string s, .int .i64 0], fv, sv] W fun e w' => e = .returned (.tuple #[.agg #[.string ⟨#[]⟩, .int .i64 0], .int .i64 1]) ∧ Below W.heap.size W w') := Lib.hid fun W hW => pput_bad s 0 Fs xs fv sv W (Sl.keep fill_lasts hf hW) (Sl.keep num5_lasts hx hW) hok
    clear hf hx
    go_enter Try.func4, Try.ntmps4
    go_wp2_with (first
      | (go_at_call 15; (with_reducible refine (HS.out _ (bq_refl w)).mono ?_); rintro e W1 ⟨rfl, k1⟩; have Hw1 := k1; clear k1)
      | (go_at_call 16; (with_reducible refine (HP.out _ Hw1).mono ?_); rintro e W2 ⟨rfl, k2⟩; have Hw2 := bq_trans Hw1 k2; clear k2 Hw1)
      | (refine wl_alloc 40 _ zero40p rfl rfl ?_; intro W3 bt Bt_3 l3 k3; have gt : w.heap.size ≤ bt := Nat.le_trans Hw2.size l3; have Hw3 := bq_trans Hw2 k3; clear l3 k3 Hw2)
      | (refine wl_store 40 2 size40p _ _ rfl rfl _ rfl #[.string ⟨#[]⟩, .int .i64 0] rfl _ _ Bt_3 rfl rfl (by kernel_rfl) ?_; intro W4 Bt_4 T4; have Hw4 := T4.below Hw3 gt; clear T4 Bt_3 Hw3)
      | (go_at_call 17; (with_reducible refine (HRR.out _ Hw4).mono ?_); rintro e W5 ⟨rfl, k5⟩; have Bt_5 := Bt_4.keep k5; have Hw5 := bq_trans Hw4 k5; clear k5 Bt_4 Hw4)
      | (go_at_call 18; (with_reducible refine (HRI.out _ Hw5).mono ?_); rintro e W6 ⟨rfl, k6⟩; have Bt_6 := Bt_5.keep k6; have Hw6 := bq_trans Hw5 k6; clear k6 Bt_5 Hw5; have ct_0_6 : W6.cell? ⟨bt, 0, none⟩ = some (.string ⟨#[]⟩) := Bt_6.cell 0)
      | (go_at_call 8; (with_reducible refine (HA.out _).mono ?_); rintro e W7 ⟨rfl, k7⟩; have Bt_7 := Bt_6.keep k7; have Hw7 := bq_trans Hw6 k7; clear k7 Bt_6 ct_0_6 Hw6))
    go_ret
    exact ⟨rfl, Hw7⟩
  · have HP0 : Hid (∀ W, Below w.heap.size w W → Calls Try.prog 16 #[.agg #[.string s, .int .i64 0], fv, sv] W fun e w' => e = .returned (.tuple #[.agg #[.string (s ++ bs (listB Fs xs)), .int .i64 0], .int .i64 0]) ∧ Below W.heap.size W w') := Lib.hid fun W hW => pput_ok s 0 Fs xs fv sv W (by omega) (Sl.keep fill_lasts hf hW) (Sl.keep num5_lasts hx hW) hok
    have HQ0 : Hid (∀ W, Below w.heap.size w W → Calls Try.prog 19 #[.string s, fv, sv] W fun e w' => e = .returned (.string (s ++ bs (listB Fs xs))) ∧ Below W.heap.size W w') := Lib.hid fun W hW => refput8_any s Fs xs fv sv W (by omega) (Sl.keep fill_lasts hf hW) (Sl.keep num5_lasts hx hW) hok
    obtain ⟨b1, b2, b3⟩ := puts_back s Fs xs hok
    have hl := listB_small hok
    have hsz : (s ++ bs (listB Fs xs)).size ≤ 999999 := by
      have hl2 : (listB Fs xs).length ≤ 2000 := listB_small hok
      rw [ByteArray.size_append, bs_size]
      omega
    have HT := Lib.hid (fun W => take8_any (s ++ bs (listB Fs xs) ++ ⟨#[120]⟩) (8 * (s.size : Int)) W (by rw [ByteArray.size_append]; show _ + 1 ≤ _; omega))
    unfold TakePost at HT
    rw [b1, b2, b3] at HT
    have hf0 := Lib.hid hf
    have hx0 := Lib.hid hx
    clear b1 b2 b3 hf hx hl hok hsm
    generalize s ++ bs (listB Fs xs) = t at *
    have HT2 : Hid (∀ W, Calls Try.prog 20 #[.agg #[.string (t ++ ⟨#[120]⟩), .int .i64 (8 * (s.size : Int))]] W fun e w' => ∃ fv sv, e = .returned (.tuple #[fv, sv, .agg #[.string (t ++ ⟨#[120]⟩), .int .i64 (8 * (t.size : Int))], .int .i64 0]) ∧ OwnF w' W.heap.size fv Fs ∧ OwnP w' W.heap.size 30 sv xs ∧ Below W.heap.size W w') := HT
    clear HT
    go_enter Try.func4, Try.ntmps4
    go_upto_region 9 with (go_big_may; first
      | (go_at_call 15; (with_reducible refine (HS.out _ (bq_refl w)).mono ?_); rintro e W1 ⟨rfl, k1⟩; have Hw1 := k1; clear k1)
      | (go_at_call 16; (with_reducible refine (HP0.out _ Hw1).mono ?_); rintro e W2 ⟨rfl, k2⟩; have Hw2 := bq_trans Hw1 k2; clear k2 Hw1)
      | (refine wl_alloc 40 _ zero40p rfl rfl ?_; intro W3 bt Bt_3 l3 k3; have gt : w.heap.size ≤ bt := Nat.le_trans Hw2.size l3; have Hw3 := bq_trans Hw2 k3; clear l3 k3 Hw2)
      | (refine wl_store 40 2 size40p _ _ rfl rfl _ rfl #[.string t, .int .i64 0] rfl _ _ Bt_3 rfl rfl (by kernel_rfl) ?_; intro W4 Bt_4 T4; have Hw4 := T4.below Hw3 gt; clear T4 Bt_3 Hw3)
      | (go_at_call 17; (with_reducible refine (HRR.out _ Hw4).mono ?_); rintro e W5 ⟨rfl, k5⟩; have Bt_5 := Bt_4.keep k5; have Hw5 := bq_trans Hw4 k5; clear k5 Bt_4 Hw4)
      | (go_at_call 18; (with_reducible refine (HRI.out _ Hw5).mono ?_); rintro e W6 ⟨rfl, k6⟩; have Bt_6 := Bt_5.keep k6; have Hw6 := bq_trans Hw5 k6; clear k6 Bt_5 Hw5))
    refine Det.wp_region_det (S := fun w' => Below W6.heap.size W6 w') (by kernel_rfl) (by kernel_rfl) (bq_drew (bq_refl _)) ?_
    refine Det.det_take (v := ?_) (by rfl) ?_ ?_
    rotate_left
    · (intro w hSw; go_simp; try with_reducible rfl)
    try simp only [Act.put, List.setIfInBounds_toArray, List.set_cons_zero, List.set_cons_succ]
    refine Det.det_take (v := ?_) (by rfl) ?_ ?_
    rotate_left
    · (intro w hSw; have cc := (Bt_6.keep hSw).cell 0; go_simp; try with_reducible rfl)
    try simp only [Act.put, List.setIfInBounds_toArray, List.set_cons_zero, List.set_cons_succ]
    refine Det.det_take (v := ?_) (by rfl) ?_ ?_
    rotate_left
    · (intro w hSw; go_simp; try with_reducible rfl)
    try simp only [Act.put, List.setIfInBounds_toArray, List.set_cons_zero, List.set_cons_succ]
    refine Det.det_take (v := ?_) (by rfl) ?_ ?_
    rotate_left
    · (intro w hSw; go_simp; try with_reducible rfl)
    try simp only [Act.put, List.setIfInBounds_toArray, List.set_cons_zero, List.set_cons_succ]
    refine Det.det_take (v := ?_) (by rfl) ?_ ?_
    rotate_left
    · (intro w hSw; go_simp; try with_reducible rfl)
    try simp only [Act.put, List.setIfInBounds_toArray, List.set_cons_zero, List.set_cons_succ]
    refine Det.det_call (f := 19) (args := #[.string s, fv, sv]) (v := .string t) (by rfl) ?_ (fun w hS => (HQ0.out w (bq_trans Hw6 hS)).mono fun e w' ⟨h1, h2⟩ => ⟨h1, bq_trans hS h2⟩) ?_
    · (intro w hSw; go_simp)
    try simp only [Act.put, List.setIfInBounds_toArray, List.set_cons_zero, List.set_cons_succ]
    refine Det.det_take (v := ?_) (by rfl) ?_ ?_
    rotate_left
    · (intro w hSw; go_simp; try with_reducible rfl)
    try simp only [Act.put, List.setIfInBounds_toArray, List.set_cons_zero, List.set_cons_succ]
    refine Det.det_take (v := ?_) (by rfl) ?_ ?_
    rotate_left
    · (intro w hSw; go_simp; try with_reducible rfl)
    try simp only [Act.put, List.setIfInBounds_toArray, List.set_cons_zero, List.set_cons_succ]
    refine Det.det_take (v := ?_) (by rfl) ?_ ?_
    rotate_left
    · (intro w hSw; go_simp; try with_reducible rfl)
    try simp only [Act.put, List.setIfInBounds_toArray, List.set_cons_zero, List.set_cons_succ]
    refine Det.det_take (v := ?_) (by rfl) ?_ ?_
    rotate_left
    · (intro w hSw; have cc := (Bt_6.keep hSw).cell 1; go_simp; try with_reducible rfl)
    try simp only [Act.put, List.setIfInBounds_toArray, List.set_cons_zero, List.set_cons_succ]
    refine Det.det_take (v := ?_) (by rfl) ?_ ?_
    rotate_left
    · (intro w hSw; go_simp; try with_reducible rfl)
    try simp only [Act.put, List.setIfInBounds_toArray, List.set_cons_zero, List.set_cons_succ]
    refine Det.det_take (v := ?_) (by rfl) ?_ ?_
    rotate_left
    · (intro w hSw; go_simp; try with_reducible rfl)
    try simp only [Act.put, List.setIfInBounds_toArray, List.set_cons_zero, List.set_cons_succ]
    refine Det.det_take (v := ?_) (by rfl) ?_ ?_
    rotate_left
    · (intro w hSw; go_simp; try with_reducible rfl)
    try simp only [Act.put, List.setIfInBounds_toArray, List.set_cons_zero, List.set_cons_succ]
    refine Det.det_take (v := ?_) (by rfl) ?_ ?_
    rotate_left
    · (intro w hSw; go_simp; try with_reducible rfl)
    try simp only [Act.put, List.setIfInBounds_toArray, List.set_cons_zero, List.set_cons_succ]
    refine Det.det_take (v := ?_) (by rfl) ?_ ?_
    rotate_left
    · (intro w hSw; go_simp; try with_reducible rfl)
    try simp only [Act.put, List.setIfInBounds_toArray, List.set_cons_zero, List.set_cons_succ]
    refine Det.det_take (v := ?_) (by rfl) ?_ ?_
    rotate_left
    · (intro w hSw; go_simp; try with_reducible rfl)
    try simp only [Act.put, List.setIfInBounds_toArray, List.set_cons_zero, List.set_cons_succ]
    refine Det.det_nil (fun W7 k7 => ?_)
    have Bt_7 := Bt_6.keep k7
    have Hw7 := bq_trans Hw6 k7
    clear k7 Bt_6 Hw6
    have ct0 : W7.cell? ⟨bt, 0, none⟩ = some (.string t) := Bt_7.cell 0
    go_wp2_with (first
      | (go_at_call 20; (with_reducible refine (HT2.out _).mono ?_); rintro e W8 ⟨f0, s0, rfl, h0, j0, k8⟩; have Bt_8 := Bt_7.keep k8; have Hw8 := bq_trans Hw7 k8; have P0f := h0.m; have P0s := j0.m; have PM0 : SzM W8 0 W8.heap.size := ⟨Nat.le_refl _⟩; clear h0 j0; clear k8 Bt_7 ct0 Hw7)
      | (refine wl_alloc 46 _ zero51r rfl rfl ?_; intro W9 bx Bx_9 l9 k9; have gx : w.heap.size ≤ bx := Nat.le_trans Hw8.size l9; have ntx : bt ≠ bx := Nat.ne_of_lt (Nat.lt_of_lt_of_le Bt_8.lt l9); have lox := Nat.le_trans PM0.le l9; have Bt_9 := Bt_8.keep k9; have Of0_9 := P0f.keep k9; have Os0_9 := P0s.keep k9; have Om_9 := PM0.keep k9; have Hw9 := bq_trans Hw8 k9; clear l9 k9 Bt_8 P0f P0s PM0 Hw8)
      | (refine wl_store 46 2 size51r _ _ rfl rfl _ rfl #[.string (t ++ ⟨#[120]⟩), .int .i64 (8 * (t.size : Int))] rfl _ _ Bx_9 rfl rfl (by kernel_rfl) ?_; intro W10 Bx_10 T10; have Bt_10 := T10.blk Bt_9 ntx; have Of0_10 := Of0_9.turned T10 (Or.inr lox); have Os0_10 := Os0_9.turned T10 (Or.inr lox); have Om_10 := Om_9.turned T10 (Or.inr lox); have Hw10 := T10.below Hw9 gx; clear T10 Bt_9 Of0_9 Os0_9 Om_9 Bx_9 Hw9)
      | (go_at_call 21; (with_reducible refine (samelists_arg Fs xs Of0_10 Os0_10 hf0.out hx0.out Hw10).mono ?_); rintro e W11 ⟨rfl, k11⟩; have Bt_11 := Bt_10.keep k11; have Bx_11 := Bx_10.keep k11; have Of0_11 := Of0_10.keep k11; have Os0_11 := Os0_10.keep k11; have Om_11 := Om_10.keep k11; have Hw11 := bq_trans Hw10 k11; clear k11 Bt_10 Bx_10 Of0_10 Os0_10 Om_10 Hw10; have cx_1_11 : W11.cell? ⟨bx, 1, none⟩ = some (.int .i64 (8 * (t.size : Int))) := Bx_11.cell 1; have ct_0_11 : W11.cell? ⟨bt, 0, none⟩ = some (.string t) := Bt_11.cell 0)
      | (go_at_call 8; (with_reducible refine (HA.out _).mono ?_); rintro e W12 ⟨rfl, k12⟩; have Bt_12 := Bt_11.keep k12; have Bx_12 := Bx_11.keep k12; have Of0_12 := Of0_11.keep k12; have Os0_12 := Os0_11.keep k12; have Om_12 := Om_11.keep k12; have Hw12 := bq_trans Hw11 k12; clear k12 Bt_11 Bx_11 Of0_11 Os0_11 Om_11 cx_1_11 ct_0_11 Hw11))
    go_ret
    exact ⟨rfl, Hw12⟩
end Go.Proofs.Ythlnjipefeglpaa
