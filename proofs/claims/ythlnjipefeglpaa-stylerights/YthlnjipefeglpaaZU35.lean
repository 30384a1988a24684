import Derived.Test.YthlnjipefeglpaaZU34
namespace Go.Proofs.Ythlnjipefeglpaa
open Go.RowKit
set_option linter.unusedVariables false
set_option linter.unusedSimpArgs false
set_option maxRecDepth 100000
set_option maxHeartbeats 2000000 in
theorem ptfill_0 (r g b a : Int) (xc yc zc : Array Value) (bp : Nat) (w : World) (Bp_0 : Blk w bp xc 79) (HN : Hid (∀ W, Blk W bp xc 79 → Calls Try.prog 55 #[.pointer (some ⟨bp, 0, none⟩), .int .i64 1] W fun e w' => e = .returned (.int .i64 0) ∧ Blk w' bp yc 79 ∧ But bp bp W w')) (HC : Hid (∀ W, Blk W bp yc 79 → Calls Try.prog 57 #[.pointer (some ⟨bp, 0, none⟩), .func (.func 58) #[] #[]] W fun e w' => e = .returned (.agg #[.int .i64 r, .int .i64 g, .int .i64 b, .int .i64 a]) ∧ Blk w' bp zc 79 ∧ But bp bp W w')) :
    Calls Try.prog 42 #[.pointer (some ⟨bp, 0, none⟩)] w fun e w' => e = .returned (.agg #[.int .i64 0, .int .i64 r, .int .i64 g, .int .i64 b, .int .i64 a, .int .i64 0, .int .i64 0, .int .i64 0, .int .i64 0, .int .i64 0, .int .i64 0, .int .i64 0, .slice none 0 0, .int .i64 0]) ∧ Blk w' bp zc 79 ∧ Bt bp w w' := by
  have hpw := Bp_0.lt
  have HBt : Bt bp w w := but_refl _ _ _
  have SM : SzM w w.heap.size w.heap.size := ⟨Nat.le_refl _⟩
  have hsz : w.heap.size ≤ w.heap.size := Nat.le_refl _
  go_enter Try.func42, Try.ntmps42
  go_wp2_with (first
    | (refine wl_alloc 28 _ zeroFL8 rfl rfl ?_; intro W1 bo Bo_1 l1 k1; have npo : bp ≠ bo := Nat.ne_of_lt (Nat.lt_of_lt_of_le Bp_0.lt l1); have loo := Nat.le_trans SM.le l1; have Bp_1 := Bp_0.keep k1; have Ob_1 := HBt.keep k1; have Om_1 := SM.keep k1; clear l1 k1 Bp_0 HBt SM)
    | (go_at_call 55; (with_reducible refine (HN.out _ Bp_1).mono ?_); rintro e W2 ⟨rfl, Bp_2, k2⟩; have Bo_2 := Bo_1.but k2 (Ne.symm npo) (Ne.symm npo); have Ob_2 := Ob_1.but k2 (Or.inl rfl); have Om_2 := Om_1.but k2 (Or.inl hpw); clear k2 Bo_1 Ob_1 Om_1 Bp_1)
    | (refine wl_alloc 28 _ zeroFL8 rfl rfl ?_; intro W3 bf Bf_3 l3 k3; have npf : bp ≠ bf := Nat.ne_of_lt (Nat.lt_of_lt_of_le Bp_2.lt l3); have nof : bo ≠ bf := Nat.ne_of_lt (Nat.lt_of_lt_of_le Bo_2.lt l3); have lof := Nat.le_trans Om_2.le l3; have Bp_3 := Bp_2.keep k3; have Bo_3 := Bo_2.keep k3; have Ob_3 := Ob_2.keep k3; have Om_3 := Om_2.keep k3; clear l3 k3 Bp_2 Bo_2 Ob_2 Om_2)
    | (refine wl_store 28 14 size28g8 _ _ rfl rfl _ rfl #[.int .i64 0, .int .i64 0, .int .i64 0, .int .i64 0, .int .i64 0, .int .i64 0, .int .i64 0, .int .i64 0, .int .i64 0, .int .i64 0, .int .i64 0, .int .i64 0, .slice none 0 0, .int .i64 0] rfl _ _ Bf_3 rfl rfl (by kernel_rfl) ?_; intro W4 Bf_4 T4; have Bp_4 := T4.blk Bp_3 npf; have Bo_4 := T4.blk Bo_3 nof; have Ob_4 := Ob_3.turned T4 (Or.inr (Nat.le_trans hsz lof)); have Om_4 := Om_3.turned T4 (Or.inr lof); clear T4 Bp_3 Bo_3 Ob_3 Om_3 Bf_3; have cf_0_4 : W4.cell? ⟨bf, 0, none⟩ = some (.int .i64 0) := Bf_4.cell 0)
    | (go_at_call 57; (with_reducible refine (HC.out _ Bp_4).mono ?_); rintro e W5 ⟨rfl, Bp_5, k5⟩; have Bo_5 := Bo_4.but k5 (Ne.symm npo) (Ne.symm npo); have Bf_5 := Bf_4.but k5 (Ne.symm npf) (Ne.symm npf); have Ob_5 := Ob_4.but k5 (Or.inl rfl); have Om_5 := Om_4.but k5 (Or.inl hpw); clear k5 Bo_4 Bf_4 Ob_4 Om_4 cf_0_4 Bp_4)
    | (refine wl_putAt 23 _ _ rfl rfl bf 1 rfl #[.int .i64 r, .int .i64 g, .int .i64 b, .int .i64 a] rfl size23g8 (by kernel_rfl) _ _ Bf_5 (by decide : 1 + 4 ≤ 14) #[.int .i64 0, .int .i64 r, .int .i64 g, .int .i64 b, .int .i64 a, .int .i64 0, .int .i64 0, .int .i64 0, .int .i64 0, .int .i64 0, .int .i64 0, .int .i64 0, .slice none 0 0, .int .i64 0] (by kernel_rfl) ?_; intro W6 Bf_6 T6; have Bp_6 := T6.blk Bp_5 npf; have Bo_6 := T6.blk Bo_5 nof; have Ob_6 := Ob_5.turned T6 (Or.inr (Nat.le_trans hsz lof)); have Om_6 := Om_5.turned T6 (Or.inr lof); clear T6 Bp_5 Bo_5 Ob_5 Om_5 Bf_5)
    | (refine wl_load 28 14 _ Try.underlying28 rfl size28g8 _ rfl rfl _ rfl _ _ Bf_6 rfl ?_)
    | (refine wl_store 28 14 size28g8 _ _ rfl rfl _ rfl _ rfl _ _ Bo_6 rfl rfl (by kernel_rfl) ?_; intro W7 Bo_7 T7; have Bp_7 := T7.blk Bp_6 npo; have Bf_7 := T7.blk Bf_6 (Ne.symm nof); have Ob_7 := Ob_6.turned T7 (Or.inr (Nat.le_trans hsz loo)); have Om_7 := Om_6.turned T7 (Or.inr loo); clear T7 Bp_6 Bf_6 Ob_6 Om_6 Bo_6))
  exact post_cell Try.underlying28 rfl size28g8 Try.results42 Bo_7 rfl rfl rfl ⟨rfl, Bp_7, Ob_7⟩
set_option maxHeartbeats 2000000 in
theorem ptfill_64 (id m0 m1 m2 m3 m4 m5 : Int) (xc yc zc uc : Array Value) (bp : Nat) (w : World) (Bp_0 : Blk w bp xc 79) (HN : Hid (∀ W, Blk W bp xc 79 → Calls Try.prog 55 #[.pointer (some ⟨bp, 0, none⟩), .int .i64 1] W fun e w' => e = .returned (.int .i64 64) ∧ Blk w' bp yc 79 ∧ But bp bp W w')) (HI : Hid (∀ W, Blk W bp yc 79 → Calls Try.prog 55 #[.pointer (some ⟨bp, 0, none⟩), .int .i64 2] W fun e w' => e = .returned (.int .i64 id) ∧ Blk w' bp zc 79 ∧ But bp bp W w')) (HM : Hid (∀ W, Blk W bp zc 79 → Calls Try.prog 59 #[.pointer (some ⟨bp, 0, none⟩), .func (.func 60) #[] #[]] W fun e w' => e = .returned (.agg #[.int .i64 m0, .int .i64 m1, .int .i64 m2, .int .i64 m3, .int .i64 m4, .int .i64 m5]) ∧ Blk w' bp uc 79 ∧ But bp bp W w')) :
    Calls Try.prog 42 #[.pointer (some ⟨bp, 0, none⟩)] w fun e w' => e = .returned (.agg #[.int .i64 64, .int .i64 0, .int .i64 0, .int .i64 0, .int .i64 0, .int .i64 m0, .int .i64 m1, .int .i64 m2, .int .i64 m3, .int .i64 m4, .int .i64 m5, .int .i64 0, .slice none 0 0, .int .i64 id]) ∧ Blk w' bp uc 79 ∧ Bt bp w w' := by
  have hpw := Bp_0.lt
  have HBt : Bt bp w w := but_refl _ _ _
  have SM : SzM w w.heap.size w.heap.size := ⟨Nat.le_refl _⟩
  have hsz : w.heap.size ≤ w.heap.size := Nat.le_refl _
  go_enter Try.func42, Try.ntmps42
  go_wp2_with (first
    | (refine wl_alloc 28 _ zeroFL8 rfl rfl ?_; intro W1 bo Bo_1 l1 k1; have npo : bp ≠ bo := Nat.ne_of_lt (Nat.lt_of_lt_of_le Bp_0.lt l1); have loo := Nat.le_trans SM.le l1; have Bp_1 := Bp_0.keep k1; have Ob_1 := HBt.keep k1; have Om_1 := SM.keep k1; clear l1 k1 Bp_0 HBt SM)
    | (go_at_call 55; (with_reducible refine (HN.out _ Bp_1).mono ?_); rintro e W2 ⟨rfl, Bp_2, k2⟩; have Bo_2 := Bo_1.but k2 (Ne.symm npo) (Ne.symm npo); have Ob_2 := Ob_1.but k2 (Or.inl rfl); have Om_2 := Om_1.but k2 (Or.inl hpw); clear k2 Bo_1 Ob_1 Om_1 Bp_1)
    | (refine wl_alloc 28 _ zeroFL8 rfl rfl ?_; intro W3 bf Bf_3 l3 k3; have npf : bp ≠ bf := Nat.ne_of_lt (Nat.lt_of_lt_of_le Bp_2.lt l3); have nof : bo ≠ bf := Nat.ne_of_lt (Nat.lt_of_lt_of_le Bo_2.lt l3); have lof := Nat.le_trans Om_2.le l3; have Bp_3 := Bp_2.keep k3; have Bo_3 := Bo_2.keep k3; have Ob_3 := Ob_2.keep k3; have Om_3 := Om_2.keep k3; clear l3 k3 Bp_2 Bo_2 Ob_2 Om_2)
    | (refine wl_store 28 14 size28g8 _ _ rfl rfl _ rfl #[.int .i64 64, .int .i64 0, .int .i64 0, .int .i64 0, .int .i64 0, .int .i64 0, .int .i64 0, .int .i64 0, .int .i64 0, .int .i64 0, .int .i64 0, .int .i64 0, .slice none 0 0, .int .i64 0] rfl _ _ Bf_3 rfl rfl (by kernel_rfl) ?_; intro W4 Bf_4 T4; have Bp_4 := T4.blk Bp_3 npf; have Bo_4 := T4.blk Bo_3 nof; have Ob_4 := Ob_3.turned T4 (Or.inr (Nat.le_trans hsz lof)); have Om_4 := Om_3.turned T4 (Or.inr lof); clear T4 Bp_3 Bo_3 Ob_3 Om_3 Bf_3; have cf_0_4 : W4.cell? ⟨bf, 0, none⟩ = some (.int .i64 64) := Bf_4.cell 0)
    | (go_at_call 55; (with_reducible refine (HI.out _ Bp_4).mono ?_); rintro e W5 ⟨rfl, Bp_5, k5⟩; have Bo_5 := Bo_4.but k5 (Ne.symm npo) (Ne.symm npo); have Bf_5 := Bf_4.but k5 (Ne.symm npf) (Ne.symm npf); have Ob_5 := Ob_4.but k5 (Or.inl rfl); have Om_5 := Om_4.but k5 (Or.inl hpw); clear k5 Bo_4 Bf_4 Ob_4 Om_4 cf_0_4 Bp_4)
    | (refine wl_set 3 _ _ rfl rfl bf 13 rfl (.int .i64 id) rfl rfl size3s _ _ Bf_5 (by decide : 13 < 14) ?_; intro W6 Bf_6 T6; have Bp_6 := T6.blk Bp_5 npf; have Bo_6 := T6.blk Bo_5 nof; have Ob_6 := Ob_5.turned T6 (Or.inr (Nat.le_trans hsz lof)); have Om_6 := Om_5.turned T6 (Or.inr lof); clear T6 Bp_5 Bo_5 Ob_5 Om_5 Bf_5)
    | (go_at_call 59; (with_reducible refine (HM.out _ Bp_6).mono ?_); rintro e W7 ⟨rfl, Bp_7, k7⟩; have Bo_7 := Bo_6.but k7 (Ne.symm npo) (Ne.symm npo); have Bf_7 := Bf_6.but k7 (Ne.symm npf) (Ne.symm npf); have Ob_7 := Ob_6.but k7 (Or.inl rfl); have Om_7 := Om_6.but k7 (Or.inl hpw); clear k7 Bo_6 Bf_6 Ob_6 Om_6 Bp_6)
    | (refine wl_putAt 25 _ _ rfl rfl bf 5 rfl #[.int .i64 m0, .int .i64 m1, .int .i64 m2, .int .i64 m3, .int .i64 m4, .int .i64 m5] rfl size25g8 (by kernel_rfl) _ _ Bf_7 (by decide : 5 + 6 ≤ 14) #[.int .i64 64, .int .i64 0, .int .i64 0, .int .i64 0, .int .i64 0, .int .i64 m0, .int .i64 m1, .int .i64 m2, .int .i64 m3, .int .i64 m4, .int .i64 m5, .int .i64 0, .slice none 0 0, .int .i64 id] (by kernel_rfl) ?_; intro W8 Bf_8 T8; have Bp_8 := T8.blk Bp_7 npf; have Bo_8 := T8.blk Bo_7 nof; have Ob_8 := Ob_7.turned T8 (Or.inr (Nat.le_trans hsz lof)); have Om_8 := Om_7.turned T8 (Or.inr lof); clear T8 Bp_7 Bo_7 Ob_7 Om_7 Bf_7)
    | (refine wl_load 28 14 _ Try.underlying28 rfl size28g8 _ rfl rfl _ rfl _ _ Bf_8 rfl ?_)
    | (refine wl_store 28 14 size28g8 _ _ rfl rfl _ rfl _ rfl _ _ Bo_8 rfl rfl (by kernel_rfl) ?_; intro W9 Bo_9 T9; have Bp_9 := T9.blk Bp_8 npo; have Bf_9 := T9.blk Bf_8 (Ne.symm nof); have Ob_9 := Ob_8.turned T9 (Or.inr (Nat.le_trans hsz loo)); have Om_9 := Om_8.turned T9 (Or.inr loo); clear T9 Bp_8 Bf_8 Ob_8 Om_8 Bo_8))
  exact post_cell Try.underlying28 rfl size28g8 Try.results42 Bo_9 rfl rfl rfl ⟨rfl, Bp_9, Ob_9⟩
set_option maxHeartbeats 2000000 in
theorem ptfill_65 (id m0 m1 m2 m3 m4 m5 : Int) (xc yc zc uc : Array Value) (bp : Nat) (w : World) (Bp_0 : Blk w bp xc 79) (HN : Hid (∀ W, Blk W bp xc 79 → Calls Try.prog 55 #[.pointer (some ⟨bp, 0, none⟩), .int .i64 1] W fun e w' => e = .returned (.int .i64 65) ∧ Blk w' bp yc 79 ∧ But bp bp W w')) (HI : Hid (∀ W, Blk W bp yc 79 → Calls Try.prog 55 #[.pointer (some ⟨bp, 0, none⟩), .int .i64 2] W fun e w' => e = .returned (.int .i64 id) ∧ Blk w' bp zc 79 ∧ But bp bp W w')) (HM : Hid (∀ W, Blk W bp zc 79 → Calls Try.prog 59 #[.pointer (some ⟨bp, 0, none⟩), .func (.func 60) #[] #[]] W fun e w' => e = .returned (.agg #[.int .i64 m0, .int .i64 m1, .int .i64 m2, .int .i64 m3, .int .i64 m4, .int .i64 m5]) ∧ Blk w' bp uc 79 ∧ But bp bp W w')) :
    Calls Try.prog 42 #[.pointer (some ⟨bp, 0, none⟩)] w fun e w' => e = .returned (.agg #[.int .i64 65, .int .i64 0, .int .i64 0, .int .i64 0, .int .i64 0, .int .i64 m0, .int .i64 m1, .int .i64 m2, .int .i64 m3, .int .i64 m4, .int .i64 m5, .int .i64 0, .slice none 0 0, .int .i64 id]) ∧ Blk w' bp uc 79 ∧ Bt bp w w' := by
  have hpw := Bp_0.lt
  have HBt : Bt bp w w := but_refl _ _ _
  have SM : SzM w w.heap.size w.heap.size := ⟨Nat.le_refl _⟩
  have hsz : w.heap.size ≤ w.heap.size := Nat.le_refl _
  go_enter Try.func42, Try.ntmps42
  go_wp2_with (first
    | (refine wl_alloc 28 _ zeroFL8 rfl rfl ?_; intro W1 bo Bo_1 l1 k1; have npo : bp ≠ bo := Nat.ne_of_lt (Nat.lt_of_lt_of_le Bp_0.lt l1); have loo := Nat.le_trans SM.le l1; have Bp_1 := Bp_0.keep k1; have Ob_1 := HBt.keep k1; have Om_1 := SM.keep k1; clear l1 k1 Bp_0 HBt SM)
    | (go_at_call 55; (with_reducible refine (HN.out _ Bp_1).mono ?_); rintro e W2 ⟨rfl, Bp_2, k2⟩; have Bo_2 := Bo_1.but k2 (Ne.symm npo) (Ne.symm npo); have Ob_2 := Ob_1.but k2 (Or.inl rfl); have Om_2 := Om_1.but k2 (Or.inl hpw); clear k2 Bo_1 Ob_1 Om_1 Bp_1)
    | (refine wl_alloc 28 _ zeroFL8 rfl rfl ?_; intro W3 bf Bf_3 l3 k3; have npf : bp ≠ bf := Nat.ne_of_lt (Nat.lt_of_lt_of_le Bp_2.lt l3); have nof : bo ≠ bf := Nat.ne_of_lt (Nat.lt_of_lt_of_le Bo_2.lt l3); have lof := Nat.le_trans Om_2.le l3; have Bp_3 := Bp_2.keep k3; have Bo_3 := Bo_2.keep k3; have Ob_3 := Ob_2.keep k3; have Om_3 := Om_2.keep k3; clear l3 k3 Bp_2 Bo_2 Ob_2 Om_2)
    | (refine wl_store 28 14 size28g8 _ _ rfl rfl _ rfl #[.int .i64 65, .int .i64 0, .int .i64 0, .int .i64 0, .int .i64 0, .int .i64 0, .int .i64 0, .int .i64 0, .int .i64 0, .int .i64 0, .int .i64 0, .int .i64 0, .slice none 0 0, .int .i64 0] rfl _ _ Bf_3 rfl rfl (by kernel_rfl) ?_; intro W4 Bf_4 T4; have Bp_4 := T4.blk Bp_3 npf; have Bo_4 := T4.blk Bo_3 nof; have Ob_4 := Ob_3.turned T4 (Or.inr (Nat.le_trans hsz lof)); have Om_4 := Om_3.turned T4 (Or.inr lof); clear T4 Bp_3 Bo_3 Ob_3 Om_3 Bf_3; have cf_0_4 : W4.cell? ⟨bf, 0, none⟩ = some (.int .i64 65) := Bf_4.cell 0)
    | (go_at_call 55; (with_reducible refine (HI.out _ Bp_4).mono ?_); rintro e W5 ⟨rfl, Bp_5, k5⟩; have Bo_5 := Bo_4.but k5 (Ne.symm npo) (Ne.symm npo); have Bf_5 := Bf_4.but k5 (Ne.symm npf) (Ne.symm npf); have Ob_5 := Ob_4.but k5 (Or.inl rfl); have Om_5 := Om_4.but k5 (Or.inl hpw); clear k5 Bo_4 Bf_4 Ob_4 Om_4 cf_0_4 Bp_4)
    | (refine wl_set 3 _ _ rfl rfl bf 13 rfl (.int .i64 id) rfl rfl size3s _ _ Bf_5 (by decide : 13 < 14) ?_; intro W6 Bf_6 T6; have Bp_6 := T6.blk Bp_5 npf; have Bo_6 := T6.blk Bo_5 nof; have Ob_6 := Ob_5.turned T6 (Or.inr (Nat.le_trans hsz lof)); have Om_6 := Om_5.turned T6 (Or.inr lof); clear T6 Bp_5 Bo_5 Ob_5 Om_5 Bf_5)
    | (go_at_call 59; (with_reducible refine (HM.out _ Bp_6).mono ?_); rintro e W7 ⟨rfl, Bp_7, k7⟩; have Bo_7 := Bo_6.but k7 (Ne.symm npo) (Ne.symm npo); have Bf_7 := Bf_6.but k7 (Ne.symm npf) (Ne.symm npf); have Ob_7 := Ob_6.but k7 (Or.inl rfl); have Om_7 := Om_6.but k7 (Or.inl hpw); clear k7 Bo_6 Bf_6 Ob_6 Om_6 Bp_6)
    | (refine wl_putAt 25 _ _ rfl rfl bf 5 rfl #[.int .i64 m0, .int .i64 m1, .int .i64 m2, .int .i64 m3, .int .i64 m4, .int .i64 m5] rfl size25g8 (by kernel_rfl) _ _ Bf_7 (by decide : 5 + 6 ≤ 14) #[.int .i64 65, .int .i64 0, .int .i64 0, .int .i64 0, .int .i64 0, .int .i64 m0, .int .i64 m1, .int .i64 m2, .int .i64 m3, .int .i64 m4, .int .i64 m5, .int .i64 0, .slice none 0 0, .int .i64 id] (by kernel_rfl) ?_; intro W8 Bf_8 T8; have Bp_8 := T8.blk Bp_7 npf; have Bo_8 := T8.blk Bo_7 nof; have Ob_8 := Ob_7.turned T8 (Or.inr (Nat.le_trans hsz lof)); have Om_8 := Om_7.turned T8 (Or.inr lof); clear T8 Bp_7 Bo_7 Ob_7 Om_7 Bf_7)
    | (refine wl_load 28 14 _ Try.underlying28 rfl size28g8 _ rfl rfl _ rfl _ _ Bf_8 rfl ?_)
    | (refine wl_store 28 14 size28g8 _ _ rfl rfl _ rfl _ rfl _ _ Bo_8 rfl rfl (by kernel_rfl) ?_; intro W9 Bo_9 T9; have Bp_9 := T9.blk Bp_8 npo; have Bf_9 := T9.blk Bf_8 (Ne.symm nof); have Ob_9 := Ob_8.turned T9 (Or.inr (Nat.le_trans hsz loo)); have Om_9 := Om_8.turned T9 (Or.inr loo); clear T9 Bp_8 Bf_8 Ob_8 Om_8 Bo_8))
  exact post_cell Try.underlying28 rfl size28g8 Try.results42 Bo_9 rfl rfl rfl ⟨rfl, Bp_9, Ob_9⟩
set_option maxHeartbeats 2000000 in
theorem ptfill_none (kk : Int) (xc yc zc : Array Value) (bp : Nat) (w : World) (Bp_0 : Blk w bp xc 79) (k0 : (kk == 0) = false) (k16 : (kk == 16) = false) (k18 : (kk == 18) = false) (k64 : (kk == 64) = false) (k65 : (kk == 65) = false) (HN : Hid (∀ W, Blk W bp xc 79 → Calls Try.prog 55 #[.pointer (some ⟨bp, 0, none⟩), .int .i64 1] W fun e w' => e = .returned (.int .i64 kk) ∧ Blk w' bp yc 79 ∧ But bp bp W w')) (HD : Hid (∀ W, Blk W bp yc 79 → Calls Try.prog 56 #[.pointer (some ⟨bp, 0, none⟩), .bool false, .int .i64 3] W fun e w' => e = .returned (.tuple #[]) ∧ Blk w' bp zc 79 ∧ But bp bp W w')) :
    Calls Try.prog 42 #[.pointer (some ⟨bp, 0, none⟩)] w fun e w' => e = .returned (.agg #[.int .i64 kk, .int .i64 0, .int .i64 0, .int .i64 0, .int .i64 0, .int .i64 0, .int .i64 0, .int .i64 0, .int .i64 0, .int .i64 0, .int .i64 0, .int .i64 0, .slice none 0 0, .int .i64 0]) ∧ Blk w' bp zc 79 ∧ Bt bp w w' := by
  have hpw := Bp_0.lt
  have HBt : Bt bp w w := but_refl _ _ _
  have SM : SzM w w.heap.size w.heap.size := ⟨Nat.le_refl _⟩
  have hsz : w.heap.size ≤ w.heap.size := Nat.le_refl _
  go_enter Try.func42, Try.ntmps42
  go_wp2_with (first
    | (refine wl_alloc 28 _ zeroFL8 rfl rfl ?_; intro W1 bo Bo_1 l1 k1; have npo : bp ≠ bo := Nat.ne_of_lt (Nat.lt_of_lt_of_le Bp_0.lt l1); have loo := Nat.le_trans SM.le l1; have Bp_1 := Bp_0.keep k1; have Ob_1 := HBt.keep k1; have Om_1 := SM.keep k1; clear l1 k1 Bp_0 HBt SM)
    | (go_at_call 55; (with_reducible refine (HN.out _ Bp_1).mono ?_); rintro e W2 ⟨rfl, Bp_2, k2⟩; have Bo_2 := Bo_1.but k2 (Ne.symm npo) (Ne.symm npo); have Ob_2 := Ob_1.but k2 (Or.inl rfl); have Om_2 := Om_1.but k2 (Or.inl hpw); clear k2 Bo_1 Ob_1 Om_1 Bp_1)
    | (refine wl_alloc 28 _ zeroFL8 rfl rfl ?_; intro W3 bf Bf_3 l3 k3; have npf : bp ≠ bf := Nat.ne_of_lt (Nat.lt_of_lt_of_le Bp_2.lt l3); have nof : bo ≠ bf := Nat.ne_of_lt (Nat.lt_of_lt_of_le Bo_2.lt l3); have lof := Nat.le_trans Om_2.le l3; have Bp_3 := Bp_2.keep k3; have Bo_3 := Bo_2.keep k3; have Ob_3 := Ob_2.keep k3; have Om_3 := Om_2.keep k3; clear l3 k3 Bp_2 Bo_2 Ob_2 Om_2)
    | (refine wl_store 28 14 size28g8 _ _ rfl rfl _ rfl #[.int .i64 kk, .int .i64 0, .int .i64 0, .int .i64 0, .int .i64 0, .int .i64 0, .int .i64 0, .int .i64 0, .int .i64 0, .int .i64 0, .int .i64 0, .int .i64 0, .slice none 0 0, .int .i64 0] rfl _ _ Bf_3 rfl rfl (by kernel_rfl) ?_; intro W4 Bf_4 T4; have Bp_4 := T4.blk Bp_3 npf; have Bo_4 := T4.blk Bo_3 nof; have Ob_4 := Ob_3.turned T4 (Or.inr (Nat.le_trans hsz lof)); have Om_4 := Om_3.turned T4 (Or.inr lof); clear T4 Bp_3 Bo_3 Ob_3 Om_3 Bf_3; have cf_0_4 : W4.cell? ⟨bf, 0, none⟩ = some (.int .i64 kk) := Bf_4.cell 0)
    | (go_at_call 56; (with_reducible refine (HD.out _ Bp_4).mono ?_); rintro e W5 ⟨rfl, Bp_5, k5⟩; have Bo_5 := Bo_4.but k5 (Ne.symm npo) (Ne.symm npo); have Bf_5 := Bf_4.but k5 (Ne.symm npf) (Ne.symm npf); have Ob_5 := Ob_4.but k5 (Or.inl rfl); have Om_5 := Om_4.but k5 (Or.inl hpw); clear k5 Bo_4 Bf_4 Ob_4 Om_4 cf_0_4 Bp_4)
    | (refine wl_load 28 14 _ Try.underlying28 rfl size28g8 _ rfl rfl _ rfl _ _ Bf_5 rfl ?_)
    | (refine wl_store 28 14 size28g8 _ _ rfl rfl _ rfl _ rfl _ _ Bo_5 rfl rfl (by kernel_rfl) ?_; intro W6 Bo_6 T6; have Bp_6 := T6.blk Bp_5 npo; have Bf_6 := T6.blk Bf_5 (Ne.symm nof); have Ob_6 := Ob_5.turned T6 (Or.inr (Nat.le_trans hsz loo)); have Om_6 := Om_5.turned T6 (Or.inr loo); clear T6 Bp_5 Bf_5 Ob_5 Om_5 Bo_5))
  exact post_cell Try.underlying28 rfl size28g8 Try.results42 Bo_6 rfl rfl rfl ⟨rfl, Bp_6, Ob_6⟩
set_option maxHeartbeats 2000000 in
theorem ptfill_16 (sp m0 m1 m2 m3 m4 m5 : Int) (st : List (List Int)) (xc yc zc uc : Array Value) (bp : Nat) (w : World) (Bp_0 : Blk w bp xc 79) (HN : Hid (∀ W, Blk W bp xc 79 → Calls Try.prog 55 #[.pointer (some ⟨bp, 0, none⟩), .int .i64 1] W fun e w' => e = .returned (.int .i64 16) ∧ Blk w' bp yc 79 ∧ But bp bp W w')) (HM : Hid (∀ W, Blk W bp yc 79 → Calls Try.prog 59 #[.pointer (some ⟨bp, 0, none⟩), .func (.func 60) #[] #[]] W fun e w' => e = .returned (.agg #[.int .i64 m0, .int .i64 m1, .int .i64 m2, .int .i64 m3, .int .i64 m4, .int .i64 m5]) ∧ Blk w' bp zc 79 ∧ But bp bp W w'))
    (HS : Hid (∀ W, Blk W bp zc 79 → Calls Try.prog 61 #[.pointer (some ⟨bp, 0, none⟩)] W fun e w' => ∃ sa sn sc, e = .returned (.tuple #[.int .i64 sp, .slice sa sn sc]) ∧ OwnP w' W.heap.size 65 (.slice sa sn sc) st ∧ Blk w' bp uc 79 ∧ But bp bp W w')) :
    Calls Try.prog 42 #[.pointer (some ⟨bp, 0, none⟩)] w fun e w' => ∃ sv, e = .returned (.agg #[.int .i64 16, .int .i64 0, .int .i64 0, .int .i64 0, .int .i64 0, .int .i64 m0, .int .i64 m1, .int .i64 m2, .int .i64 m3, .int .i64 m4, .int .i64 m5, .int .i64 sp, sv, .int .i64 0]) ∧ OwnP w' w.heap.size 65 sv st ∧ Blk w' bp uc 79 ∧ Bt bp w w' := by
  have hpw := Bp_0.lt
  have HBt : Bt bp w w := but_refl _ _ _
  have SM : SzM w w.heap.size w.heap.size := ⟨Nat.le_refl _⟩
  have hsz : w.heap.size ≤ w.heap.size := Nat.le_refl _
  go_enter Try.func42, Try.ntmps42
  go_wp2_with (first
    | (refine wl_alloc 28 _ zeroFL8 rfl rfl ?_; intro W1 bo Bo_1 l1 k1; have npo : bp ≠ bo := Nat.ne_of_lt (Nat.lt_of_lt_of_le Bp_0.lt l1); have loo := Nat.le_trans SM.le l1; have Bp_1 := Bp_0.keep k1; have Ob_1 := HBt.keep k1; have Om_1 := SM.keep k1; clear l1 k1 Bp_0 HBt SM)
    | (go_at_call 55; (with_reducible refine (HN.out _ Bp_1).mono ?_); rintro e W2 ⟨rfl, Bp_2, k2⟩; have Bo_2 := Bo_1.but k2 (Ne.symm npo) (Ne.symm npo); have Ob_2 := Ob_1.but k2 (Or.inl rfl); have Om_2 := Om_1.but k2 (Or.inl hpw); clear k2 Bo_1 Ob_1 Om_1 Bp_1)
    | (refine wl_alloc 28 _ zeroFL8 rfl rfl ?_; intro W3 bf Bf_3 l3 k3; have npf : bp ≠ bf := Nat.ne_of_lt (Nat.lt_of_lt_of_le Bp_2.lt l3); have nof : bo ≠ bf := Nat.ne_of_lt (Nat.lt_of_lt_of_le Bo_2.lt l3); have lof := Nat.le_trans Om_2.le l3; have Bp_3 := Bp_2.keep k3; have Bo_3 := Bo_2.keep k3; have Ob_3 := Ob_2.keep k3; have Om_3 := Om_2.keep k3; clear l3 k3 Bp_2 Bo_2 Ob_2 Om_2)
    | (refine wl_store 28 14 size28g8 _ _ rfl rfl _ rfl #[.int .i64 16, .int .i64 0, .int .i64 0, .int .i64 0, .int .i64 0, .int .i64 0, .int .i64 0, .int .i64 0, .int .i64 0, .int .i64 0, .int .i64 0, .int .i64 0, .slice none 0 0, .int .i64 0] rfl _ _ Bf_3 rfl rfl (by kernel_rfl) ?_; intro W4 Bf_4 T4; have Bp_4 := T4.blk Bp_3 npf; have Bo_4 := T4.blk Bo_3 nof; have Ob_4 := Ob_3.turned T4 (Or.inr (Nat.le_trans hsz lof)); have Om_4 := Om_3.turned T4 (Or.inr lof); clear T4 Bp_3 Bo_3 Ob_3 Om_3 Bf_3; have cf_0_4 : W4.cell? ⟨bf, 0, none⟩ = some (.int .i64 16) := Bf_4.cell 0)
    | (go_at_call 59; (with_reducible refine (HM.out _ Bp_4).mono ?_); rintro e W5 ⟨rfl, Bp_5, k5⟩; have Bo_5 := Bo_4.but k5 (Ne.symm npo) (Ne.symm npo); have Bf_5 := Bf_4.but k5 (Ne.symm npf) (Ne.symm npf); have Ob_5 := Ob_4.but k5 (Or.inl rfl); have Om_5 := Om_4.but k5 (Or.inl hpw); clear k5 Bo_4 Bf_4 Ob_4 Om_4 cf_0_4 Bp_4)
    | (refine wl_putAt 25 _ _ rfl rfl bf 5 rfl #[.int .i64 m0, .int .i64 m1, .int .i64 m2, .int .i64 m3, .int .i64 m4, .int .i64 m5] rfl size25g8 (by kernel_rfl) _ _ Bf_5 (by decide : 5 + 6 ≤ 14) #[.int .i64 16, .int .i64 0, .int .i64 0, .int .i64 0, .int .i64 0, .int .i64 m0, .int .i64 m1, .int .i64 m2, .int .i64 m3, .int .i64 m4, .int .i64 m5, .int .i64 0, .slice none 0 0, .int .i64 0] (by kernel_rfl) ?_; intro W6 Bf_6 T6; have Bp_6 := T6.blk Bp_5 npf; have Bo_6 := T6.blk Bo_5 nof; have Ob_6 := Ob_5.turned T6 (Or.inr (Nat.le_trans hsz lof)); have Om_6 := Om_5.turned T6 (Or.inr lof); clear T6 Bp_5 Bo_5 Ob_5 Om_5 Bf_5)
    | (go_at_call 61; (with_reducible refine (HS.out _ Bp_6).mono ?_); rintro e W7 ⟨sa, sn, sc, rfl, hO, Bp_7, k7⟩; have ltfS := Bf_6.lt; have ltoS := Bo_6.lt; have leS := Om_6.le; have OS := hO.m; clear hO; have Bo_7 := Bo_6.but k7 (Ne.symm npo) (Ne.symm npo); have Bf_7 := Bf_6.but k7 (Ne.symm npf) (Ne.symm npf); have Ob_7 := Ob_6.but k7 (Or.inl rfl); have Om_7 := Om_6.but k7 (Or.inl hpw); clear k7 Bo_6 Bf_6 Ob_6 Om_6 Bp_6)
    | (refine wl_set 3 _ _ rfl rfl bf 11 rfl (.int .i64 sp) rfl rfl size3s _ _ Bf_7 (by decide : 11 < 14) ?_; intro W8 Bf_8 T8; have Bp_8 := T8.blk Bp_7 npf; have Bo_8 := T8.blk Bo_7 nof; have Ob_8 := Ob_7.turned T8 (Or.inr (Nat.le_trans hsz lof)); have Om_8 := Om_7.turned T8 (Or.inr lof); have Os_8 := OS.turned T8 (Or.inl ltfS); clear T8 Bp_7 Bo_7 Ob_7 Om_7 OS Bf_7)
    | (refine wl_set 26 _ _ rfl rfl bf 12 rfl (.slice sa sn sc) rfl rfl size26g8 _ _ Bf_8 (by decide : 12 < 14) ?_; intro W9 Bf_9 T9; have Bp_9 := T9.blk Bp_8 npf; have Bo_9 := T9.blk Bo_8 nof; have Ob_9 := Ob_8.turned T9 (Or.inr (Nat.le_trans hsz lof)); have Om_9 := Om_8.turned T9 (Or.inr lof); have Os_9 := Os_8.turned T9 (Or.inl ltfS); clear T9 Bp_8 Bo_8 Ob_8 Om_8 Os_8 Bf_8)
    | (refine wl_load 28 14 _ Try.underlying28 rfl size28g8 _ rfl rfl _ rfl _ _ Bf_9 rfl ?_)
    | (refine wl_store 28 14 size28g8 _ _ rfl rfl _ rfl _ rfl _ _ Bo_9 rfl rfl (by kernel_rfl) ?_; intro W10 Bo_10 T10; have Bp_10 := T10.blk Bp_9 npo; have Bf_10 := T10.blk Bf_9 (Ne.symm nof); have Ob_10 := Ob_9.turned T10 (Or.inr (Nat.le_trans hsz loo)); have Om_10 := Om_9.turned T10 (Or.inr loo); have Os_10 := Os_9.turned T10 (Or.inl ltoS); clear T10 Bp_9 Bf_9 Ob_9 Om_9 Os_9 Bo_9))
  exact post_cell Try.underlying28 rfl size28g8 Try.results42 Bo_10 rfl rfl rfl ⟨.slice sa sn sc, rfl, Os_10.1.weaken leS, Bp_10, Ob_10⟩
set_option maxHeartbeats 2000000 in
theorem ptfill_18 (sp m0 m1 m2 m3 m4 m5 : Int) (st : List (List Int)) (xc yc zc uc : Array Value) (bp : Nat) (w : World) (Bp_0 : Blk w bp xc 79) (HN : Hid (∀ W, Blk W bp xc 79 → Calls Try.prog 55 #[.pointer (some ⟨bp, 0, none⟩), .int .i64 1] W fun e w' => e = .returned (.int .i64 18) ∧ Blk w' bp yc 79 ∧ But bp bp W w')) (HM : Hid (∀ W, Blk W bp yc 79 → Calls Try.prog 59 #[.pointer (some ⟨bp, 0, none⟩), .func (.func 60) #[] #[]] W fun e w' => e = .returned (.agg #[.int .i64 m0, .int .i64 m1, .int .i64 m2, .int .i64 m3, .int .i64 m4, .int .i64 m5]) ∧ Blk w' bp zc 79 ∧ But bp bp W w'))
    (HS : Hid (∀ W, Blk W bp zc 79 → Calls Try.prog 61 #[.pointer (some ⟨bp, 0, none⟩)] W fun e w' => ∃ sa sn sc, e = .returned (.tuple #[.int .i64 sp, .slice sa sn sc]) ∧ OwnP w' W.heap.size 65 (.slice sa sn sc) st ∧ Blk w' bp uc 79 ∧ But bp bp W w')) :
    Calls Try.prog 42 #[.pointer (some ⟨bp, 0, none⟩)] w fun e w' => ∃ sv, e = .returned (.agg #[.int .i64 18, .int .i64 0, .int .i64 0, .int .i64 0, .int .i64 0, .int .i64 m0, .int .i64 m1, .int .i64 m2, .int .i64 m3, .int .i64 m4, .int .i64 m5, .int .i64 sp, sv, .int .i64 0]) ∧ OwnP w' w.heap.size 65 sv st ∧ Blk w' bp uc 79 ∧ Bt bp w w' := by
  have hpw := Bp_0.lt
  have HBt : Bt bp w w := but_refl _ _ _
  have SM : SzM w w.heap.size w.heap.size := ⟨Nat.le_refl _⟩
  have hsz : w.heap.size ≤ w.heap.size := Nat.le_refl _
  go_enter Try.func42, Try.ntmps42
  go_wp2_with (first
    | (refine wl_alloc 28 _ zeroFL8 rfl rfl ?_; intro W1 bo Bo_1 l1 k1; have npo : bp ≠ bo := Nat.ne_of_lt (Nat.lt_of_lt_of_le Bp_0.lt l1); have loo := Nat.le_trans SM.le l1; have Bp_1 := Bp_0.keep k1; have Ob_1 := HBt.keep k1; have Om_1 := SM.keep k1; clear l1 k1 Bp_0 HBt SM)
    | (go_at_call 55; (with_reducible refine (HN.out _ Bp_1).mono ?_); rintro e W2 ⟨rfl, Bp_2, k2⟩; have Bo_2 := Bo_1.but k2 (Ne.symm npo) (Ne.symm npo); have Ob_2 := Ob_1.but k2 (Or.inl rfl); have Om_2 := Om_1.but k2 (Or.inl hpw); clear k2 Bo_1 Ob_1 Om_1 Bp_1)
    | (refine wl_alloc 28 _ zeroFL8 rfl rfl ?_; intro W3 bf Bf_3 l3 k3; have npf : bp ≠ bf := Nat.ne_of_lt (Nat.lt_of_lt_of_le Bp_2.lt l3); have nof : bo ≠ bf := Nat.ne_of_lt (Nat.lt_of_lt_of_le Bo_2.lt l3); have lof := Nat.le_trans Om_2.le l3; have Bp_3 := Bp_2.keep k3; have Bo_3 := Bo_2.keep k3; have Ob_3 := Ob_2.keep k3; have Om_3 := Om_2.keep k3; clear l3 k3 Bp_2 Bo_2 Ob_2 Om_2)
    | (refine wl_store 28 14 size28g8 _ _ rfl rfl _ rfl #[.int .i64 18, .int .i64 0, .int .i64 0, .int .i64 0, .int .i64 0, .int .i64 0, .int .i64 0, .int .i64 0, .int .i64 0, .int .i64 0, .int .i64 0, .int .i64 0, .slice none 0 0, .int .i64 0] rfl _ _ Bf_3 rfl rfl (by kernel_rfl) ?_; intro W4 Bf_4 T4; have Bp_4 := T4.blk Bp_3 npf; have Bo_4 := T4.blk Bo_3 nof; have Ob_4 := Ob_3.turned T4 (Or.inr (Nat.le_trans hsz lof)); have Om_4 := Om_3.turned T4 (Or.inr lof); clear T4 Bp_3 Bo_3 Ob_3 Om_3 Bf_3; have cf_0_4 : W4.cell? ⟨bf, 0, none⟩ = some (.int .i64 18) := Bf_4.cell 0)
    | (go_at_call 59; (with_reducible refine (HM.out _ Bp_4).mono ?_); rintro e W5 ⟨rfl, Bp_5, k5⟩; have Bo_5 := Bo_4.but k5 (Ne.symm npo) (Ne.symm npo); have Bf_5 := Bf_4.but k5 (Ne.symm npf) (Ne.symm npf); have Ob_5 := Ob_4.but k5 (Or.inl rfl); have Om_5 := Om_4.but k5 (Or.inl hpw); clear k5 Bo_4 Bf_4 Ob_4 Om_4 cf_0_4 Bp_4)
    | (refine wl_putAt 25 _ _ rfl rfl bf 5 rfl #[.int .i64 m0, .int .i64 m1, .int .i64 m2, .int .i64 m3, .int .i64 m4, .int .i64 m5] rfl size25g8 (by kernel_rfl) _ _ Bf_5 (by decide : 5 + 6 ≤ 14) #[.int .i64 18, .int .i64 0, .int .i64 0, .int .i64 0, .int .i64 0, .int .i64 m0, .int .i64 m1, .int .i64 m2, .int .i64 m3, .int .i64 m4, .int .i64 m5, .int .i64 0, .slice none 0 0, .int .i64 0] (by kernel_rfl) ?_; intro W6 Bf_6 T6; have Bp_6 := T6.blk Bp_5 npf; have Bo_6 := T6.blk Bo_5 nof; have Ob_6 := Ob_5.turned T6 (Or.inr (Nat.le_trans hsz lof)); have Om_6 := Om_5.turned T6 (Or.inr lof); clear T6 Bp_5 Bo_5 Ob_5 Om_5 Bf_5)
    | (go_at_call 61; (with_reducible refine (HS.out _ Bp_6).mono ?_); rintro e W7 ⟨sa, sn, sc, rfl, hO, Bp_7, k7⟩; have ltfS := Bf_6.lt; have ltoS := Bo_6.lt; have leS := Om_6.le; have OS := hO.m; clear hO; have Bo_7 := Bo_6.but k7 (Ne.symm npo) (Ne.symm npo); have Bf_7 := Bf_6.but k7 (Ne.symm npf) (Ne.symm npf); have Ob_7 := Ob_6.but k7 (Or.inl rfl); have Om_7 := Om_6.but k7 (Or.inl hpw); clear k7 Bo_6 Bf_6 Ob_6 Om_6 Bp_6)
    | (refine wl_set 3 _ _ rfl rfl bf 11 rfl (.int .i64 sp) rfl rfl size3s _ _ Bf_7 (by decide : 11 < 14) ?_; intro W8 Bf_8 T8; have Bp_8 := T8.blk Bp_7 npf; have Bo_8 := T8.blk Bo_7 nof; have Ob_8 := Ob_7.turned T8 (Or.inr (Nat.le_trans hsz lof)); have Om_8 := Om_7.turned T8 (Or.inr lof); have Os_8 := OS.turned T8 (Or.inl ltfS); clear T8 Bp_7 Bo_7 Ob_7 Om_7 OS Bf_7)
    | (refine wl_set 26 _ _ rfl rfl bf 12 rfl (.slice sa sn sc) rfl rfl size26g8 _ _ Bf_8 (by decide : 12 < 14) ?_; intro W9 Bf_9 T9; have Bp_9 := T9.blk Bp_8 npf; have Bo_9 := T9.blk Bo_8 nof; have Ob_9 := Ob_8.turned T9 (Or.inr (Nat.le_trans hsz lof)); have Om_9 := Om_8.turned T9 (Or.inr lof); have Os_9 := Os_8.turned T9 (Or.inl ltfS); clear T9 Bp_8 Bo_8 Ob_8 Om_8 Os_8 Bf_8)
    | (refine wl_load 28 14 _ Try.underlying28 rfl size28g8 _ rfl rfl _ rfl _ _ Bf_9 rfl ?_)
    | (refine wl_store 28 14 size28g8 _ _ rfl rfl _ rfl _ rfl _ _ Bo_9 rfl rfl (by kernel_rfl) ?_; intro W10 Bo_10 T10; have Bp_10 := T10.blk Bp_9 npo; have Bf_10 := T10.blk Bf_9 (Ne.symm nof); have Ob_10 := Ob_9.turned T10 (Or.inr (Nat.le_trans hsz loo)); have Om_10 := Om_9.turned T10 (Or.inr loo); have Os_10 := Os_9.turned T10 (Or.inl ltoS); clear T10 Bp_9 Bf_9 Ob_9 Om_9 Os_9 Bo_9))
  exact post_cell Try.underlying28 rfl size28g8 Try.results42 Bo_10 rfl rfl rfl ⟨.slice sa sn sc, rfl, Os_10.1.weaken leS, Bp_10, Ob_10⟩
def PtFill (w : World) (bp : Nat) (x : RS) (e : Ending) (w' : World) : Prop := ∃ sv, e = .returned (.agg (fillC (fillT x).1 sv).toArray) ∧ OwnP w' w.heap.size 65 sv (fillT x).1.st ∧ Tk8 w' bp (fillT x).2 ∧ Bt bp w w'
theorem ptFill_of {w w' : World} {bp : Nat} {x y : RS} {F : FV} {e : Ending} (h : fillT x = (F, y)) (sv : Value) (he : e = .returned (.agg (fillC F sv).toArray)) (ho : OwnP w' w.heap.size 65 sv F.st) (ht : Tk8 w' bp y) (hb : Bt bp w w') : PtFill w bp x e w' :=
  ⟨sv, by rw [h]; exact he, by rw [h]; exact ho, by rw [h]; exact ht, hb⟩
theorem ptfill_any (x : RS) (bp : Nat) (w : World) (hx : Tk8 w bp x) (hs : x.s.size ≤ 1000000) : Calls Try.prog 42 #[.pointer (some ⟨bp, 0, none⟩)] w (PtFill w bp x) := by
  have hy := RS.liS_size x 1 hs
  have HN := Lib.hid (fun W (h : Blk W bp x.cells 79) => tnumber_any x 1 bp W h hs (by decide) (by decide))
  have FP := @ptFill_of w
  by_cases k0 : x.li 1 = 0
  · have ef : fillT x = (⟨0, (x.liS 1).cv, [0, 0, 0, 0, 0, 0], 0, [], 0⟩, (x.liS 1).cvS) := if_pos k0
    rw [k0] at HN
    obtain ⟨r, g, b, a, hcv⟩ := list4 _ (cv_len (x.liS 1))
    have HC := Lib.hid (fun W (h : Blk W bp (x.liS 1).cells 79) => takecol_any (x.liS 1) bp W h hy)
    rw [hcv] at HC ef
    exact (ptfill_0 r g b a _ _ _ bp w hx HN HC).mono fun e w' ⟨h1, h2, h3⟩ => FP ef (.slice none 0 0) h1 (ownP_nil _ _ _) h2 h3
  by_cases k64 : x.li 1 = 64
  · have ef : fillT x = (⟨64, [0, 0, 0, 0], ((x.liS 1).liS 2).mv, 0, [], (x.liS 1).li 2⟩, ((x.liS 1).liS 2).mvS) := by
      unfold fillT
      rw [if_neg (by rw [k64]; decide), if_pos (by rw [k64]; decide), k64]
    rw [k64] at HN
    have HI := Lib.hid (fun W (h : Blk W bp (x.liS 1).cells 79) => tnumber_any (x.liS 1) 2 bp W h hy (by decide) (by decide))
    have hz := RS.liS_size (x.liS 1) 2 hy
    have HM := Lib.hid (fun W (h : Blk W bp ((x.liS 1).liS 2).cells 79) => takemat_any ((x.liS 1).liS 2) bp W h hz)
    obtain ⟨m0, m1, m2, m3, m4, m5, hmv⟩ := list6 _ (mv_len ((x.liS 1).liS 2))
    rw [hmv] at HM ef
    exact (ptfill_64 _ m0 m1 m2 m3 m4 m5 _ _ _ _ bp w hx HN HI HM).mono fun e w' ⟨h1, h2, h3⟩ => FP ef (.slice none 0 0) h1 (ownP_nil _ _ _) h2 h3
  by_cases k65 : x.li 1 = 65
  · have ef : fillT x = (⟨65, [0, 0, 0, 0], ((x.liS 1).liS 2).mv, 0, [], (x.liS 1).li 2⟩, ((x.liS 1).liS 2).mvS) := by
      unfold fillT
      rw [if_neg (by rw [k65]; decide), if_pos (by rw [k65]; decide), k65]
    rw [k65] at HN
    have HI := Lib.hid (fun W (h : Blk W bp (x.liS 1).cells 79) => tnumber_any (x.liS 1) 2 bp W h hy (by decide) (by decide))
    have hz := RS.liS_size (x.liS 1) 2 hy
    have HM := Lib.hid (fun W (h : Blk W bp ((x.liS 1).liS 2).cells 79) => takemat_any ((x.liS 1).liS 2) bp W h hz)
    obtain ⟨m0, m1, m2, m3, m4, m5, hmv⟩ := list6 _ (mv_len ((x.liS 1).liS 2))
    rw [hmv] at HM ef
    exact (ptfill_65 _ m0 m1 m2 m3 m4 m5 _ _ _ _ bp w hx HN HI HM).mono fun e w' ⟨h1, h2, h3⟩ => FP ef (.slice none 0 0) h1 (ownP_nil _ _ _) h2 h3
  by_cases k16 : x.li 1 = 16
  · have ef : fillT x = (⟨16, [0, 0, 0, 0], (x.liS 1).mv, (x.liS 1).mvS.li 1 / 64, (stopsT (grX (x.liS 1)) ((x.liS 1).mvS.li 1 % 16).toNat).1, 0⟩, (stopsT (grX (x.liS 1)) ((x.liS 1).mvS.li 1 % 16).toNat).2) := by
      unfold fillT
      rw [if_neg (by rw [k16]; decide), if_neg (by rw [k16]; decide), if_pos (by rw [k16]; decide), k16]
    rw [k16] at HN
    have HM := Lib.hid (fun W (h : Blk W bp (x.liS 1).cells 79) => takemat_any (x.liS 1) bp W h hy)
    have hz := mvS_size (x.liS 1) hy
    have HS : Hid (∀ W, Blk W bp (x.liS 1).mvS.cells 79 → Calls Try.prog 61 #[.pointer (some ⟨bp, 0, none⟩)] W fun e w' => ∃ sa sn sc, e = .returned (.tuple #[.int .i64 ((x.liS 1).mvS.li 1 / 64), .slice sa sn sc]) ∧ OwnP w' W.heap.size 65 (.slice sa sn sc) (stopsT (grX (x.liS 1)) ((x.liS 1).mvS.li 1 % 16).toNat).1 ∧ Blk w' bp (stopsT (grX (x.liS 1)) ((x.liS 1).mvS.li 1 % 16).toNat).2.cells 79 ∧ But bp bp W w') := Lib.hid fun W h => (ptstops_any (x.liS 1).mvS bp W h hz).mono fun e w' ⟨sv, h1, h2, h3, h4⟩ => by
      obtain ⟨sa, sc, hsv⟩ := h2.1.slice
      subst hsv
      exact ⟨sa, _, sc, h1, h2, h3, h4⟩
    obtain ⟨m0, m1, m2, m3, m4, m5, hmv⟩ := list6 _ (mv_len (x.liS 1))
    rw [hmv] at HM ef
    exact (ptfill_16 _ m0 m1 m2 m3 m4 m5 _ _ _ _ _ bp w hx HN HM HS).mono fun e w' ⟨sv, h1, h2, h3, h4⟩ => FP ef sv h1 h2 h3 h4
  by_cases k18 : x.li 1 = 18
  · have ef : fillT x = (⟨18, [0, 0, 0, 0], (x.liS 1).mv, (x.liS 1).mvS.li 1 / 64, (stopsT (grX (x.liS 1)) ((x.liS 1).mvS.li 1 % 16).toNat).1, 0⟩, (stopsT (grX (x.liS 1)) ((x.liS 1).mvS.li 1 % 16).toNat).2) := by
      unfold fillT
      rw [if_neg (by rw [k18]; decide), if_neg (by rw [k18]; decide), if_pos (by rw [k18]; decide), k18]
    rw [k18] at HN
    have HM := Lib.hid (fun W (h : Blk W bp (x.liS 1).cells 79) => takemat_any (x.liS 1) bp W h hy)
    have hz := mvS_size (x.liS 1) hy
    have HS : Hid (∀ W, Blk W bp (x.liS 1).mvS.cells 79 → Calls Try.prog 61 #[.pointer (some ⟨bp, 0, none⟩)] W fun e w' => ∃ sa sn sc, e = .returned (.tuple #[.int .i64 ((x.liS 1).mvS.li 1 / 64), .slice sa sn sc]) ∧ OwnP w' W.heap.size 65 (.slice sa sn sc) (stopsT (grX (x.liS 1)) ((x.liS 1).mvS.li 1 % 16).toNat).1 ∧ Blk w' bp (stopsT (grX (x.liS 1)) ((x.liS 1).mvS.li 1 % 16).toNat).2.cells 79 ∧ But bp bp W w') := Lib.hid fun W h => (ptstops_any (x.liS 1).mvS bp W h hz).mono fun e w' ⟨sv, h1, h2, h3, h4⟩ => by
      obtain ⟨sa, sc, hsv⟩ := h2.1.slice
      subst hsv
      exact ⟨sa, _, sc, h1, h2, h3, h4⟩
    obtain ⟨m0, m1, m2, m3, m4, m5, hmv⟩ := list6 _ (mv_len (x.liS 1))
    rw [hmv] at HM ef
    exact (ptfill_18 _ m0 m1 m2 m3 m4 m5 _ _ _ _ _ bp w hx HN HM HS).mono fun e w' ⟨sv, h1, h2, h3, h4⟩ => FP ef sv h1 h2 h3 h4
  · have ef : fillT x = (⟨x.li 1, [0, 0, 0, 0], [0, 0, 0, 0, 0, 0], 0, [], 0⟩, (x.liS 1).dem true 3) := by
      unfold fillT
      rw [if_neg k0, if_neg (by omega), if_neg (by omega)]
    have HD := Lib.hid (fun W (h : Blk W bp (x.liS 1).cells 79) => demand_any (x.liS 1) true 3 bp W h)
    exact (ptfill_none (x.li 1) _ _ _ bp w hx (beq_eq_false_iff_ne.2 k0) (beq_eq_false_iff_ne.2 k16) (beq_eq_false_iff_ne.2 k18) (beq_eq_false_iff_ne.2 k64) (beq_eq_false_iff_ne.2 k65) HN HD).mono fun e w' ⟨h1, h2, h3⟩ => FP ef (.slice none 0 0) h1 (ownP_nil _ _ _) h2 h3
end Go.Proofs.Ythlnjipefeglpaa
