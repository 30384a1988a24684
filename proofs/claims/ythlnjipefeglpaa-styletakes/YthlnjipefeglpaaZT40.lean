import Derived.Test.YthlnjipefeglpaaZT35
namespace Go.Proofs.Ythlnjipefeglpaa
open Go.RowKit
set_option linter.unusedVariables false
set_option linter.unusedSimpArgs false
set_option maxRecDepth 100000
set_option maxHeartbeats 4000000 in
theorem rfill_16_err (xa xe ya ye za ze qa qe m0 m1 m2 m3 m4 m5 : Int) (xs ys zs qs : ByteArray) (w : World) (HL : Hid (∀ W, Calls Try.prog 45 #[.agg #[.string xs, .int .i64 xa, .int .i64 xe], .int .i64 1] W fun e w' => e = .returned (.tuple #[.int .i64 16, .agg #[.string ys, .int .i64 ya, .int .i64 ye]]) ∧ Below W.heap.size W w')) (HM : Hid (∀ W, Calls Try.prog 63 #[.agg #[.string ys, .int .i64 ya, .int .i64 ye]] W fun e w' => e = .returned (.tuple #[.agg #[.int .i64 m0, .int .i64 m1, .int .i64 m2, .int .i64 m3, .int .i64 m4, .int .i64 m5], .agg #[.string zs, .int .i64 za, .int .i64 ze]]) ∧ Below W.heap.size W w')) (HN : Hid (∀ W, Calls Try.prog 45 #[.agg #[.string zs, .int .i64 za, .int .i64 ze], .int .i64 1] W fun e w' => e = .returned (.tuple #[.int .i64 0, .agg #[.string qs, .int .i64 qa, .int .i64 qe]]) ∧ Below W.heap.size W w')) (he : (qe == 0) = false) :
    Calls Try.prog 46 #[.agg #[.string xs, .int .i64 xa, .int .i64 xe]] w fun e w' => e = .returned (.tuple #[.agg #[.int .i64 16, .int .i64 0, .int .i64 0, .int .i64 0, .int .i64 0, .int .i64 m0, .int .i64 m1, .int .i64 m2, .int .i64 m3, .int .i64 m4, .int .i64 m5, .int .i64 0, .slice none 0 0, .int .i64 0], .agg #[.string qs, .int .i64 qa, .int .i64 qe]]) ∧ Below w.heap.size w w' := by
  go_enter Try.func46, Try.ntmps46
  go_upto_region 18 with (go_big_may; first
    | (refine wl_box 53 _ _ rfl rfl (show _ = Value.agg #[.string xs, .int .i64 xa, .int .i64 xe] from rfl) ?_; intro W1 bx Bx_1 l1 k1; have gx : w.heap.size ≤ bx := l1; have Hw1 := k1; clear l1 k1)
    | (refine wl_alloc 28 _ zeroFL8 rfl rfl ?_; intro W2 bo Bo_2 l2 k2; have go : w.heap.size ≤ bo := Nat.le_trans Hw1.size l2; have nxo : bx ≠ bo := Nat.ne_of_lt (Nat.lt_of_lt_of_le Bx_1.lt l2); have Bx_2 := Bx_1.keep k2; have Hw2 := bq_trans Hw1 k2; clear l2 k2 Bx_1 Hw1)
    | (refine wl_alloc 53 _ zero62 rfl rfl ?_; intro W3 bp Bp_3 l3 k3; have gp : w.heap.size ≤ bp := Nat.le_trans Hw2.size l3; have nxp : bx ≠ bp := Nat.ne_of_lt (Nat.lt_of_lt_of_le Bx_2.lt l3); have nop : bo ≠ bp := Nat.ne_of_lt (Nat.lt_of_lt_of_le Bo_2.lt l3); have Bx_3 := Bx_2.keep k3; have Bo_3 := Bo_2.keep k3; have Hw3 := bq_trans Hw2 k3; clear l3 k3 Bx_2 Bo_2 Hw2)
    | (refine wl_alloc 28 _ zeroFL8 rfl rfl ?_; intro W4 bf Bf_4 l4 k4; have gf : w.heap.size ≤ bf := Nat.le_trans Hw3.size l4; have nxf : bx ≠ bf := Nat.ne_of_lt (Nat.lt_of_lt_of_le Bx_3.lt l4); have nof : bo ≠ bf := Nat.ne_of_lt (Nat.lt_of_lt_of_le Bo_3.lt l4); have npf : bp ≠ bf := Nat.ne_of_lt (Nat.lt_of_lt_of_le Bp_3.lt l4); have Bx_4 := Bx_3.keep k4; have Bo_4 := Bo_3.keep k4; have Bp_4 := Bp_3.keep k4; have Hw4 := bq_trans Hw3 k4; clear l4 k4 Bx_3 Bo_3 Bp_3 Hw3)
    | (refine wl_store 28 14 size28g8 _ _ rfl rfl _ rfl #[.int .i64 0, .int .i64 0, .int .i64 0, .int .i64 0, .int .i64 0, .int .i64 0, .int .i64 0, .int .i64 0, .int .i64 0, .int .i64 0, .int .i64 0, .int .i64 0, .slice none 0 0, .int .i64 0] rfl _ _ Bf_4 rfl rfl (by kernel_rfl) ?_; intro W5 Bf_5 T5; have Bx_5 := T5.blk Bx_4 nxf; have Bo_5 := T5.blk Bo_4 nof; have Bp_5 := T5.blk Bp_4 npf; have Hw5 := T5.below Hw4 gf; clear T5 Bx_4 Bo_4 Bp_4 Bf_4 Hw4)
    | (refine wl_load 53 3 _ Try.underlying53 rfl size62 _ rfl rfl _ rfl _ _ Bx_5 rfl ?_)
    | (go_at_call 45; (with_reducible refine (HL.out _).mono ?_); rintro e W6 ⟨rfl, k6⟩; have Bx_6 := Bx_5.keep k6; have Bo_6 := Bo_5.keep k6; have Bp_6 := Bp_5.keep k6; have Bf_6 := Bf_5.keep k6; have Hw6 := bq_trans Hw5 k6; clear k6 Bx_5 Bo_5 Bp_5 Bf_5 Hw5)
    | (refine wl_set 3 _ _ rfl rfl bf 0 rfl (.int .i64 16) rfl rfl size3s _ _ Bf_6 (by decide : 0 < 14) ?_; intro W7 Bf_7 T7; have Bx_7 := T7.blk Bx_6 nxf; have Bo_7 := T7.blk Bo_6 nof; have Bp_7 := T7.blk Bp_6 npf; have Hw7 := T7.below Hw6 gf; clear T7 Bx_6 Bo_6 Bp_6 Bf_6 Hw6)
    | (refine wl_store 53 3 size62 _ _ rfl rfl _ rfl #[.string ys, .int .i64 ya, .int .i64 ye] rfl _ _ Bx_7 rfl rfl (by kernel_rfl) ?_; intro W8 Bx_8 T8; have Bo_8 := T8.blk Bo_7 (Ne.symm nxo); have Bp_8 := T8.blk Bp_7 (Ne.symm nxp); have Bf_8 := T8.blk Bf_7 (Ne.symm nxf); have Hw8 := T8.below Hw7 gx; clear T8 Bo_7 Bp_7 Bf_7 Bx_7 Hw7; have cf_0_8 : W8.cell? ⟨bf, 0, none⟩ = some (.int .i64 16) := Bf_8.cell 0)
    | (refine wl_load 53 3 _ Try.underlying53 rfl size62 _ rfl rfl _ rfl _ _ Bx_8 rfl ?_)
    | (go_at_call 63; (with_reducible refine (HM.out _).mono ?_); rintro e W9 ⟨rfl, k9⟩; have Bx_9 := Bx_8.keep k9; have Bo_9 := Bo_8.keep k9; have Bp_9 := Bp_8.keep k9; have Bf_9 := Bf_8.keep k9; have Hw9 := bq_trans Hw8 k9; clear k9 Bx_8 Bo_8 Bp_8 Bf_8 cf_0_8 Hw8)
    | (refine wl_putAt 25 _ _ rfl rfl bf 5 rfl #[.int .i64 m0, .int .i64 m1, .int .i64 m2, .int .i64 m3, .int .i64 m4, .int .i64 m5] rfl size25g8 (by kernel_rfl) _ _ Bf_9 (by decide : 5 + 6 ≤ 14) #[.int .i64 16, .int .i64 0, .int .i64 0, .int .i64 0, .int .i64 0, .int .i64 m0, .int .i64 m1, .int .i64 m2, .int .i64 m3, .int .i64 m4, .int .i64 m5, .int .i64 0, .slice none 0 0, .int .i64 0] (by kernel_rfl) ?_; intro W10 Bf_10 T10; have Bx_10 := T10.blk Bx_9 nxf; have Bo_10 := T10.blk Bo_9 nof; have Bp_10 := T10.blk Bp_9 npf; have Hw10 := T10.below Hw9 gf; clear T10 Bx_9 Bo_9 Bp_9 Bf_9 Hw9)
    | (refine wl_store 53 3 size62 _ _ rfl rfl _ rfl #[.string zs, .int .i64 za, .int .i64 ze] rfl _ _ Bx_10 rfl rfl (by kernel_rfl) ?_; intro W11 Bx_11 T11; have Bo_11 := T11.blk Bo_10 (Ne.symm nxo); have Bp_11 := T11.blk Bp_10 (Ne.symm nxp); have Bf_11 := T11.blk Bf_10 (Ne.symm nxf); have Hw11 := T11.below Hw10 gx; clear T11 Bo_10 Bp_10 Bf_10 Bx_10 Hw10)
    | (refine wl_load 53 3 _ Try.underlying53 rfl size62 _ rfl rfl _ rfl _ _ Bx_11 rfl ?_)
    | (go_at_call 45; (with_reducible refine (HN.out _).mono ?_); rintro e W12 ⟨rfl, k12⟩; have Bx_12 := Bx_11.keep k12; have Bo_12 := Bo_11.keep k12; have Bp_12 := Bp_11.keep k12; have Bf_12 := Bf_11.keep k12; have Hw12 := bq_trans Hw11 k12; clear k12 Bx_11 Bo_11 Bp_11 Bf_11 Hw11)
    | (refine wl_store 53 3 size62 _ _ rfl rfl _ rfl #[.string qs, .int .i64 qa, .int .i64 qe] rfl _ _ Bx_12 rfl rfl (by kernel_rfl) ?_; intro W13 Bx_13 T13; have Bo_13 := T13.blk Bo_12 (Ne.symm nxo); have Bp_13 := T13.blk Bp_12 (Ne.symm nxp); have Bf_13 := T13.blk Bf_12 (Ne.symm nxf); have Hw13 := T13.below Hw12 gx; clear T13 Bo_12 Bp_12 Bf_12 Bx_12 Hw12)
    | (refine wl_set 3 _ _ rfl rfl bf 11 rfl (.int .i64 0) rfl rfl size3s _ _ Bf_13 (by decide : 11 < 14) ?_; intro W14 Bf_14 T14; have Bx_14 := T14.blk Bx_13 nxf; have Bo_14 := T14.blk Bo_13 nof; have Bp_14 := T14.blk Bp_13 npf; have Hw14 := T14.below Hw13 gf; clear T14 Bx_13 Bo_13 Bp_13 Bf_13 Hw13; have cx_2_14 : W14.cell? ⟨bx, 2, none⟩ = some (.int .i64 qe) := Bx_14.cell 2; have cf_11_14 : W14.cell? ⟨bf, 11, none⟩ = some (.int .i64 0) := Bf_14.cell 11))
  go_upto_region 20 with (fail)
  go_wp2_with fail
  have BF8 : Blk W14 bf #[.int .i64 16, .int .i64 0, .int .i64 0, .int .i64 0, .int .i64 0, .int .i64 m0, .int .i64 m1, .int .i64 m2, .int .i64 m3, .int .i64 m4, .int .i64 m5, .int .i64 0, .slice none 0 0, .int .i64 0] 28 := Bf_14
  have BX8 : Blk W14 bx #[.string qs, .int .i64 qa, .int .i64 qe] 53 := Bx_14
  have BO8 := Bo_14
  have BP8 := Bp_14
  have HW8 := Hw14
  clear Hw14 Bf_14 Bx_14 Bo_14 Bp_14
  generalize W14 = WB at *
  go_loopw [7, 8] (fun i _ wq => .int .i64 0 = i ∧ WB = wq) (fun _ _ _ => 0)
  case atStart => exact ⟨rfl, rfl⟩
  case round =>
    obtain ⟨rfl, rfl⟩ := hrel
    go_wp2_with fail
    have BF9 : Blk WB bf #[.int .i64 16, .int .i64 0, .int .i64 0, .int .i64 0, .int .i64 0, .int .i64 m0, .int .i64 m1, .int .i64 m2, .int .i64 m3, .int .i64 m4, .int .i64 m5, .int .i64 0, .slice none 0 0, .int .i64 0] 28 := BF8
    have BX9 : Blk WB bx #[.string qs, .int .i64 qa, .int .i64 qe] 53 := BX8
    have BO9 := Lib.hid BO8
    have BP9 := Lib.hid BP8
    have HW9 := Lib.hid HW8
    clear HW8 BF8 BX8 BO8 BP8
    refine Dex.wp_two _ _ _ _ (by kernel_rfl) (by kernel_rfl) 28 53 14 3 Try.underlying28 rfl size28g8 Try.underlying53 rfl size62 _ _ _ _ _ _ rfl rfl rfl rfl rfl rfl rfl rfl bf bx bo bp _ _ _ _ _ _ _ _ BF9 BX9 BO9.out BP9.out rfl rfl rfl rfl (by kernel_rfl) (by kernel_rfl) (Ne.symm nof) (Ne.symm npf) nxo nxp nop rfl rfl rfl rfl rfl rfl ?_
    intro W9 R9 S9 k9
    go_wp2
    exact post_cell2 Try.underlying28 rfl size28g8 Try.underlying53 rfl size62 Try.results46 R9 rfl S9 rfl rfl rfl rfl ⟨rfl, k9.below HW9.out go gp⟩
set_option maxHeartbeats 4000000 in
theorem rfill_18_err (xa xe ya ye za ze qa qe m0 m1 m2 m3 m4 m5 : Int) (xs ys zs qs : ByteArray) (w : World) (HL : Hid (∀ W, Calls Try.prog 45 #[.agg #[.string xs, .int .i64 xa, .int .i64 xe], .int .i64 1] W fun e w' => e = .returned (.tuple #[.int .i64 18, .agg #[.string ys, .int .i64 ya, .int .i64 ye]]) ∧ Below W.heap.size W w')) (HM : Hid (∀ W, Calls Try.prog 63 #[.agg #[.string ys, .int .i64 ya, .int .i64 ye]] W fun e w' => e = .returned (.tuple #[.agg #[.int .i64 m0, .int .i64 m1, .int .i64 m2, .int .i64 m3, .int .i64 m4, .int .i64 m5], .agg #[.string zs, .int .i64 za, .int .i64 ze]]) ∧ Below W.heap.size W w')) (HN : Hid (∀ W, Calls Try.prog 45 #[.agg #[.string zs, .int .i64 za, .int .i64 ze], .int .i64 1] W fun e w' => e = .returned (.tuple #[.int .i64 0, .agg #[.string qs, .int .i64 qa, .int .i64 qe]]) ∧ Below W.heap.size W w')) (he : (qe == 0) = false) :
    Calls Try.prog 46 #[.agg #[.string xs, .int .i64 xa, .int .i64 xe]] w fun e w' => e = .returned (.tuple #[.agg #[.int .i64 18, .int .i64 0, .int .i64 0, .int .i64 0, .int .i64 0, .int .i64 m0, .int .i64 m1, .int .i64 m2, .int .i64 m3, .int .i64 m4, .int .i64 m5, .int .i64 0, .slice none 0 0, .int .i64 0], .agg #[.string qs, .int .i64 qa, .int .i64 qe]]) ∧ Below w.heap.size w w' := by
  go_enter Try.func46, Try.ntmps46
  go_upto_region 18 with (go_big_may; first
    | (refine wl_box 53 _ _ rfl rfl (show _ = Value.agg #[.string xs, .int .i64 xa, .int .i64 xe] from rfl) ?_; intro W1 bx Bx_1 l1 k1; have gx : w.heap.size ≤ bx := l1; have Hw1 := k1; clear l1 k1)
    | (refine wl_alloc 28 _ zeroFL8 rfl rfl ?_; intro W2 bo Bo_2 l2 k2; have go : w.heap.size ≤ bo := Nat.le_trans Hw1.size l2; have nxo : bx ≠ bo := Nat.ne_of_lt (Nat.lt_of_lt_of_le Bx_1.lt l2); have Bx_2 := Bx_1.keep k2; have Hw2 := bq_trans Hw1 k2; clear l2 k2 Bx_1 Hw1)
    | (refine wl_alloc 53 _ zero62 rfl rfl ?_; intro W3 bp Bp_3 l3 k3; have gp : w.heap.size ≤ bp := Nat.le_trans Hw2.size l3; have nxp : bx ≠ bp := Nat.ne_of_lt (Nat.lt_of_lt_of_le Bx_2.lt l3); have nop : bo ≠ bp := Nat.ne_of_lt (Nat.lt_of_lt_of_le Bo_2.lt l3); have Bx_3 := Bx_2.keep k3; have Bo_3 := Bo_2.keep k3; have Hw3 := bq_trans Hw2 k3; clear l3 k3 Bx_2 Bo_2 Hw2)
    | (refine wl_alloc 28 _ zeroFL8 rfl rfl ?_; intro W4 bf Bf_4 l4 k4; have gf : w.heap.size ≤ bf := Nat.le_trans Hw3.size l4; have nxf : bx ≠ bf := Nat.ne_of_lt (Nat.lt_of_lt_of_le Bx_3.lt l4); have nof : bo ≠ bf := Nat.ne_of_lt (Nat.lt_of_lt_of_le Bo_3.lt l4); have npf : bp ≠ bf := Nat.ne_of_lt (Nat.lt_of_lt_of_le Bp_3.lt l4); have Bx_4 := Bx_3.keep k4; have Bo_4 := Bo_3.keep k4; have Bp_4 := Bp_3.keep k4; have Hw4 := bq_trans Hw3 k4; clear l4 k4 Bx_3 Bo_3 Bp_3 Hw3)
    | (refine wl_store 28 14 size28g8 _ _ rfl rfl _ rfl #[.int .i64 0, .int .i64 0, .int .i64 0, .int .i64 0, .int .i64 0, .int .i64 0, .int .i64 0, .int .i64 0, .int .i64 0, .int .i64 0, .int .i64 0, .int .i64 0, .slice none 0 0, .int .i64 0] rfl _ _ Bf_4 rfl rfl (by kernel_rfl) ?_; intro W5 Bf_5 T5; have Bx_5 := T5.blk Bx_4 nxf; have Bo_5 := T5.blk Bo_4 nof; have Bp_5 := T5.blk Bp_4 npf; have Hw5 := T5.below Hw4 gf; clear T5 Bx_4 Bo_4 Bp_4 Bf_4 Hw4)
    | (refine wl_load 53 3 _ Try.underlying53 rfl size62 _ rfl rfl _ rfl _ _ Bx_5 rfl ?_)
    | (go_at_call 45; (with_reducible refine (HL.out _).mono ?_); rintro e W6 ⟨rfl, k6⟩; have Bx_6 := Bx_5.keep k6; have Bo_6 := Bo_5.keep k6; have Bp_6 := Bp_5.keep k6; have Bf_6 := Bf_5.keep k6; have Hw6 := bq_trans Hw5 k6; clear k6 Bx_5 Bo_5 Bp_5 Bf_5 Hw5)
    | (refine wl_set 3 _ _ rfl rfl bf 0 rfl (.int .i64 18) rfl rfl size3s _ _ Bf_6 (by decide : 0 < 14) ?_; intro W7 Bf_7 T7; have Bx_7 := T7.blk Bx_6 nxf; have Bo_7 := T7.blk Bo_6 nof; have Bp_7 := T7.blk Bp_6 npf; have Hw7 := T7.below Hw6 gf; clear T7 Bx_6 Bo_6 Bp_6 Bf_6 Hw6)
    | (refine wl_store 53 3 size62 _ _ rfl rfl _ rfl #[.string ys, .int .i64 ya, .int .i64 ye] rfl _ _ Bx_7 rfl rfl (by kernel_rfl) ?_; intro W8 Bx_8 T8; have Bo_8 := T8.blk Bo_7 (Ne.symm nxo); have Bp_8 := T8.blk Bp_7 (Ne.symm nxp); have Bf_8 := T8.blk Bf_7 (Ne.symm nxf); have Hw8 := T8.below Hw7 gx; clear T8 Bo_7 Bp_7 Bf_7 Bx_7 Hw7; have cf_0_8 : W8.cell? ⟨bf, 0, none⟩ = some (.int .i64 18) := Bf_8.cell 0)
    | (refine wl_load 53 3 _ Try.underlying53 rfl size62 _ rfl rfl _ rfl _ _ Bx_8 rfl ?_)
    | (go_at_call 63; (with_reducible refine (HM.out _).mono ?_); rintro e W9 ⟨rfl, k9⟩; have Bx_9 := Bx_8.keep k9; have Bo_9 := Bo_8.keep k9; have Bp_9 := Bp_8.keep k9; have Bf_9 := Bf_8.keep k9; have Hw9 := bq_trans Hw8 k9; clear k9 Bx_8 Bo_8 Bp_8 Bf_8 cf_0_8 Hw8)
    | (refine wl_putAt 25 _ _ rfl rfl bf 5 rfl #[.int .i64 m0, .int .i64 m1, .int .i64 m2, .int .i64 m3, .int .i64 m4, .int .i64 m5] rfl size25g8 (by kernel_rfl) _ _ Bf_9 (by decide : 5 + 6 ≤ 14) #[.int .i64 18, .int .i64 0, .int .i64 0, .int .i64 0, .int .i64 0, .int .i64 m0, .int .i64 m1, .int .i64 m2, .int .i64 m3, .int .i64 m4, .int .i64 m5, .int .i64 0, .slice none 0 0, .int .i64 0] (by kernel_rfl) ?_; intro W10 Bf_10 T10; have Bx_10 := T10.blk Bx_9 nxf; have Bo_10 := T10.blk Bo_9 nof; have Bp_10 := T10.blk Bp_9 npf; have Hw10 := T10.below Hw9 gf; clear T10 Bx_9 Bo_9 Bp_9 Bf_9 Hw9)
    | (refine wl_store 53 3 size62 _ _ rfl rfl _ rfl #[.string zs, .int .i64 za, .int .i64 ze] rfl _ _ Bx_10 rfl rfl (by kernel_rfl) ?_; intro W11 Bx_11 T11; have Bo_11 := T11.blk Bo_10 (Ne.symm nxo); have Bp_11 := T11.blk Bp_10 (Ne.symm nxp); have Bf_11 := T11.blk Bf_10 (Ne.symm nxf); have Hw11 := T11.below Hw10 gx; clear T11 Bo_10 Bp_10 Bf_10 Bx_10 Hw10)
    | (refine wl_load 53 3 _ Try.underlying53 rfl size62 _ rfl rfl _ rfl _ _ Bx_11 rfl ?_)
    | (go_at_call 45; (with_reducible refine (HN.out _).mono ?_); rintro e W12 ⟨rfl, k12⟩; have Bx_12 := Bx_11.keep k12; have Bo_12 := Bo_11.keep k12; have Bp_12 := Bp_11.keep k12; have Bf_12 := Bf_11.keep k12; have Hw12 := bq_trans Hw11 k12; clear k12 Bx_11 Bo_11 Bp_11 Bf_11 Hw11)
    | (refine wl_store 53 3 size62 _ _ rfl rfl _ rfl #[.string qs, .int .i64 qa, .int .i64 qe] rfl _ _ Bx_12 rfl rfl (by kernel_rfl) ?_; intro W13 Bx_13 T13; have Bo_13 := T13.blk Bo_12 (Ne.symm nxo); have Bp_13 := T13.blk Bp_12 (Ne.symm nxp); have Bf_13 := T13.blk Bf_12 (Ne.symm nxf); have Hw13 := T13.below Hw12 gx; clear T13 Bo_12 Bp_12 Bf_12 Bx_12 Hw12)
    | (refine wl_set 3 _ _ rfl rfl bf 11 rfl (.int .i64 0) rfl rfl size3s _ _ Bf_13 (by decide : 11 < 14) ?_; intro W14 Bf_14 T14; have Bx_14 := T14.blk Bx_13 nxf; have Bo_14 := T14.blk Bo_13 nof; have Bp_14 := T14.blk Bp_13 npf; have Hw14 := T14.below Hw13 gf; clear T14 Bx_13 Bo_13 Bp_13 Bf_13 Hw13; have cx_2_14 : W14.cell? ⟨bx, 2, none⟩ = some (.int .i64 qe) := Bx_14.cell 2; have cf_11_14 : W14.cell? ⟨bf, 11, none⟩ = some (.int .i64 0) := Bf_14.cell 11))
  go_upto_region 20 with (fail)
  go_wp2_with fail
  have BF8 : Blk W14 bf #[.int .i64 18, .int .i64 0, .int .i64 0, .int .i64 0, .int .i64 0, .int .i64 m0, .int .i64 m1, .int .i64 m2, .int .i64 m3, .int .i64 m4, .int .i64 m5, .int .i64 0, .slice none 0 0, .int .i64 0] 28 := Bf_14
  have BX8 : Blk W14 bx #[.string qs, .int .i64 qa, .int .i64 qe] 53 := Bx_14
  have BO8 := Bo_14
  have BP8 := Bp_14
  have HW8 := Hw14
  clear Hw14 Bf_14 Bx_14 Bo_14 Bp_14
  generalize W14 = WB at *
  go_loopw [7, 8] (fun i _ wq => .int .i64 0 = i ∧ WB = wq) (fun _ _ _ => 0)
  case atStart => exact ⟨rfl, rfl⟩
  case round =>
    obtain ⟨rfl, rfl⟩ := hrel
    go_wp2_with fail
    have BF9 : Blk WB bf #[.int .i64 18, .int .i64 0, .int .i64 0, .int .i64 0, .int .i64 0, .int .i64 m0, .int .i64 m1, .int .i64 m2, .int .i64 m3, .int .i64 m4, .int .i64 m5, .int .i64 0, .slice none 0 0, .int .i64 0] 28 := BF8
    have BX9 : Blk WB bx #[.string qs, .int .i64 qa, .int .i64 qe] 53 := BX8
    have BO9 := Lib.hid BO8
    have BP9 := Lib.hid BP8
    have HW9 := Lib.hid HW8
    clear HW8 BF8 BX8 BO8 BP8
    refine Dex.wp_two _ _ _ _ (by kernel_rfl) (by kernel_rfl) 28 53 14 3 Try.underlying28 rfl size28g8 Try.underlying53 rfl size62 _ _ _ _ _ _ rfl rfl rfl rfl rfl rfl rfl rfl bf bx bo bp _ _ _ _ _ _ _ _ BF9 BX9 BO9.out BP9.out rfl rfl rfl rfl (by kernel_rfl) (by kernel_rfl) (Ne.symm nof) (Ne.symm npf) nxo nxp nop rfl rfl rfl rfl rfl rfl ?_
    intro W9 R9 S9 k9
    go_wp2
    exact post_cell2 Try.underlying28 rfl size28g8 Try.underlying53 rfl size62 Try.results46 R9 rfl S9 rfl rfl rfl rfl ⟨rfl, k9.below HW9.out go gp⟩
set_option maxHeartbeats 4000000 in
theorem rfill_16_bad0 (n xa xe ya ye za ze qa m0 m1 m2 m3 m4 m5 : Int) (xs ys zs qs : ByteArray) (w : World) (HL : Hid (∀ W, Calls Try.prog 45 #[.agg #[.string xs, .int .i64 xa, .int .i64 xe], .int .i64 1] W fun e w' => e = .returned (.tuple #[.int .i64 16, .agg #[.string ys, .int .i64 ya, .int .i64 ye]]) ∧ Below W.heap.size W w')) (HM : Hid (∀ W, Calls Try.prog 63 #[.agg #[.string ys, .int .i64 ya, .int .i64 ye]] W fun e w' => e = .returned (.tuple #[.agg #[.int .i64 m0, .int .i64 m1, .int .i64 m2, .int .i64 m3, .int .i64 m4, .int .i64 m5], .agg #[.string zs, .int .i64 za, .int .i64 ze]]) ∧ Below W.heap.size W w')) (HN : Hid (∀ W, Calls Try.prog 45 #[.agg #[.string zs, .int .i64 za, .int .i64 ze], .int .i64 1] W fun e w' => e = .returned (.tuple #[.int .i64 n, .agg #[.string qs, .int .i64 qa, .int .i64 0]]) ∧ Below W.heap.size W w')) (n0 : 0 ≤ n) (n1 : n ≤ 255) (w0 : decide ((2 : Int) < n / 64) = true) :
    Calls Try.prog 46 #[.agg #[.string xs, .int .i64 xa, .int .i64 xe]] w fun e w' => e = .returned (.tuple #[.agg #[.int .i64 16, .int .i64 0, .int .i64 0, .int .i64 0, .int .i64 0, .int .i64 m0, .int .i64 m1, .int .i64 m2, .int .i64 m3, .int .i64 m4, .int .i64 m5, .int .i64 (n / 64), .slice none 0 0, .int .i64 0], .agg #[.string qs, .int .i64 qa, .int .i64 3]]) ∧ Below w.heap.size w w' := by
  go_enter Try.func46, Try.ntmps46
  go_upto_region 18 with (go_big_may; first
    | (refine wl_box 53 _ _ rfl rfl (show _ = Value.agg #[.string xs, .int .i64 xa, .int .i64 xe] from rfl) ?_; intro W1 bx Bx_1 l1 k1; have gx : w.heap.size ≤ bx := l1; have Hw1 := k1; clear l1 k1)
    | (refine wl_alloc 28 _ zeroFL8 rfl rfl ?_; intro W2 bo Bo_2 l2 k2; have go : w.heap.size ≤ bo := Nat.le_trans Hw1.size l2; have nxo : bx ≠ bo := Nat.ne_of_lt (Nat.lt_of_lt_of_le Bx_1.lt l2); have Bx_2 := Bx_1.keep k2; have Hw2 := bq_trans Hw1 k2; clear l2 k2 Bx_1 Hw1)
    | (refine wl_alloc 53 _ zero62 rfl rfl ?_; intro W3 bp Bp_3 l3 k3; have gp : w.heap.size ≤ bp := Nat.le_trans Hw2.size l3; have nxp : bx ≠ bp := Nat.ne_of_lt (Nat.lt_of_lt_of_le Bx_2.lt l3); have nop : bo ≠ bp := Nat.ne_of_lt (Nat.lt_of_lt_of_le Bo_2.lt l3); have Bx_3 := Bx_2.keep k3; have Bo_3 := Bo_2.keep k3; have Hw3 := bq_trans Hw2 k3; clear l3 k3 Bx_2 Bo_2 Hw2)
    | (refine wl_alloc 28 _ zeroFL8 rfl rfl ?_; intro W4 bf Bf_4 l4 k4; have gf : w.heap.size ≤ bf := Nat.le_trans Hw3.size l4; have nxf : bx ≠ bf := Nat.ne_of_lt (Nat.lt_of_lt_of_le Bx_3.lt l4); have nof : bo ≠ bf := Nat.ne_of_lt (Nat.lt_of_lt_of_le Bo_3.lt l4); have npf : bp ≠ bf := Nat.ne_of_lt (Nat.lt_of_lt_of_le Bp_3.lt l4); have Bx_4 := Bx_3.keep k4; have Bo_4 := Bo_3.keep k4; have Bp_4 := Bp_3.keep k4; have Hw4 := bq_trans Hw3 k4; clear l4 k4 Bx_3 Bo_3 Bp_3 Hw3)
    | (refine wl_store 28 14 size28g8 _ _ rfl rfl _ rfl #[.int .i64 0, .int .i64 0, .int .i64 0, .int .i64 0, .int .i64 0, .int .i64 0, .int .i64 0, .int .i64 0, .int .i64 0, .int .i64 0, .int .i64 0, .int .i64 0, .slice none 0 0, .int .i64 0] rfl _ _ Bf_4 rfl rfl (by kernel_rfl) ?_; intro W5 Bf_5 T5; have Bx_5 := T5.blk Bx_4 nxf; have Bo_5 := T5.blk Bo_4 nof; have Bp_5 := T5.blk Bp_4 npf; have Hw5 := T5.below Hw4 gf; clear T5 Bx_4 Bo_4 Bp_4 Bf_4 Hw4)
    | (refine wl_load 53 3 _ Try.underlying53 rfl size62 _ rfl rfl _ rfl _ _ Bx_5 rfl ?_)
    | (go_at_call 45; (with_reducible refine (HL.out _).mono ?_); rintro e W6 ⟨rfl, k6⟩; have Bx_6 := Bx_5.keep k6; have Bo_6 := Bo_5.keep k6; have Bp_6 := Bp_5.keep k6; have Bf_6 := Bf_5.keep k6; have Hw6 := bq_trans Hw5 k6; clear k6 Bx_5 Bo_5 Bp_5 Bf_5 Hw5)
    | (refine wl_set 3 _ _ rfl rfl bf 0 rfl (.int .i64 16) rfl rfl size3s _ _ Bf_6 (by decide : 0 < 14) ?_; intro W7 Bf_7 T7; have Bx_7 := T7.blk Bx_6 nxf; have Bo_7 := T7.blk Bo_6 nof; have Bp_7 := T7.blk Bp_6 npf; have Hw7 := T7.below Hw6 gf; clear T7 Bx_6 Bo_6 Bp_6 Bf_6 Hw6)
    | (refine wl_store 53 3 size62 _ _ rfl rfl _ rfl #[.string ys, .int .i64 ya, .int .i64 ye] rfl _ _ Bx_7 rfl rfl (by kernel_rfl) ?_; intro W8 Bx_8 T8; have Bo_8 := T8.blk Bo_7 (Ne.symm nxo); have Bp_8 := T8.blk Bp_7 (Ne.symm nxp); have Bf_8 := T8.blk Bf_7 (Ne.symm nxf); have Hw8 := T8.below Hw7 gx; clear T8 Bo_7 Bp_7 Bf_7 Bx_7 Hw7; have cf_0_8 : W8.cell? ⟨bf, 0, none⟩ = some (.int .i64 16) := Bf_8.cell 0)
    | (refine wl_load 53 3 _ Try.underlying53 rfl size62 _ rfl rfl _ rfl _ _ Bx_8 rfl ?_)
    | (go_at_call 63; (with_reducible refine (HM.out _).mono ?_); rintro e W9 ⟨rfl, k9⟩; have Bx_9 := Bx_8.keep k9; have Bo_9 := Bo_8.keep k9; have Bp_9 := Bp_8.keep k9; have Bf_9 := Bf_8.keep k9; have Hw9 := bq_trans Hw8 k9; clear k9 Bx_8 Bo_8 Bp_8 Bf_8 cf_0_8 Hw8)
    | (refine wl_putAt 25 _ _ rfl rfl bf 5 rfl #[.int .i64 m0, .int .i64 m1, .int .i64 m2, .int .i64 m3, .int .i64 m4, .int .i64 m5] rfl size25g8 (by kernel_rfl) _ _ Bf_9 (by decide : 5 + 6 ≤ 14) #[.int .i64 16, .int .i64 0, .int .i64 0, .int .i64 0, .int .i64 0, .int .i64 m0, .int .i64 m1, .int .i64 m2, .int .i64 m3, .int .i64 m4, .int .i64 m5, .int .i64 0, .slice none 0 0, .int .i64 0] (by kernel_rfl) ?_; intro W10 Bf_10 T10; have Bx_10 := T10.blk Bx_9 nxf; have Bo_10 := T10.blk Bo_9 nof; have Bp_10 := T10.blk Bp_9 npf; have Hw10 := T10.below Hw9 gf; clear T10 Bx_9 Bo_9 Bp_9 Bf_9 Hw9)
    | (refine wl_store 53 3 size62 _ _ rfl rfl _ rfl #[.string zs, .int .i64 za, .int .i64 ze] rfl _ _ Bx_10 rfl rfl (by kernel_rfl) ?_; intro W11 Bx_11 T11; have Bo_11 := T11.blk Bo_10 (Ne.symm nxo); have Bp_11 := T11.blk Bp_10 (Ne.symm nxp); have Bf_11 := T11.blk Bf_10 (Ne.symm nxf); have Hw11 := T11.below Hw10 gx; clear T11 Bo_10 Bp_10 Bf_10 Bx_10 Hw10)
    | (refine wl_load 53 3 _ Try.underlying53 rfl size62 _ rfl rfl _ rfl _ _ Bx_11 rfl ?_)
    | (go_at_call 45; (with_reducible refine (HN.out _).mono ?_); rintro e W12 ⟨rfl, k12⟩; have Bx_12 := Bx_11.keep k12; have Bo_12 := Bo_11.keep k12; have Bp_12 := Bp_11.keep k12; have Bf_12 := Bf_11.keep k12; have Hw12 := bq_trans Hw11 k12; clear k12 Bx_11 Bo_11 Bp_11 Bf_11 Hw11)
    | (refine wl_store 53 3 size62 _ _ rfl rfl _ rfl #[.string qs, .int .i64 qa, .int .i64 0] rfl _ _ Bx_12 rfl rfl (by kernel_rfl) ?_; intro W13 Bx_13 T13; have Bo_13 := T13.blk Bo_12 (Ne.symm nxo); have Bp_13 := T13.blk Bp_12 (Ne.symm nxp); have Bf_13 := T13.blk Bf_12 (Ne.symm nxf); have Hw13 := T13.below Hw12 gx; clear T13 Bo_12 Bp_12 Bf_12 Bx_12 Hw12)
    | (refine wl_set 3 _ _ rfl rfl bf 11 rfl (.int .i64 (n / 64)) rfl rfl size3s _ _ Bf_13 (by decide : 11 < 14) ?_; intro W14 Bf_14 T14; have Bx_14 := T14.blk Bx_13 nxf; have Bo_14 := T14.blk Bo_13 nof; have Bp_14 := T14.blk Bp_13 npf; have Hw14 := T14.below Hw13 gf; clear T14 Bx_13 Bo_13 Bp_13 Bf_13 Hw13; have cx_2_14 : W14.cell? ⟨bx, 2, none⟩ = some (.int .i64 0) := Bx_14.cell 2; have cf_11_14 : W14.cell? ⟨bf, 11, none⟩ = some (.int .i64 (n / 64)) := Bf_14.cell 11))
  go_upto_region 19 with (fail)
  go_upto_region 20 with (go_big_may; first
    | (refine wl_set 3 _ _ rfl rfl bx 2 rfl (.int .i64 3) rfl rfl size3s _ _ Bx_14 (by decide : 2 < 3) ?_; intro W15 Bx_15 T15; have Bo_15 := T15.blk Bo_14 (Ne.symm nxo); have Bp_15 := T15.blk Bp_14 (Ne.symm nxp); have Bf_15 := T15.blk Bf_14 (Ne.symm nxf); have Hw15 := T15.below Hw14 gx; clear T15 Bo_14 Bp_14 Bf_14 cx_2_14 cf_11_14 Bx_14 Hw14; have cx_2_15 : W15.cell? ⟨bx, 2, none⟩ = some (.int .i64 3) := Bx_15.cell 2))
  go_wp2_with fail
  clear cx_2_15
  have BF8 : Blk W15 bf #[.int .i64 16, .int .i64 0, .int .i64 0, .int .i64 0, .int .i64 0, .int .i64 m0, .int .i64 m1, .int .i64 m2, .int .i64 m3, .int .i64 m4, .int .i64 m5, .int .i64 (n / 64), .slice none 0 0, .int .i64 0] 28 := Bf_15
  have BX8 : Blk W15 bx #[.string qs, .int .i64 qa, .int .i64 3] 53 := Bx_15
  have BO8 := Bo_15
  have BP8 := Bp_15
  have HW8 := Hw15
  clear Hw15 Bf_15 Bx_15 Bo_15 Bp_15
  generalize W15 = WB at *
  go_loopw [7, 8] (fun i _ wq => .int .i64 0 = i ∧ WB = wq) (fun _ _ _ => 0)
  case atStart => exact ⟨rfl, rfl⟩
  case round =>
    obtain ⟨rfl, rfl⟩ := hrel
    have ce : WB.cell? ⟨bx, 2, none⟩ = some (.int .i64 3) := BX8.cell 2
    by_cases hlt : (0 : Int) < n % 16
    · go_wp2_with fail
      have BF9 : Blk WB bf #[.int .i64 16, .int .i64 0, .int .i64 0, .int .i64 0, .int .i64 0, .int .i64 m0, .int .i64 m1, .int .i64 m2, .int .i64 m3, .int .i64 m4, .int .i64 m5, .int .i64 (n / 64), .slice none 0 0, .int .i64 0] 28 := BF8
      have BX9 : Blk WB bx #[.string qs, .int .i64 qa, .int .i64 3] 53 := BX8
      have BO9 := Lib.hid BO8
      have BP9 := Lib.hid BP8
      have HW9 := Lib.hid HW8
      clear HW8 BF8 BX8 BO8 BP8
      refine Dex.wp_two _ _ _ _ (by kernel_rfl) (by kernel_rfl) 28 53 14 3 Try.underlying28 rfl size28g8 Try.underlying53 rfl size62 _ _ _ _ _ _ rfl rfl rfl rfl rfl rfl rfl rfl bf bx bo bp _ _ _ _ _ _ _ _ BF9 BX9 BO9.out BP9.out rfl rfl rfl rfl (by kernel_rfl) (by kernel_rfl) (Ne.symm nof) (Ne.symm npf) nxo nxp nop rfl rfl rfl rfl rfl rfl ?_
      intro W9 R9 S9 k9
      go_wp2
      exact post_cell2 Try.underlying28 rfl size28g8 Try.underlying53 rfl size62 Try.results46 R9 rfl S9 rfl rfl rfl rfl ⟨rfl, k9.below HW9.out go gp⟩
    · go_wp2_with fail
      have BF9 : Blk WB bf #[.int .i64 16, .int .i64 0, .int .i64 0, .int .i64 0, .int .i64 0, .int .i64 m0, .int .i64 m1, .int .i64 m2, .int .i64 m3, .int .i64 m4, .int .i64 m5, .int .i64 (n / 64), .slice none 0 0, .int .i64 0] 28 := BF8
      have BX9 : Blk WB bx #[.string qs, .int .i64 qa, .int .i64 3] 53 := BX8
      have BO9 := Lib.hid BO8
      have BP9 := Lib.hid BP8
      have HW9 := Lib.hid HW8
      clear HW8 BF8 BX8 BO8 BP8
      refine Dex.wp_two _ _ _ _ (by kernel_rfl) (by kernel_rfl) 28 53 14 3 Try.underlying28 rfl size28g8 Try.underlying53 rfl size62 _ _ _ _ _ _ rfl rfl rfl rfl rfl rfl rfl rfl bf bx bo bp _ _ _ _ _ _ _ _ BF9 BX9 BO9.out BP9.out rfl rfl rfl rfl (by kernel_rfl) (by kernel_rfl) (Ne.symm nof) (Ne.symm npf) nxo nxp nop rfl rfl rfl rfl rfl rfl ?_
      intro W9 R9 S9 k9
      go_wp2
      exact post_cell2 Try.underlying28 rfl size28g8 Try.underlying53 rfl size62 Try.results46 R9 rfl S9 rfl rfl rfl rfl ⟨rfl, k9.below HW9.out go gp⟩
set_option maxHeartbeats 4000000 in
theorem rfill_16_bad1 (n xa xe ya ye za ze qa m0 m1 m2 m3 m4 m5 : Int) (xs ys zs qs : ByteArray) (w : World) (HL : Hid (∀ W, Calls Try.prog 45 #[.agg #[.string xs, .int .i64 xa, .int .i64 xe], .int .i64 1] W fun e w' => e = .returned (.tuple #[.int .i64 16, .agg #[.string ys, .int .i64 ya, .int .i64 ye]]) ∧ Below W.heap.size W w')) (HM : Hid (∀ W, Calls Try.prog 63 #[.agg #[.string ys, .int .i64 ya, .int .i64 ye]] W fun e w' => e = .returned (.tuple #[.agg #[.int .i64 m0, .int .i64 m1, .int .i64 m2, .int .i64 m3, .int .i64 m4, .int .i64 m5], .agg #[.string zs, .int .i64 za, .int .i64 ze]]) ∧ Below W.heap.size W w')) (HN : Hid (∀ W, Calls Try.prog 45 #[.agg #[.string zs, .int .i64 za, .int .i64 ze], .int .i64 1] W fun e w' => e = .returned (.tuple #[.int .i64 n, .agg #[.string qs, .int .i64 qa, .int .i64 0]]) ∧ Below W.heap.size W w')) (n0 : 0 ≤ n) (n1 : n ≤ 255) (w0 : decide ((2 : Int) < n / 64) = false) (w1 : decide ((0 : Int) < n / 16 % 4) = true) :
    Calls Try.prog 46 #[.agg #[.string xs, .int .i64 xa, .int .i64 xe]] w fun e w' => e = .returned (.tuple #[.agg #[.int .i64 16, .int .i64 0, .int .i64 0, .int .i64 0, .int .i64 0, .int .i64 m0, .int .i64 m1, .int .i64 m2, .int .i64 m3, .int .i64 m4, .int .i64 m5, .int .i64 (n / 64), .slice none 0 0, .int .i64 0], .agg #[.string qs, .int .i64 qa, .int .i64 3]]) ∧ Below w.heap.size w w' := by
  go_enter Try.func46, Try.ntmps46
  go_upto_region 18 with (go_big_may; first
    | (refine wl_box 53 _ _ rfl rfl (show _ = Value.agg #[.string xs, .int .i64 xa, .int .i64 xe] from rfl) ?_; intro W1 bx Bx_1 l1 k1; have gx : w.heap.size ≤ bx := l1; have Hw1 := k1; clear l1 k1)
    | (refine wl_alloc 28 _ zeroFL8 rfl rfl ?_; intro W2 bo Bo_2 l2 k2; have go : w.heap.size ≤ bo := Nat.le_trans Hw1.size l2; have nxo : bx ≠ bo := Nat.ne_of_lt (Nat.lt_of_lt_of_le Bx_1.lt l2); have Bx_2 := Bx_1.keep k2; have Hw2 := bq_trans Hw1 k2; clear l2 k2 Bx_1 Hw1)
    | (refine wl_alloc 53 _ zero62 rfl rfl ?_; intro W3 bp Bp_3 l3 k3; have gp : w.heap.size ≤ bp := Nat.le_trans Hw2.size l3; have nxp : bx ≠ bp := Nat.ne_of_lt (Nat.lt_of_lt_of_le Bx_2.lt l3); have nop : bo ≠ bp := Nat.ne_of_lt (Nat.lt_of_lt_of_le Bo_2.lt l3); have Bx_3 := Bx_2.keep k3; have Bo_3 := Bo_2.keep k3; have Hw3 := bq_trans Hw2 k3; clear l3 k3 Bx_2 Bo_2 Hw2)
    | (refine wl_alloc 28 _ zeroFL8 rfl rfl ?_; intro W4 bf Bf_4 l4 k4; have gf : w.heap.size ≤ bf := Nat.le_trans Hw3.size l4; have nxf : bx ≠ bf := Nat.ne_of_lt (Nat.lt_of_lt_of_le Bx_3.lt l4); have nof : bo ≠ bf := Nat.ne_of_lt (Nat.lt_of_lt_of_le Bo_3.lt l4); have npf : bp ≠ bf := Nat.ne_of_lt (Nat.lt_of_lt_of_le Bp_3.lt l4); have Bx_4 := Bx_3.keep k4; have Bo_4 := Bo_3.keep k4; have Bp_4 := Bp_3.keep k4; have Hw4 := bq_trans Hw3 k4; clear l4 k4 Bx_3 Bo_3 Bp_3 Hw3)
    | (refine wl_store 28 14 size28g8 _ _ rfl rfl _ rfl #[.int .i64 0, .int .i64 0, .int .i64 0, .int .i64 0, .int .i64 0, .int .i64 0, .int .i64 0, .int .i64 0, .int .i64 0, .int .i64 0, .int .i64 0, .int .i64 0, .slice none 0 0, .int .i64 0] rfl _ _ Bf_4 rfl rfl (by kernel_rfl) ?_; intro W5 Bf_5 T5; have Bx_5 := T5.blk Bx_4 nxf; have Bo_5 := T5.blk Bo_4 nof; have Bp_5 := T5.blk Bp_4 npf; have Hw5 := T5.below Hw4 gf; clear T5 Bx_4 Bo_4 Bp_4 Bf_4 Hw4)
    | (refine wl_load 53 3 _ Try.underlying53 rfl size62 _ rfl rfl _ rfl _ _ Bx_5 rfl ?_)
    | (go_at_call 45; (with_reducible refine (HL.out _).mono ?_); rintro e W6 ⟨rfl, k6⟩; have Bx_6 := Bx_5.keep k6; have Bo_6 := Bo_5.keep k6; have Bp_6 := Bp_5.keep k6; have Bf_6 := Bf_5.keep k6; have Hw6 := bq_trans Hw5 k6; clear k6 Bx_5 Bo_5 Bp_5 Bf_5 Hw5)
    | (refine wl_set 3 _ _ rfl rfl bf 0 rfl (.int .i64 16) rfl rfl size3s _ _ Bf_6 (by decide : 0 < 14) ?_; intro W7 Bf_7 T7; have Bx_7 := T7.blk Bx_6 nxf; have Bo_7 := T7.blk Bo_6 nof; have Bp_7 := T7.blk Bp_6 npf; have Hw7 := T7.below Hw6 gf; clear T7 Bx_6 Bo_6 Bp_6 Bf_6 Hw6)
    | (refine wl_store 53 3 size62 _ _ rfl rfl _ rfl #[.string ys, .int .i64 ya, .int .i64 ye] rfl _ _ Bx_7 rfl rfl (by kernel_rfl) ?_; intro W8 Bx_8 T8; have Bo_8 := T8.blk Bo_7 (Ne.symm nxo); have Bp_8 := T8.blk Bp_7 (Ne.symm nxp); have Bf_8 := T8.blk Bf_7 (Ne.symm nxf); have Hw8 := T8.below Hw7 gx; clear T8 Bo_7 Bp_7 Bf_7 Bx_7 Hw7; have cf_0_8 : W8.cell? ⟨bf, 0, none⟩ = some (.int .i64 16) := Bf_8.cell 0)
    | (refine wl_load 53 3 _ Try.underlying53 rfl size62 _ rfl rfl _ rfl _ _ Bx_8 rfl ?_)
    | (go_at_call 63; (with_reducible refine (HM.out _).mono ?_); rintro e W9 ⟨rfl, k9⟩; have Bx_9 := Bx_8.keep k9; have Bo_9 := Bo_8.keep k9; have Bp_9 := Bp_8.keep k9; have Bf_9 := Bf_8.keep k9; have Hw9 := bq_trans Hw8 k9; clear k9 Bx_8 Bo_8 Bp_8 Bf_8 cf_0_8 Hw8)
    | (refine wl_putAt 25 _ _ rfl rfl bf 5 rfl #[.int .i64 m0, .int .i64 m1, .int .i64 m2, .int .i64 m3, .int .i64 m4, .int .i64 m5] rfl size25g8 (by kernel_rfl) _ _ Bf_9 (by decide : 5 + 6 ≤ 14) #[.int .i64 16, .int .i64 0, .int .i64 0, .int .i64 0, .int .i64 0, .int .i64 m0, .int .i64 m1, .int .i64 m2, .int .i64 m3, .int .i64 m4, .int .i64 m5, .int .i64 0, .slice none 0 0, .int .i64 0] (by kernel_rfl) ?_; intro W10 Bf_10 T10; have Bx_10 := T10.blk Bx_9 nxf; have Bo_10 := T10.blk Bo_9 nof; have Bp_10 := T10.blk Bp_9 npf; have Hw10 := T10.below Hw9 gf; clear T10 Bx_9 Bo_9 Bp_9 Bf_9 Hw9)
    | (refine wl_store 53 3 size62 _ _ rfl rfl _ rfl #[.string zs, .int .i64 za, .int .i64 ze] rfl _ _ Bx_10 rfl rfl (by kernel_rfl) ?_; intro W11 Bx_11 T11; have Bo_11 := T11.blk Bo_10 (Ne.symm nxo); have Bp_11 := T11.blk Bp_10 (Ne.symm nxp); have Bf_11 := T11.blk Bf_10 (Ne.symm nxf); have Hw11 := T11.below Hw10 gx; clear T11 Bo_10 Bp_10 Bf_10 Bx_10 Hw10)
    | (refine wl_load 53 3 _ Try.underlying53 rfl size62 _ rfl rfl _ rfl _ _ Bx_11 rfl ?_)
    | (go_at_call 45; (with_reducible refine (HN.out _).mono ?_); rintro e W12 ⟨rfl, k12⟩; have Bx_12 := Bx_11.keep k12; have Bo_12 := Bo_11.keep k12; have Bp_12 := Bp_11.keep k12; have Bf_12 := Bf_11.keep k12; have Hw12 := bq_trans Hw11 k12; clear k12 Bx_11 Bo_11 Bp_11 Bf_11 Hw11)
    | (refine wl_store 53 3 size62 _ _ rfl rfl _ rfl #[.string qs, .int .i64 qa, .int .i64 0] rfl _ _ Bx_12 rfl rfl (by kernel_rfl) ?_; intro W13 Bx_13 T13; have Bo_13 := T13.blk Bo_12 (Ne.symm nxo); have Bp_13 := T13.blk Bp_12 (Ne.symm nxp); have Bf_13 := T13.blk Bf_12 (Ne.symm nxf); have Hw13 := T13.below Hw12 gx; clear T13 Bo_12 Bp_12 Bf_12 Bx_12 Hw12)
    | (refine wl_set 3 _ _ rfl rfl bf 11 rfl (.int .i64 (n / 64)) rfl rfl size3s _ _ Bf_13 (by decide : 11 < 14) ?_; intro W14 Bf_14 T14; have Bx_14 := T14.blk Bx_13 nxf; have Bo_14 := T14.blk Bo_13 nof; have Bp_14 := T14.blk Bp_13 npf; have Hw14 := T14.below Hw13 gf; clear T14 Bx_13 Bo_13 Bp_13 Bf_13 Hw13; have cx_2_14 : W14.cell? ⟨bx, 2, none⟩ = some (.int .i64 0) := Bx_14.cell 2; have cf_11_14 : W14.cell? ⟨bf, 11, none⟩ = some (.int .i64 (n / 64)) := Bf_14.cell 11))
  go_upto_region 19 with (fail)
  go_upto_region 20 with (go_big_may; first
    | (refine wl_set 3 _ _ rfl rfl bx 2 rfl (.int .i64 3) rfl rfl size3s _ _ Bx_14 (by decide : 2 < 3) ?_; intro W15 Bx_15 T15; have Bo_15 := T15.blk Bo_14 (Ne.symm nxo); have Bp_15 := T15.blk Bp_14 (Ne.symm nxp); have Bf_15 := T15.blk Bf_14 (Ne.symm nxf); have Hw15 := T15.below Hw14 gx; clear T15 Bo_14 Bp_14 Bf_14 cx_2_14 cf_11_14 Bx_14 Hw14; have cx_2_15 : W15.cell? ⟨bx, 2, none⟩ = some (.int .i64 3) := Bx_15.cell 2))
  go_wp2_with fail
  clear cx_2_15
  have BF8 : Blk W15 bf #[.int .i64 16, .int .i64 0, .int .i64 0, .int .i64 0, .int .i64 0, .int .i64 m0, .int .i64 m1, .int .i64 m2, .int .i64 m3, .int .i64 m4, .int .i64 m5, .int .i64 (n / 64), .slice none 0 0, .int .i64 0] 28 := Bf_15
  have BX8 : Blk W15 bx #[.string qs, .int .i64 qa, .int .i64 3] 53 := Bx_15
  have BO8 := Bo_15
  have BP8 := Bp_15
  have HW8 := Hw15
  clear Hw15 Bf_15 Bx_15 Bo_15 Bp_15
  generalize W15 = WB at *
  go_loopw [7, 8] (fun i _ wq => .int .i64 0 = i ∧ WB = wq) (fun _ _ _ => 0)
  case atStart => exact ⟨rfl, rfl⟩
  case round =>
    obtain ⟨rfl, rfl⟩ := hrel
    have ce : WB.cell? ⟨bx, 2, none⟩ = some (.int .i64 3) := BX8.cell 2
    by_cases hlt : (0 : Int) < n % 16
    · go_wp2_with fail
      have BF9 : Blk WB bf #[.int .i64 16, .int .i64 0, .int .i64 0, .int .i64 0, .int .i64 0, .int .i64 m0, .int .i64 m1, .int .i64 m2, .int .i64 m3, .int .i64 m4, .int .i64 m5, .int .i64 (n / 64), .slice none 0 0, .int .i64 0] 28 := BF8
      have BX9 : Blk WB bx #[.string qs, .int .i64 qa, .int .i64 3] 53 := BX8
      have BO9 := Lib.hid BO8
      have BP9 := Lib.hid BP8
      have HW9 := Lib.hid HW8
      clear HW8 BF8 BX8 BO8 BP8
      refine Dex.wp_two _ _ _ _ (by kernel_rfl) (by kernel_rfl) 28 53 14 3 Try.underlying28 rfl size28g8 Try.underlying53 rfl size62 _ _ _ _ _ _ rfl rfl rfl rfl rfl rfl rfl rfl bf bx bo bp _ _ _ _ _ _ _ _ BF9 BX9 BO9.out BP9.out rfl rfl rfl rfl (by kernel_rfl) (by kernel_rfl) (Ne.symm nof) (Ne.symm npf) nxo nxp nop rfl rfl rfl rfl rfl rfl ?_
      intro W9 R9 S9 k9
      go_wp2
      exact post_cell2 Try.underlying28 rfl size28g8 Try.underlying53 rfl size62 Try.results46 R9 rfl S9 rfl rfl rfl rfl ⟨rfl, k9.below HW9.out go gp⟩
    · go_wp2_with fail
      have BF9 : Blk WB bf #[.int .i64 16, .int .i64 0, .int .i64 0, .int .i64 0, .int .i64 0, .int .i64 m0, .int .i64 m1, .int .i64 m2, .int .i64 m3, .int .i64 m4, .int .i64 m5, .int .i64 (n / 64), .slice none 0 0, .int .i64 0] 28 := BF8
      have BX9 : Blk WB bx #[.string qs, .int .i64 qa, .int .i64 3] 53 := BX8
      have BO9 := Lib.hid BO8
      have BP9 := Lib.hid BP8
      have HW9 := Lib.hid HW8
      clear HW8 BF8 BX8 BO8 BP8
      refine Dex.wp_two _ _ _ _ (by kernel_rfl) (by kernel_rfl) 28 53 14 3 Try.underlying28 rfl size28g8 Try.underlying53 rfl size62 _ _ _ _ _ _ rfl rfl rfl rfl rfl rfl rfl rfl bf bx bo bp _ _ _ _ _ _ _ _ BF9 BX9 BO9.out BP9.out rfl rfl rfl rfl (by kernel_rfl) (by kernel_rfl) (Ne.symm nof) (Ne.symm npf) nxo nxp nop rfl rfl rfl rfl rfl rfl ?_
      intro W9 R9 S9 k9
      go_wp2
      exact post_cell2 Try.underlying28 rfl size28g8 Try.underlying53 rfl size62 Try.results46 R9 rfl S9 rfl rfl rfl rfl ⟨rfl, k9.below HW9.out go gp⟩
set_option maxHeartbeats 4000000 in
theorem rfill_16_bad2 (n xa xe ya ye za ze qa m0 m1 m2 m3 m4 m5 : Int) (xs ys zs qs : ByteArray) (w : World) (HL : Hid (∀ W, Calls Try.prog 45 #[.agg #[.string xs, .int .i64 xa, .int .i64 xe], .int .i64 1] W fun e w' => e = .returned (.tuple #[.int .i64 16, .agg #[.string ys, .int .i64 ya, .int .i64 ye]]) ∧ Below W.heap.size W w')) (HM : Hid (∀ W, Calls Try.prog 63 #[.agg #[.string ys, .int .i64 ya, .int .i64 ye]] W fun e w' => e = .returned (.tuple #[.agg #[.int .i64 m0, .int .i64 m1, .int .i64 m2, .int .i64 m3, .int .i64 m4, .int .i64 m5], .agg #[.string zs, .int .i64 za, .int .i64 ze]]) ∧ Below W.heap.size W w')) (HN : Hid (∀ W, Calls Try.prog 45 #[.agg #[.string zs, .int .i64 za, .int .i64 ze], .int .i64 1] W fun e w' => e = .returned (.tuple #[.int .i64 n, .agg #[.string qs, .int .i64 qa, .int .i64 0]]) ∧ Below W.heap.size W w')) (n0 : 0 ≤ n) (n1 : n ≤ 255) (w0 : decide ((2 : Int) < n / 64) = false) (w1 : decide ((0 : Int) < n / 16 % 4) = false) (w2 : (n % 16 == 0) = true) :
    Calls Try.prog 46 #[.agg #[.string xs, .int .i64 xa, .int .i64 xe]] w fun e w' => e = .returned (.tuple #[.agg #[.int .i64 16, .int .i64 0, .int .i64 0, .int .i64 0, .int .i64 0, .int .i64 m0, .int .i64 m1, .int .i64 m2, .int .i64 m3, .int .i64 m4, .int .i64 m5, .int .i64 (n / 64), .slice none 0 0, .int .i64 0], .agg #[.string qs, .int .i64 qa, .int .i64 3]]) ∧ Below w.heap.size w w' := by
  go_enter Try.func46, Try.ntmps46
  go_upto_region 18 with (go_big_may; first
    | (refine wl_box 53 _ _ rfl rfl (show _ = Value.agg #[.string xs, .int .i64 xa, .int .i64 xe] from rfl) ?_; intro W1 bx Bx_1 l1 k1; have gx : w.heap.size ≤ bx := l1; have Hw1 := k1; clear l1 k1)
    | (refine wl_alloc 28 _ zeroFL8 rfl rfl ?_; intro W2 bo Bo_2 l2 k2; have go : w.heap.size ≤ bo := Nat.le_trans Hw1.size l2; have nxo : bx ≠ bo := Nat.ne_of_lt (Nat.lt_of_lt_of_le Bx_1.lt l2); have Bx_2 := Bx_1.keep k2; have Hw2 := bq_trans Hw1 k2; clear l2 k2 Bx_1 Hw1)
    | (refine wl_alloc 53 _ zero62 rfl rfl ?_; intro W3 bp Bp_3 l3 k3; have gp : w.heap.size ≤ bp := Nat.le_trans Hw2.size l3; have nxp : bx ≠ bp := Nat.ne_of_lt (Nat.lt_of_lt_of_le Bx_2.lt l3); have nop : bo ≠ bp := Nat.ne_of_lt (Nat.lt_of_lt_of_le Bo_2.lt l3); have Bx_3 := Bx_2.keep k3; have Bo_3 := Bo_2.keep k3; have Hw3 := bq_trans Hw2 k3; clear l3 k3 Bx_2 Bo_2 Hw2)
    | (refine wl_alloc 28 _ zeroFL8 rfl rfl ?_; intro W4 bf Bf_4 l4 k4; have gf : w.heap.size ≤ bf := Nat.le_trans Hw3.size l4; have nxf : bx ≠ bf := Nat.ne_of_lt (Nat.lt_of_lt_of_le Bx_3.lt l4); have nof : bo ≠ bf := Nat.ne_of_lt (Nat.lt_of_lt_of_le Bo_3.lt l4); have npf : bp ≠ bf := Nat.ne_of_lt (Nat.lt_of_lt_of_le Bp_3.lt l4); have Bx_4 := Bx_3.keep k4; have Bo_4 := Bo_3.keep k4; have Bp_4 := Bp_3.keep k4; have Hw4 := bq_trans Hw3 k4; clear l4 k4 Bx_3 Bo_3 Bp_3 Hw3)
    | (refine wl_store 28 14 size28g8 _ _ rfl rfl _ rfl #[.int .i64 0, .int .i64 0, .int .i64 0, .int .i64 0, .int .i64 0, .int .i64 0, .int .i64 0, .int .i64 0, .int .i64 0, .int .i64 0, .int .i64 0, .int .i64 0, .slice none 0 0, .int .i64 0] rfl _ _ Bf_4 rfl rfl (by kernel_rfl) ?_; intro W5 Bf_5 T5; have Bx_5 := T5.blk Bx_4 nxf; have Bo_5 := T5.blk Bo_4 nof; have Bp_5 := T5.blk Bp_4 npf; have Hw5 := T5.below Hw4 gf; clear T5 Bx_4 Bo_4 Bp_4 Bf_4 Hw4)
    | (refine wl_load 53 3 _ Try.underlying53 rfl size62 _ rfl rfl _ rfl _ _ Bx_5 rfl ?_)
    | (go_at_call 45; (with_reducible refine (HL.out _).mono ?_); rintro e W6 ⟨rfl, k6⟩; have Bx_6 := Bx_5.keep k6; have Bo_6 := Bo_5.keep k6; have Bp_6 := Bp_5.keep k6; have Bf_6 := Bf_5.keep k6; have Hw6 := bq_trans Hw5 k6; clear k6 Bx_5 Bo_5 Bp_5 Bf_5 Hw5)
    | (refine wl_set 3 _ _ rfl rfl bf 0 rfl (.int .i64 16) rfl rfl size3s _ _ Bf_6 (by decide : 0 < 14) ?_; intro W7 Bf_7 T7; have Bx_7 := T7.blk Bx_6 nxf; have Bo_7 := T7.blk Bo_6 nof; have Bp_7 := T7.blk Bp_6 npf; have Hw7 := T7.below Hw6 gf; clear T7 Bx_6 Bo_6 Bp_6 Bf_6 Hw6)
    | (refine wl_store 53 3 size62 _ _ rfl rfl _ rfl #[.string ys, .int .i64 ya, .int .i64 ye] rfl _ _ Bx_7 rfl rfl (by kernel_rfl) ?_; intro W8 Bx_8 T8; have Bo_8 := T8.blk Bo_7 (Ne.symm nxo); have Bp_8 := T8.blk Bp_7 (Ne.symm nxp); have Bf_8 := T8.blk Bf_7 (Ne.symm nxf); have Hw8 := T8.below Hw7 gx; clear T8 Bo_7 Bp_7 Bf_7 Bx_7 Hw7; have cf_0_8 : W8.cell? ⟨bf, 0, none⟩ = some (.int .i64 16) := Bf_8.cell 0)
    | (refine wl_load 53 3 _ Try.underlying53 rfl size62 _ rfl rfl _ rfl _ _ Bx_8 rfl ?_)
    | (go_at_call 63; (with_reducible refine (HM.out _).mono ?_); rintro e W9 ⟨rfl, k9⟩; have Bx_9 := Bx_8.keep k9; have Bo_9 := Bo_8.keep k9; have Bp_9 := Bp_8.keep k9; have Bf_9 := Bf_8.keep k9; have Hw9 := bq_trans Hw8 k9; clear k9 Bx_8 Bo_8 Bp_8 Bf_8 cf_0_8 Hw8)
    | (refine wl_putAt 25 _ _ rfl rfl bf 5 rfl #[.int .i64 m0, .int .i64 m1, .int .i64 m2, .int .i64 m3, .int .i64 m4, .int .i64 m5] rfl size25g8 (by kernel_rfl) _ _ Bf_9 (by decide : 5 + 6 ≤ 14) #[.int .i64 16, .int .i64 0, .int .i64 0, .int .i64 0, .int .i64 0, .int .i64 m0, .int .i64 m1, .int .i64 m2, .int .i64 m3, .int .i64 m4, .int .i64 m5, .int .i64 0, .slice none 0 0, .int .i64 0] (by kernel_rfl) ?_; intro W10 Bf_10 T10; have Bx_10 := T10.blk Bx_9 nxf; have Bo_10 := T10.blk Bo_9 nof; have Bp_10 := T10.blk Bp_9 npf; have Hw10 := T10.below Hw9 gf; clear T10 Bx_9 Bo_9 Bp_9 Bf_9 Hw9)
    | (refine wl_store 53 3 size62 _ _ rfl rfl _ rfl #[.string zs, .int .i64 za, .int .i64 ze] rfl _ _ Bx_10 rfl rfl (by kernel_rfl) ?_; intro W11 Bx_11 T11; have Bo_11 := T11.blk Bo_10 (Ne.symm nxo); have Bp_11 := T11.blk Bp_10 (Ne.symm nxp); have Bf_11 := T11.blk Bf_10 (Ne.symm nxf); have Hw11 := T11.below Hw10 gx; clear T11 Bo_10 Bp_10 Bf_10 Bx_10 Hw10)
    | (refine wl_load 53 3 _ Try.underlying53 rfl size62 _ rfl rfl _ rfl _ _ Bx_11 rfl ?_)
    | (go_at_call 45; (with_reducible refine (HN.out _).mono ?_); rintro e W12 ⟨rfl, k12⟩; have Bx_12 := Bx_11.keep k12; have Bo_12 := Bo_11.keep k12; have Bp_12 := Bp_11.keep k12; have Bf_12 := Bf_11.keep k12; have Hw12 := bq_trans Hw11 k12; clear k12 Bx_11 Bo_11 Bp_11 Bf_11 Hw11)
    | (refine wl_store 53 3 size62 _ _ rfl rfl _ rfl #[.string qs, .int .i64 qa, .int .i64 0] rfl _ _ Bx_12 rfl rfl (by kernel_rfl) ?_; intro W13 Bx_13 T13; have Bo_13 := T13.blk Bo_12 (Ne.symm nxo); have Bp_13 := T13.blk Bp_12 (Ne.symm nxp); have Bf_13 := T13.blk Bf_12 (Ne.symm nxf); have Hw13 := T13.below Hw12 gx; clear T13 Bo_12 Bp_12 Bf_12 Bx_12 Hw12)
    | (refine wl_set 3 _ _ rfl rfl bf 11 rfl (.int .i64 (n / 64)) rfl rfl size3s _ _ Bf_13 (by decide : 11 < 14) ?_; intro W14 Bf_14 T14; have Bx_14 := T14.blk Bx_13 nxf; have Bo_14 := T14.blk Bo_13 nof; have Bp_14 := T14.blk Bp_13 npf; have Hw14 := T14.below Hw13 gf; clear T14 Bx_13 Bo_13 Bp_13 Bf_13 Hw13; have cx_2_14 : W14.cell? ⟨bx, 2, none⟩ = some (.int .i64 0) := Bx_14.cell 2; have cf_11_14 : W14.cell? ⟨bf, 11, none⟩ = some (.int .i64 (n / 64)) := Bf_14.cell 11))
  go_upto_region 19 with (fail)
  go_upto_region 20 with (go_big_may; first
    | (refine wl_set 3 _ _ rfl rfl bx 2 rfl (.int .i64 3) rfl rfl size3s _ _ Bx_14 (by decide : 2 < 3) ?_; intro W15 Bx_15 T15; have Bo_15 := T15.blk Bo_14 (Ne.symm nxo); have Bp_15 := T15.blk Bp_14 (Ne.symm nxp); have Bf_15 := T15.blk Bf_14 (Ne.symm nxf); have Hw15 := T15.below Hw14 gx; clear T15 Bo_14 Bp_14 Bf_14 cx_2_14 cf_11_14 Bx_14 Hw14; have cx_2_15 : W15.cell? ⟨bx, 2, none⟩ = some (.int .i64 3) := Bx_15.cell 2))
  go_wp2_with fail
  clear cx_2_15
  have BF8 : Blk W15 bf #[.int .i64 16, .int .i64 0, .int .i64 0, .int .i64 0, .int .i64 0, .int .i64 m0, .int .i64 m1, .int .i64 m2, .int .i64 m3, .int .i64 m4, .int .i64 m5, .int .i64 (n / 64), .slice none 0 0, .int .i64 0] 28 := Bf_15
  have BX8 : Blk W15 bx #[.string qs, .int .i64 qa, .int .i64 3] 53 := Bx_15
  have BO8 := Bo_15
  have BP8 := Bp_15
  have HW8 := Hw15
  clear Hw15 Bf_15 Bx_15 Bo_15 Bp_15
  generalize W15 = WB at *
  go_loopw [7, 8] (fun i _ wq => .int .i64 0 = i ∧ WB = wq) (fun _ _ _ => 0)
  case atStart => exact ⟨rfl, rfl⟩
  case round =>
    obtain ⟨rfl, rfl⟩ := hrel
    have ce : WB.cell? ⟨bx, 2, none⟩ = some (.int .i64 3) := BX8.cell 2
    by_cases hlt : (0 : Int) < n % 16
    · go_wp2_with fail
      have BF9 : Blk WB bf #[.int .i64 16, .int .i64 0, .int .i64 0, .int .i64 0, .int .i64 0, .int .i64 m0, .int .i64 m1, .int .i64 m2, .int .i64 m3, .int .i64 m4, .int .i64 m5, .int .i64 (n / 64), .slice none 0 0, .int .i64 0] 28 := BF8
      have BX9 : Blk WB bx #[.string qs, .int .i64 qa, .int .i64 3] 53 := BX8
      have BO9 := Lib.hid BO8
      have BP9 := Lib.hid BP8
      have HW9 := Lib.hid HW8
      clear HW8 BF8 BX8 BO8 BP8
      refine Dex.wp_two _ _ _ _ (by kernel_rfl) (by kernel_rfl) 28 53 14 3 Try.underlying28 rfl size28g8 Try.underlying53 rfl size62 _ _ _ _ _ _ rfl rfl rfl rfl rfl rfl rfl rfl bf bx bo bp _ _ _ _ _ _ _ _ BF9 BX9 BO9.out BP9.out rfl rfl rfl rfl (by kernel_rfl) (by kernel_rfl) (Ne.symm nof) (Ne.symm npf) nxo nxp nop rfl rfl rfl rfl rfl rfl ?_
      intro W9 R9 S9 k9
      go_wp2
      exact post_cell2 Try.underlying28 rfl size28g8 Try.underlying53 rfl size62 Try.results46 R9 rfl S9 rfl rfl rfl rfl ⟨rfl, k9.below HW9.out go gp⟩
    · go_wp2_with fail
      have BF9 : Blk WB bf #[.int .i64 16, .int .i64 0, .int .i64 0, .int .i64 0, .int .i64 0, .int .i64 m0, .int .i64 m1, .int .i64 m2, .int .i64 m3, .int .i64 m4, .int .i64 m5, .int .i64 (n / 64), .slice none 0 0, .int .i64 0] 28 := BF8
      have BX9 : Blk WB bx #[.string qs, .int .i64 qa, .int .i64 3] 53 := BX8
      have BO9 := Lib.hid BO8
      have BP9 := Lib.hid BP8
      have HW9 := Lib.hid HW8
      clear HW8 BF8 BX8 BO8 BP8
      refine Dex.wp_two _ _ _ _ (by kernel_rfl) (by kernel_rfl) 28 53 14 3 Try.underlying28 rfl size28g8 Try.underlying53 rfl size62 _ _ _ _ _ _ rfl rfl rfl rfl rfl rfl rfl rfl bf bx bo bp _ _ _ _ _ _ _ _ BF9 BX9 BO9.out BP9.out rfl rfl rfl rfl (by kernel_rfl) (by kernel_rfl) (Ne.symm nof) (Ne.symm npf) nxo nxp nop rfl rfl rfl rfl rfl rfl ?_
      intro W9 R9 S9 k9
      go_wp2
      exact post_cell2 Try.underlying28 rfl size28g8 Try.underlying53 rfl size62 Try.results46 R9 rfl S9 rfl rfl rfl rfl ⟨rfl, k9.below HW9.out go gp⟩
set_option maxHeartbeats 4000000 in
theorem rfill_16_bad3 (n xa xe ya ye za ze qa m0 m1 m2 m3 m4 m5 : Int) (xs ys zs qs : ByteArray) (w : World) (HL : Hid (∀ W, Calls Try.prog 45 #[.agg #[.string xs, .int .i64 xa, .int .i64 xe], .int .i64 1] W fun e w' => e = .returned (.tuple #[.int .i64 16, .agg #[.string ys, .int .i64 ya, .int .i64 ye]]) ∧ Below W.heap.size W w')) (HM : Hid (∀ W, Calls Try.prog 63 #[.agg #[.string ys, .int .i64 ya, .int .i64 ye]] W fun e w' => e = .returned (.tuple #[.agg #[.int .i64 m0, .int .i64 m1, .int .i64 m2, .int .i64 m3, .int .i64 m4, .int .i64 m5], .agg #[.string zs, .int .i64 za, .int .i64 ze]]) ∧ Below W.heap.size W w')) (HN : Hid (∀ W, Calls Try.prog 45 #[.agg #[.string zs, .int .i64 za, .int .i64 ze], .int .i64 1] W fun e w' => e = .returned (.tuple #[.int .i64 n, .agg #[.string qs, .int .i64 qa, .int .i64 0]]) ∧ Below W.heap.size W w')) (n0 : 0 ≤ n) (n1 : n ≤ 255) (w0 : decide ((2 : Int) < n / 64) = false) (w1 : decide ((0 : Int) < n / 16 % 4) = false) (w2 : (n % 16 == 0) = false) (w3 : decide ((8 : Int) < n % 16) = true) :
    Calls Try.prog 46 #[.agg #[.string xs, .int .i64 xa, .int .i64 xe]] w fun e w' => e = .returned (.tuple #[.agg #[.int .i64 16, .int .i64 0, .int .i64 0, .int .i64 0, .int .i64 0, .int .i64 m0, .int .i64 m1, .int .i64 m2, .int .i64 m3, .int .i64 m4, .int .i64 m5, .int .i64 (n / 64), .slice none 0 0, .int .i64 0], .agg #[.string qs, .int .i64 qa, .int .i64 3]]) ∧ Below w.heap.size w w' := by
  go_enter Try.func46, Try.ntmps46
  go_upto_region 18 with (go_big_may; first
    | (refine wl_box 53 _ _ rfl rfl (show _ = Value.agg #[.string xs, .int .i64 xa, .int .i64 xe] from rfl) ?_; intro W1 bx Bx_1 l1 k1; have gx : w.heap.size ≤ bx := l1; have Hw1 := k1; clear l1 k1)
    | (refine wl_alloc 28 _ zeroFL8 rfl rfl ?_; intro W2 bo Bo_2 l2 k2; have go : w.heap.size ≤ bo := Nat.le_trans Hw1.size l2; have nxo : bx ≠ bo := Nat.ne_of_lt (Nat.lt_of_lt_of_le Bx_1.lt l2); have Bx_2 := Bx_1.keep k2; have Hw2 := bq_trans Hw1 k2; clear l2 k2 Bx_1 Hw1)
    | (refine wl_alloc 53 _ zero62 rfl rfl ?_; intro W3 bp Bp_3 l3 k3; have gp : w.heap.size ≤ bp := Nat.le_trans Hw2.size l3; have nxp : bx ≠ bp := Nat.ne_of_lt (Nat.lt_of_lt_of_le Bx_2.lt l3); have nop : bo ≠ bp := Nat.ne_of_lt (Nat.lt_of_lt_of_le Bo_2.lt l3); have Bx_3 := Bx_2.keep k3; have Bo_3 := Bo_2.keep k3; have Hw3 := bq_trans Hw2 k3; clear l3 k3 Bx_2 Bo_2 Hw2)
    | (refine wl_alloc 28 _ zeroFL8 rfl rfl ?_; intro W4 bf Bf_4 l4 k4; have gf : w.heap.size ≤ bf := Nat.le_trans Hw3.size l4; have nxf : bx ≠ bf := Nat.ne_of_lt (Nat.lt_of_lt_of_le Bx_3.lt l4); have nof : bo ≠ bf := Nat.ne_of_lt (Nat.lt_of_lt_of_le Bo_3.lt l4); have npf : bp ≠ bf := Nat.ne_of_lt (Nat.lt_of_lt_of_le Bp_3.lt l4); have Bx_4 := Bx_3.keep k4; have Bo_4 := Bo_3.keep k4; have Bp_4 := Bp_3.keep k4; have Hw4 := bq_trans Hw3 k4; clear l4 k4 Bx_3 Bo_3 Bp_3 Hw3)
    | (refine wl_store 28 14 size28g8 _ _ rfl rfl _ rfl #[.int .i64 0, .int .i64 0, .int .i64 0, .int .i64 0, .int .i64 0, .int .i64 0, .int .i64 0, .int .i64 0, .int .i64 0, .int .i64 0, .int .i64 0, .int .i64 0, .slice none 0 0, .int .i64 0] rfl _ _ Bf_4 rfl rfl (by kernel_rfl) ?_; intro W5 Bf_5 T5; have Bx_5 := T5.blk Bx_4 nxf; have Bo_5 := T5.blk Bo_4 nof; have Bp_5 := T5.blk Bp_4 npf; have Hw5 := T5.below Hw4 gf; clear T5 Bx_4 Bo_4 Bp_4 Bf_4 Hw4)
    | (refine wl_load 53 3 _ Try.underlying53 rfl size62 _ rfl rfl _ rfl _ _ Bx_5 rfl ?_)
    | (go_at_call 45; (with_reducible refine (HL.out _).mono ?_); rintro e W6 ⟨rfl, k6⟩; have Bx_6 := Bx_5.keep k6; have Bo_6 := Bo_5.keep k6; have Bp_6 := Bp_5.keep k6; have Bf_6 := Bf_5.keep k6; have Hw6 := bq_trans Hw5 k6; clear k6 Bx_5 Bo_5 Bp_5 Bf_5 Hw5)
    | (refine wl_set 3 _ _ rfl rfl bf 0 rfl (.int .i64 16) rfl rfl size3s _ _ Bf_6 (by decide : 0 < 14) ?_; intro W7 Bf_7 T7; have Bx_7 := T7.blk Bx_6 nxf; have Bo_7 := T7.blk Bo_6 nof; have Bp_7 := T7.blk Bp_6 npf; have Hw7 := T7.below Hw6 gf; clear T7 Bx_6 Bo_6 Bp_6 Bf_6 Hw6)
    | (refine wl_store 53 3 size62 _ _ rfl rfl _ rfl #[.string ys, .int .i64 ya, .int .i64 ye] rfl _ _ Bx_7 rfl rfl (by kernel_rfl) ?_; intro W8 Bx_8 T8; have Bo_8 := T8.blk Bo_7 (Ne.symm nxo); have Bp_8 := T8.blk Bp_7 (Ne.symm nxp); have Bf_8 := T8.blk Bf_7 (Ne.symm nxf); have Hw8 := T8.below Hw7 gx; clear T8 Bo_7 Bp_7 Bf_7 Bx_7 Hw7; have cf_0_8 : W8.cell? ⟨bf, 0, none⟩ = some (.int .i64 16) := Bf_8.cell 0)
    | (refine wl_load 53 3 _ Try.underlying53 rfl size62 _ rfl rfl _ rfl _ _ Bx_8 rfl ?_)
    | (go_at_call 63; (with_reducible refine (HM.out _).mono ?_); rintro e W9 ⟨rfl, k9⟩; have Bx_9 := Bx_8.keep k9; have Bo_9 := Bo_8.keep k9; have Bp_9 := Bp_8.keep k9; have Bf_9 := Bf_8.keep k9; have Hw9 := bq_trans Hw8 k9; clear k9 Bx_8 Bo_8 Bp_8 Bf_8 cf_0_8 Hw8)
    | (refine wl_putAt 25 _ _ rfl rfl bf 5 rfl #[.int .i64 m0, .int .i64 m1, .int .i64 m2, .int .i64 m3, .int .i64 m4, .int .i64 m5] rfl size25g8 (by kernel_rfl) _ _ Bf_9 (by decide : 5 + 6 ≤ 14) #[.int .i64 16, .int .i64 0, .int .i64 0, .int .i64 0, .int .i64 0, .int .i64 m0, .int .i64 m1, .int .i64 m2, .int .i64 m3, .int .i64 m4, .int .i64 m5, .int .i64 0, .slice none 0 0, .int .i64 0] (by kernel_rfl) ?_; intro W10 Bf_10 T10; have Bx_10 := T10.blk Bx_9 nxf; have Bo_10 := T10.blk Bo_9 nof; have Bp_10 := T10.blk Bp_9 npf; have Hw10 := T10.below Hw9 gf; clear T10 Bx_9 Bo_9 Bp_9 Bf_9 Hw9)
    | (refine wl_store 53 3 size62 _ _ rfl rfl _ rfl #[.string zs, .int .i64 za, .int .i64 ze] rfl _ _ Bx_10 rfl rfl (by kernel_rfl) ?_; intro W11 Bx_11 T11; have Bo_11 := T11.blk Bo_10 (Ne.symm nxo); have Bp_11 := T11.blk Bp_10 (Ne.symm nxp); have Bf_11 := T11.blk Bf_10 (Ne.symm nxf); have Hw11 := T11.below Hw10 gx; clear T11 Bo_10 Bp_10 Bf_10 Bx_10 Hw10)
    | (refine wl_load 53 3 _ Try.underlying53 rfl size62 _ rfl rfl _ rfl _ _ Bx_11 rfl ?_)
    | (go_at_call 45; (with_reducible refine (HN.out _).mono ?_); rintro e W12 ⟨rfl, k12⟩; have Bx_12 := Bx_11.keep k12; have Bo_12 := Bo_11.keep k12; have Bp_12 := Bp_11.keep k12; have Bf_12 := Bf_11.keep k12; have Hw12 := bq_trans Hw11 k12; clear k12 Bx_11 Bo_11 Bp_11 Bf_11 Hw11)
    | (refine wl_store 53 3 size62 _ _ rfl rfl _ rfl #[.string qs, .int .i64 qa, .int .i64 0] rfl _ _ Bx_12 rfl rfl (by kernel_rfl) ?_; intro W13 Bx_13 T13; have Bo_13 := T13.blk Bo_12 (Ne.symm nxo); have Bp_13 := T13.blk Bp_12 (Ne.symm nxp); have Bf_13 := T13.blk Bf_12 (Ne.symm nxf); have Hw13 := T13.below Hw12 gx; clear T13 Bo_12 Bp_12 Bf_12 Bx_12 Hw12)
    | (refine wl_set 3 _ _ rfl rfl bf 11 rfl (.int .i64 (n / 64)) rfl rfl size3s _ _ Bf_13 (by decide : 11 < 14) ?_; intro W14 Bf_14 T14; have Bx_14 := T14.blk Bx_13 nxf; have Bo_14 := T14.blk Bo_13 nof; have Bp_14 := T14.blk Bp_13 npf; have Hw14 := T14.below Hw13 gf; clear T14 Bx_13 Bo_13 Bp_13 Bf_13 Hw13; have cx_2_14 : W14.cell? ⟨bx, 2, none⟩ = some (.int .i64 0) := Bx_14.cell 2; have cf_11_14 : W14.cell? ⟨bf, 11, none⟩ = some (.int .i64 (n / 64)) := Bf_14.cell 11))
  go_upto_region 19 with (fail)
  go_upto_region 20 with (go_big_may; first
    | (refine wl_set 3 _ _ rfl rfl bx 2 rfl (.int .i64 3) rfl rfl size3s _ _ Bx_14 (by decide : 2 < 3) ?_; intro W15 Bx_15 T15; have Bo_15 := T15.blk Bo_14 (Ne.symm nxo); have Bp_15 := T15.blk Bp_14 (Ne.symm nxp); have Bf_15 := T15.blk Bf_14 (Ne.symm nxf); have Hw15 := T15.below Hw14 gx; clear T15 Bo_14 Bp_14 Bf_14 cx_2_14 cf_11_14 Bx_14 Hw14; have cx_2_15 : W15.cell? ⟨bx, 2, none⟩ = some (.int .i64 3) := Bx_15.cell 2))
  go_wp2_with fail
  clear cx_2_15
  have BF8 : Blk W15 bf #[.int .i64 16, .int .i64 0, .int .i64 0, .int .i64 0, .int .i64 0, .int .i64 m0, .int .i64 m1, .int .i64 m2, .int .i64 m3, .int .i64 m4, .int .i64 m5, .int .i64 (n / 64), .slice none 0 0, .int .i64 0] 28 := Bf_15
  have BX8 : Blk W15 bx #[.string qs, .int .i64 qa, .int .i64 3] 53 := Bx_15
  have BO8 := Bo_15
  have BP8 := Bp_15
  have HW8 := Hw15
  clear Hw15 Bf_15 Bx_15 Bo_15 Bp_15
  generalize W15 = WB at *
  go_loopw [7, 8] (fun i _ wq => .int .i64 0 = i ∧ WB = wq) (fun _ _ _ => 0)
  case atStart => exact ⟨rfl, rfl⟩
  case round =>
    obtain ⟨rfl, rfl⟩ := hrel
    have ce : WB.cell? ⟨bx, 2, none⟩ = some (.int .i64 3) := BX8.cell 2
    by_cases hlt : (0 : Int) < n % 16
    · go_wp2_with fail
      have BF9 : Blk WB bf #[.int .i64 16, .int .i64 0, .int .i64 0, .int .i64 0, .int .i64 0, .int .i64 m0, .int .i64 m1, .int .i64 m2, .int .i64 m3, .int .i64 m4, .int .i64 m5, .int .i64 (n / 64), .slice none 0 0, .int .i64 0] 28 := BF8
      have BX9 : Blk WB bx #[.string qs, .int .i64 qa, .int .i64 3] 53 := BX8
      have BO9 := Lib.hid BO8
      have BP9 := Lib.hid BP8
      have HW9 := Lib.hid HW8
      clear HW8 BF8 BX8 BO8 BP8
      refine Dex.wp_two _ _ _ _ (by kernel_rfl) (by kernel_rfl) 28 53 14 3 Try.underlying28 rfl size28g8 Try.underlying53 rfl size62 _ _ _ _ _ _ rfl rfl rfl rfl rfl rfl rfl rfl bf bx bo bp _ _ _ _ _ _ _ _ BF9 BX9 BO9.out BP9.out rfl rfl rfl rfl (by kernel_rfl) (by kernel_rfl) (Ne.symm nof) (Ne.symm npf) nxo nxp nop rfl rfl rfl rfl rfl rfl ?_
      intro W9 R9 S9 k9
      go_wp2
      exact post_cell2 Try.underlying28 rfl size28g8 Try.underlying53 rfl size62 Try.results46 R9 rfl S9 rfl rfl rfl rfl ⟨rfl, k9.below HW9.out go gp⟩
    · go_wp2_with fail
      have BF9 : Blk WB bf #[.int .i64 16, .int .i64 0, .int .i64 0, .int .i64 0, .int .i64 0, .int .i64 m0, .int .i64 m1, .int .i64 m2, .int .i64 m3, .int .i64 m4, .int .i64 m5, .int .i64 (n / 64), .slice none 0 0, .int .i64 0] 28 := BF8
      have BX9 : Blk WB bx #[.string qs, .int .i64 qa, .int .i64 3] 53 := BX8
      have BO9 := Lib.hid BO8
      have BP9 := Lib.hid BP8
      have HW9 := Lib.hid HW8
      clear HW8 BF8 BX8 BO8 BP8
      refine Dex.wp_two _ _ _ _ (by kernel_rfl) (by kernel_rfl) 28 53 14 3 Try.underlying28 rfl size28g8 Try.underlying53 rfl size62 _ _ _ _ _ _ rfl rfl rfl rfl rfl rfl rfl rfl bf bx bo bp _ _ _ _ _ _ _ _ BF9 BX9 BO9.out BP9.out rfl rfl rfl rfl (by kernel_rfl) (by kernel_rfl) (Ne.symm nof) (Ne.symm npf) nxo nxp nop rfl rfl rfl rfl rfl rfl ?_
      intro W9 R9 S9 k9
      go_wp2
      exact post_cell2 Try.underlying28 rfl size28g8 Try.underlying53 rfl size62 Try.results46 R9 rfl S9 rfl rfl rfl rfl ⟨rfl, k9.below HW9.out go gp⟩
set_option maxHeartbeats 4000000 in
theorem rfill_18_bad0 (n xa xe ya ye za ze qa m0 m1 m2 m3 m4 m5 : Int) (xs ys zs qs : ByteArray) (w : World) (HL : Hid (∀ W, Calls Try.prog 45 #[.agg #[.string xs, .int .i64 xa, .int .i64 xe], .int .i64 1] W fun e w' => e = .returned (.tuple #[.int .i64 18, .agg #[.string ys, .int .i64 ya, .int .i64 ye]]) ∧ Below W.heap.size W w')) (HM : Hid (∀ W, Calls Try.prog 63 #[.agg #[.string ys, .int .i64 ya, .int .i64 ye]] W fun e w' => e = .returned (.tuple #[.agg #[.int .i64 m0, .int .i64 m1, .int .i64 m2, .int .i64 m3, .int .i64 m4, .int .i64 m5], .agg #[.string zs, .int .i64 za, .int .i64 ze]]) ∧ Below W.heap.size W w')) (HN : Hid (∀ W, Calls Try.prog 45 #[.agg #[.string zs, .int .i64 za, .int .i64 ze], .int .i64 1] W fun e w' => e = .returned (.tuple #[.int .i64 n, .agg #[.string qs, .int .i64 qa, .int .i64 0]]) ∧ Below W.heap.size W w')) (n0 : 0 ≤ n) (n1 : n ≤ 255) (w0 : decide ((2 : Int) < n / 64) = true) :
    Calls Try.prog 46 #[.agg #[.string xs, .int .i64 xa, .int .i64 xe]] w fun e w' => e = .returned (.tuple #[.agg #[.int .i64 18, .int .i64 0, .int .i64 0, .int .i64 0, .int .i64 0, .int .i64 m0, .int .i64 m1, .int .i64 m2, .int .i64 m3, .int .i64 m4, .int .i64 m5, .int .i64 (n / 64), .slice none 0 0, .int .i64 0], .agg #[.string qs, .int .i64 qa, .int .i64 3]]) ∧ Below w.heap.size w w' := by
  go_enter Try.func46, Try.ntmps46
  go_upto_region 18 with (go_big_may; first
    | (refine wl_box 53 _ _ rfl rfl (show _ = Value.agg #[.string xs, .int .i64 xa, .int .i64 xe] from rfl) ?_; intro W1 bx Bx_1 l1 k1; have gx : w.heap.size ≤ bx := l1; have Hw1 := k1; clear l1 k1)
    | (refine wl_alloc 28 _ zeroFL8 rfl rfl ?_; intro W2 bo Bo_2 l2 k2; have go : w.heap.size ≤ bo := Nat.le_trans Hw1.size l2; have nxo : bx ≠ bo := Nat.ne_of_lt (Nat.lt_of_lt_of_le Bx_1.lt l2); have Bx_2 := Bx_1.keep k2; have Hw2 := bq_trans Hw1 k2; clear l2 k2 Bx_1 Hw1)
    | (refine wl_alloc 53 _ zero62 rfl rfl ?_; intro W3 bp Bp_3 l3 k3; have gp : w.heap.size ≤ bp := Nat.le_trans Hw2.size l3; have nxp : bx ≠ bp := Nat.ne_of_lt (Nat.lt_of_lt_of_le Bx_2.lt l3); have nop : bo ≠ bp := Nat.ne_of_lt (Nat.lt_of_lt_of_le Bo_2.lt l3); have Bx_3 := Bx_2.keep k3; have Bo_3 := Bo_2.keep k3; have Hw3 := bq_trans Hw2 k3; clear l3 k3 Bx_2 Bo_2 Hw2)
    | (refine wl_alloc 28 _ zeroFL8 rfl rfl ?_; intro W4 bf Bf_4 l4 k4; have gf : w.heap.size ≤ bf := Nat.le_trans Hw3.size l4; have nxf : bx ≠ bf := Nat.ne_of_lt (Nat.lt_of_lt_of_le Bx_3.lt l4); have nof : bo ≠ bf := Nat.ne_of_lt (Nat.lt_of_lt_of_le Bo_3.lt l4); have npf : bp ≠ bf := Nat.ne_of_lt (Nat.lt_of_lt_of_le Bp_3.lt l4); have Bx_4 := Bx_3.keep k4; have Bo_4 := Bo_3.keep k4; have Bp_4 := Bp_3.keep k4; have Hw4 := bq_trans Hw3 k4; clear l4 k4 Bx_3 Bo_3 Bp_3 Hw3)
    | (refine wl_store 28 14 size28g8 _ _ rfl rfl _ rfl #[.int .i64 0, .int .i64 0, .int .i64 0, .int .i64 0, .int .i64 0, .int .i64 0, .int .i64 0, .int .i64 0, .int .i64 0, .int .i64 0, .int .i64 0, .int .i64 0, .slice none 0 0, .int .i64 0] rfl _ _ Bf_4 rfl rfl (by kernel_rfl) ?_; intro W5 Bf_5 T5; have Bx_5 := T5.blk Bx_4 nxf; have Bo_5 := T5.blk Bo_4 nof; have Bp_5 := T5.blk Bp_4 npf; have Hw5 := T5.below Hw4 gf; clear T5 Bx_4 Bo_4 Bp_4 Bf_4 Hw4)
    | (refine wl_load 53 3 _ Try.underlying53 rfl size62 _ rfl rfl _ rfl _ _ Bx_5 rfl ?_)
    | (go_at_call 45; (with_reducible refine (HL.out _).mono ?_); rintro e W6 ⟨rfl, k6⟩; have Bx_6 := Bx_5.keep k6; have Bo_6 := Bo_5.keep k6; have Bp_6 := Bp_5.keep k6; have Bf_6 := Bf_5.keep k6; have Hw6 := bq_trans Hw5 k6; clear k6 Bx_5 Bo_5 Bp_5 Bf_5 Hw5)
    | (refine wl_set 3 _ _ rfl rfl bf 0 rfl (.int .i64 18) rfl rfl size3s _ _ Bf_6 (by decide : 0 < 14) ?_; intro W7 Bf_7 T7; have Bx_7 := T7.blk Bx_6 nxf; have Bo_7 := T7.blk Bo_6 nof; have Bp_7 := T7.blk Bp_6 npf; have Hw7 := T7.below Hw6 gf; clear T7 Bx_6 Bo_6 Bp_6 Bf_6 Hw6)
    | (refine wl_store 53 3 size62 _ _ rfl rfl _ rfl #[.string ys, .int .i64 ya, .int .i64 ye] rfl _ _ Bx_7 rfl rfl (by kernel_rfl) ?_; intro W8 Bx_8 T8; have Bo_8 := T8.blk Bo_7 (Ne.symm nxo); have Bp_8 := T8.blk Bp_7 (Ne.symm nxp); have Bf_8 := T8.blk Bf_7 (Ne.symm nxf); have Hw8 := T8.below Hw7 gx; clear T8 Bo_7 Bp_7 Bf_7 Bx_7 Hw7; have cf_0_8 : W8.cell? ⟨bf, 0, none⟩ = some (.int .i64 18) := Bf_8.cell 0)
    | (refine wl_load 53 3 _ Try.underlying53 rfl size62 _ rfl rfl _ rfl _ _ Bx_8 rfl ?_)
    | (go_at_call 63; (with_reducible refine (HM.out _).mono ?_); rintro e W9 ⟨rfl, k9⟩; have Bx_9 := Bx_8.keep k9; have Bo_9 := Bo_8.keep k9; have Bp_9 := Bp_8.keep k9; have Bf_9 := Bf_8.keep k9; have Hw9 := bq_trans Hw8 k9; clear k9 Bx_8 Bo_8 Bp_8 Bf_8 cf_0_8 Hw8)
    | (refine wl_putAt 25 _ _ rfl rfl bf 5 rfl #[.int .i64 m0, .int .i64 m1, .int .i64 m2, .int .i64 m3, .int .i64 m4, .int .i64 m5] rfl size25g8 (by kernel_rfl) _ _ Bf_9 (by decide : 5 + 6 ≤ 14) #[.int .i64 18, .int .i64 0, .int .i64 0, .int .i64 0, .int .i64 0, .int .i64 m0, .int .i64 m1, .int .i64 m2, .int .i64 m3, .int .i64 m4, .int .i64 m5, .int .i64 0, .slice none 0 0, .int .i64 0] (by kernel_rfl) ?_; intro W10 Bf_10 T10; have Bx_10 := T10.blk Bx_9 nxf; have Bo_10 := T10.blk Bo_9 nof; have Bp_10 := T10.blk Bp_9 npf; have Hw10 := T10.below Hw9 gf; clear T10 Bx_9 Bo_9 Bp_9 Bf_9 Hw9)
    | (refine wl_store 53 3 size62 _ _ rfl rfl _ rfl #[.string zs, .int .i64 za, .int .i64 ze] rfl _ _ Bx_10 rfl rfl (by kernel_rfl) ?_; intro W11 Bx_11 T11; have Bo_11 := T11.blk Bo_10 (Ne.symm nxo); have Bp_11 := T11.blk Bp_10 (Ne.symm nxp); have Bf_11 := T11.blk Bf_10 (Ne.symm nxf); have Hw11 := T11.below Hw10 gx; clear T11 Bo_10 Bp_10 Bf_10 Bx_10 Hw10)
    | (refine wl_load 53 3 _ Try.underlying53 rfl size62 _ rfl rfl _ rfl _ _ Bx_11 rfl ?_)
    | (go_at_call 45; (with_reducible refine (HN.out _).mono ?_); rintro e W12 ⟨rfl, k12⟩; have Bx_12 := Bx_11.keep k12; have Bo_12 := Bo_11.keep k12; have Bp_12 := Bp_11.keep k12; have Bf_12 := Bf_11.keep k12; have Hw12 := bq_trans Hw11 k12; clear k12 Bx_11 Bo_11 Bp_11 Bf_11 Hw11)
    | (refine wl_store 53 3 size62 _ _ rfl rfl _ rfl #[.string qs, .int .i64 qa, .int .i64 0] rfl _ _ Bx_12 rfl rfl (by kernel_rfl) ?_; intro W13 Bx_13 T13; have Bo_13 := T13.blk Bo_12 (Ne.symm nxo); have Bp_13 := T13.blk Bp_12 (Ne.symm nxp); have Bf_13 := T13.blk Bf_12 (Ne.symm nxf); have Hw13 := T13.below Hw12 gx; clear T13 Bo_12 Bp_12 Bf_12 Bx_12 Hw12)
    | (refine wl_set 3 _ _ rfl rfl bf 11 rfl (.int .i64 (n / 64)) rfl rfl size3s _ _ Bf_13 (by decide : 11 < 14) ?_; intro W14 Bf_14 T14; have Bx_14 := T14.blk Bx_13 nxf; have Bo_14 := T14.blk Bo_13 nof; have Bp_14 := T14.blk Bp_13 npf; have Hw14 := T14.below Hw13 gf; clear T14 Bx_13 Bo_13 Bp_13 Bf_13 Hw13; have cx_2_14 : W14.cell? ⟨bx, 2, none⟩ = some (.int .i64 0) := Bx_14.cell 2; have cf_11_14 : W14.cell? ⟨bf, 11, none⟩ = some (.int .i64 (n / 64)) := Bf_14.cell 11))
  go_upto_region 19 with (fail)
  go_upto_region 20 with (go_big_may; first
    | (refine wl_set 3 _ _ rfl rfl bx 2 rfl (.int .i64 3) rfl rfl size3s _ _ Bx_14 (by decide : 2 < 3) ?_; intro W15 Bx_15 T15; have Bo_15 := T15.blk Bo_14 (Ne.symm nxo); have Bp_15 := T15.blk Bp_14 (Ne.symm nxp); have Bf_15 := T15.blk Bf_14 (Ne.symm nxf); have Hw15 := T15.below Hw14 gx; clear T15 Bo_14 Bp_14 Bf_14 cx_2_14 cf_11_14 Bx_14 Hw14; have cx_2_15 : W15.cell? ⟨bx, 2, none⟩ = some (.int .i64 3) := Bx_15.cell 2))
  go_wp2_with fail
  clear cx_2_15
  have BF8 : Blk W15 bf #[.int .i64 18, .int .i64 0, .int .i64 0, .int .i64 0, .int .i64 0, .int .i64 m0, .int .i64 m1, .int .i64 m2, .int .i64 m3, .int .i64 m4, .int .i64 m5, .int .i64 (n / 64), .slice none 0 0, .int .i64 0] 28 := Bf_15
  have BX8 : Blk W15 bx #[.string qs, .int .i64 qa, .int .i64 3] 53 := Bx_15
  have BO8 := Bo_15
  have BP8 := Bp_15
  have HW8 := Hw15
  clear Hw15 Bf_15 Bx_15 Bo_15 Bp_15
  generalize W15 = WB at *
  go_loopw [7, 8] (fun i _ wq => .int .i64 0 = i ∧ WB = wq) (fun _ _ _ => 0)
  case atStart => exact ⟨rfl, rfl⟩
  case round =>
    obtain ⟨rfl, rfl⟩ := hrel
    have ce : WB.cell? ⟨bx, 2, none⟩ = some (.int .i64 3) := BX8.cell 2
    by_cases hlt : (0 : Int) < n % 16
    · go_wp2_with fail
      have BF9 : Blk WB bf #[.int .i64 18, .int .i64 0, .int .i64 0, .int .i64 0, .int .i64 0, .int .i64 m0, .int .i64 m1, .int .i64 m2, .int .i64 m3, .int .i64 m4, .int .i64 m5, .int .i64 (n / 64), .slice none 0 0, .int .i64 0] 28 := BF8
      have BX9 : Blk WB bx #[.string qs, .int .i64 qa, .int .i64 3] 53 := BX8
      have BO9 := Lib.hid BO8
      have BP9 := Lib.hid BP8
      have HW9 := Lib.hid HW8
      clear HW8 BF8 BX8 BO8 BP8
      refine Dex.wp_two _ _ _ _ (by kernel_rfl) (by kernel_rfl) 28 53 14 3 Try.underlying28 rfl size28g8 Try.underlying53 rfl size62 _ _ _ _ _ _ rfl rfl rfl rfl rfl rfl rfl rfl bf bx bo bp _ _ _ _ _ _ _ _ BF9 BX9 BO9.out BP9.out rfl rfl rfl rfl (by kernel_rfl) (by kernel_rfl) (Ne.symm nof) (Ne.symm npf) nxo nxp nop rfl rfl rfl rfl rfl rfl ?_
      intro W9 R9 S9 k9
      go_wp2
      exact post_cell2 Try.underlying28 rfl size28g8 Try.underlying53 rfl size62 Try.results46 R9 rfl S9 rfl rfl rfl rfl ⟨rfl, k9.below HW9.out go gp⟩
    · go_wp2_with fail
      have BF9 : Blk WB bf #[.int .i64 18, .int .i64 0, .int .i64 0, .int .i64 0, .int .i64 0, .int .i64 m0, .int .i64 m1, .int .i64 m2, .int .i64 m3, .int .i64 m4, .int .i64 m5, .int .i64 (n / 64), .slice none 0 0, .int .i64 0] 28 := BF8
      have BX9 : Blk WB bx #[.string qs, .int .i64 qa, .int .i64 3] 53 := BX8
      have BO9 := Lib.hid BO8
      have BP9 := Lib.hid BP8
      have HW9 := Lib.hid HW8
      clear HW8 BF8 BX8 BO8 BP8
      refine Dex.wp_two _ _ _ _ (by kernel_rfl) (by kernel_rfl) 28 53 14 3 Try.underlying28 rfl size28g8 Try.underlying53 rfl size62 _ _ _ _ _ _ rfl rfl rfl rfl rfl rfl rfl rfl bf bx bo bp _ _ _ _ _ _ _ _ BF9 BX9 BO9.out BP9.out rfl rfl rfl rfl (by kernel_rfl) (by kernel_rfl) (Ne.symm nof) (Ne.symm npf) nxo nxp nop rfl rfl rfl rfl rfl rfl ?_
      intro W9 R9 S9 k9
      go_wp2
      exact post_cell2 Try.underlying28 rfl size28g8 Try.underlying53 rfl size62 Try.results46 R9 rfl S9 rfl rfl rfl rfl ⟨rfl, k9.below HW9.out go gp⟩
set_option maxHeartbeats 4000000 in
theorem rfill_18_bad1 (n xa xe ya ye za ze qa m0 m1 m2 m3 m4 m5 : Int) (xs ys zs qs : ByteArray) (w : World) (HL : Hid (∀ W, Calls Try.prog 45 #[.agg #[.string xs, .int .i64 xa, .int .i64 xe], .int .i64 1] W fun e w' => e = .returned (.tuple #[.int .i64 18, .agg #[.string ys, .int .i64 ya, .int .i64 ye]]) ∧ Below W.heap.size W w')) (HM : Hid (∀ W, Calls Try.prog 63 #[.agg #[.string ys, .int .i64 ya, .int .i64 ye]] W fun e w' => e = .returned (.tuple #[.agg #[.int .i64 m0, .int .i64 m1, .int .i64 m2, .int .i64 m3, .int .i64 m4, .int .i64 m5], .agg #[.string zs, .int .i64 za, .int .i64 ze]]) ∧ Below W.heap.size W w')) (HN : Hid (∀ W, Calls Try.prog 45 #[.agg #[.string zs, .int .i64 za, .int .i64 ze], .int .i64 1] W fun e w' => e = .returned (.tuple #[.int .i64 n, .agg #[.string qs, .int .i64 qa, .int .i64 0]]) ∧ Below W.heap.size W w')) (n0 : 0 ≤ n) (n1 : n ≤ 255) (w0 : decide ((2 : Int) < n / 64) = false) (w1 : decide ((0 : Int) < n / 16 % 4) = true) :
    Calls Try.prog 46 #[.agg #[.string xs, .int .i64 xa, .int .i64 xe]] w fun e w' => e = .returned (.tuple #[.agg #[.int .i64 18, .int .i64 0, .int .i64 0, .int .i64 0, .int .i64 0, .int .i64 m0, .int .i64 m1, .int .i64 m2, .int .i64 m3, .int .i64 m4, .int .i64 m5, .int .i64 (n / 64), .slice none 0 0, .int .i64 0], .agg #[.string qs, .int .i64 qa, .int .i64 3]]) ∧ Below w.heap.size w w' := by
  go_enter Try.func46, Try.ntmps46
  go_upto_region 18 with (go_big_may; first
    | (refine wl_box 53 _ _ rfl rfl (show _ = Value.agg #[.string xs, .int .i64 xa, .int .i64 xe] from rfl) ?_; intro W1 bx Bx_1 l1 k1; have gx : w.heap.size ≤ bx := l1; have Hw1 := k1; clear l1 k1)
    | (refine wl_alloc 28 _ zeroFL8 rfl rfl ?_; intro W2 bo Bo_2 l2 k2; have go : w.heap.size ≤ bo := Nat.le_trans Hw1.size l2; have nxo : bx ≠ bo := Nat.ne_of_lt (Nat.lt_of_lt_of_le Bx_1.lt l2); have Bx_2 := Bx_1.keep k2; have Hw2 := bq_trans Hw1 k2; clear l2 k2 Bx_1 Hw1)
    | (refine wl_alloc 53 _ zero62 rfl rfl ?_; intro W3 bp Bp_3 l3 k3; have gp : w.heap.size ≤ bp := Nat.le_trans Hw2.size l3; have nxp : bx ≠ bp := Nat.ne_of_lt (Nat.lt_of_lt_of_le Bx_2.lt l3); have nop : bo ≠ bp := Nat.ne_of_lt (Nat.lt_of_lt_of_le Bo_2.lt l3); have Bx_3 := Bx_2.keep k3; have Bo_3 := Bo_2.keep k3; have Hw3 := bq_trans Hw2 k3; clear l3 k3 Bx_2 Bo_2 Hw2)
    | (refine wl_alloc 28 _ zeroFL8 rfl rfl ?_; intro W4 bf Bf_4 l4 k4; have gf : w.heap.size ≤ bf := Nat.le_trans Hw3.size l4; have nxf : bx ≠ bf := Nat.ne_of_lt (Nat.lt_of_lt_of_le Bx_3.lt l4); have nof : bo ≠ bf := Nat.ne_of_lt (Nat.lt_of_lt_of_le Bo_3.lt l4); have npf : bp ≠ bf := Nat.ne_of_lt (Nat.lt_of_lt_of_le Bp_3.lt l4); have Bx_4 := Bx_3.keep k4; have Bo_4 := Bo_3.keep k4; have Bp_4 := Bp_3.keep k4; have Hw4 := bq_trans Hw3 k4; clear l4 k4 Bx_3 Bo_3 Bp_3 Hw3)
    | (refine wl_store 28 14 size28g8 _ _ rfl rfl _ rfl #[.int .i64 0, .int .i64 0, .int .i64 0, .int .i64 0, .int .i64 0, .int .i64 0, .int .i64 0, .int .i64 0, .int .i64 0, .int .i64 0, .int .i64 0, .int .i64 0, .slice none 0 0, .int .i64 0] rfl _ _ Bf_4 rfl rfl (by kernel_rfl) ?_; intro W5 Bf_5 T5; have Bx_5 := T5.blk Bx_4 nxf; have Bo_5 := T5.blk Bo_4 nof; have Bp_5 := T5.blk Bp_4 npf; have Hw5 := T5.below Hw4 gf; clear T5 Bx_4 Bo_4 Bp_4 Bf_4 Hw4)
    | (refine wl_load 53 3 _ Try.underlying53 rfl size62 _ rfl rfl _ rfl _ _ Bx_5 rfl ?_)
    | (go_at_call 45; (with_reducible refine (HL.out _).mono ?_); rintro e W6 ⟨rfl, k6⟩; have Bx_6 := Bx_5.keep k6; have Bo_6 := Bo_5.keep k6; have Bp_6 := Bp_5.keep k6; have Bf_6 := Bf_5.keep k6; have Hw6 := bq_trans Hw5 k6; clear k6 Bx_5 Bo_5 Bp_5 Bf_5 Hw5)
    | (refine wl_set 3 _ _ rfl rfl bf 0 rfl (.int .i64 18) rfl rfl size3s _ _ Bf_6 (by decide : 0 < 14) ?_; intro W7 Bf_7 T7; have Bx_7 := T7.blk Bx_6 nxf; have Bo_7 := T7.blk Bo_6 nof; have Bp_7 := T7.blk Bp_6 npf; have Hw7 := T7.below Hw6 gf; clear T7 Bx_6 Bo_6 Bp_6 Bf_6 Hw6)
    | (refine wl_store 53 3 size62 _ _ rfl rfl _ rfl #[.string ys, .int .i64 ya, .int .i64 ye] rfl _ _ Bx_7 rfl rfl (by kernel_rfl) ?_; intro W8 Bx_8 T8; have Bo_8 := T8.blk Bo_7 (Ne.symm nxo); have Bp_8 := T8.blk Bp_7 (Ne.symm nxp); have Bf_8 := T8.blk Bf_7 (Ne.symm nxf); have Hw8 := T8.below Hw7 gx; clear T8 Bo_7 Bp_7 Bf_7 Bx_7 Hw7; have cf_0_8 : W8.cell? ⟨bf, 0, none⟩ = some (.int .i64 18) := Bf_8.cell 0)
    | (refine wl_load 53 3 _ Try.underlying53 rfl size62 _ rfl rfl _ rfl _ _ Bx_8 rfl ?_)
    | (go_at_call 63; (with_reducible refine (HM.out _).mono ?_); rintro e W9 ⟨rfl, k9⟩; have Bx_9 := Bx_8.keep k9; have Bo_9 := Bo_8.keep k9; have Bp_9 := Bp_8.keep k9; have Bf_9 := Bf_8.keep k9; have Hw9 := bq_trans Hw8 k9; clear k9 Bx_8 Bo_8 Bp_8 Bf_8 cf_0_8 Hw8)
    | (refine wl_putAt 25 _ _ rfl rfl bf 5 rfl #[.int .i64 m0, .int .i64 m1, .int .i64 m2, .int .i64 m3, .int .i64 m4, .int .i64 m5] rfl size25g8 (by kernel_rfl) _ _ Bf_9 (by decide : 5 + 6 ≤ 14) #[.int .i64 18, .int .i64 0, .int .i64 0, .int .i64 0, .int .i64 0, .int .i64 m0, .int .i64 m1, .int .i64 m2, .int .i64 m3, .int .i64 m4, .int .i64 m5, .int .i64 0, .slice none 0 0, .int .i64 0] (by kernel_rfl) ?_; intro W10 Bf_10 T10; have Bx_10 := T10.blk Bx_9 nxf; have Bo_10 := T10.blk Bo_9 nof; have Bp_10 := T10.blk Bp_9 npf; have Hw10 := T10.below Hw9 gf; clear T10 Bx_9 Bo_9 Bp_9 Bf_9 Hw9)
    | (refine wl_store 53 3 size62 _ _ rfl rfl _ rfl #[.string zs, .int .i64 za, .int .i64 ze] rfl _ _ Bx_10 rfl rfl (by kernel_rfl) ?_; intro W11 Bx_11 T11; have Bo_11 := T11.blk Bo_10 (Ne.symm nxo); have Bp_11 := T11.blk Bp_10 (Ne.symm nxp); have Bf_11 := T11.blk Bf_10 (Ne.symm nxf); have Hw11 := T11.below Hw10 gx; clear T11 Bo_10 Bp_10 Bf_10 Bx_10 Hw10)
    | (refine wl_load 53 3 _ Try.underlying53 rfl size62 _ rfl rfl _ rfl _ _ Bx_11 rfl ?_)
    | (go_at_call 45; (with_reducible refine (HN.out _).mono ?_); rintro e W12 ⟨rfl, k12⟩; have Bx_12 := Bx_11.keep k12; have Bo_12 := Bo_11.keep k12; have Bp_12 := Bp_11.keep k12; have Bf_12 := Bf_11.keep k12; have Hw12 := bq_trans Hw11 k12; clear k12 Bx_11 Bo_11 Bp_11 Bf_11 Hw11)
    | (refine wl_store 53 3 size62 _ _ rfl rfl _ rfl #[.string qs, .int .i64 qa, .int .i64 0] rfl _ _ Bx_12 rfl rfl (by kernel_rfl) ?_; intro W13 Bx_13 T13; have Bo_13 := T13.blk Bo_12 (Ne.symm nxo); have Bp_13 := T13.blk Bp_12 (Ne.symm nxp); have Bf_13 := T13.blk Bf_12 (Ne.symm nxf); have Hw13 := T13.below Hw12 gx; clear T13 Bo_12 Bp_12 Bf_12 Bx_12 Hw12)
    | (refine wl_set 3 _ _ rfl rfl bf 11 rfl (.int .i64 (n / 64)) rfl rfl size3s _ _ Bf_13 (by decide : 11 < 14) ?_; intro W14 Bf_14 T14; have Bx_14 := T14.blk Bx_13 nxf; have Bo_14 := T14.blk Bo_13 nof; have Bp_14 := T14.blk Bp_13 npf; have Hw14 := T14.below Hw13 gf; clear T14 Bx_13 Bo_13 Bp_13 Bf_13 Hw13; have cx_2_14 : W14.cell? ⟨bx, 2, none⟩ = some (.int .i64 0) := Bx_14.cell 2; have cf_11_14 : W14.cell? ⟨bf, 11, none⟩ = some (.int .i64 (n / 64)) := Bf_14.cell 11))
  go_upto_region 19 with (fail)
  go_upto_region 20 with (go_big_may; first
    | (refine wl_set 3 _ _ rfl rfl bx 2 rfl (.int .i64 3) rfl rfl size3s _ _ Bx_14 (by decide : 2 < 3) ?_; intro W15 Bx_15 T15; have Bo_15 := T15.blk Bo_14 (Ne.symm nxo); have Bp_15 := T15.blk Bp_14 (Ne.symm nxp); have Bf_15 := T15.blk Bf_14 (Ne.symm nxf); have Hw15 := T15.below Hw14 gx; clear T15 Bo_14 Bp_14 Bf_14 cx_2_14 cf_11_14 Bx_14 Hw14; have cx_2_15 : W15.cell? ⟨bx, 2, none⟩ = some (.int .i64 3) := Bx_15.cell 2))
  go_wp2_with fail
  clear cx_2_15
  have BF8 : Blk W15 bf #[.int .i64 18, .int .i64 0, .int .i64 0, .int .i64 0, .int .i64 0, .int .i64 m0, .int .i64 m1, .int .i64 m2, .int .i64 m3, .int .i64 m4, .int .i64 m5, .int .i64 (n / 64), .slice none 0 0, .int .i64 0] 28 := Bf_15
  have BX8 : Blk W15 bx #[.string qs, .int .i64 qa, .int .i64 3] 53 := Bx_15
  have BO8 := Bo_15
  have BP8 := Bp_15
  have HW8 := Hw15
  clear Hw15 Bf_15 Bx_15 Bo_15 Bp_15
  generalize W15 = WB at *
  go_loopw [7, 8] (fun i _ wq => .int .i64 0 = i ∧ WB = wq) (fun _ _ _ => 0)
  case atStart => exact ⟨rfl, rfl⟩
  case round =>
    obtain ⟨rfl, rfl⟩ := hrel
    have ce : WB.cell? ⟨bx, 2, none⟩ = some (.int .i64 3) := BX8.cell 2
    by_cases hlt : (0 : Int) < n % 16
    · go_wp2_with fail
      have BF9 : Blk WB bf #[.int .i64 18, .int .i64 0, .int .i64 0, .int .i64 0, .int .i64 0, .int .i64 m0, .int .i64 m1, .int .i64 m2, .int .i64 m3, .int .i64 m4, .int .i64 m5, .int .i64 (n / 64), .slice none 0 0, .int .i64 0] 28 := BF8
      have BX9 : Blk WB bx #[.string qs, .int .i64 qa, .int .i64 3] 53 := BX8
      have BO9 := Lib.hid BO8
      have BP9 := Lib.hid BP8
      have HW9 := Lib.hid HW8
      clear HW8 BF8 BX8 BO8 BP8
      refine Dex.wp_two _ _ _ _ (by kernel_rfl) (by kernel_rfl) 28 53 14 3 Try.underlying28 rfl size28g8 Try.underlying53 rfl size62 _ _ _ _ _ _ rfl rfl rfl rfl rfl rfl rfl rfl bf bx bo bp _ _ _ _ _ _ _ _ BF9 BX9 BO9.out BP9.out rfl rfl rfl rfl (by kernel_rfl) (by kernel_rfl) (Ne.symm nof) (Ne.symm npf) nxo nxp nop rfl rfl rfl rfl rfl rfl ?_
      intro W9 R9 S9 k9
      go_wp2
      exact post_cell2 Try.underlying28 rfl size28g8 Try.underlying53 rfl size62 Try.results46 R9 rfl S9 rfl rfl rfl rfl ⟨rfl, k9.below HW9.out go gp⟩
    · go_wp2_with fail
      have BF9 : Blk WB bf #[.int .i64 18, .int .i64 0, .int .i64 0, .int .i64 0, .int .i64 0, .int .i64 m0, .int .i64 m1, .int .i64 m2, .int .i64 m3, .int .i64 m4, .int .i64 m5, .int .i64 (n / 64), .slice none 0 0, .int .i64 0] 28 := BF8
      have BX9 : Blk WB bx #[.string qs, .int .i64 qa, .int .i64 3] 53 := BX8
      have BO9 := Lib.hid BO8
      have BP9 := Lib.hid BP8
      have HW9 := Lib.hid HW8
      clear HW8 BF8 BX8 BO8 BP8
      refine Dex.wp_two _ _ _ _ (by kernel_rfl) (by kernel_rfl) 28 53 14 3 Try.underlying28 rfl size28g8 Try.underlying53 rfl size62 _ _ _ _ _ _ rfl rfl rfl rfl rfl rfl rfl rfl bf bx bo bp _ _ _ _ _ _ _ _ BF9 BX9 BO9.out BP9.out rfl rfl rfl rfl (by kernel_rfl) (by kernel_rfl) (Ne.symm nof) (Ne.symm npf) nxo nxp nop rfl rfl rfl rfl rfl rfl ?_
      intro W9 R9 S9 k9
      go_wp2
      exact post_cell2 Try.underlying28 rfl size28g8 Try.underlying53 rfl size62 Try.results46 R9 rfl S9 rfl rfl rfl rfl ⟨rfl, k9.below HW9.out go gp⟩
set_option maxHeartbeats 4000000 in
theorem rfill_18_bad2 (n xa xe ya ye za ze qa m0 m1 m2 m3 m4 m5 : Int) (xs ys zs qs : ByteArray) (w : World) (HL : Hid (∀ W, Calls Try.prog 45 #[.agg #[.string xs, .int .i64 xa, .int .i64 xe], .int .i64 1] W fun e w' => e = .returned (.tuple #[.int .i64 18, .agg #[.string ys, .int .i64 ya, .int .i64 ye]]) ∧ Below W.heap.size W w')) (HM : Hid (∀ W, Calls Try.prog 63 #[.agg #[.string ys, .int .i64 ya, .int .i64 ye]] W fun e w' => e = .returned (.tuple #[.agg #[.int .i64 m0, .int .i64 m1, .int .i64 m2, .int .i64 m3, .int .i64 m4, .int .i64 m5], .agg #[.string zs, .int .i64 za, .int .i64 ze]]) ∧ Below W.heap.size W w')) (HN : Hid (∀ W, Calls Try.prog 45 #[.agg #[.string zs, .int .i64 za, .int .i64 ze], .int .i64 1] W fun e w' => e = .returned (.tuple #[.int .i64 n, .agg #[.string qs, .int .i64 qa, .int .i64 0]]) ∧ Below W.heap.size W w')) (n0 : 0 ≤ n) (n1 : n ≤ 255) (w0 : decide ((2 : Int) < n / 64) = false) (w1 : decide ((0 : Int) < n / 16 % 4) = false) (w2 : (n % 16 == 0) = true) :
    Calls Try.prog 46 #[.agg #[.string xs, .int .i64 xa, .int .i64 xe]] w fun e w' => e = .returned (.tuple #[.agg #[.int .i64 18, .int .i64 0, .int .i64 0, .int .i64 0, .int .i64 0, .int .i64 m0, .int .i64 m1, .int .i64 m2, .int .i64 m3, .int .i64 m4, .int .i64 m5, .int .i64 (n / 64), .slice none 0 0, .int .i64 0], .agg #[.string qs, .int .i64 qa, .int .i64 3]]) ∧ Below w.heap.size w w' := by
  go_enter Try.func46, Try.ntmps46
  go_upto_region 18 with (go_big_may; first
    | (refine wl_box 53 _ _ rfl rfl (show _ = Value.agg #[.string xs, .int .i64 xa, .int .i64 xe] from rfl) ?_; intro W1 bx Bx_1 l1 k1; have gx : w.heap.size ≤ bx := l1; have Hw1 := k1; clear l1 k1)
    | (refine wl_alloc 28 _ zeroFL8 rfl rfl ?_; intro W2 bo Bo_2 l2 k2; have go : w.heap.size ≤ bo := Nat.le_trans Hw1.size l2; have nxo : bx ≠ bo := Nat.ne_of_lt (Nat.lt_of_lt_of_le Bx_1.lt l2); have Bx_2 := Bx_1.keep k2; have Hw2 := bq_trans Hw1 k2; clear l2 k2 Bx_1 Hw1)
    | (refine wl_alloc 53 _ zero62 rfl rfl ?_; intro W3 bp Bp_3 l3 k3; have gp : w.heap.size ≤ bp := Nat.le_trans Hw2.size l3; have nxp : bx ≠ bp := Nat.ne_of_lt (Nat.lt_of_lt_of_le Bx_2.lt l3); have nop : bo ≠ bp := Nat.ne_of_lt (Nat.lt_of_lt_of_le Bo_2.lt l3); have Bx_3 := Bx_2.keep k3; have Bo_3 := Bo_2.keep k3; have Hw3 := bq_trans Hw2 k3; clear l3 k3 Bx_2 Bo_2 Hw2)
    | (refine wl_alloc 28 _ zeroFL8 rfl rfl ?_; intro W4 bf Bf_4 l4 k4; have gf : w.heap.size ≤ bf := Nat.le_trans Hw3.size l4; have nxf : bx ≠ bf := Nat.ne_of_lt (Nat.lt_of_lt_of_le Bx_3.lt l4); have nof : bo ≠ bf := Nat.ne_of_lt (Nat.lt_of_lt_of_le Bo_3.lt l4); have npf : bp ≠ bf := Nat.ne_of_lt (Nat.lt_of_lt_of_le Bp_3.lt l4); have Bx_4 := Bx_3.keep k4; have Bo_4 := Bo_3.keep k4; have Bp_4 := Bp_3.keep k4; have Hw4 := bq_trans Hw3 k4; clear l4 k4 Bx_3 Bo_3 Bp_3 Hw3)
    | (refine wl_store 28 14 size28g8 _ _ rfl rfl _ rfl #[.int .i64 0, .int .i64 0, .int .i64 0, .int .i64 0, .int .i64 0, .int .i64 0, .int .i64 0, .int .i64 0, .int .i64 0, .int .i64 0, .int .i64 0, .int .i64 0, .slice none 0 0, .int .i64 0] rfl _ _ Bf_4 rfl rfl (by kernel_rfl) ?_; intro W5 Bf_5 T5; have Bx_5 := T5.blk Bx_4 nxf; have Bo_5 := T5.blk Bo_4 nof; have Bp_5 := T5.blk Bp_4 npf; have Hw5 := T5.below Hw4 gf; clear T5 Bx_4 Bo_4 Bp_4 Bf_4 Hw4)
    | (refine wl_load 53 3 _ Try.underlying53 rfl size62 _ rfl rfl _ rfl _ _ Bx_5 rfl ?_)
    | (go_at_call 45; (with_reducible refine (HL.out _).mono ?_); rintro e W6 ⟨rfl, k6⟩; have Bx_6 := Bx_5.keep k6; have Bo_6 := Bo_5.keep k6; have Bp_6 := Bp_5.keep k6; have Bf_6 := Bf_5.keep k6; have Hw6 := bq_trans Hw5 k6; clear k6 Bx_5 Bo_5 Bp_5 Bf_5 Hw5)
    | (refine wl_set 3 _ _ rfl rfl bf 0 rfl (.int .i64 18) rfl rfl size3s _ _ Bf_6 (by decide : 0 < 14) ?_; intro W7 Bf_7 T7; have Bx_7 := T7.blk Bx_6 nxf; have Bo_7 := T7.blk Bo_6 nof; have Bp_7 := T7.blk Bp_6 npf; have Hw7 := T7.below Hw6 gf; clear T7 Bx_6 Bo_6 Bp_6 Bf_6 Hw6)
    | (refine wl_store 53 3 size62 _ _ rfl rfl _ rfl #[.string ys, .int .i64 ya, .int .i64 ye] rfl _ _ Bx_7 rfl rfl (by kernel_rfl) ?_; intro W8 Bx_8 T8; have Bo_8 := T8.blk Bo_7 (Ne.symm nxo); have Bp_8 := T8.blk Bp_7 (Ne.symm nxp); have Bf_8 := T8.blk Bf_7 (Ne.symm nxf); have Hw8 := T8.below Hw7 gx; clear T8 Bo_7 Bp_7 Bf_7 Bx_7 Hw7; have cf_0_8 : W8.cell? ⟨bf, 0, none⟩ = some (.int .i64 18) := Bf_8.cell 0)
    | (refine wl_load 53 3 _ Try.underlying53 rfl size62 _ rfl rfl _ rfl _ _ Bx_8 rfl ?_)
    | (go_at_call 63; (with_reducible refine (HM.out _).mono ?_); rintro e W9 ⟨rfl, k9⟩; have Bx_9 := Bx_8.keep k9; have Bo_9 := Bo_8.keep k9; have Bp_9 := Bp_8.keep k9; have Bf_9 := Bf_8.keep k9; have Hw9 := bq_trans Hw8 k9; clear k9 Bx_8 Bo_8 Bp_8 Bf_8 cf_0_8 Hw8)
    | (refine wl_putAt 25 _ _ rfl rfl bf 5 rfl #[.int .i64 m0, .int .i64 m1, .int .i64 m2, .int .i64 m3, .int .i64 m4, .int .i64 m5] rfl size25g8 (by kernel_rfl) _ _ Bf_9 (by decide : 5 + 6 ≤ 14) #[.int .i64 18, .int .i64 0, .int .i64 0, .int .i64 0, .int .i64 0, .int .i64 m0, .int .i64 m1, .int .i64 m2, .int .i64 m3, .int .i64 m4, .int .i64 m5, .int .i64 0, .slice none 0 0, .int .i64 0] (by kernel_rfl) ?_; intro W10 Bf_10 T10; have Bx_10 := T10.blk Bx_9 nxf; have Bo_10 := T10.blk Bo_9 nof; have Bp_10 := T10.blk Bp_9 npf; have Hw10 := T10.below Hw9 gf; clear T10 Bx_9 Bo_9 Bp_9 Bf_9 Hw9)
    | (refine wl_store 53 3 size62 _ _ rfl rfl _ rfl #[.string zs, .int .i64 za, .int .i64 ze] rfl _ _ Bx_10 rfl rfl (by kernel_rfl) ?_; intro W11 Bx_11 T11; have Bo_11 := T11.blk Bo_10 (Ne.symm nxo); have Bp_11 := T11.blk Bp_10 (Ne.symm nxp); have Bf_11 := T11.blk Bf_10 (Ne.symm nxf); have Hw11 := T11.below Hw10 gx; clear T11 Bo_10 Bp_10 Bf_10 Bx_10 Hw10)
    | (refine wl_load 53 3 _ Try.underlying53 rfl size62 _ rfl rfl _ rfl _ _ Bx_11 rfl ?_)
    | (go_at_call 45; (with_reducible refine (HN.out _).mono ?_); rintro e W12 ⟨rfl, k12⟩; have Bx_12 := Bx_11.keep k12; have Bo_12 := Bo_11.keep k12; have Bp_12 := Bp_11.keep k12; have Bf_12 := Bf_11.keep k12; have Hw12 := bq_trans Hw11 k12; clear k12 Bx_11 Bo_11 Bp_11 Bf_11 Hw11)
    | (refine wl_store 53 3 size62 _ _ rfl rfl _ rfl #[.string qs, .int .i64 qa, .int .i64 0] rfl _ _ Bx_12 rfl rfl (by kernel_rfl) ?_; intro W13 Bx_13 T13; have Bo_13 := T13.blk Bo_12 (Ne.symm nxo); have Bp_13 := T13.blk Bp_12 (Ne.symm nxp); have Bf_13 := T13.blk Bf_12 (Ne.symm nxf); have Hw13 := T13.below Hw12 gx; clear T13 Bo_12 Bp_12 Bf_12 Bx_12 Hw12)
    | (refine wl_set 3 _ _ rfl rfl bf 11 rfl (.int .i64 (n / 64)) rfl rfl size3s _ _ Bf_13 (by decide : 11 < 14) ?_; intro W14 Bf_14 T14; have Bx_14 := T14.blk Bx_13 nxf; have Bo_14 := T14.blk Bo_13 nof; have Bp_14 := T14.blk Bp_13 npf; have Hw14 := T14.below Hw13 gf; clear T14 Bx_13 Bo_13 Bp_13 Bf_13 Hw13; have cx_2_14 : W14.cell? ⟨bx, 2, none⟩ = some (.int .i64 0) := Bx_14.cell 2; have cf_11_14 : W14.cell? ⟨bf, 11, none⟩ = some (.int .i64 (n / 64)) := Bf_14.cell 11))
  go_upto_region 19 with (fail)
  go_upto_region 20 with (go_big_may; first
    | (refine wl_set 3 _ _ rfl rfl bx 2 rfl (.int .i64 3) rfl rfl size3s _ _ Bx_14 (by decide : 2 < 3) ?_; intro W15 Bx_15 T15; have Bo_15 := T15.blk Bo_14 (Ne.symm nxo); have Bp_15 := T15.blk Bp_14 (Ne.symm nxp); have Bf_15 := T15.blk Bf_14 (Ne.symm nxf); have Hw15 := T15.below Hw14 gx; clear T15 Bo_14 Bp_14 Bf_14 cx_2_14 cf_11_14 Bx_14 Hw14; have cx_2_15 : W15.cell? ⟨bx, 2, none⟩ = some (.int .i64 3) := Bx_15.cell 2))
  go_wp2_with fail
  clear cx_2_15
  have BF8 : Blk W15 bf #[.int .i64 18, .int .i64 0, .int .i64 0, .int .i64 0, .int .i64 0, .int .i64 m0, .int .i64 m1, .int .i64 m2, .int .i64 m3, .int .i64 m4, .int .i64 m5, .int .i64 (n / 64), .slice none 0 0, .int .i64 0] 28 := Bf_15
  have BX8 : Blk W15 bx #[.string qs, .int .i64 qa, .int .i64 3] 53 := Bx_15
  have BO8 := Bo_15
  have BP8 := Bp_15
  have HW8 := Hw15
  clear Hw15 Bf_15 Bx_15 Bo_15 Bp_15
  generalize W15 = WB at *
  go_loopw [7, 8] (fun i _ wq => .int .i64 0 = i ∧ WB = wq) (fun _ _ _ => 0)
  case atStart => exact ⟨rfl, rfl⟩
  case round =>
    obtain ⟨rfl, rfl⟩ := hrel
    have ce : WB.cell? ⟨bx, 2, none⟩ = some (.int .i64 3) := BX8.cell 2
    by_cases hlt : (0 : Int) < n % 16
    · go_wp2_with fail
      have BF9 : Blk WB bf #[.int .i64 18, .int .i64 0, .int .i64 0, .int .i64 0, .int .i64 0, .int .i64 m0, .int .i64 m1, .int .i64 m2, .int .i64 m3, .int .i64 m4, .int .i64 m5, .int .i64 (n / 64), .slice none 0 0, .int .i64 0] 28 := BF8
      have BX9 : Blk WB bx #[.string qs, .int .i64 qa, .int .i64 3] 53 := BX8
      have BO9 := Lib.hid BO8
      have BP9 := Lib.hid BP8
      have HW9 := Lib.hid HW8
      clear HW8 BF8 BX8 BO8 BP8
      refine Dex.wp_two _ _ _ _ (by kernel_rfl) (by kernel_rfl) 28 53 14 3 Try.underlying28 rfl size28g8 Try.underlying53 rfl size62 _ _ _ _ _ _ rfl rfl rfl rfl rfl rfl rfl rfl bf bx bo bp _ _ _ _ _ _ _ _ BF9 BX9 BO9.out BP9.out rfl rfl rfl rfl (by kernel_rfl) (by kernel_rfl) (Ne.symm nof) (Ne.symm npf) nxo nxp nop rfl rfl rfl rfl rfl rfl ?_
      intro W9 R9 S9 k9
      go_wp2
      exact post_cell2 Try.underlying28 rfl size28g8 Try.underlying53 rfl size62 Try.results46 R9 rfl S9 rfl rfl rfl rfl ⟨rfl, k9.below HW9.out go gp⟩
    · go_wp2_with fail
      have BF9 : Blk WB bf #[.int .i64 18, .int .i64 0, .int .i64 0, .int .i64 0, .int .i64 0, .int .i64 m0, .int .i64 m1, .int .i64 m2, .int .i64 m3, .int .i64 m4, .int .i64 m5, .int .i64 (n / 64), .slice none 0 0, .int .i64 0] 28 := BF8
      have BX9 : Blk WB bx #[.string qs, .int .i64 qa, .int .i64 3] 53 := BX8
      have BO9 := Lib.hid BO8
      have BP9 := Lib.hid BP8
      have HW9 := Lib.hid HW8
      clear HW8 BF8 BX8 BO8 BP8
      refine Dex.wp_two _ _ _ _ (by kernel_rfl) (by kernel_rfl) 28 53 14 3 Try.underlying28 rfl size28g8 Try.underlying53 rfl size62 _ _ _ _ _ _ rfl rfl rfl rfl rfl rfl rfl rfl bf bx bo bp _ _ _ _ _ _ _ _ BF9 BX9 BO9.out BP9.out rfl rfl rfl rfl (by kernel_rfl) (by kernel_rfl) (Ne.symm nof) (Ne.symm npf) nxo nxp nop rfl rfl rfl rfl rfl rfl ?_
      intro W9 R9 S9 k9
      go_wp2
      exact post_cell2 Try.underlying28 rfl size28g8 Try.underlying53 rfl size62 Try.results46 R9 rfl S9 rfl rfl rfl rfl ⟨rfl, k9.below HW9.out go gp⟩
set_option maxHeartbeats 4000000 in
theorem rfill_18_bad3 (n xa xe ya ye za ze qa m0 m1 m2 m3 m4 m5 : Int) (xs ys zs qs : ByteArray) (w : World) (HL : Hid (∀ W, Calls Try.prog 45 #[.agg #[.string xs, .int .i64 xa, .int .i64 xe], .int .i64 1] W fun e w' => e = .returned (.tuple #[.int .i64 18, .agg #[.string ys, .int .i64 ya, .int .i64 ye]]) ∧ Below W.heap.size W w')) (HM : Hid (∀ W, Calls Try.prog 63 #[.agg #[.string ys, .int .i64 ya, .int .i64 ye]] W fun e w' => e = .returned (.tuple #[.agg #[.int .i64 m0, .int .i64 m1, .int .i64 m2, .int .i64 m3, .int .i64 m4, .int .i64 m5], .agg #[.string zs, .int .i64 za, .int .i64 ze]]) ∧ Below W.heap.size W w')) (HN : Hid (∀ W, Calls Try.prog 45 #[.agg #[.string zs, .int .i64 za, .int .i64 ze], .int .i64 1] W fun e w' => e = .returned (.tuple #[.int .i64 n, .agg #[.string qs, .int .i64 qa, .int .i64 0]]) ∧ Below W.heap.size W w')) (n0 : 0 ≤ n) (n1 : n ≤ 255) (w0 : decide ((2 : Int) < n / 64) = false) (w1 : decide ((0 : Int) < n / 16 % 4) = false) (w2 : (n % 16 == 0) = false) (w3 : decide ((8 : Int) < n % 16) = true) :
    Calls Try.prog 46 #[.agg #[.string xs, .int .i64 xa, .int .i64 xe]] w fun e w' => e = .returned (.tuple #[.agg #[.int .i64 18, .int .i64 0, .int .i64 0, .int .i64 0, .int .i64 0, .int .i64 m0, .int .i64 m1, .int .i64 m2, .int .i64 m3, .int .i64 m4, .int .i64 m5, .int .i64 (n / 64), .slice none 0 0, .int .i64 0], .agg #[.string qs, .int .i64 qa, .int .i64 3]]) ∧ Below w.heap.size w w' := by
  go_enter Try.func46, Try.ntmps46
  go_upto_region 18 with (go_big_may; first
    | (refine wl_box 53 _ _ rfl rfl (show _ = Value.agg #[.string xs, .int .i64 xa, .int .i64 xe] from rfl) ?_; intro W1 bx Bx_1 l1 k1; have gx : w.heap.size ≤ bx := l1; have Hw1 := k1; clear l1 k1)
    | (refine wl_alloc 28 _ zeroFL8 rfl rfl ?_; intro W2 bo Bo_2 l2 k2; have go : w.heap.size ≤ bo := Nat.le_trans Hw1.size l2; have nxo : bx ≠ bo := Nat.ne_of_lt (Nat.lt_of_lt_of_le Bx_1.lt l2); have Bx_2 := Bx_1.keep k2; have Hw2 := bq_trans Hw1 k2; clear l2 k2 Bx_1 Hw1)
    | (refine wl_alloc 53 _ zero62 rfl rfl ?_; intro W3 bp Bp_3 l3 k3; have gp : w.heap.size ≤ bp := Nat.le_trans Hw2.size l3; have nxp : bx ≠ bp := Nat.ne_of_lt (Nat.lt_of_lt_of_le Bx_2.lt l3); have nop : bo ≠ bp := Nat.ne_of_lt (Nat.lt_of_lt_of_le Bo_2.lt l3); have Bx_3 := Bx_2.keep k3; have Bo_3 := Bo_2.keep k3; have Hw3 := bq_trans Hw2 k3; clear l3 k3 Bx_2 Bo_2 Hw2)
    | (refine wl_alloc 28 _ zeroFL8 rfl rfl ?_; intro W4 bf Bf_4 l4 k4; have gf : w.heap.size ≤ bf := Nat.le_trans Hw3.size l4; have nxf : bx ≠ bf := Nat.ne_of_lt (Nat.lt_of_lt_of_le Bx_3.lt l4); have nof : bo ≠ bf := Nat.ne_of_lt (Nat.lt_of_lt_of_le Bo_3.lt l4); have npf : bp ≠ bf := Nat.ne_of_lt (Nat.lt_of_lt_of_le Bp_3.lt l4); have Bx_4 := Bx_3.keep k4; have Bo_4 := Bo_3.keep k4; have Bp_4 := Bp_3.keep k4; have Hw4 := bq_trans Hw3 k4; clear l4 k4 Bx_3 Bo_3 Bp_3 Hw3)
    | (refine wl_store 28 14 size28g8 _ _ rfl rfl _ rfl #[.int .i64 0, .int .i64 0, .int .i64 0, .int .i64 0, .int .i64 0, .int .i64 0, .int .i64 0, .int .i64 0, .int .i64 0, .int .i64 0, .int .i64 0, .int .i64 0, .slice none 0 0, .int .i64 0] rfl _ _ Bf_4 rfl rfl (by kernel_rfl) ?_; intro W5 Bf_5 T5; have Bx_5 := T5.blk Bx_4 nxf; have Bo_5 := T5.blk Bo_4 nof; have Bp_5 := T5.blk Bp_4 npf; have Hw5 := T5.below Hw4 gf; clear T5 Bx_4 Bo_4 Bp_4 Bf_4 Hw4)
    | (refine wl_load 53 3 _ Try.underlying53 rfl size62 _ rfl rfl _ rfl _ _ Bx_5 rfl ?_)
    | (go_at_call 45; (with_reducible refine (HL.out _).mono ?_); rintro e W6 ⟨rfl, k6⟩; have Bx_6 := Bx_5.keep k6; have Bo_6 := Bo_5.keep k6; have Bp_6 := Bp_5.keep k6; have Bf_6 := Bf_5.keep k6; have Hw6 := bq_trans Hw5 k6; clear k6 Bx_5 Bo_5 Bp_5 Bf_5 Hw5)
    | (refine wl_set 3 _ _ rfl rfl bf 0 rfl (.int .i64 18) rfl rfl size3s _ _ Bf_6 (by decide : 0 < 14) ?_; intro W7 Bf_7 T7; have Bx_7 := T7.blk Bx_6 nxf; have Bo_7 := T7.blk Bo_6 nof; have Bp_7 := T7.blk Bp_6 npf; have Hw7 := T7.below Hw6 gf; clear T7 Bx_6 Bo_6 Bp_6 Bf_6 Hw6)
    | (refine wl_store 53 3 size62 _ _ rfl rfl _ rfl #[.string ys, .int .i64 ya, .int .i64 ye] rfl _ _ Bx_7 rfl rfl (by kernel_rfl) ?_; intro W8 Bx_8 T8; have Bo_8 := T8.blk Bo_7 (Ne.symm nxo); have Bp_8 := T8.blk Bp_7 (Ne.symm nxp); have Bf_8 := T8.blk Bf_7 (Ne.symm nxf); have Hw8 := T8.below Hw7 gx; clear T8 Bo_7 Bp_7 Bf_7 Bx_7 Hw7; have cf_0_8 : W8.cell? ⟨bf, 0, none⟩ = some (.int .i64 18) := Bf_8.cell 0)
    | (refine wl_load 53 3 _ Try.underlying53 rfl size62 _ rfl rfl _ rfl _ _ Bx_8 rfl ?_)
    | (go_at_call 63; (with_reducible refine (HM.out _).mono ?_); rintro e W9 ⟨rfl, k9⟩; have Bx_9 := Bx_8.keep k9; have Bo_9 := Bo_8.keep k9; have Bp_9 := Bp_8.keep k9; have Bf_9 := Bf_8.keep k9; have Hw9 := bq_trans Hw8 k9; clear k9 Bx_8 Bo_8 Bp_8 Bf_8 cf_0_8 Hw8)
    | (refine wl_putAt 25 _ _ rfl rfl bf 5 rfl #[.int .i64 m0, .int .i64 m1, .int .i64 m2, .int .i64 m3, .int .i64 m4, .int .i64 m5] rfl size25g8 (by kernel_rfl) _ _ Bf_9 (by decide : 5 + 6 ≤ 14) #[.int .i64 18, .int .i64 0, .int .i64 0, .int .i64 0, .int .i64 0, .int .i64 m0, .int .i64 m1, .int .i64 m2, .int .i64 m3, .int .i64 m4, .int .i64 m5, .int .i64 0, .slice none 0 0, .int .i64 0] (by kernel_rfl) ?_; intro W10 Bf_10 T10; have Bx_10 := T10.blk Bx_9 nxf; have Bo_10 := T10.blk Bo_9 nof; have Bp_10 := T10.blk Bp_9 npf; have Hw10 := T10.below Hw9 gf; clear T10 Bx_9 Bo_9 Bp_9 Bf_9 Hw9)
    | (refine wl_store 53 3 size62 _ _ rfl rfl _ rfl #[.string zs, .int .i64 za, .int .i64 ze] rfl _ _ Bx_10 rfl rfl (by kernel_rfl) ?_; intro W11 Bx_11 T11; have Bo_11 := T11.blk Bo_10 (Ne.symm nxo); have Bp_11 := T11.blk Bp_10 (Ne.symm nxp); have Bf_11 := T11.blk Bf_10 (Ne.symm nxf); have Hw11 := T11.below Hw10 gx; clear T11 Bo_10 Bp_10 Bf_10 Bx_10 Hw10)
    | (refine wl_load 53 3 _ Try.underlying53 rfl size62 _ rfl rfl _ rfl _ _ Bx_11 rfl ?_)
    | (go_at_call 45; (with_reducible refine (HN.out _).mono ?_); rintro e W12 ⟨rfl, k12⟩; have Bx_12 := Bx_11.keep k12; have Bo_12 := Bo_11.keep k12; have Bp_12 := Bp_11.keep k12; have Bf_12 := Bf_11.keep k12; have Hw12 := bq_trans Hw11 k12; clear k12 Bx_11 Bo_11 Bp_11 Bf_11 Hw11)
    | (refine wl_store 53 3 size62 _ _ rfl rfl _ rfl #[.string qs, .int .i64 qa, .int .i64 0] rfl _ _ Bx_12 rfl rfl (by kernel_rfl) ?_; intro W13 Bx_13 T13; have Bo_13 := T13.blk Bo_12 (Ne.symm nxo); have Bp_13 := T13.blk Bp_12 (Ne.symm nxp); have Bf_13 := T13.blk Bf_12 (Ne.symm nxf); have Hw13 := T13.below Hw12 gx; clear T13 Bo_12 Bp_12 Bf_12 Bx_12 Hw12)
    | (refine wl_set 3 _ _ rfl rfl bf 11 rfl (.int .i64 (n / 64)) rfl rfl size3s _ _ Bf_13 (by decide : 11 < 14) ?_; intro W14 Bf_14 T14; have Bx_14 := T14.blk Bx_13 nxf; have Bo_14 := T14.blk Bo_13 nof; have Bp_14 := T14.blk Bp_13 npf; have Hw14 := T14.below Hw13 gf; clear T14 Bx_13 Bo_13 Bp_13 Bf_13 Hw13; have cx_2_14 : W14.cell? ⟨bx, 2, none⟩ = some (.int .i64 0) := Bx_14.cell 2; have cf_11_14 : W14.cell? ⟨bf, 11, none⟩ = some (.int .i64 (n / 64)) := Bf_14.cell 11))
  go_upto_region 19 with (fail)
  go_upto_region 20 with (go_big_may; first
    | (refine wl_set 3 _ _ rfl rfl bx 2 rfl (.int .i64 3) rfl rfl size3s _ _ Bx_14 (by decide : 2 < 3) ?_; intro W15 Bx_15 T15; have Bo_15 := T15.blk Bo_14 (Ne.symm nxo); have Bp_15 := T15.blk Bp_14 (Ne.symm nxp); have Bf_15 := T15.blk Bf_14 (Ne.symm nxf); have Hw15 := T15.below Hw14 gx; clear T15 Bo_14 Bp_14 Bf_14 cx_2_14 cf_11_14 Bx_14 Hw14; have cx_2_15 : W15.cell? ⟨bx, 2, none⟩ = some (.int .i64 3) := Bx_15.cell 2))
  go_wp2_with fail
  clear cx_2_15
  have BF8 : Blk W15 bf #[.int .i64 18, .int .i64 0, .int .i64 0, .int .i64 0, .int .i64 0, .int .i64 m0, .int .i64 m1, .int .i64 m2, .int .i64 m3, .int .i64 m4, .int .i64 m5, .int .i64 (n / 64), .slice none 0 0, .int .i64 0] 28 := Bf_15
  have BX8 : Blk W15 bx #[.string qs, .int .i64 qa, .int .i64 3] 53 := Bx_15
  have BO8 := Bo_15
  have BP8 := Bp_15
  have HW8 := Hw15
  clear Hw15 Bf_15 Bx_15 Bo_15 Bp_15
  generalize W15 = WB at *
  go_loopw [7, 8] (fun i _ wq => .int .i64 0 = i ∧ WB = wq) (fun _ _ _ => 0)
  case atStart => exact ⟨rfl, rfl⟩
  case round =>
    obtain ⟨rfl, rfl⟩ := hrel
    have ce : WB.cell? ⟨bx, 2, none⟩ = some (.int .i64 3) := BX8.cell 2
    by_cases hlt : (0 : Int) < n % 16
    · go_wp2_with fail
      have BF9 : Blk WB bf #[.int .i64 18, .int .i64 0, .int .i64 0, .int .i64 0, .int .i64 0, .int .i64 m0, .int .i64 m1, .int .i64 m2, .int .i64 m3, .int .i64 m4, .int .i64 m5, .int .i64 (n / 64), .slice none 0 0, .int .i64 0] 28 := BF8
      have BX9 : Blk WB bx #[.string qs, .int .i64 qa, .int .i64 3] 53 := BX8
      have BO9 := Lib.hid BO8
      have BP9 := Lib.hid BP8
      have HW9 := Lib.hid HW8
      clear HW8 BF8 BX8 BO8 BP8
      refine Dex.wp_two _ _ _ _ (by kernel_rfl) (by kernel_rfl) 28 53 14 3 Try.underlying28 rfl size28g8 Try.underlying53 rfl size62 _ _ _ _ _ _ rfl rfl rfl rfl rfl rfl rfl rfl bf bx bo bp _ _ _ _ _ _ _ _ BF9 BX9 BO9.out BP9.out rfl rfl rfl rfl (by kernel_rfl) (by kernel_rfl) (Ne.symm nof) (Ne.symm npf) nxo nxp nop rfl rfl rfl rfl rfl rfl ?_
      intro W9 R9 S9 k9
      go_wp2
      exact post_cell2 Try.underlying28 rfl size28g8 Try.underlying53 rfl size62 Try.results46 R9 rfl S9 rfl rfl rfl rfl ⟨rfl, k9.below HW9.out go gp⟩
    · go_wp2_with fail
      have BF9 : Blk WB bf #[.int .i64 18, .int .i64 0, .int .i64 0, .int .i64 0, .int .i64 0, .int .i64 m0, .int .i64 m1, .int .i64 m2, .int .i64 m3, .int .i64 m4, .int .i64 m5, .int .i64 (n / 64), .slice none 0 0, .int .i64 0] 28 := BF8
      have BX9 : Blk WB bx #[.string qs, .int .i64 qa, .int .i64 3] 53 := BX8
      have BO9 := Lib.hid BO8
      have BP9 := Lib.hid BP8
      have HW9 := Lib.hid HW8
      clear HW8 BF8 BX8 BO8 BP8
      refine Dex.wp_two _ _ _ _ (by kernel_rfl) (by kernel_rfl) 28 53 14 3 Try.underlying28 rfl size28g8 Try.underlying53 rfl size62 _ _ _ _ _ _ rfl rfl rfl rfl rfl rfl rfl rfl bf bx bo bp _ _ _ _ _ _ _ _ BF9 BX9 BO9.out BP9.out rfl rfl rfl rfl (by kernel_rfl) (by kernel_rfl) (Ne.symm nof) (Ne.symm npf) nxo nxp nop rfl rfl rfl rfl rfl rfl ?_
      intro W9 R9 S9 k9
      go_wp2
      exact post_cell2 Try.underlying28 rfl size28g8 Try.underlying53 rfl size62 Try.results46 R9 rfl S9 rfl rfl rfl rfl ⟨rfl, k9.below HW9.out go gp⟩
end Go.Proofs.Ythlnjipefeglpaa
