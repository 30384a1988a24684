import Derived.Test.YtfaipbdkkkhacaaYR
import Derived.Test.YtfaipbdkkkhacaaYI
import Derived.Test.YtfaipbdkkkhacaaYJ
import Derived.Test.YtfaipbdkkkhacaaYQ
/- Layer 7: the walk of FieldBack. -/
namespace Go.Proofs.Ytfaipbdkkkhacaa
open Go.RowKit
set_option linter.unusedVariables false
set_option maxRecDepth 100000

set_option maxHeartbeats 4000000 in
theorem fback_no (l r t b ma mb mc md mx my c0 c1 c2 c3 d0 d1 d2 d3 k0 k1 k2 k3 gu1 gu2 gu3 gu4 z1 z2 z3 z4 : Int) (u1 u2 u3 u4 : ByteArray) (w : World)
    (hz : (z1 != 0) = true ∨ ((z1 != 0) = false ∧ (z2 != 0) = true) ∨ ((z1 != 0) = false ∧ (z2 != 0) = false ∧ (z3 != 0) = true) ∨ ((z1 != 0) = false ∧ (z2 != 0) = false ∧ (z3 != 0) = false ∧ (z4 != 0) = true))
    (P1 : Hid (∀ W, Calls Try.prog 9 #[.agg #[.string ⟨#[]⟩, .int .i64 0], .agg #[.int .i64 l, .int .i64 r, .int .i64 t, .int .i64 b]] W fun e w' => e = .returned (.tuple #[.agg #[.string u1, .int .i64 gu1], .int .i64 z1]) ∧ Below W.heap.size W w'))
    (P2 : Hid (∀ W, Calls Try.prog 10 #[.agg #[.string u1, .int .i64 gu1], .agg #[.int .i64 ma, .int .i64 mb, .int .i64 mc, .int .i64 md, .int .i64 mx, .int .i64 my]] W fun e w' => e = .returned (.tuple #[.agg #[.string u2, .int .i64 gu2], .int .i64 z2]) ∧ Below W.heap.size W w'))
    (P3 : Hid (∀ W, Calls Try.prog 11 #[.agg #[.string u2, .int .i64 gu2], .agg #[.int .i64 c0, .int .i64 c1, .int .i64 c2, .int .i64 c3, .int .i64 d0, .int .i64 d1, .int .i64 d2, .int .i64 d3]] W fun e w' => e = .returned (.tuple #[.agg #[.string u3, .int .i64 gu3], .int .i64 z3]) ∧ Below W.heap.size W w'))
    (P4 : Hid (∀ W, Calls Try.prog 12 #[.agg #[.string u3, .int .i64 gu3], .agg #[.int .i64 k0, .int .i64 k1, .int .i64 k2, .int .i64 k3]] W fun e w' => e = .returned (.tuple #[.agg #[.string u4, .int .i64 gu4], .int .i64 z4]) ∧ Below W.heap.size W w'))
    : Calls Try.prog 5 #[.agg #[.int .i64 l, .int .i64 r, .int .i64 t, .int .i64 b], .agg #[.int .i64 ma, .int .i64 mb, .int .i64 mc, .int .i64 md, .int .i64 mx, .int .i64 my], .agg #[.int .i64 c0, .int .i64 c1, .int .i64 c2, .int .i64 c3, .int .i64 d0, .int .i64 d1, .int .i64 d2, .int .i64 d3], .agg #[.int .i64 k0, .int .i64 k1, .int .i64 k2, .int .i64 k3]] w fun e w' => e = .returned (.bool true) ∧ Below w.heap.size w w' := by
  rcases hz with h1 | ⟨h1, h2⟩ | ⟨h1, h2, h3⟩ | ⟨h1, h2, h3, h4⟩
  all_goals
    go_enter Try.func5, Try.ntmps5
    go_wp2_with (first
      | (refine wl_box 25 _ _ rfl rfl (show _ = Value.agg #[.int .i64 l, .int .i64 r, .int .i64 t, .int .i64 b] from rfl) ?_; intro W1 br Br_1 l1 k1; have gr : w.heap.size ≤ br := l1; have Hw1 := k1; clear l1 k1)
      | (refine wl_box 27 _ _ rfl rfl (show _ = Value.agg #[.int .i64 ma, .int .i64 mb, .int .i64 mc, .int .i64 md, .int .i64 mx, .int .i64 my] from rfl) ?_; intro W2 bm Bm_2 l2 k2; have gm : w.heap.size ≤ bm := Nat.le_trans Hw1.size l2; have nrm : br ≠ bm := Nat.ne_of_lt (Nat.lt_of_lt_of_le Br_1.lt l2); have Br_2 := Br_1.keep k2; have Hw2 := bq_trans Hw1 k2; clear l2 k2 Br_1 Hw1)
      | (refine wl_box 30 _ _ rfl rfl (show _ = Value.agg #[.int .i64 c0, .int .i64 c1, .int .i64 c2, .int .i64 c3, .int .i64 d0, .int .i64 d1, .int .i64 d2, .int .i64 d3] from rfl) ?_; intro W3 bc Bc_3 l3 k3; have gc : w.heap.size ≤ bc := Nat.le_trans Hw2.size l3; have nrc : br ≠ bc := Nat.ne_of_lt (Nat.lt_of_lt_of_le Br_2.lt l3); have nmc : bm ≠ bc := Nat.ne_of_lt (Nat.lt_of_lt_of_le Bm_2.lt l3); have Br_3 := Br_2.keep k3; have Bm_3 := Bm_2.keep k3; have Hw3 := bq_trans Hw2 k3; clear l3 k3 Br_2 Bm_2 Hw2)
      | (refine wl_box 32 _ _ rfl rfl (show _ = Value.agg #[.int .i64 k0, .int .i64 k1, .int .i64 k2, .int .i64 k3] from rfl) ?_; intro W4 bk Bk_4 l4 k4; have gk : w.heap.size ≤ bk := Nat.le_trans Hw3.size l4; have nrk : br ≠ bk := Nat.ne_of_lt (Nat.lt_of_lt_of_le Br_3.lt l4); have nmk : bm ≠ bk := Nat.ne_of_lt (Nat.lt_of_lt_of_le Bm_3.lt l4); have nck : bc ≠ bk := Nat.ne_of_lt (Nat.lt_of_lt_of_le Bc_3.lt l4); have Br_4 := Br_3.keep k4; have Bm_4 := Bm_3.keep k4; have Bc_4 := Bc_3.keep k4; have Hw4 := bq_trans Hw3 k4; clear l4 k4 Br_3 Bm_3 Bc_3 Hw3)
      | (refine wl_load 25 4 _ Try.underlying25 rfl size25 _ rfl rfl _ rfl _ _ Br_4 rfl ?_)
      | (go_at_call 9; (with_reducible refine (P1.out _).mono ?_); rintro e W5 ⟨rfl, k5⟩; have Br_5 := Br_4.keep k5; have Bm_5 := Bm_4.keep k5; have Bc_5 := Bc_4.keep k5; have Bk_5 := Bk_4.keep k5; have Hw5 := bq_trans Hw4 k5; clear k5 Br_4 Bm_4 Bc_4 Bk_4 Hw4)
      | (refine wl_alloc 23 _ zero23 rfl rfl ?_; intro W6 bw Bw_6 l6 k6; have gw : w.heap.size ≤ bw := Nat.le_trans Hw5.size l6; have nrw : br ≠ bw := Nat.ne_of_lt (Nat.lt_of_lt_of_le Br_5.lt l6); have nmw : bm ≠ bw := Nat.ne_of_lt (Nat.lt_of_lt_of_le Bm_5.lt l6); have ncw : bc ≠ bw := Nat.ne_of_lt (Nat.lt_of_lt_of_le Bc_5.lt l6); have nkw : bk ≠ bw := Nat.ne_of_lt (Nat.lt_of_lt_of_le Bk_5.lt l6); have Br_6 := Br_5.keep k6; have Bm_6 := Bm_5.keep k6; have Bc_6 := Bc_5.keep k6; have Bk_6 := Bk_5.keep k6; have Hw6 := bq_trans Hw5 k6; clear l6 k6 Br_5 Bm_5 Bc_5 Bk_5 Hw5)
      | (refine wl_store 23 2 size23 _ _ rfl rfl _ rfl _ rfl _ _ Bw_6 rfl rfl (by kernel_rfl) ?_; intro W7 Bw_7 T7; have Br_7 := T7.blk Br_6 nrw; have Bm_7 := T7.blk Bm_6 nmw; have Bc_7 := T7.blk Bc_6 ncw; have Bk_7 := T7.blk Bk_6 nkw; have Hw7 := T7.below Hw6 gw; clear T7 Br_6 Bm_6 Bc_6 Bk_6 Bw_6 Hw6)
      | (refine wl_load 23 2 _ Try.underlying23 rfl size23 _ rfl rfl _ rfl _ _ Bw_7 rfl ?_)
      | (refine wl_load 27 6 _ Try.underlying27 rfl size27 _ rfl rfl _ rfl _ _ Bm_7 rfl ?_)
      | (go_at_call 10; (with_reducible refine (P2.out _).mono ?_); rintro e W8 ⟨rfl, k8⟩; have Br_8 := Br_7.keep k8; have Bm_8 := Bm_7.keep k8; have Bc_8 := Bc_7.keep k8; have Bk_8 := Bk_7.keep k8; have Bw_8 := Bw_7.keep k8; have Hw8 := bq_trans Hw7 k8; clear k8 Br_7 Bm_7 Bc_7 Bk_7 Bw_7 Hw7)
      | (refine wl_store 23 2 size23 _ _ rfl rfl _ rfl _ rfl _ _ Bw_8 rfl rfl (by kernel_rfl) ?_; intro W9 Bw_9 T9; have Br_9 := T9.blk Br_8 nrw; have Bm_9 := T9.blk Bm_8 nmw; have Bc_9 := T9.blk Bc_8 ncw; have Bk_9 := T9.blk Bk_8 nkw; have Hw9 := T9.below Hw8 gw; clear T9 Br_8 Bm_8 Bc_8 Bk_8 Bw_8 Hw8)
      | (refine wl_load 23 2 _ Try.underlying23 rfl size23 _ rfl rfl _ rfl _ _ Bw_9 rfl ?_)
      | (refine wl_load 30 8 _ Try.underlying30 rfl size30 _ rfl rfl _ rfl _ _ Bc_9 rfl ?_)
      | (go_at_call 11; (with_reducible refine (P3.out _).mono ?_); rintro e W10 ⟨rfl, k10⟩; have Br_10 := Br_9.keep k10; have Bm_10 := Bm_9.keep k10; have Bc_10 := Bc_9.keep k10; have Bk_10 := Bk_9.keep k10; have Bw_10 := Bw_9.keep k10; have Hw10 := bq_trans Hw9 k10; clear k10 Br_9 Bm_9 Bc_9 Bk_9 Bw_9 Hw9)
      | (refine wl_store 23 2 size23 _ _ rfl rfl _ rfl _ rfl _ _ Bw_10 rfl rfl (by kernel_rfl) ?_; intro W11 Bw_11 T11; have Br_11 := T11.blk Br_10 nrw; have Bm_11 := T11.blk Bm_10 nmw; have Bc_11 := T11.blk Bc_10 ncw; have Bk_11 := T11.blk Bk_10 nkw; have Hw11 := T11.below Hw10 gw; clear T11 Br_10 Bm_10 Bc_10 Bk_10 Bw_10 Hw10)
      | (refine wl_load 23 2 _ Try.underlying23 rfl size23 _ rfl rfl _ rfl _ _ Bw_11 rfl ?_)
      | (refine wl_load 32 4 _ Try.underlying32 rfl size32 _ rfl rfl _ rfl _ _ Bk_11 rfl ?_)
      | (go_at_call 12; (with_reducible refine (P4.out _).mono ?_); rintro e W12 ⟨rfl, k12⟩; have Br_12 := Br_11.keep k12; have Bm_12 := Bm_11.keep k12; have Bc_12 := Bc_11.keep k12; have Bk_12 := Bk_11.keep k12; have Bw_12 := Bw_11.keep k12; have Hw12 := bq_trans Hw11 k12; clear k12 Br_11 Bm_11 Bc_11 Bk_11 Bw_11 Hw11)
      | (refine wl_store 23 2 size23 _ _ rfl rfl _ rfl _ rfl _ _ Bw_12 rfl rfl (by kernel_rfl) ?_; intro W13 Bw_13 T13; have Br_13 := T13.blk Br_12 nrw; have Bm_13 := T13.blk Bm_12 nmw; have Bc_13 := T13.blk Bc_12 ncw; have Bk_13 := T13.blk Bk_12 nkw; have Hw13 := T13.below Hw12 gw; clear T13 Br_12 Bm_12 Bc_12 Bk_12 Bw_12 Hw12)
      | (go_at_call 8; (with_reducible refine (awake_any _).mono ?_); rintro e W14 ⟨rfl, k14⟩; have Br_14 := Br_13.keep k14; have Bm_14 := Bm_13.keep k14; have Bc_14 := Bc_13.keep k14; have Bk_14 := Bk_13.keep k14; have Bw_14 := Bw_13.keep k14; have Hw14 := bq_trans Hw13 k14; clear k14 Br_13 Bm_13 Bc_13 Bk_13 Bw_13 Hw13))
    go_ret
    exact ⟨rfl, Hw14⟩
theorem zero25b (w : World) : (zeroValue 25).run Try.prog w = .ok (.agg (iA [0, 0, 0, 0])) w := Try.zeroValue25 w
theorem zero32b (w : World) : (zeroValue 32).run Try.prog w = .ok (.agg (iA [0, 0, 0, 0])) w := Try.zeroValue32 w
set_option maxHeartbeats 4000000 in
theorem fback_ok (l r t b ma mb mc md mx my c0 c1 c2 c3 d0 d1 d2 d3 k0 k1 k2 k3 gu1 gu2 gu3 gu4 y1 y2 y3 : Int) (u1 u2 u3 u4 : ByteArray) (w : World) (hs : u4.size ≤ 1000)
    (P1 : Hid (∀ W, Calls Try.prog 9 #[.agg #[.string ⟨#[]⟩, .int .i64 0], .agg #[.int .i64 l, .int .i64 r, .int .i64 t, .int .i64 b]] W fun e w' => e = .returned (.tuple #[.agg #[.string u1, .int .i64 gu1], .int .i64 0]) ∧ Below W.heap.size W w'))
    (P2 : Hid (∀ W, Calls Try.prog 10 #[.agg #[.string u1, .int .i64 gu1], .agg #[.int .i64 ma, .int .i64 mb, .int .i64 mc, .int .i64 md, .int .i64 mx, .int .i64 my]] W fun e w' => e = .returned (.tuple #[.agg #[.string u2, .int .i64 gu2], .int .i64 0]) ∧ Below W.heap.size W w'))
    (P3 : Hid (∀ W, Calls Try.prog 11 #[.agg #[.string u2, .int .i64 gu2], .agg #[.int .i64 c0, .int .i64 c1, .int .i64 c2, .int .i64 c3, .int .i64 d0, .int .i64 d1, .int .i64 d2, .int .i64 d3]] W fun e w' => e = .returned (.tuple #[.agg #[.string u3, .int .i64 gu3], .int .i64 0]) ∧ Below W.heap.size W w'))
    (P4 : Hid (∀ W, Calls Try.prog 12 #[.agg #[.string u3, .int .i64 gu3], .agg #[.int .i64 k0, .int .i64 k1, .int .i64 k2, .int .i64 k3]] W fun e w' => e = .returned (.tuple #[.agg #[.string u4, .int .i64 gu4], .int .i64 0]) ∧ Below W.heap.size W w'))
    (T1 : Hid (∀ W, Calls Try.prog 26 #[.agg #[.string u4, .int .i64 0]] W fun e w' => e = .returned (.tuple #[.agg #[.int .i64 l, .int .i64 r, .int .i64 t, .int .i64 b], .agg #[.string u4, .int .i64 y1], .int .i64 0]) ∧ Below W.heap.size W w'))
    (T2 : Hid (∀ W, Calls Try.prog 27 #[.agg #[.string u4, .int .i64 y1]] W fun e w' => e = .returned (.tuple #[.agg #[.int .i64 ma, .int .i64 mb, .int .i64 mc, .int .i64 md, .int .i64 mx, .int .i64 my], .agg #[.string u4, .int .i64 y2], .int .i64 0]) ∧ Below W.heap.size W w'))
    (T3 : Hid (∀ W, Calls Try.prog 28 #[.agg #[.string u4, .int .i64 y2]] W fun e w' => e = .returned (.tuple #[.agg #[.int .i64 c0, .int .i64 c1, .int .i64 c2, .int .i64 c3, .int .i64 d0, .int .i64 d1, .int .i64 d2, .int .i64 d3], .agg #[.string u4, .int .i64 y3], .int .i64 0]) ∧ Below W.heap.size W w'))
    (T4 : Hid (∀ W, Calls Try.prog 29 #[.agg #[.string u4, .int .i64 y3]] W fun e w' => e = .returned (.tuple #[.agg #[.int .i64 k0, .int .i64 k1, .int .i64 k2, .int .i64 k3], .agg #[.string u4, .int .i64 (8 * (u4.size : Int))], .int .i64 0]) ∧ Below W.heap.size W w'))
    : Calls Try.prog 5 #[.agg #[.int .i64 l, .int .i64 r, .int .i64 t, .int .i64 b], .agg #[.int .i64 ma, .int .i64 mb, .int .i64 mc, .int .i64 md, .int .i64 mx, .int .i64 my], .agg #[.int .i64 c0, .int .i64 c1, .int .i64 c2, .int .i64 c3, .int .i64 d0, .int .i64 d1, .int .i64 d2, .int .i64 d3], .agg #[.int .i64 k0, .int .i64 k1, .int .i64 k2, .int .i64 k3]] w fun e w' => e = .returned (.bool true) ∧ Below w.heap.size w w' := by
  have q1 := fun W => eqRect l r t b W
  have q2 := fun W => eqMatrix ma mb mc md mx my W
  have q3 := fun W => eqCx c0 c1 c2 c3 d0 d1 d2 d3 W
  have q4 := fun W => eqRGBA k0 k1 k2 k3 W
  go_enter Try.func5, Try.ntmps5
  go_upto_region 11 with (go_big_may; first
    | (refine wl_box 25 _ _ rfl rfl (show _ = Value.agg #[.int .i64 l, .int .i64 r, .int .i64 t, .int .i64 b] from rfl) ?_; intro W1 br Br_1 l1 k1; have gr : w.heap.size ≤ br := l1; have Hw1 := k1; clear l1 k1)
    | (refine wl_box 27 _ _ rfl rfl (show _ = Value.agg #[.int .i64 ma, .int .i64 mb, .int .i64 mc, .int .i64 md, .int .i64 mx, .int .i64 my] from rfl) ?_; intro W2 bm Bm_2 l2 k2; have gm : w.heap.size ≤ bm := Nat.le_trans Hw1.size l2; have nrm : br ≠ bm := Nat.ne_of_lt (Nat.lt_of_lt_of_le Br_1.lt l2); have Br_2 := Br_1.keep k2; have Hw2 := bq_trans Hw1 k2; clear l2 k2 Br_1 Hw1)
    | (refine wl_box 30 _ _ rfl rfl (show _ = Value.agg #[.int .i64 c0, .int .i64 c1, .int .i64 c2, .int .i64 c3, .int .i64 d0, .int .i64 d1, .int .i64 d2, .int .i64 d3] from rfl) ?_; intro W3 bc Bc_3 l3 k3; have gc : w.heap.size ≤ bc := Nat.le_trans Hw2.size l3; have nrc : br ≠ bc := Nat.ne_of_lt (Nat.lt_of_lt_of_le Br_2.lt l3); have nmc : bm ≠ bc := Nat.ne_of_lt (Nat.lt_of_lt_of_le Bm_2.lt l3); have Br_3 := Br_2.keep k3; have Bm_3 := Bm_2.keep k3; have Hw3 := bq_trans Hw2 k3; clear l3 k3 Br_2 Bm_2 Hw2)
    | (refine wl_box 32 _ _ rfl rfl (show _ = Value.agg #[.int .i64 k0, .int .i64 k1, .int .i64 k2, .int .i64 k3] from rfl) ?_; intro W4 bk Bk_4 l4 k4; have gk : w.heap.size ≤ bk := Nat.le_trans Hw3.size l4; have nrk : br ≠ bk := Nat.ne_of_lt (Nat.lt_of_lt_of_le Br_3.lt l4); have nmk : bm ≠ bk := Nat.ne_of_lt (Nat.lt_of_lt_of_le Bm_3.lt l4); have nck : bc ≠ bk := Nat.ne_of_lt (Nat.lt_of_lt_of_le Bc_3.lt l4); have Br_4 := Br_3.keep k4; have Bm_4 := Bm_3.keep k4; have Bc_4 := Bc_3.keep k4; have Hw4 := bq_trans Hw3 k4; clear l4 k4 Br_3 Bm_3 Bc_3 Hw3)
    | (refine wl_load 25 4 _ Try.underlying25 rfl size25 _ rfl rfl _ rfl _ _ Br_4 rfl ?_)
    | (go_at_call 9; (with_reducible refine (P1.out _).mono ?_); rintro e W5 ⟨rfl, k5⟩; have Br_5 := Br_4.keep k5; have Bm_5 := Bm_4.keep k5; have Bc_5 := Bc_4.keep k5; have Bk_5 := Bk_4.keep k5; have Hw5 := bq_trans Hw4 k5; clear k5 Br_4 Bm_4 Bc_4 Bk_4 Hw4)
    | (refine wl_alloc 23 _ zero23 rfl rfl ?_; intro W6 bw Bw_6 l6 k6; have gw : w.heap.size ≤ bw := Nat.le_trans Hw5.size l6; have nrw : br ≠ bw := Nat.ne_of_lt (Nat.lt_of_lt_of_le Br_5.lt l6); have nmw : bm ≠ bw := Nat.ne_of_lt (Nat.lt_of_lt_of_le Bm_5.lt l6); have ncw : bc ≠ bw := Nat.ne_of_lt (Nat.lt_of_lt_of_le Bc_5.lt l6); have nkw : bk ≠ bw := Nat.ne_of_lt (Nat.lt_of_lt_of_le Bk_5.lt l6); have Br_6 := Br_5.keep k6; have Bm_6 := Bm_5.keep k6; have Bc_6 := Bc_5.keep k6; have Bk_6 := Bk_5.keep k6; have Hw6 := bq_trans Hw5 k6; clear l6 k6 Br_5 Bm_5 Bc_5 Bk_5 Hw5)
    | (refine wl_store 23 2 size23 _ _ rfl rfl _ rfl _ rfl _ _ Bw_6 rfl rfl (by kernel_rfl) ?_; intro W7 Bw_7 T7; have Br_7 := T7.blk Br_6 nrw; have Bm_7 := T7.blk Bm_6 nmw; have Bc_7 := T7.blk Bc_6 ncw; have Bk_7 := T7.blk Bk_6 nkw; have Hw7 := T7.below Hw6 gw; clear T7 Br_6 Bm_6 Bc_6 Bk_6 Bw_6 Hw6)
    | (refine wl_load 23 2 _ Try.underlying23 rfl size23 _ rfl rfl _ rfl _ _ Bw_7 rfl ?_)
    | (refine wl_load 27 6 _ Try.underlying27 rfl size27 _ rfl rfl _ rfl _ _ Bm_7 rfl ?_)
    | (go_at_call 10; (with_reducible refine (P2.out _).mono ?_); rintro e W8 ⟨rfl, k8⟩; have Br_8 := Br_7.keep k8; have Bm_8 := Bm_7.keep k8; have Bc_8 := Bc_7.keep k8; have Bk_8 := Bk_7.keep k8; have Bw_8 := Bw_7.keep k8; have Hw8 := bq_trans Hw7 k8; clear k8 Br_7 Bm_7 Bc_7 Bk_7 Bw_7 Hw7)
    | (refine wl_store 23 2 size23 _ _ rfl rfl _ rfl _ rfl _ _ Bw_8 rfl rfl (by kernel_rfl) ?_; intro W9 Bw_9 T9; have Br_9 := T9.blk Br_8 nrw; have Bm_9 := T9.blk Bm_8 nmw; have Bc_9 := T9.blk Bc_8 ncw; have Bk_9 := T9.blk Bk_8 nkw; have Hw9 := T9.below Hw8 gw; clear T9 Br_8 Bm_8 Bc_8 Bk_8 Bw_8 Hw8)
    | (refine wl_load 23 2 _ Try.underlying23 rfl size23 _ rfl rfl _ rfl _ _ Bw_9 rfl ?_)
    | (refine wl_load 30 8 _ Try.underlying30 rfl size30 _ rfl rfl _ rfl _ _ Bc_9 rfl ?_)
    | (go_at_call 11; (with_reducible refine (P3.out _).mono ?_); rintro e W10 ⟨rfl, k10⟩; have Br_10 := Br_9.keep k10; have Bm_10 := Bm_9.keep k10; have Bc_10 := Bc_9.keep k10; have Bk_10 := Bk_9.keep k10; have Bw_10 := Bw_9.keep k10; have Hw10 := bq_trans Hw9 k10; clear k10 Br_9 Bm_9 Bc_9 Bk_9 Bw_9 Hw9)
    | (refine wl_store 23 2 size23 _ _ rfl rfl _ rfl _ rfl _ _ Bw_10 rfl rfl (by kernel_rfl) ?_; intro W11 Bw_11 T11; have Br_11 := T11.blk Br_10 nrw; have Bm_11 := T11.blk Bm_10 nmw; have Bc_11 := T11.blk Bc_10 ncw; have Bk_11 := T11.blk Bk_10 nkw; have Hw11 := T11.below Hw10 gw; clear T11 Br_10 Bm_10 Bc_10 Bk_10 Bw_10 Hw10)
    | (refine wl_load 23 2 _ Try.underlying23 rfl size23 _ rfl rfl _ rfl _ _ Bw_11 rfl ?_)
    | (refine wl_load 32 4 _ Try.underlying32 rfl size32 _ rfl rfl _ rfl _ _ Bk_11 rfl ?_)
    | (go_at_call 12; (with_reducible refine (P4.out _).mono ?_); rintro e W12 ⟨rfl, k12⟩; have Br_12 := Br_11.keep k12; have Bm_12 := Bm_11.keep k12; have Bc_12 := Bc_11.keep k12; have Bk_12 := Bk_11.keep k12; have Bw_12 := Bw_11.keep k12; have Hw12 := bq_trans Hw11 k12; clear k12 Br_11 Bm_11 Bc_11 Bk_11 Bw_11 Hw11)
    | (refine wl_store 23 2 size23 _ _ rfl rfl _ rfl _ rfl _ _ Bw_12 rfl rfl (by kernel_rfl) ?_; intro W13 Bw_13 T13; have Br_13 := T13.blk Br_12 nrw; have Bm_13 := T13.blk Bm_12 nmw; have Bc_13 := T13.blk Bc_12 ncw; have Bk_13 := T13.blk Bk_12 nkw; have Hw13 := T13.below Hw12 gw; clear T13 Br_12 Bm_12 Bc_12 Bk_12 Bw_12 Hw12; have cw_0_13 : W13.cell? ⟨bw, 0, none⟩ = some (.string u4) := Bw_13.cell 0)
    | (go_at_call 26; (with_reducible refine (T1.out _).mono ?_); rintro e W14 ⟨rfl, k14⟩; have Br_14 := Br_13.keep k14; have Bm_14 := Bm_13.keep k14; have Bc_14 := Bc_13.keep k14; have Bk_14 := Bk_13.keep k14; have Bw_14 := Bw_13.keep k14; have Hw14 := bq_trans Hw13 k14; clear k14 Br_13 Bm_13 Bc_13 Bk_13 Bw_13 cw_0_13 Hw13)
    | (refine wl_alloc 25 _ zero25b rfl rfl ?_; intro W15 ba Ba_15 l15 k15; have ga : w.heap.size ≤ ba := Nat.le_trans Hw14.size l15; have nra : br ≠ ba := Nat.ne_of_lt (Nat.lt_of_lt_of_le Br_14.lt l15); have nma : bm ≠ ba := Nat.ne_of_lt (Nat.lt_of_lt_of_le Bm_14.lt l15); have nca : bc ≠ ba := Nat.ne_of_lt (Nat.lt_of_lt_of_le Bc_14.lt l15); have nka : bk ≠ ba := Nat.ne_of_lt (Nat.lt_of_lt_of_le Bk_14.lt l15); have nwa : bw ≠ ba := Nat.ne_of_lt (Nat.lt_of_lt_of_le Bw_14.lt l15); have Br_15 := Br_14.keep k15; have Bm_15 := Bm_14.keep k15; have Bc_15 := Bc_14.keep k15; have Bk_15 := Bk_14.keep k15; have Bw_15 := Bw_14.keep k15; have Hw15 := bq_trans Hw14 k15; clear l15 k15 Br_14 Bm_14 Bc_14 Bk_14 Bw_14 Hw14)
    | (refine wl_alloc 51 _ zero51 rfl rfl ?_; intro W16 bx Bx_16 l16 k16; have gx : w.heap.size ≤ bx := Nat.le_trans Hw15.size l16; have nrx : br ≠ bx := Nat.ne_of_lt (Nat.lt_of_lt_of_le Br_15.lt l16); have nmx : bm ≠ bx := Nat.ne_of_lt (Nat.lt_of_lt_of_le Bm_15.lt l16); have ncx : bc ≠ bx := Nat.ne_of_lt (Nat.lt_of_lt_of_le Bc_15.lt l16); have nkx : bk ≠ bx := Nat.ne_of_lt (Nat.lt_of_lt_of_le Bk_15.lt l16); have nwx : bw ≠ bx := Nat.ne_of_lt (Nat.lt_of_lt_of_le Bw_15.lt l16); have nax : ba ≠ bx := Nat.ne_of_lt (Nat.lt_of_lt_of_le Ba_15.lt l16); have Br_16 := Br_15.keep k16; have Bm_16 := Bm_15.keep k16; have Bc_16 := Bc_15.keep k16; have Bk_16 := Bk_15.keep k16; have Bw_16 := Bw_15.keep k16; have Ba_16 := Ba_15.keep k16; have Hw16 := bq_trans Hw15 k16; clear l16 k16 Br_15 Bm_15 Bc_15 Bk_15 Bw_15 Ba_15 Hw15)
    | (refine wl_store 25 4 size25 _ _ rfl rfl _ rfl _ rfl _ _ Ba_16 rfl rfl (by kernel_rfl) ?_; intro W17 Ba_17 T17; have Br_17 := T17.blk Br_16 nra; have Bm_17 := T17.blk Bm_16 nma; have Bc_17 := T17.blk Bc_16 nca; have Bk_17 := T17.blk Bk_16 nka; have Bw_17 := T17.blk Bw_16 nwa; have Bx_17 := T17.blk Bx_16 (Ne.symm nax); have Hw17 := T17.below Hw16 ga; clear T17 Br_16 Bm_16 Bc_16 Bk_16 Bw_16 Bx_16 Ba_16 Hw16)
    | (refine wl_store 51 2 size51 _ _ rfl rfl _ rfl _ rfl _ _ Bx_17 rfl rfl (by kernel_rfl) ?_; intro W18 Bx_18 T18; have Br_18 := T18.blk Br_17 nrx; have Bm_18 := T18.blk Bm_17 nmx; have Bc_18 := T18.blk Bc_17 ncx; have Bk_18 := T18.blk Bk_17 nkx; have Bw_18 := T18.blk Bw_17 nwx; have Ba_18 := T18.blk Ba_17 nax; have Hw18 := T18.below Hw17 gx; clear T18 Br_17 Bm_17 Bc_17 Bk_17 Bw_17 Ba_17 Bx_17 Hw17)
    | (refine wl_load 51 2 _ Try.underlying51 rfl size51 _ rfl rfl _ rfl _ _ Bx_18 rfl ?_)
    | (go_at_call 27; (with_reducible refine (T2.out _).mono ?_); rintro e W19 ⟨rfl, k19⟩; have Br_19 := Br_18.keep k19; have Bm_19 := Bm_18.keep k19; have Bc_19 := Bc_18.keep k19; have Bk_19 := Bk_18.keep k19; have Bw_19 := Bw_18.keep k19; have Ba_19 := Ba_18.keep k19; have Bx_19 := Bx_18.keep k19; have Hw19 := bq_trans Hw18 k19; clear k19 Br_18 Bm_18 Bc_18 Bk_18 Bw_18 Ba_18 Bx_18 Hw18)
    | (refine wl_alloc 27 _ zero27 rfl rfl ?_; intro W20 bf Bf_20 l20 k20; have gf : w.heap.size ≤ bf := Nat.le_trans Hw19.size l20; have nrf : br ≠ bf := Nat.ne_of_lt (Nat.lt_of_lt_of_le Br_19.lt l20); have nmf : bm ≠ bf := Nat.ne_of_lt (Nat.lt_of_lt_of_le Bm_19.lt l20); have ncf : bc ≠ bf := Nat.ne_of_lt (Nat.lt_of_lt_of_le Bc_19.lt l20); have nkf : bk ≠ bf := Nat.ne_of_lt (Nat.lt_of_lt_of_le Bk_19.lt l20); have nwf : bw ≠ bf := Nat.ne_of_lt (Nat.lt_of_lt_of_le Bw_19.lt l20); have naf : ba ≠ bf := Nat.ne_of_lt (Nat.lt_of_lt_of_le Ba_19.lt l20); have nxf : bx ≠ bf := Nat.ne_of_lt (Nat.lt_of_lt_of_le Bx_19.lt l20); have Br_20 := Br_19.keep k20; have Bm_20 := Bm_19.keep k20; have Bc_20 := Bc_19.keep k20; have Bk_20 := Bk_19.keep k20; have Bw_20 := Bw_19.keep k20; have Ba_20 := Ba_19.keep k20; have Bx_20 := Bx_19.keep k20; have Hw20 := bq_trans Hw19 k20; clear l20 k20 Br_19 Bm_19 Bc_19 Bk_19 Bw_19 Ba_19 Bx_19 Hw19)
    | (refine wl_store 27 6 size27 _ _ rfl rfl _ rfl _ rfl _ _ Bf_20 rfl rfl (by kernel_rfl) ?_; intro W21 Bf_21 T21; have Br_21 := T21.blk Br_20 nrf; have Bm_21 := T21.blk Bm_20 nmf; have Bc_21 := T21.blk Bc_20 ncf; have Bk_21 := T21.blk Bk_20 nkf; have Bw_21 := T21.blk Bw_20 nwf; have Ba_21 := T21.blk Ba_20 naf; have Bx_21 := T21.blk Bx_20 nxf; have Hw21 := T21.below Hw20 gf; clear T21 Br_20 Bm_20 Bc_20 Bk_20 Bw_20 Ba_20 Bx_20 Bf_20 Hw20)
    | (refine wl_store 51 2 size51 _ _ rfl rfl _ rfl _ rfl _ _ Bx_21 rfl rfl (by kernel_rfl) ?_; intro W22 Bx_22 T22; have Br_22 := T22.blk Br_21 nrx; have Bm_22 := T22.blk Bm_21 nmx; have Bc_22 := T22.blk Bc_21 ncx; have Bk_22 := T22.blk Bk_21 nkx; have Bw_22 := T22.blk Bw_21 nwx; have Ba_22 := T22.blk Ba_21 nax; have Bf_22 := T22.blk Bf_21 (Ne.symm nxf); have Hw22 := T22.below Hw21 gx; clear T22 Br_21 Bm_21 Bc_21 Bk_21 Bw_21 Ba_21 Bf_21 Bx_21 Hw21)
    | (refine wl_load 51 2 _ Try.underlying51 rfl size51 _ rfl rfl _ rfl _ _ Bx_22 rfl ?_)
    | (go_at_call 28; (with_reducible refine (T3.out _).mono ?_); rintro e W23 ⟨rfl, k23⟩; have Br_23 := Br_22.keep k23; have Bm_23 := Bm_22.keep k23; have Bc_23 := Bc_22.keep k23; have Bk_23 := Bk_22.keep k23; have Bw_23 := Bw_22.keep k23; have Ba_23 := Ba_22.keep k23; have Bx_23 := Bx_22.keep k23; have Bf_23 := Bf_22.keep k23; have Hw23 := bq_trans Hw22 k23; clear k23 Br_22 Bm_22 Bc_22 Bk_22 Bw_22 Ba_22 Bx_22 Bf_22 Hw22)
    | (refine wl_alloc 30 _ zero30 rfl rfl ?_; intro W24 bg Bg_24 l24 k24; have gg : w.heap.size ≤ bg := Nat.le_trans Hw23.size l24; have nrg : br ≠ bg := Nat.ne_of_lt (Nat.lt_of_lt_of_le Br_23.lt l24); have nmg : bm ≠ bg := Nat.ne_of_lt (Nat.lt_of_lt_of_le Bm_23.lt l24); have ncg : bc ≠ bg := Nat.ne_of_lt (Nat.lt_of_lt_of_le Bc_23.lt l24); have nkg : bk ≠ bg := Nat.ne_of_lt (Nat.lt_of_lt_of_le Bk_23.lt l24); have nwg : bw ≠ bg := Nat.ne_of_lt (Nat.lt_of_lt_of_le Bw_23.lt l24); have nag : ba ≠ bg := Nat.ne_of_lt (Nat.lt_of_lt_of_le Ba_23.lt l24); have nxg : bx ≠ bg := Nat.ne_of_lt (Nat.lt_of_lt_of_le Bx_23.lt l24); have nfg : bf ≠ bg := Nat.ne_of_lt (Nat.lt_of_lt_of_le Bf_23.lt l24); have Br_24 := Br_23.keep k24; have Bm_24 := Bm_23.keep k24; have Bc_24 := Bc_23.keep k24; have Bk_24 := Bk_23.keep k24; have Bw_24 := Bw_23.keep k24; have Ba_24 := Ba_23.keep k24; have Bx_24 := Bx_23.keep k24; have Bf_24 := Bf_23.keep k24; have Hw24 := bq_trans Hw23 k24; clear l24 k24 Br_23 Bm_23 Bc_23 Bk_23 Bw_23 Ba_23 Bx_23 Bf_23 Hw23)
    | (refine wl_store 30 8 size30 _ _ rfl rfl _ rfl _ rfl _ _ Bg_24 rfl rfl (by kernel_rfl) ?_; intro W25 Bg_25 T25; have Br_25 := T25.blk Br_24 nrg; have Bm_25 := T25.blk Bm_24 nmg; have Bc_25 := T25.blk Bc_24 ncg; have Bk_25 := T25.blk Bk_24 nkg; have Bw_25 := T25.blk Bw_24 nwg; have Ba_25 := T25.blk Ba_24 nag; have Bx_25 := T25.blk Bx_24 nxg; have Bf_25 := T25.blk Bf_24 nfg; have Hw25 := T25.below Hw24 gg; clear T25 Br_24 Bm_24 Bc_24 Bk_24 Bw_24 Ba_24 Bx_24 Bf_24 Bg_24 Hw24)
    | (refine wl_store 51 2 size51 _ _ rfl rfl _ rfl _ rfl _ _ Bx_25 rfl rfl (by kernel_rfl) ?_; intro W26 Bx_26 T26; have Br_26 := T26.blk Br_25 nrx; have Bm_26 := T26.blk Bm_25 nmx; have Bc_26 := T26.blk Bc_25 ncx; have Bk_26 := T26.blk Bk_25 nkx; have Bw_26 := T26.blk Bw_25 nwx; have Ba_26 := T26.blk Ba_25 nax; have Bf_26 := T26.blk Bf_25 (Ne.symm nxf); have Bg_26 := T26.blk Bg_25 (Ne.symm nxg); have Hw26 := T26.below Hw25 gx; clear T26 Br_25 Bm_25 Bc_25 Bk_25 Bw_25 Ba_25 Bf_25 Bg_25 Bx_25 Hw25)
    | (refine wl_load 51 2 _ Try.underlying51 rfl size51 _ rfl rfl _ rfl _ _ Bx_26 rfl ?_)
    | (go_at_call 29; (with_reducible refine (T4.out _).mono ?_); rintro e W27 ⟨rfl, k27⟩; have Br_27 := Br_26.keep k27; have Bm_27 := Bm_26.keep k27; have Bc_27 := Bc_26.keep k27; have Bk_27 := Bk_26.keep k27; have Bw_27 := Bw_26.keep k27; have Ba_27 := Ba_26.keep k27; have Bx_27 := Bx_26.keep k27; have Bf_27 := Bf_26.keep k27; have Bg_27 := Bg_26.keep k27; have Hw27 := bq_trans Hw26 k27; clear k27 Br_26 Bm_26 Bc_26 Bk_26 Bw_26 Ba_26 Bx_26 Bf_26 Bg_26 Hw26)
    | (refine wl_alloc 32 _ zero32b rfl rfl ?_; intro W28 bh Bh_28 l28 k28; have gh : w.heap.size ≤ bh := Nat.le_trans Hw27.size l28; have nrh : br ≠ bh := Nat.ne_of_lt (Nat.lt_of_lt_of_le Br_27.lt l28); have nmh : bm ≠ bh := Nat.ne_of_lt (Nat.lt_of_lt_of_le Bm_27.lt l28); have nch : bc ≠ bh := Nat.ne_of_lt (Nat.lt_of_lt_of_le Bc_27.lt l28); have nkh : bk ≠ bh := Nat.ne_of_lt (Nat.lt_of_lt_of_le Bk_27.lt l28); have nwh : bw ≠ bh := Nat.ne_of_lt (Nat.lt_of_lt_of_le Bw_27.lt l28); have nah : ba ≠ bh := Nat.ne_of_lt (Nat.lt_of_lt_of_le Ba_27.lt l28); have nxh : bx ≠ bh := Nat.ne_of_lt (Nat.lt_of_lt_of_le Bx_27.lt l28); have nfh : bf ≠ bh := Nat.ne_of_lt (Nat.lt_of_lt_of_le Bf_27.lt l28); have ngh : bg ≠ bh := Nat.ne_of_lt (Nat.lt_of_lt_of_le Bg_27.lt l28); have Br_28 := Br_27.keep k28; have Bm_28 := Bm_27.keep k28; have Bc_28 := Bc_27.keep k28; have Bk_28 := Bk_27.keep k28; have Bw_28 := Bw_27.keep k28; have Ba_28 := Ba_27.keep k28; have Bx_28 := Bx_27.keep k28; have Bf_28 := Bf_27.keep k28; have Bg_28 := Bg_27.keep k28; have Hw28 := bq_trans Hw27 k28; clear l28 k28 Br_27 Bm_27 Bc_27 Bk_27 Bw_27 Ba_27 Bx_27 Bf_27 Bg_27 Hw27)
    | (refine wl_store 32 4 size32 _ _ rfl rfl _ rfl _ rfl _ _ Bh_28 rfl rfl (by kernel_rfl) ?_; intro W29 Bh_29 T29; have Br_29 := T29.blk Br_28 nrh; have Bm_29 := T29.blk Bm_28 nmh; have Bc_29 := T29.blk Bc_28 nch; have Bk_29 := T29.blk Bk_28 nkh; have Bw_29 := T29.blk Bw_28 nwh; have Ba_29 := T29.blk Ba_28 nah; have Bx_29 := T29.blk Bx_28 nxh; have Bf_29 := T29.blk Bf_28 nfh; have Bg_29 := T29.blk Bg_28 ngh; have Hw29 := T29.below Hw28 gh; clear T29 Br_28 Bm_28 Bc_28 Bk_28 Bw_28 Ba_28 Bx_28 Bf_28 Bg_28 Bh_28 Hw28)
    | (refine wl_store 51 2 size51 _ _ rfl rfl _ rfl _ rfl _ _ Bx_29 rfl rfl (by kernel_rfl) ?_; intro W30 Bx_30 T30; have Br_30 := T30.blk Br_29 nrx; have Bm_30 := T30.blk Bm_29 nmx; have Bc_30 := T30.blk Bc_29 ncx; have Bk_30 := T30.blk Bk_29 nkx; have Bw_30 := T30.blk Bw_29 nwx; have Ba_30 := T30.blk Ba_29 nax; have Bf_30 := T30.blk Bf_29 (Ne.symm nxf); have Bg_30 := T30.blk Bg_29 (Ne.symm nxg); have Bh_30 := T30.blk Bh_29 (Ne.symm nxh); have Hw30 := T30.below Hw29 gx; clear T30 Br_29 Bm_29 Bc_29 Bk_29 Bw_29 Ba_29 Bf_29 Bg_29 Bh_29 Bx_29 Hw29))
  have ea0 : W30.cell? ⟨ba, 0, none⟩ = some (.int .i64 l) := Ba_30.cell 0
  have ea1 : W30.cell? ⟨ba, 1, none⟩ = some (.int .i64 r) := Ba_30.cell 1
  have ea2 : W30.cell? ⟨ba, 2, none⟩ = some (.int .i64 t) := Ba_30.cell 2
  have ea3 : W30.cell? ⟨ba, 3, none⟩ = some (.int .i64 b) := Ba_30.cell 3
  have er0 : W30.cell? ⟨br, 0, none⟩ = some (.int .i64 l) := Br_30.cell 0
  have er1 : W30.cell? ⟨br, 1, none⟩ = some (.int .i64 r) := Br_30.cell 1
  have er2 : W30.cell? ⟨br, 2, none⟩ = some (.int .i64 t) := Br_30.cell 2
  have er3 : W30.cell? ⟨br, 3, none⟩ = some (.int .i64 b) := Br_30.cell 3
  have ef0 : W30.cell? ⟨bf, 0, none⟩ = some (.int .i64 ma) := Bf_30.cell 0
  have ef1 : W30.cell? ⟨bf, 1, none⟩ = some (.int .i64 mb) := Bf_30.cell 1
  have ef2 : W30.cell? ⟨bf, 2, none⟩ = some (.int .i64 mc) := Bf_30.cell 2
  have ef3 : W30.cell? ⟨bf, 3, none⟩ = some (.int .i64 md) := Bf_30.cell 3
  have ef4 : W30.cell? ⟨bf, 4, none⟩ = some (.int .i64 mx) := Bf_30.cell 4
  have ef5 : W30.cell? ⟨bf, 5, none⟩ = some (.int .i64 my) := Bf_30.cell 5
  have em0 : W30.cell? ⟨bm, 0, none⟩ = some (.int .i64 ma) := Bm_30.cell 0
  have em1 : W30.cell? ⟨bm, 1, none⟩ = some (.int .i64 mb) := Bm_30.cell 1
  have em2 : W30.cell? ⟨bm, 2, none⟩ = some (.int .i64 mc) := Bm_30.cell 2
  have em3 : W30.cell? ⟨bm, 3, none⟩ = some (.int .i64 md) := Bm_30.cell 3
  have em4 : W30.cell? ⟨bm, 4, none⟩ = some (.int .i64 mx) := Bm_30.cell 4
  have em5 : W30.cell? ⟨bm, 5, none⟩ = some (.int .i64 my) := Bm_30.cell 5
  have eg0 : W30.cell? ⟨bg, 0, none⟩ = some (.int .i64 c0) := Bg_30.cell 0
  have eg1 : W30.cell? ⟨bg, 1, none⟩ = some (.int .i64 c1) := Bg_30.cell 1
  have eg2 : W30.cell? ⟨bg, 2, none⟩ = some (.int .i64 c2) := Bg_30.cell 2
  have eg3 : W30.cell? ⟨bg, 3, none⟩ = some (.int .i64 c3) := Bg_30.cell 3
  have eg4 : W30.cell? ⟨bg, 4, none⟩ = some (.int .i64 d0) := Bg_30.cell 4
  have eg5 : W30.cell? ⟨bg, 5, none⟩ = some (.int .i64 d1) := Bg_30.cell 5
  have eg6 : W30.cell? ⟨bg, 6, none⟩ = some (.int .i64 d2) := Bg_30.cell 6
  have eg7 : W30.cell? ⟨bg, 7, none⟩ = some (.int .i64 d3) := Bg_30.cell 7
  have ec0 : W30.cell? ⟨bc, 0, none⟩ = some (.int .i64 c0) := Bc_30.cell 0
  have ec1 : W30.cell? ⟨bc, 1, none⟩ = some (.int .i64 c1) := Bc_30.cell 1
  have ec2 : W30.cell? ⟨bc, 2, none⟩ = some (.int .i64 c2) := Bc_30.cell 2
  have ec3 : W30.cell? ⟨bc, 3, none⟩ = some (.int .i64 c3) := Bc_30.cell 3
  have ec4 : W30.cell? ⟨bc, 4, none⟩ = some (.int .i64 d0) := Bc_30.cell 4
  have ec5 : W30.cell? ⟨bc, 5, none⟩ = some (.int .i64 d1) := Bc_30.cell 5
  have ec6 : W30.cell? ⟨bc, 6, none⟩ = some (.int .i64 d2) := Bc_30.cell 6
  have ec7 : W30.cell? ⟨bc, 7, none⟩ = some (.int .i64 d3) := Bc_30.cell 7
  have eh0 : W30.cell? ⟨bh, 0, none⟩ = some (.int .i64 k0) := Bh_30.cell 0
  have eh1 : W30.cell? ⟨bh, 1, none⟩ = some (.int .i64 k1) := Bh_30.cell 1
  have eh2 : W30.cell? ⟨bh, 2, none⟩ = some (.int .i64 k2) := Bh_30.cell 2
  have eh3 : W30.cell? ⟨bh, 3, none⟩ = some (.int .i64 k3) := Bh_30.cell 3
  have ek0 : W30.cell? ⟨bk, 0, none⟩ = some (.int .i64 k0) := Bk_30.cell 0
  have ek1 : W30.cell? ⟨bk, 1, none⟩ = some (.int .i64 k1) := Bk_30.cell 1
  have ek2 : W30.cell? ⟨bk, 2, none⟩ = some (.int .i64 k2) := Bk_30.cell 2
  have ek3 : W30.cell? ⟨bk, 3, none⟩ = some (.int .i64 k3) := Bk_30.cell 3
  have ex1 : W30.cell? ⟨bx, 1, none⟩ = some (.int .i64 (8 * (u4.size : Int))) := Bx_30.cell 1
  have ew0 : W30.cell? ⟨bw, 0, none⟩ = some (.string u4) := Bw_30.cell 0
  have HB := Lib.hid Hw30
  clear Br_30 Bm_30 Bc_30 Bk_30 Bw_30 Ba_30 Bx_30 Bf_30 Bg_30 Bh_30 Hw30 P1 P2 P3 P4 T1 T2 T3 T4
  go_wp2_with fail
  go_at_call 8
  refine (awake_any _).mono ?_
  rintro e W99 ⟨rfl, k99⟩
  go_wp2
  go_ret
  exact ⟨rfl, bq_trans HB.out k99⟩
end Go.Proofs.Ytfaipbdkkkhacaa
/- Layer 7: FieldBack. -/
namespace Go.Proofs.Ytfaipbdkkkhacaa
open Go.RowKit
set_option linter.unusedVariables false

/-- what a Put tells -/
def pS (k : Bool) (s : ByteArray) (l : List UInt8) : ByteArray := if k = true then s ++ bs l else ⟨#[]⟩
def pE (k : Bool) : Int := if k = true then 0 else 1
theorem pS_size (k : Bool) (s : ByteArray) (l : List UInt8) : (pS k s l).size ≤ s.size + l.length := by
  unfold pS
  split
  · rw [ByteArray.size_append, bs_size]; exact Nat.le_refl _
  · exact Nat.zero_le _
theorem pE_no (a b c d : Bool) (h : (a && b && c && d) = false) : (pE a != 0) = true ∨ ((pE a != 0) = false ∧ (pE b != 0) = true) ∨ ((pE a != 0) = false ∧ (pE b != 0) = false ∧ (pE c != 0) = true) ∨ ((pE a != 0) = false ∧ (pE b != 0) = false ∧ (pE c != 0) = false ∧ (pE d != 0) = true) := by
  cases a <;> cases b <;> cases c <;> cases d <;> first | (cases h; done) | decide
theorem rect_bytes {l r t b : Int} (h : rectOk l r t b = true) : (F.bys (rectF l r t b)).length ≤ 12 := by
  have := rect_wd h
  rw [F.bys_len, rectF_len]; omega
theorem mat_bytes {a b c d x y : Int} (h : matOk a b c d x y = true) : (F.bys (matF a b c d x y)).length ≤ 20 := by
  have := (matFacts h).l5
  rw [F.bys_len]; omega
theorem cx_bytes {m d : List Int} (h : cxOk m d = true) (hm : m.length = 4) (hd : d.length = 4) : (F.bys (cxF m d)).length ≤ 12 := by
  have := cxF_len_le h hm hd
  rw [F.bys_len]; omega
theorem putrect_all (s : ByteArray) (l r t b : Int) (W : World) (hs : s.size ≤ 1000000) (hl : I64 l) (hr : I64 r) (ht : I64 t) (hb : I64 b) : Calls Try.prog 9 #[.agg #[.string s, .int .i64 0], .agg #[.int .i64 l, .int .i64 r, .int .i64 t, .int .i64 b]] W fun e w' => e = .returned (.tuple #[.agg #[.string (pS (rectOk l r t b) s (F.bys (rectF l r t b))), .int .i64 0], .int .i64 (pE (rectOk l r t b))]) ∧ Below W.heap.size W w' := by
  cases h : rectOk l r t b
  · exact putrect_bad s 0 l r t b W hl hr ht hb h
  · exact putrect_ok s 0 l r t b W hs h
theorem putmatrix_all (s : ByteArray) (ma mb mc md mx my : Int) (W : World) (hs : s.size ≤ 1000000) (hma : I64 ma) (hmb : I64 mb) (hmc : I64 mc) (hmd : I64 md) (hmx : I64 mx) (hmy : I64 my) : Calls Try.prog 10 #[.agg #[.string s, .int .i64 0], .agg #[.int .i64 ma, .int .i64 mb, .int .i64 mc, .int .i64 md, .int .i64 mx, .int .i64 my]] W fun e w' => e = .returned (.tuple #[.agg #[.string (pS (matOk ma mb mc md mx my) s (F.bys (matF ma mb mc md mx my))), .int .i64 0], .int .i64 (pE (matOk ma mb mc md mx my))]) ∧ Below W.heap.size W w' := by
  cases h : matOk ma mb mc md mx my
  · exact putmatrix_bad s 0 ma mb mc md mx my W hma hmb hmc hmd hmx hmy h
  · exact putmatrix_ok s 0 ma mb mc md mx my W hs h
theorem putcx_all (s : ByteArray) (c0 c1 c2 c3 d0 d1 d2 d3 : Int) (W : World) (hs : s.size ≤ 1000000) (hc0 : I64 c0) (hc1 : I64 c1) (hc2 : I64 c2) (hc3 : I64 c3) (hd0 : I64 d0) (hd1 : I64 d1) (hd2 : I64 d2) (hd3 : I64 d3) : Calls Try.prog 11 #[.agg #[.string s, .int .i64 0], .agg #[.int .i64 c0, .int .i64 c1, .int .i64 c2, .int .i64 c3, .int .i64 d0, .int .i64 d1, .int .i64 d2, .int .i64 d3]] W fun e w' => e = .returned (.tuple #[.agg #[.string (pS (cxOk [c0, c1, c2, c3] [d0, d1, d2, d3]) s (F.bys (cxF [c0, c1, c2, c3] [d0, d1, d2, d3]))), .int .i64 0], .int .i64 (pE (cxOk [c0, c1, c2, c3] [d0, d1, d2, d3]))]) ∧ Below W.heap.size W w' := by
  cases h : cxOk [c0, c1, c2, c3] [d0, d1, d2, d3]
  · exact putcx_bad s 0 c0 c1 c2 c3 d0 d1 d2 d3 W hc0 hc1 hc2 hc3 hd0 hd1 hd2 hd3 h
  · exact putcx_ok s 0 c0 c1 c2 c3 d0 d1 d2 d3 W hs h
theorem putrgba_all (s : ByteArray) (k0 k1 k2 k3 : Int) (W : World) (hs : s.size ≤ 1000000) (hk0 : I64 k0) (hk1 : I64 k1) (hk2 : I64 k2) (hk3 : I64 k3) : Calls Try.prog 12 #[.agg #[.string s, .int .i64 0], .agg #[.int .i64 k0, .int .i64 k1, .int .i64 k2, .int .i64 k3]] W fun e w' => e = .returned (.tuple #[.agg #[.string (pS (rgbaOk k0 k1 k2 k3) s (by4 k0 k1 k2 k3)), .int .i64 0], .int .i64 (pE (rgbaOk k0 k1 k2 k3))]) ∧ Below W.heap.size W w' := by
  cases h : rgbaOk k0 k1 k2 k3
  · exact putrgba_bad s 0 k0 k1 k2 k3 W hk0 hk1 hk2 hk3 h
  · exact putrgba_ok s 0 k0 k1 k2 k3 W hs h
theorem cut_end (p d : List UInt8) : (bs (p ++ d)).extract p.length (p.length + d.length) = bs d := by
  apply ByteArray.ext
  rw [ByteArray.data_extract]
  apply Array.toList_inj.1
  rw [Array.toList_extract]
  simp [bs, List.extract_eq_take_drop]
theorem rg_back (p : List UInt8) (k0 k1 k2 k3 : Int) (h : rgbaOk k0 k1 k2 k3 = true) :
    rgV (bs (p ++ by4 k0 k1 k2 k3)) ((8 * p.length : Nat) : Int) = [k0, k1, k2, k3] ∧ byS (bs (p ++ by4 k0 k1 k2 k3)) ((8 * p.length : Nat) : Int) 4 = bs (p ++ by4 k0 k1 k2 k3) ∧ byA (bs (p ++ by4 k0 k1 k2 k3)) ((8 * p.length : Nat) : Int) 4 = 8 * ((bs (p ++ by4 k0 k1 k2 k3)).size : Int) ∧ byE (bs (p ++ by4 k0 k1 k2 k3)).size ((8 * p.length : Nat) : Int) 4 = 0 := by
  have hz : (bs (p ++ by4 k0 k1 k2 k3)).size = p.length + 4 := by rw [bs_size, List.length_append]; rfl
  have he : byE (bs (p ++ by4 k0 k1 k2 k3)).size ((8 * p.length : Nat) : Int) 4 = 0 := by
    unfold byE
    rw [hz, if_pos (by omega), if_neg (by omega)]
  obtain ⟨⟨b0, b1⟩, ⟨b2, b3⟩, ⟨b4, b5⟩, ⟨b6, b7⟩⟩ := rgba_bd h
  refine ⟨?_, if_pos he, ?_, he⟩
  · unfold rgV byB
    rw [if_pos he, if_pos he]
    have e1 : ((((8 * p.length : Nat) : Int) + 7) / 8).toNat = p.length := by omega
    have e2 : (by4 k0 k1 k2 k3).length = (4 : Int).toNat := rfl
    rw [e1, ← e2, cut_end, bs_data]
    simp only [by4, List.map_cons, List.map_nil]
    rw [byte_int _ b0 b1, byte_int _ b2 b3, byte_int _ b4 b5, byte_int _ b6 b7]
  · unfold byA
    rw [if_pos he, hz]
    omega
set_option maxRecDepth 100000 in
theorem fieldBack_walk (l r t b ma mb mc md mx my c0 c1 c2 c3 d0 d1 d2 d3 k0 k1 k2 k3 : Int) (w : World) (hl : I64 l) (hr : I64 r) (ht : I64 t) (hb : I64 b) (hma : I64 ma) (hmb : I64 mb) (hmc : I64 mc) (hmd : I64 md) (hmx : I64 mx) (hmy : I64 my) (hc0 : I64 c0) (hc1 : I64 c1) (hc2 : I64 c2) (hc3 : I64 c3) (hd0 : I64 d0) (hd1 : I64 d1) (hd2 : I64 d2) (hd3 : I64 d3) (hk0 : I64 k0) (hk1 : I64 k1) (hk2 : I64 k2) (hk3 : I64 k3) :
    Calls Try.prog 5 #[.agg #[.int .i64 l, .int .i64 r, .int .i64 t, .int .i64 b], .agg #[.int .i64 ma, .int .i64 mb, .int .i64 mc, .int .i64 md, .int .i64 mx, .int .i64 my], .agg #[.int .i64 c0, .int .i64 c1, .int .i64 c2, .int .i64 c3, .int .i64 d0, .int .i64 d1, .int .i64 d2, .int .i64 d3], .agg #[.int .i64 k0, .int .i64 k1, .int .i64 k2, .int .i64 k3]] w fun e w' => e = .returned (.bool true) ∧ Below w.heap.size w w' := by
  by_cases hall : (rectOk l r t b && matOk ma mb mc md mx my && cxOk [c0, c1, c2, c3] [d0, d1, d2, d3] && rgbaOk k0 k1 k2 k3) = true
  · simp only [Bool.and_eq_true] at hall
    obtain ⟨⟨⟨h1, h2⟩, h3⟩, h4⟩ := hall
    have s1 := rect_bytes h1
    have s2 := mat_bytes h2
    have s3 := cx_bytes h3 rfl rfl
    have s4 : (by4 k0 k1 k2 k3).length = 4 := rfl
    have B1 := fun post => back_rect [] post l r t b h1
    have B2 := fun pre post => back_matrix pre post ma mb mc md mx my h2
    have B3 := fun pre post => back_cx pre post [c0, c1, c2, c3] [d0, d1, d2, d3] rfl rfl h3
    have B4 := fun pre => rg_back pre k0 k1 k2 k3 h4
    have P1 := Lib.hid (fun W => putrect_ok ⟨#[]⟩ 0 l r t b W (by decide) h1)
    have P2 := Lib.hid (fun s W (hs : s.size ≤ 1000000) => putmatrix_ok s 0 ma mb mc md mx my W hs h2)
    have P3 := Lib.hid (fun s W (hs : s.size ≤ 1000000) => putcx_ok s 0 c0 c1 c2 c3 d0 d1 d2 d3 W hs h3)
    have P4 := Lib.hid (fun s W (hs : s.size ≤ 1000000) => putrgba_ok s 0 k0 k1 k2 k3 W hs h4)
    generalize F.bys (rectF l r t b) = A at *
    generalize F.bys (matF ma mb mc md mx my) = B at *
    generalize F.bys (cxF [c0, c1, c2, c3] [d0, d1, d2, d3]) = C at *
    generalize by4 k0 k1 k2 k3 = D at *
    rw [nil_app] at P1
    have Q2 : Hid (∀ W, Calls Try.prog 10 #[.agg #[.string (bs A), .int .i64 0], .agg #[.int .i64 ma, .int .i64 mb, .int .i64 mc, .int .i64 md, .int .i64 mx, .int .i64 my]] W fun e w' => e = .returned (.tuple #[.agg #[.string (bs (A ++ B)), .int .i64 0], .int .i64 0]) ∧ Below W.heap.size W w') := Lib.hid fun W => by
      have := P2.out (bs A) W (by rw [bs_size]; omega)
      rw [bs_append] at this
      exact this
    have Q3 : Hid (∀ W, Calls Try.prog 11 #[.agg #[.string (bs (A ++ B)), .int .i64 0], .agg #[.int .i64 c0, .int .i64 c1, .int .i64 c2, .int .i64 c3, .int .i64 d0, .int .i64 d1, .int .i64 d2, .int .i64 d3]] W fun e w' => e = .returned (.tuple #[.agg #[.string (bs (A ++ B ++ C)), .int .i64 0], .int .i64 0]) ∧ Below W.heap.size W w') := Lib.hid fun W => by
      have := P3.out (bs (A ++ B)) W (by rw [bs_size, List.length_append]; omega)
      rw [bs_append] at this
      exact this
    have Q4 : Hid (∀ W, Calls Try.prog 12 #[.agg #[.string (bs (A ++ B ++ C)), .int .i64 0], .agg #[.int .i64 k0, .int .i64 k1, .int .i64 k2, .int .i64 k3]] W fun e w' => e = .returned (.tuple #[.agg #[.string (bs (A ++ B ++ C ++ D)), .int .i64 0], .int .i64 0]) ∧ Below W.heap.size W w') := Lib.hid fun W => by
      have := P4.out (bs (A ++ B ++ C)) W (by rw [bs_size, List.length_append, List.length_append]; omega)
      rw [bs_append] at this
      exact this
    have hz : (bs (A ++ B ++ C ++ D)).size ≤ 1000 := by rw [bs_size]; simp only [List.length_append]; omega
    have T1 : Hid (∀ W, Calls Try.prog 26 #[.agg #[.string (bs (A ++ B ++ C ++ D)), .int .i64 0]] W fun e w' => e = .returned (.tuple #[.agg #[.int .i64 l, .int .i64 r, .int .i64 t, .int .i64 b], .agg #[.string (bs (A ++ B ++ C ++ D)), .int .i64 ((8 * A.length : Nat) : Int)], .int .i64 0]) ∧ Below W.heap.size W w') := Lib.hid fun W => by
      have := takerect_any (bs (A ++ B ++ C ++ D)) 0 W (by omega)
      have k := B1 (B ++ C ++ D)
      rw [List.nil_append, List.length_nil, Nat.zero_add, ← List.append_assoc, ← List.append_assoc] at k
      have k1 : rectS (RS.begP (bs (A ++ B ++ C ++ D)) 0) = _ := k.1
      have k2 : rectV (RS.begP (bs (A ++ B ++ C ++ D)) 0) = _ := k.2
      rw [k1, k2] at this
      exact this
    have T2 : Hid (∀ W, Calls Try.prog 27 #[.agg #[.string (bs (A ++ B ++ C ++ D)), .int .i64 ((8 * A.length : Nat) : Int)]] W fun e w' => e = .returned (.tuple #[.agg #[.int .i64 ma, .int .i64 mb, .int .i64 mc, .int .i64 md, .int .i64 mx, .int .i64 my], .agg #[.string (bs (A ++ B ++ C ++ D)), .int .i64 ((8 * (A ++ B).length : Nat) : Int)], .int .i64 0]) ∧ Below W.heap.size W w') := Lib.hid fun W => by
      have := takematrix_any (bs (A ++ B ++ C ++ D)) ((8 * A.length : Nat) : Int) W (by omega)
      have k := B2 A (C ++ D)
      rw [← List.append_assoc, ← List.length_append] at k
      rw [k.1, k.2] at this
      exact this
    have T3 : Hid (∀ W, Calls Try.prog 28 #[.agg #[.string (bs (A ++ B ++ C ++ D)), .int .i64 ((8 * (A ++ B).length : Nat) : Int)]] W fun e w' => e = .returned (.tuple #[.agg #[.int .i64 c0, .int .i64 c1, .int .i64 c2, .int .i64 c3, .int .i64 d0, .int .i64 d1, .int .i64 d2, .int .i64 d3], .agg #[.string (bs (A ++ B ++ C ++ D)), .int .i64 ((8 * (A ++ B ++ C).length : Nat) : Int)], .int .i64 0]) ∧ Below W.heap.size W w') := Lib.hid fun W => by
      have := takecx_any (bs (A ++ B ++ C ++ D)) ((8 * (A ++ B).length : Nat) : Int) W (by omega)
      have k := B3 (A ++ B) D
      rw [← List.length_append] at k
      rw [k.1, k.2] at this
      exact this
    have T4 : Hid (∀ W, Calls Try.prog 29 #[.agg #[.string (bs (A ++ B ++ C ++ D)), .int .i64 ((8 * (A ++ B ++ C).length : Nat) : Int)]] W fun e w' => e = .returned (.tuple #[.agg #[.int .i64 k0, .int .i64 k1, .int .i64 k2, .int .i64 k3], .agg #[.string (bs (A ++ B ++ C ++ D)), .int .i64 (8 * ((bs (A ++ B ++ C ++ D)).size : Int))], .int .i64 0]) ∧ Below W.heap.size W w') := Lib.hid fun W => by
      have := takergba_any (bs (A ++ B ++ C ++ D)) ((8 * (A ++ B ++ C).length : Nat) : Int) W (by omega)
      obtain ⟨k1, k2, k3, k4⟩ := B4 (A ++ B ++ C)
      rw [k1, k2, k3, k4] at this
      exact this
    exact fback_ok l r t b ma mb mc md mx my c0 c1 c2 c3 d0 d1 d2 d3 k0 k1 k2 k3 0 0 0 0 _ _ _ _ _ _ _ w hz P1 Q2 Q3 Q4 T1 T2 T3 T4
  · have hz := pE_no _ _ _ _ (Bool.eq_false_iff.2 hall)
    have b1 : (rectOk l r t b = true → (F.bys (rectF l r t b)).length ≤ 12) := rect_bytes
    have b2 : (matOk ma mb mc md mx my = true → (F.bys (matF ma mb mc md mx my)).length ≤ 20) := mat_bytes
    have b3 : (cxOk [c0, c1, c2, c3] [d0, d1, d2, d3] = true → (F.bys (cxF [c0, c1, c2, c3] [d0, d1, d2, d3])).length ≤ 12) := fun h => cx_bytes h rfl rfl
    have s1 : (pS (rectOk l r t b) ⟨#[]⟩ (F.bys (rectF l r t b))).size ≤ 12 := by
      unfold pS
      split
      · rename_i h; rw [nil_app, bs_size]; exact b1 h
      · exact Nat.zero_le _
    have P1 := Lib.hid (fun W => putrect_all ⟨#[]⟩ l r t b W (by decide) hl hr ht hb)
    generalize pS (rectOk l r t b) ⟨#[]⟩ (F.bys (rectF l r t b)) = u1 at *
    have P2 := Lib.hid (fun W => putmatrix_all u1 ma mb mc md mx my W (by omega) hma hmb hmc hmd hmx hmy)
    have s2 : (pS (matOk ma mb mc md mx my) u1 (F.bys (matF ma mb mc md mx my))).size ≤ 32 := by
      unfold pS
      split
      · rename_i h; rw [ByteArray.size_append, bs_size]; have := b2 h; omega
      · exact Nat.zero_le _
    generalize pS (matOk ma mb mc md mx my) u1 (F.bys (matF ma mb mc md mx my)) = u2 at *
    have P3 := Lib.hid (fun W => putcx_all u2 c0 c1 c2 c3 d0 d1 d2 d3 W (by omega) hc0 hc1 hc2 hc3 hd0 hd1 hd2 hd3)
    have s3 : (pS (cxOk [c0, c1, c2, c3] [d0, d1, d2, d3]) u2 (F.bys (cxF [c0, c1, c2, c3] [d0, d1, d2, d3]))).size ≤ 44 := by
      unfold pS
      split
      · rename_i h; rw [ByteArray.size_append, bs_size]; have := b3 h; omega
      · exact Nat.zero_le _
    generalize pS (cxOk [c0, c1, c2, c3] [d0, d1, d2, d3]) u2 (F.bys (cxF [c0, c1, c2, c3] [d0, d1, d2, d3])) = u3 at *
    have P4 := Lib.hid (fun W => putrgba_all u3 k0 k1 k2 k3 W (by omega) hk0 hk1 hk2 hk3)
    exact fback_no l r t b ma mb mc md mx my c0 c1 c2 c3 d0 d1 d2 d3 k0 k1 k2 k3 0 0 0 0 _ _ _ _ _ _ _ _ w hz P1 P2 P3 P4
end Go.Proofs.Ytfaipbdkkkhacaa
