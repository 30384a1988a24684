import Derived.Test.YtfaipbdkkkhacaaYI
import Derived.Test.YtfaipbdkkkhacaaYV
/- Layer 7: FieldPuts, ways of it. -/
namespace Go.Proofs.Ytfaipbdkkkhacaa
open Go.RowKit
set_option linter.unusedVariables false
set_option maxRecDepth 100000

set_option maxHeartbeats 8000000 in
theorem fputs_0110 (f l r t b ma mb mc md mx my c0 c1 c2 c3 d0 d1 d2 d3 k0 k1 k2 k3 : Int) (s u2 u3 : ByteArray) (w : World) (hs : s.size ≤ 1024)
    (P1 : Hid (∀ W, Calls Try.prog 9 #[.agg #[.string s, .int .i64 f], .agg #[.int .i64 l, .int .i64 r, .int .i64 t, .int .i64 b]] W fun e w' => e = .returned (.tuple #[.agg #[.string ⟨#[]⟩, .int .i64 0], .int .i64 1]) ∧ Below W.heap.size W w'))
    (X1 : Hid (∀ W, Calls Try.prog 13 #[.agg #[.int .i64 l, .int .i64 r, .int .i64 t, .int .i64 b]] W fun e w' => e = .returned (.bool false) ∧ Below W.heap.size W w'))
    (Y1 : Hid (∀ W, Calls Try.prog 17 #[.agg #[.int .i64 l, .int .i64 r, .int .i64 t, .int .i64 b]] W fun e w' => e = .returned (.bool false) ∧ Below W.heap.size W w'))
    (P2 : Hid (∀ W, Calls Try.prog 10 #[.agg #[.string s, .int .i64 f], .agg #[.int .i64 ma, .int .i64 mb, .int .i64 mc, .int .i64 md, .int .i64 mx, .int .i64 my]] W fun e w' => e = .returned (.tuple #[.agg #[.string u2, .int .i64 0], .int .i64 0]) ∧ Below W.heap.size W w'))
    (X2 : Hid (∀ W, Calls Try.prog 14 #[.agg #[.int .i64 ma, .int .i64 mb, .int .i64 mc, .int .i64 md, .int .i64 mx, .int .i64 my]] W fun e w' => e = .returned (.bool true) ∧ Below W.heap.size W w'))
    (Y2 : Hid (∀ W, Calls Try.prog 18 #[.agg #[.int .i64 ma, .int .i64 mb, .int .i64 mc, .int .i64 md, .int .i64 mx, .int .i64 my]] W fun e w' => e = .returned (.bool true) ∧ Below W.heap.size W w'))
    (R2 : Hid (∀ W, Calls Try.prog 23 #[.string s, .agg #[.int .i64 ma, .int .i64 mb, .int .i64 mc, .int .i64 md, .int .i64 mx, .int .i64 my]] W fun e w' => e = .returned (.string u2) ∧ Below W.heap.size W w'))
    (P3 : Hid (∀ W, Calls Try.prog 11 #[.agg #[.string s, .int .i64 f], .agg #[.int .i64 c0, .int .i64 c1, .int .i64 c2, .int .i64 c3, .int .i64 d0, .int .i64 d1, .int .i64 d2, .int .i64 d3]] W fun e w' => e = .returned (.tuple #[.agg #[.string u3, .int .i64 0], .int .i64 0]) ∧ Below W.heap.size W w'))
    (X3 : Hid (∀ W, Calls Try.prog 15 #[.agg #[.int .i64 c0, .int .i64 c1, .int .i64 c2, .int .i64 c3, .int .i64 d0, .int .i64 d1, .int .i64 d2, .int .i64 d3]] W fun e w' => e = .returned (.bool true) ∧ Below W.heap.size W w'))
    (Y3 : Hid (∀ W, Calls Try.prog 19 #[.agg #[.int .i64 c0, .int .i64 c1, .int .i64 c2, .int .i64 c3, .int .i64 d0, .int .i64 d1, .int .i64 d2, .int .i64 d3]] W fun e w' => e = .returned (.bool true) ∧ Below W.heap.size W w'))
    (R3 : Hid (∀ W, Calls Try.prog 24 #[.string s, .agg #[.int .i64 c0, .int .i64 c1, .int .i64 c2, .int .i64 c3, .int .i64 d0, .int .i64 d1, .int .i64 d2, .int .i64 d3]] W fun e w' => e = .returned (.string u3) ∧ Below W.heap.size W w'))
    (P4 : Hid (∀ W, Calls Try.prog 12 #[.agg #[.string s, .int .i64 f], .agg #[.int .i64 k0, .int .i64 k1, .int .i64 k2, .int .i64 k3]] W fun e w' => e = .returned (.tuple #[.agg #[.string ⟨#[]⟩, .int .i64 0], .int .i64 1]) ∧ Below W.heap.size W w'))
    (X4 : Hid (∀ W, Calls Try.prog 16 #[.agg #[.int .i64 k0, .int .i64 k1, .int .i64 k2, .int .i64 k3]] W fun e w' => e = .returned (.bool false) ∧ Below W.heap.size W w'))
    (Y4 : Hid (∀ W, Calls Try.prog 20 #[.agg #[.int .i64 k0, .int .i64 k1, .int .i64 k2, .int .i64 k3]] W fun e w' => e = .returned (.bool false) ∧ Below W.heap.size W w'))
    : Calls Try.prog 3 #[.agg #[.string s, .int .i64 f], .agg #[.int .i64 l, .int .i64 r, .int .i64 t, .int .i64 b], .agg #[.int .i64 ma, .int .i64 mb, .int .i64 mc, .int .i64 md, .int .i64 mx, .int .i64 my], .agg #[.int .i64 c0, .int .i64 c1, .int .i64 c2, .int .i64 c3, .int .i64 d0, .int .i64 d1, .int .i64 d2, .int .i64 d3], .agg #[.int .i64 k0, .int .i64 k1, .int .i64 k2, .int .i64 k3]] w fun e w' => e = .returned (.bool true) ∧ Below w.heap.size w w' := by
  go_enter Try.func3, Try.ntmps3
  go_upto_region 7 with (go_big_may; first
    | (refine wl_box 23 _ _ rfl rfl (show _ = Value.agg #[.string s, .int .i64 f] from rfl) ?_; intro W1 bw Bw_1 l1 k1; have gw : w.heap.size ≤ bw := l1; have Hw1 := k1; clear l1 k1)
    | (refine wl_box 25 _ _ rfl rfl (show _ = Value.agg #[.int .i64 l, .int .i64 r, .int .i64 t, .int .i64 b] from rfl) ?_; intro W2 br Br_2 l2 k2; have gr : w.heap.size ≤ br := Nat.le_trans Hw1.size l2; have nwr : bw ≠ br := Nat.ne_of_lt (Nat.lt_of_lt_of_le Bw_1.lt l2); have Bw_2 := Bw_1.keep k2; have Hw2 := bq_trans Hw1 k2; clear l2 k2 Bw_1 Hw1)
    | (refine wl_box 27 _ _ rfl rfl (show _ = Value.agg #[.int .i64 ma, .int .i64 mb, .int .i64 mc, .int .i64 md, .int .i64 mx, .int .i64 my] from rfl) ?_; intro W3 bm Bm_3 l3 k3; have gm : w.heap.size ≤ bm := Nat.le_trans Hw2.size l3; have nwm : bw ≠ bm := Nat.ne_of_lt (Nat.lt_of_lt_of_le Bw_2.lt l3); have nrm : br ≠ bm := Nat.ne_of_lt (Nat.lt_of_lt_of_le Br_2.lt l3); have Bw_3 := Bw_2.keep k3; have Br_3 := Br_2.keep k3; have Hw3 := bq_trans Hw2 k3; clear l3 k3 Bw_2 Br_2 Hw2)
    | (refine wl_box 30 _ _ rfl rfl (show _ = Value.agg #[.int .i64 c0, .int .i64 c1, .int .i64 c2, .int .i64 c3, .int .i64 d0, .int .i64 d1, .int .i64 d2, .int .i64 d3] from rfl) ?_; intro W4 bc Bc_4 l4 k4; have gc : w.heap.size ≤ bc := Nat.le_trans Hw3.size l4; have nwc : bw ≠ bc := Nat.ne_of_lt (Nat.lt_of_lt_of_le Bw_3.lt l4); have nrc : br ≠ bc := Nat.ne_of_lt (Nat.lt_of_lt_of_le Br_3.lt l4); have nmc : bm ≠ bc := Nat.ne_of_lt (Nat.lt_of_lt_of_le Bm_3.lt l4); have Bw_4 := Bw_3.keep k4; have Br_4 := Br_3.keep k4; have Bm_4 := Bm_3.keep k4; have Hw4 := bq_trans Hw3 k4; clear l4 k4 Bw_3 Br_3 Bm_3 Hw3)
    | (refine wl_box 32 _ _ rfl rfl (show _ = Value.agg #[.int .i64 k0, .int .i64 k1, .int .i64 k2, .int .i64 k3] from rfl) ?_; intro W5 bk Bk_5 l5 k5; have gk : w.heap.size ≤ bk := Nat.le_trans Hw4.size l5; have nwk : bw ≠ bk := Nat.ne_of_lt (Nat.lt_of_lt_of_le Bw_4.lt l5); have nrk : br ≠ bk := Nat.ne_of_lt (Nat.lt_of_lt_of_le Br_4.lt l5); have nmk : bm ≠ bk := Nat.ne_of_lt (Nat.lt_of_lt_of_le Bm_4.lt l5); have nck : bc ≠ bk := Nat.ne_of_lt (Nat.lt_of_lt_of_le Bc_4.lt l5); have Bw_5 := Bw_4.keep k5; have Br_5 := Br_4.keep k5; have Bm_5 := Bm_4.keep k5; have Bc_5 := Bc_4.keep k5; have Hw5 := bq_trans Hw4 k5; clear l5 k5 Bw_4 Br_4 Bm_4 Bc_4 Hw4; have cw_0_5 : W5.cell? ⟨bw, 0, none⟩ = some (.string s) := Bw_5.cell 0)
    | (refine wl_load 23 2 _ Try.underlying23 rfl size23 _ rfl rfl _ rfl _ _ Bw_5 rfl ?_)
    | (refine wl_load 25 4 _ Try.underlying25 rfl size25 _ rfl rfl _ rfl _ _ Br_5 rfl ?_)
    | (go_at_call 9; (with_reducible refine (P1.out _).mono ?_); rintro e W6 ⟨rfl, k6⟩; have Bw_6 := Bw_5.keep k6; have Br_6 := Br_5.keep k6; have Bm_6 := Bm_5.keep k6; have Bc_6 := Bc_5.keep k6; have Bk_6 := Bk_5.keep k6; have Hw6 := bq_trans Hw5 k6; clear k6 Bw_5 Br_5 Bm_5 Bc_5 Bk_5 cw_0_5 Hw5)
    | (refine wl_alloc 23 _ zero23 rfl rfl ?_; intro W7 bp Bp_7 l7 k7; have gp : w.heap.size ≤ bp := Nat.le_trans Hw6.size l7; have nwp : bw ≠ bp := Nat.ne_of_lt (Nat.lt_of_lt_of_le Bw_6.lt l7); have nrp : br ≠ bp := Nat.ne_of_lt (Nat.lt_of_lt_of_le Br_6.lt l7); have nmp : bm ≠ bp := Nat.ne_of_lt (Nat.lt_of_lt_of_le Bm_6.lt l7); have ncp : bc ≠ bp := Nat.ne_of_lt (Nat.lt_of_lt_of_le Bc_6.lt l7); have nkp : bk ≠ bp := Nat.ne_of_lt (Nat.lt_of_lt_of_le Bk_6.lt l7); have Bw_7 := Bw_6.keep k7; have Br_7 := Br_6.keep k7; have Bm_7 := Bm_6.keep k7; have Bc_7 := Bc_6.keep k7; have Bk_7 := Bk_6.keep k7; have Hw7 := bq_trans Hw6 k7; clear l7 k7 Bw_6 Br_6 Bm_6 Bc_6 Bk_6 Hw6)
    | (refine wl_store 23 2 size23 _ _ rfl rfl _ rfl _ rfl _ _ Bp_7 rfl rfl (by kernel_rfl) ?_; intro W8 Bp_8 T8; have Bw_8 := T8.blk Bw_7 nwp; have Br_8 := T8.blk Br_7 nrp; have Bm_8 := T8.blk Bm_7 nmp; have Bc_8 := T8.blk Bc_7 ncp; have Bk_8 := T8.blk Bk_7 nkp; have Hw8 := T8.below Hw7 gp; clear T8 Bw_7 Br_7 Bm_7 Bc_7 Bk_7 Bp_7 Hw7)
    | (refine wl_load 23 2 _ Try.underlying23 rfl size23 _ rfl rfl _ rfl _ _ Bw_8 rfl ?_)
    | (refine wl_load 27 6 _ Try.underlying27 rfl size27 _ rfl rfl _ rfl _ _ Bm_8 rfl ?_)
    | (go_at_call 10; (with_reducible refine (P2.out _).mono ?_); rintro e W9 ⟨rfl, k9⟩; have Bw_9 := Bw_8.keep k9; have Br_9 := Br_8.keep k9; have Bm_9 := Bm_8.keep k9; have Bc_9 := Bc_8.keep k9; have Bk_9 := Bk_8.keep k9; have Bp_9 := Bp_8.keep k9; have Hw9 := bq_trans Hw8 k9; clear k9 Bw_8 Br_8 Bm_8 Bc_8 Bk_8 Bp_8 Hw8)
    | (refine wl_alloc 23 _ zero23 rfl rfl ?_; intro W10 bq Bq_10 l10 k10; have gq : w.heap.size ≤ bq := Nat.le_trans Hw9.size l10; have nwq : bw ≠ bq := Nat.ne_of_lt (Nat.lt_of_lt_of_le Bw_9.lt l10); have nrq : br ≠ bq := Nat.ne_of_lt (Nat.lt_of_lt_of_le Br_9.lt l10); have nmq : bm ≠ bq := Nat.ne_of_lt (Nat.lt_of_lt_of_le Bm_9.lt l10); have ncq : bc ≠ bq := Nat.ne_of_lt (Nat.lt_of_lt_of_le Bc_9.lt l10); have nkq : bk ≠ bq := Nat.ne_of_lt (Nat.lt_of_lt_of_le Bk_9.lt l10); have npq : bp ≠ bq := Nat.ne_of_lt (Nat.lt_of_lt_of_le Bp_9.lt l10); have Bw_10 := Bw_9.keep k10; have Br_10 := Br_9.keep k10; have Bm_10 := Bm_9.keep k10; have Bc_10 := Bc_9.keep k10; have Bk_10 := Bk_9.keep k10; have Bp_10 := Bp_9.keep k10; have Hw10 := bq_trans Hw9 k10; clear l10 k10 Bw_9 Br_9 Bm_9 Bc_9 Bk_9 Bp_9 Hw9)
    | (refine wl_store 23 2 size23 _ _ rfl rfl _ rfl _ rfl _ _ Bq_10 rfl rfl (by kernel_rfl) ?_; intro W11 Bq_11 T11; have Bw_11 := T11.blk Bw_10 nwq; have Br_11 := T11.blk Br_10 nrq; have Bm_11 := T11.blk Bm_10 nmq; have Bc_11 := T11.blk Bc_10 ncq; have Bk_11 := T11.blk Bk_10 nkq; have Bp_11 := T11.blk Bp_10 npq; have Hw11 := T11.below Hw10 gq; clear T11 Bw_10 Br_10 Bm_10 Bc_10 Bk_10 Bp_10 Bq_10 Hw10)
    | (refine wl_load 23 2 _ Try.underlying23 rfl size23 _ rfl rfl _ rfl _ _ Bw_11 rfl ?_)
    | (refine wl_load 30 8 _ Try.underlying30 rfl size30 _ rfl rfl _ rfl _ _ Bc_11 rfl ?_)
    | (go_at_call 11; (with_reducible refine (P3.out _).mono ?_); rintro e W12 ⟨rfl, k12⟩; have Bw_12 := Bw_11.keep k12; have Br_12 := Br_11.keep k12; have Bm_12 := Bm_11.keep k12; have Bc_12 := Bc_11.keep k12; have Bk_12 := Bk_11.keep k12; have Bp_12 := Bp_11.keep k12; have Bq_12 := Bq_11.keep k12; have Hw12 := bq_trans Hw11 k12; clear k12 Bw_11 Br_11 Bm_11 Bc_11 Bk_11 Bp_11 Bq_11 Hw11)
    | (refine wl_alloc 23 _ zero23 rfl rfl ?_; intro W13 bo Bo_13 l13 k13; have go : w.heap.size ≤ bo := Nat.le_trans Hw12.size l13; have nwo : bw ≠ bo := Nat.ne_of_lt (Nat.lt_of_lt_of_le Bw_12.lt l13); have nro : br ≠ bo := Nat.ne_of_lt (Nat.lt_of_lt_of_le Br_12.lt l13); have nmo : bm ≠ bo := Nat.ne_of_lt (Nat.lt_of_lt_of_le Bm_12.lt l13); have nco : bc ≠ bo := Nat.ne_of_lt (Nat.lt_of_lt_of_le Bc_12.lt l13); have nko : bk ≠ bo := Nat.ne_of_lt (Nat.lt_of_lt_of_le Bk_12.lt l13); have npo : bp ≠ bo := Nat.ne_of_lt (Nat.lt_of_lt_of_le Bp_12.lt l13); have nqo : bq ≠ bo := Nat.ne_of_lt (Nat.lt_of_lt_of_le Bq_12.lt l13); have Bw_13 := Bw_12.keep k13; have Br_13 := Br_12.keep k13; have Bm_13 := Bm_12.keep k13; have Bc_13 := Bc_12.keep k13; have Bk_13 := Bk_12.keep k13; have Bp_13 := Bp_12.keep k13; have Bq_13 := Bq_12.keep k13; have Hw13 := bq_trans Hw12 k13; clear l13 k13 Bw_12 Br_12 Bm_12 Bc_12 Bk_12 Bp_12 Bq_12 Hw12)
    | (refine wl_store 23 2 size23 _ _ rfl rfl _ rfl _ rfl _ _ Bo_13 rfl rfl (by kernel_rfl) ?_; intro W14 Bo_14 T14; have Bw_14 := T14.blk Bw_13 nwo; have Br_14 := T14.blk Br_13 nro; have Bm_14 := T14.blk Bm_13 nmo; have Bc_14 := T14.blk Bc_13 nco; have Bk_14 := T14.blk Bk_13 nko; have Bp_14 := T14.blk Bp_13 npo; have Bq_14 := T14.blk Bq_13 nqo; have Hw14 := T14.below Hw13 go; clear T14 Bw_13 Br_13 Bm_13 Bc_13 Bk_13 Bp_13 Bq_13 Bo_13 Hw13)
    | (refine wl_load 23 2 _ Try.underlying23 rfl size23 _ rfl rfl _ rfl _ _ Bw_14 rfl ?_)
    | (refine wl_load 32 4 _ Try.underlying32 rfl size32 _ rfl rfl _ rfl _ _ Bk_14 rfl ?_)
    | (go_at_call 12; (with_reducible refine (P4.out _).mono ?_); rintro e W15 ⟨rfl, k15⟩; have Bw_15 := Bw_14.keep k15; have Br_15 := Br_14.keep k15; have Bm_15 := Bm_14.keep k15; have Bc_15 := Bc_14.keep k15; have Bk_15 := Bk_14.keep k15; have Bp_15 := Bp_14.keep k15; have Bq_15 := Bq_14.keep k15; have Bo_15 := Bo_14.keep k15; have Hw15 := bq_trans Hw14 k15; clear k15 Bw_14 Br_14 Bm_14 Bc_14 Bk_14 Bp_14 Bq_14 Bo_14 Hw14)
    | (refine wl_alloc 23 _ zero23 rfl rfl ?_; intro W16 bz Bz_16 l16 k16; have gz : w.heap.size ≤ bz := Nat.le_trans Hw15.size l16; have nwz : bw ≠ bz := Nat.ne_of_lt (Nat.lt_of_lt_of_le Bw_15.lt l16); have nrz : br ≠ bz := Nat.ne_of_lt (Nat.lt_of_lt_of_le Br_15.lt l16); have nmz : bm ≠ bz := Nat.ne_of_lt (Nat.lt_of_lt_of_le Bm_15.lt l16); have ncz : bc ≠ bz := Nat.ne_of_lt (Nat.lt_of_lt_of_le Bc_15.lt l16); have nkz : bk ≠ bz := Nat.ne_of_lt (Nat.lt_of_lt_of_le Bk_15.lt l16); have npz : bp ≠ bz := Nat.ne_of_lt (Nat.lt_of_lt_of_le Bp_15.lt l16); have nqz : bq ≠ bz := Nat.ne_of_lt (Nat.lt_of_lt_of_le Bq_15.lt l16); have noz : bo ≠ bz := Nat.ne_of_lt (Nat.lt_of_lt_of_le Bo_15.lt l16); have Bw_16 := Bw_15.keep k16; have Br_16 := Br_15.keep k16; have Bm_16 := Bm_15.keep k16; have Bc_16 := Bc_15.keep k16; have Bk_16 := Bk_15.keep k16; have Bp_16 := Bp_15.keep k16; have Bq_16 := Bq_15.keep k16; have Bo_16 := Bo_15.keep k16; have Hw16 := bq_trans Hw15 k16; clear l16 k16 Bw_15 Br_15 Bm_15 Bc_15 Bk_15 Bp_15 Bq_15 Bo_15 Hw15)
    | (refine wl_store 23 2 size23 _ _ rfl rfl _ rfl _ rfl _ _ Bz_16 rfl rfl (by kernel_rfl) ?_; intro W17 Bz_17 T17; have Bw_17 := T17.blk Bw_16 nwz; have Br_17 := T17.blk Br_16 nrz; have Bm_17 := T17.blk Bm_16 nmz; have Bc_17 := T17.blk Bc_16 ncz; have Bk_17 := T17.blk Bk_16 nkz; have Bp_17 := T17.blk Bp_16 npz; have Bq_17 := T17.blk Bq_16 nqz; have Bo_17 := T17.blk Bo_16 noz; have Hw17 := T17.below Hw16 gz; clear T17 Bw_16 Br_16 Bm_16 Bc_16 Bk_16 Bp_16 Bq_16 Bo_16 Bz_16 Hw16))
  refine Det.wp_region_det (S := fun w' => Below W17.heap.size W17 w') (by kernel_rfl) (by kernel_rfl) (bq_drew (bq_refl _)) ?_
  refine Det.det_load 25 4 _ Try.underlying25 rfl size25 _ rfl (by rfl) _ rfl _ _ (fun w hS => Br_17.keep hS) rfl ?_
  try simp only [Act.put, List.setIfInBounds_toArray, List.set_cons_zero, List.set_cons_succ]
  refine Det.det_call (f := 13) (args := #[.agg #[.int .i64 l, .int .i64 r, .int .i64 t, .int .i64 b]]) (v := .bool false) (by rfl) ?_ (fun w hS => (X1.out w).mono fun e w' ⟨h1, h2⟩ => ⟨h1, bq_trans hS h2⟩) ?_
  · (intro w hSw; go_simp)
  try simp only [Act.put, List.setIfInBounds_toArray, List.set_cons_zero, List.set_cons_succ]
  refine Det.det_load 27 6 _ Try.underlying27 rfl size27 _ rfl (by rfl) _ rfl _ _ (fun w hS => Bm_17.keep hS) rfl ?_
  try simp only [Act.put, List.setIfInBounds_toArray, List.set_cons_zero, List.set_cons_succ]
  refine Det.det_call (f := 14) (args := #[.agg #[.int .i64 ma, .int .i64 mb, .int .i64 mc, .int .i64 md, .int .i64 mx, .int .i64 my]]) (v := .bool true) (by rfl) ?_ (fun w hS => (X2.out w).mono fun e w' ⟨h1, h2⟩ => ⟨h1, bq_trans hS h2⟩) ?_
  · (intro w hSw; go_simp)
  try simp only [Act.put, List.setIfInBounds_toArray, List.set_cons_zero, List.set_cons_succ]
  refine Det.det_load 30 8 _ Try.underlying30 rfl size30 _ rfl (by rfl) _ rfl _ _ (fun w hS => Bc_17.keep hS) rfl ?_
  try simp only [Act.put, List.setIfInBounds_toArray, List.set_cons_zero, List.set_cons_succ]
  refine Det.det_call (f := 15) (args := #[.agg #[.int .i64 c0, .int .i64 c1, .int .i64 c2, .int .i64 c3, .int .i64 d0, .int .i64 d1, .int .i64 d2, .int .i64 d3]]) (v := .bool true) (by rfl) ?_ (fun w hS => (X3.out w).mono fun e w' ⟨h1, h2⟩ => ⟨h1, bq_trans hS h2⟩) ?_
  · (intro w hSw; go_simp)
  try simp only [Act.put, List.setIfInBounds_toArray, List.set_cons_zero, List.set_cons_succ]
  refine Det.det_load 32 4 _ Try.underlying32 rfl size32 _ rfl (by rfl) _ rfl _ _ (fun w hS => Bk_17.keep hS) rfl ?_
  try simp only [Act.put, List.setIfInBounds_toArray, List.set_cons_zero, List.set_cons_succ]
  refine Det.det_call (f := 16) (args := #[.agg #[.int .i64 k0, .int .i64 k1, .int .i64 k2, .int .i64 k3]]) (v := .bool false) (by rfl) ?_ (fun w hS => (X4.out w).mono fun e w' ⟨h1, h2⟩ => ⟨h1, bq_trans hS h2⟩) ?_
  · (intro w hSw; go_simp)
  try simp only [Act.put, List.setIfInBounds_toArray, List.set_cons_zero, List.set_cons_succ]
  refine Det.det_take (v := ?_) (by rfl) ?_ ?_
  rotate_left
  · (intro w hSw; go_simp; try with_reducible rfl)
  try simp only [Act.put, List.setIfInBounds_toArray, List.set_cons_zero, List.set_cons_succ]
  refine Det.det_take (v := ?_) (by rfl) ?_ ?_
  rotate_left
  · (intro w hSw; go_simp; try with_reducible rfl)
  try simp only [Act.put, List.setIfInBounds_toArray, List.set_cons_zero, List.set_cons_succ]
  refine Det.det_take (v := ?_) (by rfl) ?_ ?_
  rotate_left
  · (intro w hSw; go_simp; try with_reducible rfl)
  try simp only [Act.put, List.setIfInBounds_toArray, List.set_cons_zero, List.set_cons_succ]
  refine Det.det_take (v := ?_) (by rfl) ?_ ?_
  rotate_left
  · (intro w hSw; go_simp; try with_reducible rfl)
  try simp only [Act.put, List.setIfInBounds_toArray, List.set_cons_zero, List.set_cons_succ]
  refine Det.det_nil (fun W18 k18 => ?_)
  have Bw_18 := Bw_17.keep k18
  have Br_18 := Br_17.keep k18
  have Bm_18 := Bm_17.keep k18
  have Bc_18 := Bc_17.keep k18
  have Bk_18 := Bk_17.keep k18
  have Bp_18 := Bp_17.keep k18
  have Bq_18 := Bq_17.keep k18
  have Bo_18 := Bo_17.keep k18
  have Bz_18 := Bz_17.keep k18
  have Hw18 := bq_trans Hw17 k18
  clear k18 Bw_17 Br_17 Bm_17 Bc_17 Bk_17 Bp_17 Bq_17 Bo_17 Bz_17 Hw17
  go_upto_region 10 with (go_big_may; first
    | (refine wl_load 25 4 _ Try.underlying25 rfl size25 _ rfl rfl _ rfl _ _ Br_18 rfl ?_)
    | (go_at_call 17; (with_reducible refine (Y1.out _).mono ?_); rintro e W19 ⟨rfl, k19⟩; have Bw_19 := Bw_18.keep k19; have Br_19 := Br_18.keep k19; have Bm_19 := Bm_18.keep k19; have Bc_19 := Bc_18.keep k19; have Bk_19 := Bk_18.keep k19; have Bp_19 := Bp_18.keep k19; have Bq_19 := Bq_18.keep k19; have Bo_19 := Bo_18.keep k19; have Bz_19 := Bz_18.keep k19; have Hw19 := bq_trans Hw18 k19; clear k19 Bw_18 Br_18 Bm_18 Bc_18 Bk_18 Bp_18 Bq_18 Bo_18 Bz_18 Hw18)
    | (refine wlg_load 27 6 _ Try.underlying27 rfl size27 _ rfl rfl _ rfl _ _ Bm_19 rfl ?_)
    | (go_at_call 18; (with_reducible refine (Y2.out _).mono ?_); rintro e W20 ⟨rfl, k20⟩; have Bw_20 := Bw_19.keep k20; have Br_20 := Br_19.keep k20; have Bm_20 := Bm_19.keep k20; have Bc_20 := Bc_19.keep k20; have Bk_20 := Bk_19.keep k20; have Bp_20 := Bp_19.keep k20; have Bq_20 := Bq_19.keep k20; have Bo_20 := Bo_19.keep k20; have Bz_20 := Bz_19.keep k20; have Hw20 := bq_trans Hw19 k20; clear k20 Bw_19 Br_19 Bm_19 Bc_19 Bk_19 Bp_19 Bq_19 Bo_19 Bz_19 Hw19)
    | (refine wlg_load 30 8 _ Try.underlying30 rfl size30 _ rfl rfl _ rfl _ _ Bc_20 rfl ?_)
    | (go_at_call 19; (with_reducible refine (Y3.out _).mono ?_); rintro e W21 ⟨rfl, k21⟩; have Bw_21 := Bw_20.keep k21; have Br_21 := Br_20.keep k21; have Bm_21 := Bm_20.keep k21; have Bc_21 := Bc_20.keep k21; have Bk_21 := Bk_20.keep k21; have Bp_21 := Bp_20.keep k21; have Bq_21 := Bq_20.keep k21; have Bo_21 := Bo_20.keep k21; have Bz_21 := Bz_20.keep k21; have Hw21 := bq_trans Hw20 k21; clear k21 Bw_20 Br_20 Bm_20 Bc_20 Bk_20 Bp_20 Bq_20 Bo_20 Bz_20 Hw20)
    | (refine wlg_load 32 4 _ Try.underlying32 rfl size32 _ rfl rfl _ rfl _ _ Bk_21 rfl ?_)
    | (go_at_call 20; (with_reducible refine (Y4.out _).mono ?_); rintro e W22 ⟨rfl, k22⟩; have Bw_22 := Bw_21.keep k22; have Br_22 := Br_21.keep k22; have Bm_22 := Bm_21.keep k22; have Bc_22 := Bc_21.keep k22; have Bk_22 := Bk_21.keep k22; have Bp_22 := Bp_21.keep k22; have Bq_22 := Bq_21.keep k22; have Bo_22 := Bo_21.keep k22; have Bz_22 := Bz_21.keep k22; have Hw22 := bq_trans Hw21 k22; clear k22 Bw_21 Br_21 Bm_21 Bc_21 Bk_21 Bp_21 Bq_21 Bo_21 Bz_21 Hw21))
  refine Det.wp_region_det (S := fun w' => Below W22.heap.size W22 w') (by kernel_rfl) (by kernel_rfl) (bq_drew (bq_refl _)) ?_
  refine Det.det_take (v := ?_) (by rfl) ?_ ?_
  rotate_left
  · (intro w hSw; go_simp; try with_reducible rfl)
  try simp only [Act.put, List.setIfInBounds_toArray, List.set_cons_zero, List.set_cons_succ]
  refine Det.det_take (v := ?_) (by rfl) ?_ ?_
  rotate_left
  · (intro w hSw; go_simp; try with_reducible rfl)
  try simp only [Act.put, List.setIfInBounds_toArray, List.set_cons_zero, List.set_cons_succ]
  refine Det.det_skip (by rfl) ?_
  try simp only [Act.put, List.setIfInBounds_toArray, List.set_cons_zero, List.set_cons_succ]
  refine Det.det_skip (by rfl) ?_
  try simp only [Act.put, List.setIfInBounds_toArray, List.set_cons_zero, List.set_cons_succ]
  refine Det.det_skip (by rfl) ?_
  try simp only [Act.put, List.setIfInBounds_toArray, List.set_cons_zero, List.set_cons_succ]
  refine Det.det_skip (by rfl) ?_
  try simp only [Act.put, List.setIfInBounds_toArray, List.set_cons_zero, List.set_cons_succ]
  refine Det.det_skip (by rfl) ?_
  try simp only [Act.put, List.setIfInBounds_toArray, List.set_cons_zero, List.set_cons_succ]
  refine Det.det_skip (by rfl) ?_
  try simp only [Act.put, List.setIfInBounds_toArray, List.set_cons_zero, List.set_cons_succ]
  refine Det.det_skip (by rfl) ?_
  try simp only [Act.put, List.setIfInBounds_toArray, List.set_cons_zero, List.set_cons_succ]
  refine Det.det_skip (by rfl) ?_
  try simp only [Act.put, List.setIfInBounds_toArray, List.set_cons_zero, List.set_cons_succ]
  refine Det.det_take (v := ?_) (by rfl) ?_ ?_
  rotate_left
  · (intro w hSw; go_simp; try with_reducible rfl)
  try simp only [Act.put, List.setIfInBounds_toArray, List.set_cons_zero, List.set_cons_succ]
  refine Det.det_take (v := ?_) (by rfl) ?_ ?_
  rotate_left
  · (intro w hSw; go_simp; try with_reducible rfl)
  try simp only [Act.put, List.setIfInBounds_toArray, List.set_cons_zero, List.set_cons_succ]
  refine Det.det_take (v := ?_) (by rfl) ?_ ?_
  rotate_left
  · (intro w hSw; go_simp; try with_reducible rfl)
  try simp only [Act.put, List.setIfInBounds_toArray, List.set_cons_zero, List.set_cons_succ]
  refine Det.det_take (v := ?_) (by rfl) ?_ ?_
  rotate_left
  · (intro w hSw; go_simp; try with_reducible rfl)
  try simp only [Act.put, List.setIfInBounds_toArray, List.set_cons_zero, List.set_cons_succ]
  refine Det.det_load 23 2 _ Try.underlying23 rfl size23 _ rfl (by rfl) _ rfl _ _ (fun w hS => Bq_22.keep hS) rfl ?_
  try simp only [Act.put, List.setIfInBounds_toArray, List.set_cons_zero, List.set_cons_succ]
  refine Det.det_take (v := ?_) (by rfl) ?_ ?_
  rotate_left
  · (intro w hSw; go_simp; try with_reducible rfl)
  try simp only [Act.put, List.setIfInBounds_toArray, List.set_cons_zero, List.set_cons_succ]
  refine Det.det_take (v := ?_) (by rfl) ?_ ?_
  rotate_left
  · (intro w hSw; go_simp; try with_reducible rfl)
  try simp only [Act.put, List.setIfInBounds_toArray, List.set_cons_zero, List.set_cons_succ]
  refine Det.det_take (v := ?_) (by rfl) ?_ ?_
  rotate_left
  · (intro w hSw; have cc := (Bw_22.keep hSw).cell 0; go_simp; try with_reducible rfl)
  try simp only [Act.put, List.setIfInBounds_toArray, List.set_cons_zero, List.set_cons_succ]
  refine Det.det_load 27 6 _ Try.underlying27 rfl size27 _ rfl (by rfl) _ rfl _ _ (fun w hS => Bm_22.keep hS) rfl ?_
  try simp only [Act.put, List.setIfInBounds_toArray, List.set_cons_zero, List.set_cons_succ]
  refine Det.det_call (f := 23) (args := #[.string s, .agg #[.int .i64 ma, .int .i64 mb, .int .i64 mc, .int .i64 md, .int .i64 mx, .int .i64 my]]) (v := .string u2) (by rfl) ?_ (fun w hS => (R2.out w).mono fun e w' ⟨h1, h2⟩ => ⟨h1, bq_trans hS h2⟩) ?_
  · (intro w hSw; go_simp)
  try simp only [Act.put, List.setIfInBounds_toArray, List.set_cons_zero, List.set_cons_succ]
  refine Det.det_call (f := 21) (args := #[.agg #[.string u2, .int .i64 0], .int .i64 0, .bool true, .string u2]) (v := .bool true) (by rfl) ?_ (fun w hS => (lawput_yes u2 w).mono fun e w' ⟨h1, h2⟩ => ⟨h1, bq_trans hS h2⟩) ?_
  · (intro w hSw; go_simp)
  try simp only [Act.put, List.setIfInBounds_toArray, List.set_cons_zero, List.set_cons_succ]
  refine Det.det_take (v := ?_) (by rfl) ?_ ?_
  rotate_left
  · (intro w hSw; go_simp; try with_reducible rfl)
  try simp only [Act.put, List.setIfInBounds_toArray, List.set_cons_zero, List.set_cons_succ]
  refine Det.det_take (v := ?_) (by rfl) ?_ ?_
  rotate_left
  · (intro w hSw; go_simp; try with_reducible rfl)
  try simp only [Act.put, List.setIfInBounds_toArray, List.set_cons_zero, List.set_cons_succ]
  refine Det.det_take (v := ?_) (by rfl) ?_ ?_
  rotate_left
  · (intro w hSw; go_simp; try with_reducible rfl)
  try simp only [Act.put, List.setIfInBounds_toArray, List.set_cons_zero, List.set_cons_succ]
  refine Det.det_take (v := ?_) (by rfl) ?_ ?_
  rotate_left
  · (intro w hSw; go_simp; try with_reducible rfl)
  try simp only [Act.put, List.setIfInBounds_toArray, List.set_cons_zero, List.set_cons_succ]
  refine Det.det_take (v := ?_) (by rfl) ?_ ?_
  rotate_left
  · (intro w hSw; go_simp; try with_reducible rfl)
  try simp only [Act.put, List.setIfInBounds_toArray, List.set_cons_zero, List.set_cons_succ]
  refine Det.det_take (v := ?_) (by rfl) ?_ ?_
  rotate_left
  · (intro w hSw; go_simp; try with_reducible rfl)
  try simp only [Act.put, List.setIfInBounds_toArray, List.set_cons_zero, List.set_cons_succ]
  refine Det.det_load 23 2 _ Try.underlying23 rfl size23 _ rfl (by rfl) _ rfl _ _ (fun w hS => Bo_22.keep hS) rfl ?_
  try simp only [Act.put, List.setIfInBounds_toArray, List.set_cons_zero, List.set_cons_succ]
  refine Det.det_take (v := ?_) (by rfl) ?_ ?_
  rotate_left
  · (intro w hSw; go_simp; try with_reducible rfl)
  try simp only [Act.put, List.setIfInBounds_toArray, List.set_cons_zero, List.set_cons_succ]
  refine Det.det_take (v := ?_) (by rfl) ?_ ?_
  rotate_left
  · (intro w hSw; go_simp; try with_reducible rfl)
  try simp only [Act.put, List.setIfInBounds_toArray, List.set_cons_zero, List.set_cons_succ]
  refine Det.det_take (v := ?_) (by rfl) ?_ ?_
  rotate_left
  · (intro w hSw; have cc := (Bw_22.keep hSw).cell 0; go_simp; try with_reducible rfl)
  try simp only [Act.put, List.setIfInBounds_toArray, List.set_cons_zero, List.set_cons_succ]
  refine Det.det_load 30 8 _ Try.underlying30 rfl size30 _ rfl (by rfl) _ rfl _ _ (fun w hS => Bc_22.keep hS) rfl ?_
  try simp only [Act.put, List.setIfInBounds_toArray, List.set_cons_zero, List.set_cons_succ]
  refine Det.det_call (f := 24) (args := #[.string s, .agg #[.int .i64 c0, .int .i64 c1, .int .i64 c2, .int .i64 c3, .int .i64 d0, .int .i64 d1, .int .i64 d2, .int .i64 d3]]) (v := .string u3) (by rfl) ?_ (fun w hS => (R3.out w).mono fun e w' ⟨h1, h2⟩ => ⟨h1, bq_trans hS h2⟩) ?_
  · (intro w hSw; go_simp)
  try simp only [Act.put, List.setIfInBounds_toArray, List.set_cons_zero, List.set_cons_succ]
  refine Det.det_call (f := 21) (args := #[.agg #[.string u3, .int .i64 0], .int .i64 0, .bool true, .string u3]) (v := .bool true) (by rfl) ?_ (fun w hS => (lawput_yes u3 w).mono fun e w' ⟨h1, h2⟩ => ⟨h1, bq_trans hS h2⟩) ?_
  · (intro w hSw; go_simp)
  try simp only [Act.put, List.setIfInBounds_toArray, List.set_cons_zero, List.set_cons_succ]
  refine Det.det_take (v := ?_) (by rfl) ?_ ?_
  rotate_left
  · (intro w hSw; go_simp; try with_reducible rfl)
  try simp only [Act.put, List.setIfInBounds_toArray, List.set_cons_zero, List.set_cons_succ]
  refine Det.det_take (v := ?_) (by rfl) ?_ ?_
  rotate_left
  · (intro w hSw; go_simp; try with_reducible rfl)
  try simp only [Act.put, List.setIfInBounds_toArray, List.set_cons_zero, List.set_cons_succ]
  refine Det.det_take (v := ?_) (by rfl) ?_ ?_
  rotate_left
  · (intro w hSw; go_simp; try with_reducible rfl)
  try simp only [Act.put, List.setIfInBounds_toArray, List.set_cons_zero, List.set_cons_succ]
  refine Det.det_take (v := ?_) (by rfl) ?_ ?_
  rotate_left
  · (intro w hSw; go_simp; try with_reducible rfl)
  try simp only [Act.put, List.setIfInBounds_toArray, List.set_cons_zero, List.set_cons_succ]
  refine Det.det_take (v := ?_) (by rfl) ?_ ?_
  rotate_left
  · (intro w hSw; go_simp; try with_reducible rfl)
  try simp only [Act.put, List.setIfInBounds_toArray, List.set_cons_zero, List.set_cons_succ]
  refine Det.det_take (v := ?_) (by rfl) ?_ ?_
  rotate_left
  · (intro w hSw; go_simp; try with_reducible rfl)
  try simp only [Act.put, List.setIfInBounds_toArray, List.set_cons_zero, List.set_cons_succ]
  refine Det.det_skip (by rfl) ?_
  try simp only [Act.put, List.setIfInBounds_toArray, List.set_cons_zero, List.set_cons_succ]
  refine Det.det_skip (by rfl) ?_
  try simp only [Act.put, List.setIfInBounds_toArray, List.set_cons_zero, List.set_cons_succ]
  refine Det.det_skip (by rfl) ?_
  try simp only [Act.put, List.setIfInBounds_toArray, List.set_cons_zero, List.set_cons_succ]
  refine Det.det_skip (by rfl) ?_
  try simp only [Act.put, List.setIfInBounds_toArray, List.set_cons_zero, List.set_cons_succ]
  refine Det.det_skip (by rfl) ?_
  try simp only [Act.put, List.setIfInBounds_toArray, List.set_cons_zero, List.set_cons_succ]
  refine Det.det_skip (by rfl) ?_
  try simp only [Act.put, List.setIfInBounds_toArray, List.set_cons_zero, List.set_cons_succ]
  refine Det.det_skip (by rfl) ?_
  try simp only [Act.put, List.setIfInBounds_toArray, List.set_cons_zero, List.set_cons_succ]
  refine Det.det_skip (by rfl) ?_
  try simp only [Act.put, List.setIfInBounds_toArray, List.set_cons_zero, List.set_cons_succ]
  refine Det.det_take (v := ?_) (by rfl) ?_ ?_
  rotate_left
  · (intro w hSw; go_simp; try with_reducible rfl)
  try simp only [Act.put, List.setIfInBounds_toArray, List.set_cons_zero, List.set_cons_succ]
  refine Det.det_take (v := ?_) (by rfl) ?_ ?_
  rotate_left
  · (intro w hSw; go_simp; try with_reducible rfl)
  try simp only [Act.put, List.setIfInBounds_toArray, List.set_cons_zero, List.set_cons_succ]
  refine Det.det_nil (fun W23 k23 => ?_)
  have Bw_23 := Bw_22.keep k23
  have Br_23 := Br_22.keep k23
  have Bm_23 := Bm_22.keep k23
  have Bc_23 := Bc_22.keep k23
  have Bk_23 := Bk_22.keep k23
  have Bp_23 := Bp_22.keep k23
  have Bq_23 := Bq_22.keep k23
  have Bo_23 := Bo_22.keep k23
  have Bz_23 := Bz_22.keep k23
  have Hw23 := bq_trans Hw22 k23
  clear k23 Bw_22 Br_22 Bm_22 Bc_22 Bk_22 Bp_22 Bq_22 Bo_22 Bz_22 Hw22
  go_wp2_with (first
    | (refine wlg_load 23 2 _ Try.underlying23 rfl size23 _ rfl rfl _ rfl _ _ Bp_23 rfl ?_)
    | (go_at_call 21; (with_reducible refine (lawput_no _).mono ?_); rintro e W24 ⟨rfl, k24⟩; have Bw_24 := Bw_23.keep k24; have Br_24 := Br_23.keep k24; have Bm_24 := Bm_23.keep k24; have Bc_24 := Bc_23.keep k24; have Bk_24 := Bk_23.keep k24; have Bp_24 := Bp_23.keep k24; have Bq_24 := Bq_23.keep k24; have Bo_24 := Bo_23.keep k24; have Bz_24 := Bz_23.keep k24; have Hw24 := bq_trans Hw23 k24; clear k24 Bw_23 Br_23 Bm_23 Bc_23 Bk_23 Bp_23 Bq_23 Bo_23 Bz_23 Hw23)
    | (refine wlg_load 23 2 _ Try.underlying23 rfl size23 _ rfl rfl _ rfl _ _ Bz_24 rfl ?_)
    | (go_at_call 21; (with_reducible refine (lawput_no _).mono ?_); rintro e W25 ⟨rfl, k25⟩; have Bw_25 := Bw_24.keep k25; have Br_25 := Br_24.keep k25; have Bm_25 := Bm_24.keep k25; have Bc_25 := Bc_24.keep k25; have Bk_25 := Bk_24.keep k25; have Bp_25 := Bp_24.keep k25; have Bq_25 := Bq_24.keep k25; have Bo_25 := Bo_24.keep k25; have Bz_25 := Bz_24.keep k25; have Hw25 := bq_trans Hw24 k25; clear k25 Bw_24 Br_24 Bm_24 Bc_24 Bk_24 Bp_24 Bq_24 Bo_24 Bz_24 Hw24)
    | (go_at_call 8; (with_reducible refine (awake_any _).mono ?_); rintro e W26 ⟨rfl, k26⟩; have Bw_26 := Bw_25.keep k26; have Br_26 := Br_25.keep k26; have Bm_26 := Bm_25.keep k26; have Bc_26 := Bc_25.keep k26; have Bk_26 := Bk_25.keep k26; have Bp_26 := Bp_25.keep k26; have Bq_26 := Bq_25.keep k26; have Bo_26 := Bo_25.keep k26; have Bz_26 := Bz_25.keep k26; have Hw26 := bq_trans Hw25 k26; clear k26 Bw_25 Br_25 Bm_25 Bc_25 Bk_25 Bp_25 Bq_25 Bo_25 Bz_25 Hw25))
  go_ret
  exact ⟨rfl, Hw26⟩
set_option maxHeartbeats 8000000 in
theorem fputs_1110 (f l r t b ma mb mc md mx my c0 c1 c2 c3 d0 d1 d2 d3 k0 k1 k2 k3 : Int) (s u1 u2 u3 : ByteArray) (w : World) (hs : s.size ≤ 1024)
    (P1 : Hid (∀ W, Calls Try.prog 9 #[.agg #[.string s, .int .i64 f], .agg #[.int .i64 l, .int .i64 r, .int .i64 t, .int .i64 b]] W fun e w' => e = .returned (.tuple #[.agg #[.string u1, .int .i64 0], .int .i64 0]) ∧ Below W.heap.size W w'))
    (X1 : Hid (∀ W, Calls Try.prog 13 #[.agg #[.int .i64 l, .int .i64 r, .int .i64 t, .int .i64 b]] W fun e w' => e = .returned (.bool true) ∧ Below W.heap.size W w'))
    (Y1 : Hid (∀ W, Calls Try.prog 17 #[.agg #[.int .i64 l, .int .i64 r, .int .i64 t, .int .i64 b]] W fun e w' => e = .returned (.bool true) ∧ Below W.heap.size W w'))
    (R1 : Hid (∀ W, Calls Try.prog 22 #[.string s, .agg #[.int .i64 l, .int .i64 r, .int .i64 t, .int .i64 b]] W fun e w' => e = .returned (.string u1) ∧ Below W.heap.size W w'))
    (P2 : Hid (∀ W, Calls Try.prog 10 #[.agg #[.string s, .int .i64 f], .agg #[.int .i64 ma, .int .i64 mb, .int .i64 mc, .int .i64 md, .int .i64 mx, .int .i64 my]] W fun e w' => e = .returned (.tuple #[.agg #[.string u2, .int .i64 0], .int .i64 0]) ∧ Below W.heap.size W w'))
    (X2 : Hid (∀ W, Calls Try.prog 14 #[.agg #[.int .i64 ma, .int .i64 mb, .int .i64 mc, .int .i64 md, .int .i64 mx, .int .i64 my]] W fun e w' => e = .returned (.bool true) ∧ Below W.heap.size W w'))
    (Y2 : Hid (∀ W, Calls Try.prog 18 #[.agg #[.int .i64 ma, .int .i64 mb, .int .i64 mc, .int .i64 md, .int .i64 mx, .int .i64 my]] W fun e w' => e = .returned (.bool true) ∧ Below W.heap.size W w'))
    (R2 : Hid (∀ W, Calls Try.prog 23 #[.string s, .agg #[.int .i64 ma, .int .i64 mb, .int .i64 mc, .int .i64 md, .int .i64 mx, .int .i64 my]] W fun e w' => e = .returned (.string u2) ∧ Below W.heap.size W w'))
    (P3 : Hid (∀ W, Calls Try.prog 11 #[.agg #[.string s, .int .i64 f], .agg #[.int .i64 c0, .int .i64 c1, .int .i64 c2, .int .i64 c3, .int .i64 d0, .int .i64 d1, .int .i64 d2, .int .i64 d3]] W fun e w' => e = .returned (.tuple #[.agg #[.string u3, .int .i64 0], .int .i64 0]) ∧ Below W.heap.size W w'))
    (X3 : Hid (∀ W, Calls Try.prog 15 #[.agg #[.int .i64 c0, .int .i64 c1, .int .i64 c2, .int .i64 c3, .int .i64 d0, .int .i64 d1, .int .i64 d2, .int .i64 d3]] W fun e w' => e = .returned (.bool true) ∧ Below W.heap.size W w'))
    (Y3 : Hid (∀ W, Calls Try.prog 19 #[.agg #[.int .i64 c0, .int .i64 c1, .int .i64 c2, .int .i64 c3, .int .i64 d0, .int .i64 d1, .int .i64 d2, .int .i64 d3]] W fun e w' => e = .returned (.bool true) ∧ Below W.heap.size W w'))
    (R3 : Hid (∀ W, Calls Try.prog 24 #[.string s, .agg #[.int .i64 c0, .int .i64 c1, .int .i64 c2, .int .i64 c3, .int .i64 d0, .int .i64 d1, .int .i64 d2, .int .i64 d3]] W fun e w' => e = .returned (.string u3) ∧ Below W.heap.size W w'))
    (P4 : Hid (∀ W, Calls Try.prog 12 #[.agg #[.string s, .int .i64 f], .agg #[.int .i64 k0, .int .i64 k1, .int .i64 k2, .int .i64 k3]] W fun e w' => e = .returned (.tuple #[.agg #[.string ⟨#[]⟩, .int .i64 0], .int .i64 1]) ∧ Below W.heap.size W w'))
    (X4 : Hid (∀ W, Calls Try.prog 16 #[.agg #[.int .i64 k0, .int .i64 k1, .int .i64 k2, .int .i64 k3]] W fun e w' => e = .returned (.bool false) ∧ Below W.heap.size W w'))
    (Y4 : Hid (∀ W, Calls Try.prog 20 #[.agg #[.int .i64 k0, .int .i64 k1, .int .i64 k2, .int .i64 k3]] W fun e w' => e = .returned (.bool false) ∧ Below W.heap.size W w'))
    : Calls Try.prog 3 #[.agg #[.string s, .int .i64 f], .agg #[.int .i64 l, .int .i64 r, .int .i64 t, .int .i64 b], .agg #[.int .i64 ma, .int .i64 mb, .int .i64 mc, .int .i64 md, .int .i64 mx, .int .i64 my], .agg #[.int .i64 c0, .int .i64 c1, .int .i64 c2, .int .i64 c3, .int .i64 d0, .int .i64 d1, .int .i64 d2, .int .i64 d3], .agg #[.int .i64 k0, .int .i64 k1, .int .i64 k2, .int .i64 k3]] w fun e w' => e = .returned (.bool true) ∧ Below w.heap.size w w' := by
  go_enter Try.func3, Try.ntmps3
  go_upto_region 7 with (go_big_may; first
    | (refine wl_box 23 _ _ rfl rfl (show _ = Value.agg #[.string s, .int .i64 f] from rfl) ?_; intro W1 bw Bw_1 l1 k1; have gw : w.heap.size ≤ bw := l1; have Hw1 := k1; clear l1 k1)
    | (refine wl_box 25 _ _ rfl rfl (show _ = Value.agg #[.int .i64 l, .int .i64 r, .int .i64 t, .int .i64 b] from rfl) ?_; intro W2 br Br_2 l2 k2; have gr : w.heap.size ≤ br := Nat.le_trans Hw1.size l2; have nwr : bw ≠ br := Nat.ne_of_lt (Nat.lt_of_lt_of_le Bw_1.lt l2); have Bw_2 := Bw_1.keep k2; have Hw2 := bq_trans Hw1 k2; clear l2 k2 Bw_1 Hw1)
    | (refine wl_box 27 _ _ rfl rfl (show _ = Value.agg #[.int .i64 ma, .int .i64 mb, .int .i64 mc, .int .i64 md, .int .i64 mx, .int .i64 my] from rfl) ?_; intro W3 bm Bm_3 l3 k3; have gm : w.heap.size ≤ bm := Nat.le_trans Hw2.size l3; have nwm : bw ≠ bm := Nat.ne_of_lt (Nat.lt_of_lt_of_le Bw_2.lt l3); have nrm : br ≠ bm := Nat.ne_of_lt (Nat.lt_of_lt_of_le Br_2.lt l3); have Bw_3 := Bw_2.keep k3; have Br_3 := Br_2.keep k3; have Hw3 := bq_trans Hw2 k3; clear l3 k3 Bw_2 Br_2 Hw2)
    | (refine wl_box 30 _ _ rfl rfl (show _ = Value.agg #[.int .i64 c0, .int .i64 c1, .int .i64 c2, .int .i64 c3, .int .i64 d0, .int .i64 d1, .int .i64 d2, .int .i64 d3] from rfl) ?_; intro W4 bc Bc_4 l4 k4; have gc : w.heap.size ≤ bc := Nat.le_trans Hw3.size l4; have nwc : bw ≠ bc := Nat.ne_of_lt (Nat.lt_of_lt_of_le Bw_3.lt l4); have nrc : br ≠ bc := Nat.ne_of_lt (Nat.lt_of_lt_of_le Br_3.lt l4); have nmc : bm ≠ bc := Nat.ne_of_lt (Nat.lt_of_lt_of_le Bm_3.lt l4); have Bw_4 := Bw_3.keep k4; have Br_4 := Br_3.keep k4; have Bm_4 := Bm_3.keep k4; have Hw4 := bq_trans Hw3 k4; clear l4 k4 Bw_3 Br_3 Bm_3 Hw3)
    | (refine wl_box 32 _ _ rfl rfl (show _ = Value.agg #[.int .i64 k0, .int .i64 k1, .int .i64 k2, .int .i64 k3] from rfl) ?_; intro W5 bk Bk_5 l5 k5; have gk : w.heap.size ≤ bk := Nat.le_trans Hw4.size l5; have nwk : bw ≠ bk := Nat.ne_of_lt (Nat.lt_of_lt_of_le Bw_4.lt l5); have nrk : br ≠ bk := Nat.ne_of_lt (Nat.lt_of_lt_of_le Br_4.lt l5); have nmk : bm ≠ bk := Nat.ne_of_lt (Nat.lt_of_lt_of_le Bm_4.lt l5); have nck : bc ≠ bk := Nat.ne_of_lt (Nat.lt_of_lt_of_le Bc_4.lt l5); have Bw_5 := Bw_4.keep k5; have Br_5 := Br_4.keep k5; have Bm_5 := Bm_4.keep k5; have Bc_5 := Bc_4.keep k5; have Hw5 := bq_trans Hw4 k5; clear l5 k5 Bw_4 Br_4 Bm_4 Bc_4 Hw4; have cw_0_5 : W5.cell? ⟨bw, 0, none⟩ = some (.string s) := Bw_5.cell 0)
    | (refine wl_load 23 2 _ Try.underlying23 rfl size23 _ rfl rfl _ rfl _ _ Bw_5 rfl ?_)
    | (refine wl_load 25 4 _ Try.underlying25 rfl size25 _ rfl rfl _ rfl _ _ Br_5 rfl ?_)
    | (go_at_call 9; (with_reducible refine (P1.out _).mono ?_); rintro e W6 ⟨rfl, k6⟩; have Bw_6 := Bw_5.keep k6; have Br_6 := Br_5.keep k6; have Bm_6 := Bm_5.keep k6; have Bc_6 := Bc_5.keep k6; have Bk_6 := Bk_5.keep k6; have Hw6 := bq_trans Hw5 k6; clear k6 Bw_5 Br_5 Bm_5 Bc_5 Bk_5 cw_0_5 Hw5)
    | (refine wl_alloc 23 _ zero23 rfl rfl ?_; intro W7 bp Bp_7 l7 k7; have gp : w.heap.size ≤ bp := Nat.le_trans Hw6.size l7; have nwp : bw ≠ bp := Nat.ne_of_lt (Nat.lt_of_lt_of_le Bw_6.lt l7); have nrp : br ≠ bp := Nat.ne_of_lt (Nat.lt_of_lt_of_le Br_6.lt l7); have nmp : bm ≠ bp := Nat.ne_of_lt (Nat.lt_of_lt_of_le Bm_6.lt l7); have ncp : bc ≠ bp := Nat.ne_of_lt (Nat.lt_of_lt_of_le Bc_6.lt l7); have nkp : bk ≠ bp := Nat.ne_of_lt (Nat.lt_of_lt_of_le Bk_6.lt l7); have Bw_7 := Bw_6.keep k7; have Br_7 := Br_6.keep k7; have Bm_7 := Bm_6.keep k7; have Bc_7 := Bc_6.keep k7; have Bk_7 := Bk_6.keep k7; have Hw7 := bq_trans Hw6 k7; clear l7 k7 Bw_6 Br_6 Bm_6 Bc_6 Bk_6 Hw6)
    | (refine wl_store 23 2 size23 _ _ rfl rfl _ rfl _ rfl _ _ Bp_7 rfl rfl (by kernel_rfl) ?_; intro W8 Bp_8 T8; have Bw_8 := T8.blk Bw_7 nwp; have Br_8 := T8.blk Br_7 nrp; have Bm_8 := T8.blk Bm_7 nmp; have Bc_8 := T8.blk Bc_7 ncp; have Bk_8 := T8.blk Bk_7 nkp; have Hw8 := T8.below Hw7 gp; clear T8 Bw_7 Br_7 Bm_7 Bc_7 Bk_7 Bp_7 Hw7)
    | (refine wl_load 23 2 _ Try.underlying23 rfl size23 _ rfl rfl _ rfl _ _ Bw_8 rfl ?_)
    | (refine wl_load 27 6 _ Try.underlying27 rfl size27 _ rfl rfl _ rfl _ _ Bm_8 rfl ?_)
    | (go_at_call 10; (with_reducible refine (P2.out _).mono ?_); rintro e W9 ⟨rfl, k9⟩; have Bw_9 := Bw_8.keep k9; have Br_9 := Br_8.keep k9; have Bm_9 := Bm_8.keep k9; have Bc_9 := Bc_8.keep k9; have Bk_9 := Bk_8.keep k9; have Bp_9 := Bp_8.keep k9; have Hw9 := bq_trans Hw8 k9; clear k9 Bw_8 Br_8 Bm_8 Bc_8 Bk_8 Bp_8 Hw8)
    | (refine wl_alloc 23 _ zero23 rfl rfl ?_; intro W10 bq Bq_10 l10 k10; have gq : w.heap.size ≤ bq := Nat.le_trans Hw9.size l10; have nwq : bw ≠ bq := Nat.ne_of_lt (Nat.lt_of_lt_of_le Bw_9.lt l10); have nrq : br ≠ bq := Nat.ne_of_lt (Nat.lt_of_lt_of_le Br_9.lt l10); have nmq : bm ≠ bq := Nat.ne_of_lt (Nat.lt_of_lt_of_le Bm_9.lt l10); have ncq : bc ≠ bq := Nat.ne_of_lt (Nat.lt_of_lt_of_le Bc_9.lt l10); have nkq : bk ≠ bq := Nat.ne_of_lt (Nat.lt_of_lt_of_le Bk_9.lt l10); have npq : bp ≠ bq := Nat.ne_of_lt (Nat.lt_of_lt_of_le Bp_9.lt l10); have Bw_10 := Bw_9.keep k10; have Br_10 := Br_9.keep k10; have Bm_10 := Bm_9.keep k10; have Bc_10 := Bc_9.keep k10; have Bk_10 := Bk_9.keep k10; have Bp_10 := Bp_9.keep k10; have Hw10 := bq_trans Hw9 k10; clear l10 k10 Bw_9 Br_9 Bm_9 Bc_9 Bk_9 Bp_9 Hw9)
    | (refine wl_store 23 2 size23 _ _ rfl rfl _ rfl _ rfl _ _ Bq_10 rfl rfl (by kernel_rfl) ?_; intro W11 Bq_11 T11; have Bw_11 := T11.blk Bw_10 nwq; have Br_11 := T11.blk Br_10 nrq; have Bm_11 := T11.blk Bm_10 nmq; have Bc_11 := T11.blk Bc_10 ncq; have Bk_11 := T11.blk Bk_10 nkq; have Bp_11 := T11.blk Bp_10 npq; have Hw11 := T11.below Hw10 gq; clear T11 Bw_10 Br_10 Bm_10 Bc_10 Bk_10 Bp_10 Bq_10 Hw10)
    | (refine wl_load 23 2 _ Try.underlying23 rfl size23 _ rfl rfl _ rfl _ _ Bw_11 rfl ?_)
    | (refine wl_load 30 8 _ Try.underlying30 rfl size30 _ rfl rfl _ rfl _ _ Bc_11 rfl ?_)
    | (go_at_call 11; (with_reducible refine (P3.out _).mono ?_); rintro e W12 ⟨rfl, k12⟩; have Bw_12 := Bw_11.keep k12; have Br_12 := Br_11.keep k12; have Bm_12 := Bm_11.keep k12; have Bc_12 := Bc_11.keep k12; have Bk_12 := Bk_11.keep k12; have Bp_12 := Bp_11.keep k12; have Bq_12 := Bq_11.keep k12; have Hw12 := bq_trans Hw11 k12; clear k12 Bw_11 Br_11 Bm_11 Bc_11 Bk_11 Bp_11 Bq_11 Hw11)
    | (refine wl_alloc 23 _ zero23 rfl rfl ?_; intro W13 bo Bo_13 l13 k13; have go : w.heap.size ≤ bo := Nat.le_trans Hw12.size l13; have nwo : bw ≠ bo := Nat.ne_of_lt (Nat.lt_of_lt_of_le Bw_12.lt l13); have nro : br ≠ bo := Nat.ne_of_lt (Nat.lt_of_lt_of_le Br_12.lt l13); have nmo : bm ≠ bo := Nat.ne_of_lt (Nat.lt_of_lt_of_le Bm_12.lt l13); have nco : bc ≠ bo := Nat.ne_of_lt (Nat.lt_of_lt_of_le Bc_12.lt l13); have nko : bk ≠ bo := Nat.ne_of_lt (Nat.lt_of_lt_of_le Bk_12.lt l13); have npo : bp ≠ bo := Nat.ne_of_lt (Nat.lt_of_lt_of_le Bp_12.lt l13); have nqo : bq ≠ bo := Nat.ne_of_lt (Nat.lt_of_lt_of_le Bq_12.lt l13); have Bw_13 := Bw_12.keep k13; have Br_13 := Br_12.keep k13; have Bm_13 := Bm_12.keep k13; have Bc_13 := Bc_12.keep k13; have Bk_13 := Bk_12.keep k13; have Bp_13 := Bp_12.keep k13; have Bq_13 := Bq_12.keep k13; have Hw13 := bq_trans Hw12 k13; clear l13 k13 Bw_12 Br_12 Bm_12 Bc_12 Bk_12 Bp_12 Bq_12 Hw12)
    | (refine wl_store 23 2 size23 _ _ rfl rfl _ rfl _ rfl _ _ Bo_13 rfl rfl (by kernel_rfl) ?_; intro W14 Bo_14 T14; have Bw_14 := T14.blk Bw_13 nwo; have Br_14 := T14.blk Br_13 nro; have Bm_14 := T14.blk Bm_13 nmo; have Bc_14 := T14.blk Bc_13 nco; have Bk_14 := T14.blk Bk_13 nko; have Bp_14 := T14.blk Bp_13 npo; have Bq_14 := T14.blk Bq_13 nqo; have Hw14 := T14.below Hw13 go; clear T14 Bw_13 Br_13 Bm_13 Bc_13 Bk_13 Bp_13 Bq_13 Bo_13 Hw13)
    | (refine wl_load 23 2 _ Try.underlying23 rfl size23 _ rfl rfl _ rfl _ _ Bw_14 rfl ?_)
    | (refine wl_load 32 4 _ Try.underlying32 rfl size32 _ rfl rfl _ rfl _ _ Bk_14 rfl ?_)
    | (go_at_call 12; (with_reducible refine (P4.out _).mono ?_); rintro e W15 ⟨rfl, k15⟩; have Bw_15 := Bw_14.keep k15; have Br_15 := Br_14.keep k15; have Bm_15 := Bm_14.keep k15; have Bc_15 := Bc_14.keep k15; have Bk_15 := Bk_14.keep k15; have Bp_15 := Bp_14.keep k15; have Bq_15 := Bq_14.keep k15; have Bo_15 := Bo_14.keep k15; have Hw15 := bq_trans Hw14 k15; clear k15 Bw_14 Br_14 Bm_14 Bc_14 Bk_14 Bp_14 Bq_14 Bo_14 Hw14)
    | (refine wl_alloc 23 _ zero23 rfl rfl ?_; intro W16 bz Bz_16 l16 k16; have gz : w.heap.size ≤ bz := Nat.le_trans Hw15.size l16; have nwz : bw ≠ bz := Nat.ne_of_lt (Nat.lt_of_lt_of_le Bw_15.lt l16); have nrz : br ≠ bz := Nat.ne_of_lt (Nat.lt_of_lt_of_le Br_15.lt l16); have nmz : bm ≠ bz := Nat.ne_of_lt (Nat.lt_of_lt_of_le Bm_15.lt l16); have ncz : bc ≠ bz := Nat.ne_of_lt (Nat.lt_of_lt_of_le Bc_15.lt l16); have nkz : bk ≠ bz := Nat.ne_of_lt (Nat.lt_of_lt_of_le Bk_15.lt l16); have npz : bp ≠ bz := Nat.ne_of_lt (Nat.lt_of_lt_of_le Bp_15.lt l16); have nqz : bq ≠ bz := Nat.ne_of_lt (Nat.lt_of_lt_of_le Bq_15.lt l16); have noz : bo ≠ bz := Nat.ne_of_lt (Nat.lt_of_lt_of_le Bo_15.lt l16); have Bw_16 := Bw_15.keep k16; have Br_16 := Br_15.keep k16; have Bm_16 := Bm_15.keep k16; have Bc_16 := Bc_15.keep k16; have Bk_16 := Bk_15.keep k16; have Bp_16 := Bp_15.keep k16; have Bq_16 := Bq_15.keep k16; have Bo_16 := Bo_15.keep k16; have Hw16 := bq_trans Hw15 k16; clear l16 k16 Bw_15 Br_15 Bm_15 Bc_15 Bk_15 Bp_15 Bq_15 Bo_15 Hw15)
    | (refine wl_store 23 2 size23 _ _ rfl rfl _ rfl _ rfl _ _ Bz_16 rfl rfl (by kernel_rfl) ?_; intro W17 Bz_17 T17; have Bw_17 := T17.blk Bw_16 nwz; have Br_17 := T17.blk Br_16 nrz; have Bm_17 := T17.blk Bm_16 nmz; have Bc_17 := T17.blk Bc_16 ncz; have Bk_17 := T17.blk Bk_16 nkz; have Bp_17 := T17.blk Bp_16 npz; have Bq_17 := T17.blk Bq_16 nqz; have Bo_17 := T17.blk Bo_16 noz; have Hw17 := T17.below Hw16 gz; clear T17 Bw_16 Br_16 Bm_16 Bc_16 Bk_16 Bp_16 Bq_16 Bo_16 Bz_16 Hw16))
  refine Det.wp_region_det (S := fun w' => Below W17.heap.size W17 w') (by kernel_rfl) (by kernel_rfl) (bq_drew (bq_refl _)) ?_
  refine Det.det_load 25 4 _ Try.underlying25 rfl size25 _ rfl (by rfl) _ rfl _ _ (fun w hS => Br_17.keep hS) rfl ?_
  try simp only [Act.put, List.setIfInBounds_toArray, List.set_cons_zero, List.set_cons_succ]
  refine Det.det_call (f := 13) (args := #[.agg #[.int .i64 l, .int .i64 r, .int .i64 t, .int .i64 b]]) (v := .bool true) (by rfl) ?_ (fun w hS => (X1.out w).mono fun e w' ⟨h1, h2⟩ => ⟨h1, bq_trans hS h2⟩) ?_
  · (intro w hSw; go_simp)
  try simp only [Act.put, List.setIfInBounds_toArray, List.set_cons_zero, List.set_cons_succ]
  refine Det.det_load 27 6 _ Try.underlying27 rfl size27 _ rfl (by rfl) _ rfl _ _ (fun w hS => Bm_17.keep hS) rfl ?_
  try simp only [Act.put, List.setIfInBounds_toArray, List.set_cons_zero, List.set_cons_succ]
  refine Det.det_call (f := 14) (args := #[.agg #[.int .i64 ma, .int .i64 mb, .int .i64 mc, .int .i64 md, .int .i64 mx, .int .i64 my]]) (v := .bool true) (by rfl) ?_ (fun w hS => (X2.out w).mono fun e w' ⟨h1, h2⟩ => ⟨h1, bq_trans hS h2⟩) ?_
  · (intro w hSw; go_simp)
  try simp only [Act.put, List.setIfInBounds_toArray, List.set_cons_zero, List.set_cons_succ]
  refine Det.det_load 30 8 _ Try.underlying30 rfl size30 _ rfl (by rfl) _ rfl _ _ (fun w hS => Bc_17.keep hS) rfl ?_
  try simp only [Act.put, List.setIfInBounds_toArray, List.set_cons_zero, List.set_cons_succ]
  refine Det.det_call (f := 15) (args := #[.agg #[.int .i64 c0, .int .i64 c1, .int .i64 c2, .int .i64 c3, .int .i64 d0, .int .i64 d1, .int .i64 d2, .int .i64 d3]]) (v := .bool true) (by rfl) ?_ (fun w hS => (X3.out w).mono fun e w' ⟨h1, h2⟩ => ⟨h1, bq_trans hS h2⟩) ?_
  · (intro w hSw; go_simp)
  try simp only [Act.put, List.setIfInBounds_toArray, List.set_cons_zero, List.set_cons_succ]
  refine Det.det_load 32 4 _ Try.underlying32 rfl size32 _ rfl (by rfl) _ rfl _ _ (fun w hS => Bk_17.keep hS) rfl ?_
  try simp only [Act.put, List.setIfInBounds_toArray, List.set_cons_zero, List.set_cons_succ]
  refine Det.det_call (f := 16) (args := #[.agg #[.int .i64 k0, .int .i64 k1, .int .i64 k2, .int .i64 k3]]) (v := .bool false) (by rfl) ?_ (fun w hS => (X4.out w).mono fun e w' ⟨h1, h2⟩ => ⟨h1, bq_trans hS h2⟩) ?_
  · (intro w hSw; go_simp)
  try simp only [Act.put, List.setIfInBounds_toArray, List.set_cons_zero, List.set_cons_succ]
  refine Det.det_take (v := ?_) (by rfl) ?_ ?_
  rotate_left
  · (intro w hSw; go_simp; try with_reducible rfl)
  try simp only [Act.put, List.setIfInBounds_toArray, List.set_cons_zero, List.set_cons_succ]
  refine Det.det_take (v := ?_) (by rfl) ?_ ?_
  rotate_left
  · (intro w hSw; go_simp; try with_reducible rfl)
  try simp only [Act.put, List.setIfInBounds_toArray, List.set_cons_zero, List.set_cons_succ]
  refine Det.det_take (v := ?_) (by rfl) ?_ ?_
  rotate_left
  · (intro w hSw; go_simp; try with_reducible rfl)
  try simp only [Act.put, List.setIfInBounds_toArray, List.set_cons_zero, List.set_cons_succ]
  refine Det.det_take (v := ?_) (by rfl) ?_ ?_
  rotate_left
  · (intro w hSw; go_simp; try with_reducible rfl)
  try simp only [Act.put, List.setIfInBounds_toArray, List.set_cons_zero, List.set_cons_succ]
  refine Det.det_nil (fun W18 k18 => ?_)
  have Bw_18 := Bw_17.keep k18
  have Br_18 := Br_17.keep k18
  have Bm_18 := Bm_17.keep k18
  have Bc_18 := Bc_17.keep k18
  have Bk_18 := Bk_17.keep k18
  have Bp_18 := Bp_17.keep k18
  have Bq_18 := Bq_17.keep k18
  have Bo_18 := Bo_17.keep k18
  have Bz_18 := Bz_17.keep k18
  have Hw18 := bq_trans Hw17 k18
  clear k18 Bw_17 Br_17 Bm_17 Bc_17 Bk_17 Bp_17 Bq_17 Bo_17 Bz_17 Hw17
  go_upto_region 10 with (go_big_may; first
    | (refine wl_load 25 4 _ Try.underlying25 rfl size25 _ rfl rfl _ rfl _ _ Br_18 rfl ?_)
    | (go_at_call 17; (with_reducible refine (Y1.out _).mono ?_); rintro e W19 ⟨rfl, k19⟩; have Bw_19 := Bw_18.keep k19; have Br_19 := Br_18.keep k19; have Bm_19 := Bm_18.keep k19; have Bc_19 := Bc_18.keep k19; have Bk_19 := Bk_18.keep k19; have Bp_19 := Bp_18.keep k19; have Bq_19 := Bq_18.keep k19; have Bo_19 := Bo_18.keep k19; have Bz_19 := Bz_18.keep k19; have Hw19 := bq_trans Hw18 k19; clear k19 Bw_18 Br_18 Bm_18 Bc_18 Bk_18 Bp_18 Bq_18 Bo_18 Bz_18 Hw18)
    | (refine wlg_load 27 6 _ Try.underlying27 rfl size27 _ rfl rfl _ rfl _ _ Bm_19 rfl ?_)
    | (go_at_call 18; (with_reducible refine (Y2.out _).mono ?_); rintro e W20 ⟨rfl, k20⟩; have Bw_20 := Bw_19.keep k20; have Br_20 := Br_19.keep k20; have Bm_20 := Bm_19.keep k20; have Bc_20 := Bc_19.keep k20; have Bk_20 := Bk_19.keep k20; have Bp_20 := Bp_19.keep k20; have Bq_20 := Bq_19.keep k20; have Bo_20 := Bo_19.keep k20; have Bz_20 := Bz_19.keep k20; have Hw20 := bq_trans Hw19 k20; clear k20 Bw_19 Br_19 Bm_19 Bc_19 Bk_19 Bp_19 Bq_19 Bo_19 Bz_19 Hw19)
    | (refine wlg_load 30 8 _ Try.underlying30 rfl size30 _ rfl rfl _ rfl _ _ Bc_20 rfl ?_)
    | (go_at_call 19; (with_reducible refine (Y3.out _).mono ?_); rintro e W21 ⟨rfl, k21⟩; have Bw_21 := Bw_20.keep k21; have Br_21 := Br_20.keep k21; have Bm_21 := Bm_20.keep k21; have Bc_21 := Bc_20.keep k21; have Bk_21 := Bk_20.keep k21; have Bp_21 := Bp_20.keep k21; have Bq_21 := Bq_20.keep k21; have Bo_21 := Bo_20.keep k21; have Bz_21 := Bz_20.keep k21; have Hw21 := bq_trans Hw20 k21; clear k21 Bw_20 Br_20 Bm_20 Bc_20 Bk_20 Bp_20 Bq_20 Bo_20 Bz_20 Hw20)
    | (refine wlg_load 32 4 _ Try.underlying32 rfl size32 _ rfl rfl _ rfl _ _ Bk_21 rfl ?_)
    | (go_at_call 20; (with_reducible refine (Y4.out _).mono ?_); rintro e W22 ⟨rfl, k22⟩; have Bw_22 := Bw_21.keep k22; have Br_22 := Br_21.keep k22; have Bm_22 := Bm_21.keep k22; have Bc_22 := Bc_21.keep k22; have Bk_22 := Bk_21.keep k22; have Bp_22 := Bp_21.keep k22; have Bq_22 := Bq_21.keep k22; have Bo_22 := Bo_21.keep k22; have Bz_22 := Bz_21.keep k22; have Hw22 := bq_trans Hw21 k22; clear k22 Bw_21 Br_21 Bm_21 Bc_21 Bk_21 Bp_21 Bq_21 Bo_21 Bz_21 Hw21))
  refine Det.wp_region_det (S := fun w' => Below W22.heap.size W22 w') (by kernel_rfl) (by kernel_rfl) (bq_drew (bq_refl _)) ?_
  refine Det.det_take (v := ?_) (by rfl) ?_ ?_
  rotate_left
  · (intro w hSw; go_simp; try with_reducible rfl)
  try simp only [Act.put, List.setIfInBounds_toArray, List.set_cons_zero, List.set_cons_succ]
  refine Det.det_take (v := ?_) (by rfl) ?_ ?_
  rotate_left
  · (intro w hSw; go_simp; try with_reducible rfl)
  try simp only [Act.put, List.setIfInBounds_toArray, List.set_cons_zero, List.set_cons_succ]
  refine Det.det_load 23 2 _ Try.underlying23 rfl size23 _ rfl (by rfl) _ rfl _ _ (fun w hS => Bp_22.keep hS) rfl ?_
  try simp only [Act.put, List.setIfInBounds_toArray, List.set_cons_zero, List.set_cons_succ]
  refine Det.det_take (v := ?_) (by rfl) ?_ ?_
  rotate_left
  · (intro w hSw; go_simp; try with_reducible rfl)
  try simp only [Act.put, List.setIfInBounds_toArray, List.set_cons_zero, List.set_cons_succ]
  refine Det.det_take (v := ?_) (by rfl) ?_ ?_
  rotate_left
  · (intro w hSw; go_simp; try with_reducible rfl)
  try simp only [Act.put, List.setIfInBounds_toArray, List.set_cons_zero, List.set_cons_succ]
  refine Det.det_take (v := ?_) (by rfl) ?_ ?_
  rotate_left
  · (intro w hSw; have cc := (Bw_22.keep hSw).cell 0; go_simp; try with_reducible rfl)
  try simp only [Act.put, List.setIfInBounds_toArray, List.set_cons_zero, List.set_cons_succ]
  refine Det.det_load 25 4 _ Try.underlying25 rfl size25 _ rfl (by rfl) _ rfl _ _ (fun w hS => Br_22.keep hS) rfl ?_
  try simp only [Act.put, List.setIfInBounds_toArray, List.set_cons_zero, List.set_cons_succ]
  refine Det.det_call (f := 22) (args := #[.string s, .agg #[.int .i64 l, .int .i64 r, .int .i64 t, .int .i64 b]]) (v := .string u1) (by rfl) ?_ (fun w hS => (R1.out w).mono fun e w' ⟨h1, h2⟩ => ⟨h1, bq_trans hS h2⟩) ?_
  · (intro w hSw; go_simp)
  try simp only [Act.put, List.setIfInBounds_toArray, List.set_cons_zero, List.set_cons_succ]
  refine Det.det_call (f := 21) (args := #[.agg #[.string u1, .int .i64 0], .int .i64 0, .bool true, .string u1]) (v := .bool true) (by rfl) ?_ (fun w hS => (lawput_yes u1 w).mono fun e w' ⟨h1, h2⟩ => ⟨h1, bq_trans hS h2⟩) ?_
  · (intro w hSw; go_simp)
  try simp only [Act.put, List.setIfInBounds_toArray, List.set_cons_zero, List.set_cons_succ]
  refine Det.det_take (v := ?_) (by rfl) ?_ ?_
  rotate_left
  · (intro w hSw; go_simp; try with_reducible rfl)
  try simp only [Act.put, List.setIfInBounds_toArray, List.set_cons_zero, List.set_cons_succ]
  refine Det.det_take (v := ?_) (by rfl) ?_ ?_
  rotate_left
  · (intro w hSw; go_simp; try with_reducible rfl)
  try simp only [Act.put, List.setIfInBounds_toArray, List.set_cons_zero, List.set_cons_succ]
  refine Det.det_take (v := ?_) (by rfl) ?_ ?_
  rotate_left
  · (intro w hSw; go_simp; try with_reducible rfl)
  try simp only [Act.put, List.setIfInBounds_toArray, List.set_cons_zero, List.set_cons_succ]
  refine Det.det_take (v := ?_) (by rfl) ?_ ?_
  rotate_left
  · (intro w hSw; go_simp; try with_reducible rfl)
  try simp only [Act.put, List.setIfInBounds_toArray, List.set_cons_zero, List.set_cons_succ]
  refine Det.det_take (v := ?_) (by rfl) ?_ ?_
  rotate_left
  · (intro w hSw; go_simp; try with_reducible rfl)
  try simp only [Act.put, List.setIfInBounds_toArray, List.set_cons_zero, List.set_cons_succ]
  refine Det.det_load 23 2 _ Try.underlying23 rfl size23 _ rfl (by rfl) _ rfl _ _ (fun w hS => Bq_22.keep hS) rfl ?_
  try simp only [Act.put, List.setIfInBounds_toArray, List.set_cons_zero, List.set_cons_succ]
  refine Det.det_take (v := ?_) (by rfl) ?_ ?_
  rotate_left
  · (intro w hSw; go_simp; try with_reducible rfl)
  try simp only [Act.put, List.setIfInBounds_toArray, List.set_cons_zero, List.set_cons_succ]
  refine Det.det_take (v := ?_) (by rfl) ?_ ?_
  rotate_left
  · (intro w hSw; go_simp; try with_reducible rfl)
  try simp only [Act.put, List.setIfInBounds_toArray, List.set_cons_zero, List.set_cons_succ]
  refine Det.det_take (v := ?_) (by rfl) ?_ ?_
  rotate_left
  · (intro w hSw; have cc := (Bw_22.keep hSw).cell 0; go_simp; try with_reducible rfl)
  try simp only [Act.put, List.setIfInBounds_toArray, List.set_cons_zero, List.set_cons_succ]
  refine Det.det_load 27 6 _ Try.underlying27 rfl size27 _ rfl (by rfl) _ rfl _ _ (fun w hS => Bm_22.keep hS) rfl ?_
  try simp only [Act.put, List.setIfInBounds_toArray, List.set_cons_zero, List.set_cons_succ]
  refine Det.det_call (f := 23) (args := #[.string s, .agg #[.int .i64 ma, .int .i64 mb, .int .i64 mc, .int .i64 md, .int .i64 mx, .int .i64 my]]) (v := .string u2) (by rfl) ?_ (fun w hS => (R2.out w).mono fun e w' ⟨h1, h2⟩ => ⟨h1, bq_trans hS h2⟩) ?_
  · (intro w hSw; go_simp)
  try simp only [Act.put, List.setIfInBounds_toArray, List.set_cons_zero, List.set_cons_succ]
  refine Det.det_call (f := 21) (args := #[.agg #[.string u2, .int .i64 0], .int .i64 0, .bool true, .string u2]) (v := .bool true) (by rfl) ?_ (fun w hS => (lawput_yes u2 w).mono fun e w' ⟨h1, h2⟩ => ⟨h1, bq_trans hS h2⟩) ?_
  · (intro w hSw; go_simp)
  try simp only [Act.put, List.setIfInBounds_toArray, List.set_cons_zero, List.set_cons_succ]
  refine Det.det_take (v := ?_) (by rfl) ?_ ?_
  rotate_left
  · (intro w hSw; go_simp; try with_reducible rfl)
  try simp only [Act.put, List.setIfInBounds_toArray, List.set_cons_zero, List.set_cons_succ]
  refine Det.det_take (v := ?_) (by rfl) ?_ ?_
  rotate_left
  · (intro w hSw; go_simp; try with_reducible rfl)
  try simp only [Act.put, List.setIfInBounds_toArray, List.set_cons_zero, List.set_cons_succ]
  refine Det.det_take (v := ?_) (by rfl) ?_ ?_
  rotate_left
  · (intro w hSw; go_simp; try with_reducible rfl)
  try simp only [Act.put, List.setIfInBounds_toArray, List.set_cons_zero, List.set_cons_succ]
  refine Det.det_take (v := ?_) (by rfl) ?_ ?_
  rotate_left
  · (intro w hSw; go_simp; try with_reducible rfl)
  try simp only [Act.put, List.setIfInBounds_toArray, List.set_cons_zero, List.set_cons_succ]
  refine Det.det_take (v := ?_) (by rfl) ?_ ?_
  rotate_left
  · (intro w hSw; go_simp; try with_reducible rfl)
  try simp only [Act.put, List.setIfInBounds_toArray, List.set_cons_zero, List.set_cons_succ]
  refine Det.det_take (v := ?_) (by rfl) ?_ ?_
  rotate_left
  · (intro w hSw; go_simp; try with_reducible rfl)
  try simp only [Act.put, List.setIfInBounds_toArray, List.set_cons_zero, List.set_cons_succ]
  refine Det.det_load 23 2 _ Try.underlying23 rfl size23 _ rfl (by rfl) _ rfl _ _ (fun w hS => Bo_22.keep hS) rfl ?_
  try simp only [Act.put, List.setIfInBounds_toArray, List.set_cons_zero, List.set_cons_succ]
  refine Det.det_take (v := ?_) (by rfl) ?_ ?_
  rotate_left
  · (intro w hSw; go_simp; try with_reducible rfl)
  try simp only [Act.put, List.setIfInBounds_toArray, List.set_cons_zero, List.set_cons_succ]
  refine Det.det_take (v := ?_) (by rfl) ?_ ?_
  rotate_left
  · (intro w hSw; go_simp; try with_reducible rfl)
  try simp only [Act.put, List.setIfInBounds_toArray, List.set_cons_zero, List.set_cons_succ]
  refine Det.det_take (v := ?_) (by rfl) ?_ ?_
  rotate_left
  · (intro w hSw; have cc := (Bw_22.keep hSw).cell 0; go_simp; try with_reducible rfl)
  try simp only [Act.put, List.setIfInBounds_toArray, List.set_cons_zero, List.set_cons_succ]
  refine Det.det_load 30 8 _ Try.underlying30 rfl size30 _ rfl (by rfl) _ rfl _ _ (fun w hS => Bc_22.keep hS) rfl ?_
  try simp only [Act.put, List.setIfInBounds_toArray, List.set_cons_zero, List.set_cons_succ]
  refine Det.det_call (f := 24) (args := #[.string s, .agg #[.int .i64 c0, .int .i64 c1, .int .i64 c2, .int .i64 c3, .int .i64 d0, .int .i64 d1, .int .i64 d2, .int .i64 d3]]) (v := .string u3) (by rfl) ?_ (fun w hS => (R3.out w).mono fun e w' ⟨h1, h2⟩ => ⟨h1, bq_trans hS h2⟩) ?_
  · (intro w hSw; go_simp)
  try simp only [Act.put, List.setIfInBounds_toArray, List.set_cons_zero, List.set_cons_succ]
  refine Det.det_call (f := 21) (args := #[.agg #[.string u3, .int .i64 0], .int .i64 0, .bool true, .string u3]) (v := .bool true) (by rfl) ?_ (fun w hS => (lawput_yes u3 w).mono fun e w' ⟨h1, h2⟩ => ⟨h1, bq_trans hS h2⟩) ?_
  · (intro w hSw; go_simp)
  try simp only [Act.put, List.setIfInBounds_toArray, List.set_cons_zero, List.set_cons_succ]
  refine Det.det_take (v := ?_) (by rfl) ?_ ?_
  rotate_left
  · (intro w hSw; go_simp; try with_reducible rfl)
  try simp only [Act.put, List.setIfInBounds_toArray, List.set_cons_zero, List.set_cons_succ]
  refine Det.det_take (v := ?_) (by rfl) ?_ ?_
  rotate_left
  · (intro w hSw; go_simp; try with_reducible rfl)
  try simp only [Act.put, List.setIfInBounds_toArray, List.set_cons_zero, List.set_cons_succ]
  refine Det.det_take (v := ?_) (by rfl) ?_ ?_
  rotate_left
  · (intro w hSw; go_simp; try with_reducible rfl)
  try simp only [Act.put, List.setIfInBounds_toArray, List.set_cons_zero, List.set_cons_succ]
  refine Det.det_take (v := ?_) (by rfl) ?_ ?_
  rotate_left
  · (intro w hSw; go_simp; try with_reducible rfl)
  try simp only [Act.put, List.setIfInBounds_toArray, List.set_cons_zero, List.set_cons_succ]
  refine Det.det_take (v := ?_) (by rfl) ?_ ?_
  rotate_left
  · (intro w hSw; go_simp; try with_reducible rfl)
  try simp only [Act.put, List.setIfInBounds_toArray, List.set_cons_zero, List.set_cons_succ]
  refine Det.det_take (v := ?_) (by rfl) ?_ ?_
  rotate_left
  · (intro w hSw; go_simp; try with_reducible rfl)
  try simp only [Act.put, List.setIfInBounds_toArray, List.set_cons_zero, List.set_cons_succ]
  refine Det.det_skip (by rfl) ?_
  try simp only [Act.put, List.setIfInBounds_toArray, List.set_cons_zero, List.set_cons_succ]
  refine Det.det_skip (by rfl) ?_
  try simp only [Act.put, List.setIfInBounds_toArray, List.set_cons_zero, List.set_cons_succ]
  refine Det.det_skip (by rfl) ?_
  try simp only [Act.put, List.setIfInBounds_toArray, List.set_cons_zero, List.set_cons_succ]
  refine Det.det_skip (by rfl) ?_
  try simp only [Act.put, List.setIfInBounds_toArray, List.set_cons_zero, List.set_cons_succ]
  refine Det.det_skip (by rfl) ?_
  try simp only [Act.put, List.setIfInBounds_toArray, List.set_cons_zero, List.set_cons_succ]
  refine Det.det_skip (by rfl) ?_
  try simp only [Act.put, List.setIfInBounds_toArray, List.set_cons_zero, List.set_cons_succ]
  refine Det.det_skip (by rfl) ?_
  try simp only [Act.put, List.setIfInBounds_toArray, List.set_cons_zero, List.set_cons_succ]
  refine Det.det_skip (by rfl) ?_
  try simp only [Act.put, List.setIfInBounds_toArray, List.set_cons_zero, List.set_cons_succ]
  refine Det.det_take (v := ?_) (by rfl) ?_ ?_
  rotate_left
  · (intro w hSw; go_simp; try with_reducible rfl)
  try simp only [Act.put, List.setIfInBounds_toArray, List.set_cons_zero, List.set_cons_succ]
  refine Det.det_take (v := ?_) (by rfl) ?_ ?_
  rotate_left
  · (intro w hSw; go_simp; try with_reducible rfl)
  try simp only [Act.put, List.setIfInBounds_toArray, List.set_cons_zero, List.set_cons_succ]
  refine Det.det_nil (fun W23 k23 => ?_)
  have Bw_23 := Bw_22.keep k23
  have Br_23 := Br_22.keep k23
  have Bm_23 := Bm_22.keep k23
  have Bc_23 := Bc_22.keep k23
  have Bk_23 := Bk_22.keep k23
  have Bp_23 := Bp_22.keep k23
  have Bq_23 := Bq_22.keep k23
  have Bo_23 := Bo_22.keep k23
  have Bz_23 := Bz_22.keep k23
  have Hw23 := bq_trans Hw22 k23
  clear k23 Bw_22 Br_22 Bm_22 Bc_22 Bk_22 Bp_22 Bq_22 Bo_22 Bz_22 Hw22
  go_wp2_with (first
    | (refine wlg_load 23 2 _ Try.underlying23 rfl size23 _ rfl rfl _ rfl _ _ Bz_23 rfl ?_)
    | (go_at_call 21; (with_reducible refine (lawput_no _).mono ?_); rintro e W24 ⟨rfl, k24⟩; have Bw_24 := Bw_23.keep k24; have Br_24 := Br_23.keep k24; have Bm_24 := Bm_23.keep k24; have Bc_24 := Bc_23.keep k24; have Bk_24 := Bk_23.keep k24; have Bp_24 := Bp_23.keep k24; have Bq_24 := Bq_23.keep k24; have Bo_24 := Bo_23.keep k24; have Bz_24 := Bz_23.keep k24; have Hw24 := bq_trans Hw23 k24; clear k24 Bw_23 Br_23 Bm_23 Bc_23 Bk_23 Bp_23 Bq_23 Bo_23 Bz_23 Hw23)
    | (go_at_call 8; (with_reducible refine (awake_any _).mono ?_); rintro e W25 ⟨rfl, k25⟩; have Bw_25 := Bw_24.keep k25; have Br_25 := Br_24.keep k25; have Bm_25 := Bm_24.keep k25; have Bc_25 := Bc_24.keep k25; have Bk_25 := Bk_24.keep k25; have Bp_25 := Bp_24.keep k25; have Bq_25 := Bq_24.keep k25; have Bo_25 := Bo_24.keep k25; have Bz_25 := Bz_24.keep k25; have Hw25 := bq_trans Hw24 k25; clear k25 Bw_24 Br_24 Bm_24 Bc_24 Bk_24 Bp_24 Bq_24 Bo_24 Bz_24 Hw24))
  go_ret
  exact ⟨rfl, Hw25⟩
end Go.Proofs.Ytfaipbdkkkhacaa
/- Layer 7: FieldPuts, ways of it. -/
namespace Go.Proofs.Ytfaipbdkkkhacaa
open Go.RowKit
set_option linter.unusedVariables false
set_option maxRecDepth 100000

set_option maxHeartbeats 8000000 in
theorem fputs_0111 (f l r t b ma mb mc md mx my c0 c1 c2 c3 d0 d1 d2 d3 k0 k1 k2 k3 : Int) (s u2 u3 u4 : ByteArray) (w : World) (hs : s.size ≤ 1024)
    (P1 : Hid (∀ W, Calls Try.prog 9 #[.agg #[.string s, .int .i64 f], .agg #[.int .i64 l, .int .i64 r, .int .i64 t, .int .i64 b]] W fun e w' => e = .returned (.tuple #[.agg #[.string ⟨#[]⟩, .int .i64 0], .int .i64 1]) ∧ Below W.heap.size W w'))
    (X1 : Hid (∀ W, Calls Try.prog 13 #[.agg #[.int .i64 l, .int .i64 r, .int .i64 t, .int .i64 b]] W fun e w' => e = .returned (.bool false) ∧ Below W.heap.size W w'))
    (Y1 : Hid (∀ W, Calls Try.prog 17 #[.agg #[.int .i64 l, .int .i64 r, .int .i64 t, .int .i64 b]] W fun e w' => e = .returned (.bool false) ∧ Below W.heap.size W w'))
    (P2 : Hid (∀ W, Calls Try.prog 10 #[.agg #[.string s, .int .i64 f], .agg #[.int .i64 ma, .int .i64 mb, .int .i64 mc, .int .i64 md, .int .i64 mx, .int .i64 my]] W fun e w' => e = .returned (.tuple #[.agg #[.string u2, .int .i64 0], .int .i64 0]) ∧ Below W.heap.size W w'))
    (X2 : Hid (∀ W, Calls Try.prog 14 #[.agg #[.int .i64 ma, .int .i64 mb, .int .i64 mc, .int .i64 md, .int .i64 mx, .int .i64 my]] W fun e w' => e = .returned (.bool true) ∧ Below W.heap.size W w'))
    (Y2 : Hid (∀ W, Calls Try.prog 18 #[.agg #[.int .i64 ma, .int .i64 mb, .int .i64 mc, .int .i64 md, .int .i64 mx, .int .i64 my]] W fun e w' => e = .returned (.bool true) ∧ Below W.heap.size W w'))
    (R2 : Hid (∀ W, Calls Try.prog 23 #[.string s, .agg #[.int .i64 ma, .int .i64 mb, .int .i64 mc, .int .i64 md, .int .i64 mx, .int .i64 my]] W fun e w' => e = .returned (.string u2) ∧ Below W.heap.size W w'))
    (P3 : Hid (∀ W, Calls Try.prog 11 #[.agg #[.string s, .int .i64 f], .agg #[.int .i64 c0, .int .i64 c1, .int .i64 c2, .int .i64 c3, .int .i64 d0, .int .i64 d1, .int .i64 d2, .int .i64 d3]] W fun e w' => e = .returned (.tuple #[.agg #[.string u3, .int .i64 0], .int .i64 0]) ∧ Below W.heap.size W w'))
    (X3 : Hid (∀ W, Calls Try.prog 15 #[.agg #[.int .i64 c0, .int .i64 c1, .int .i64 c2, .int .i64 c3, .int .i64 d0, .int .i64 d1, .int .i64 d2, .int .i64 d3]] W fun e w' => e = .returned (.bool true) ∧ Below W.heap.size W w'))
    (Y3 : Hid (∀ W, Calls Try.prog 19 #[.agg #[.int .i64 c0, .int .i64 c1, .int .i64 c2, .int .i64 c3, .int .i64 d0, .int .i64 d1, .int .i64 d2, .int .i64 d3]] W fun e w' => e = .returned (.bool true) ∧ Below W.heap.size W w'))
    (R3 : Hid (∀ W, Calls Try.prog 24 #[.string s, .agg #[.int .i64 c0, .int .i64 c1, .int .i64 c2, .int .i64 c3, .int .i64 d0, .int .i64 d1, .int .i64 d2, .int .i64 d3]] W fun e w' => e = .returned (.string u3) ∧ Below W.heap.size W w'))
    (P4 : Hid (∀ W, Calls Try.prog 12 #[.agg #[.string s, .int .i64 f], .agg #[.int .i64 k0, .int .i64 k1, .int .i64 k2, .int .i64 k3]] W fun e w' => e = .returned (.tuple #[.agg #[.string u4, .int .i64 0], .int .i64 0]) ∧ Below W.heap.size W w'))
    (X4 : Hid (∀ W, Calls Try.prog 16 #[.agg #[.int .i64 k0, .int .i64 k1, .int .i64 k2, .int .i64 k3]] W fun e w' => e = .returned (.bool true) ∧ Below W.heap.size W w'))
    (Y4 : Hid (∀ W, Calls Try.prog 20 #[.agg #[.int .i64 k0, .int .i64 k1, .int .i64 k2, .int .i64 k3]] W fun e w' => e = .returned (.bool true) ∧ Below W.heap.size W w'))
    (R4 : Hid (∀ W, Calls Try.prog 25 #[.string s, .agg #[.int .i64 k0, .int .i64 k1, .int .i64 k2, .int .i64 k3]] W fun e w' => e = .returned (.string u4) ∧ Below W.heap.size W w'))
    : Calls Try.prog 3 #[.agg #[.string s, .int .i64 f], .agg #[.int .i64 l, .int .i64 r, .int .i64 t, .int .i64 b], .agg #[.int .i64 ma, .int .i64 mb, .int .i64 mc, .int .i64 md, .int .i64 mx, .int .i64 my], .agg #[.int .i64 c0, .int .i64 c1, .int .i64 c2, .int .i64 c3, .int .i64 d0, .int .i64 d1, .int .i64 d2, .int .i64 d3], .agg #[.int .i64 k0, .int .i64 k1, .int .i64 k2, .int .i64 k3]] w fun e w' => e = .returned (.bool true) ∧ Below w.heap.size w w' := by
  go_enter Try.func3, Try.ntmps3
  go_upto_region 7 with (go_big_may; first
    | (refine wl_box 23 _ _ rfl rfl (show _ = Value.agg #[.string s, .int .i64 f] from rfl) ?_; intro W1 bw Bw_1 l1 k1; have gw : w.heap.size ≤ bw := l1; have Hw1 := k1; clear l1 k1)
    | (refine wl_box 25 _ _ rfl rfl (show _ = Value.agg #[.int .i64 l, .int .i64 r, .int .i64 t, .int .i64 b] from rfl) ?_; intro W2 br Br_2 l2 k2; have gr : w.heap.size ≤ br := Nat.le_trans Hw1.size l2; have nwr : bw ≠ br := Nat.ne_of_lt (Nat.lt_of_lt_of_le Bw_1.lt l2); have Bw_2 := Bw_1.keep k2; have Hw2 := bq_trans Hw1 k2; clear l2 k2 Bw_1 Hw1)
    | (refine wl_box 27 _ _ rfl rfl (show _ = Value.agg #[.int .i64 ma, .int .i64 mb, .int .i64 mc, .int .i64 md, .int .i64 mx, .int .i64 my] from rfl) ?_; intro W3 bm Bm_3 l3 k3; have gm : w.heap.size ≤ bm := Nat.le_trans Hw2.size l3; have nwm : bw ≠ bm := Nat.ne_of_lt (Nat.lt_of_lt_of_le Bw_2.lt l3); have nrm : br ≠ bm := Nat.ne_of_lt (Nat.lt_of_lt_of_le Br_2.lt l3); have Bw_3 := Bw_2.keep k3; have Br_3 := Br_2.keep k3; have Hw3 := bq_trans Hw2 k3; clear l3 k3 Bw_2 Br_2 Hw2)
    | (refine wl_box 30 _ _ rfl rfl (show _ = Value.agg #[.int .i64 c0, .int .i64 c1, .int .i64 c2, .int .i64 c3, .int .i64 d0, .int .i64 d1, .int .i64 d2, .int .i64 d3] from rfl) ?_; intro W4 bc Bc_4 l4 k4; have gc : w.heap.size ≤ bc := Nat.le_trans Hw3.size l4; have nwc : bw ≠ bc := Nat.ne_of_lt (Nat.lt_of_lt_of_le Bw_3.lt l4); have nrc : br ≠ bc := Nat.ne_of_lt (Nat.lt_of_lt_of_le Br_3.lt l4); have nmc : bm ≠ bc := Nat.ne_of_lt (Nat.lt_of_lt_of_le Bm_3.lt l4); have Bw_4 := Bw_3.keep k4; have Br_4 := Br_3.keep k4; have Bm_4 := Bm_3.keep k4; have Hw4 := bq_trans Hw3 k4; clear l4 k4 Bw_3 Br_3 Bm_3 Hw3)
    | (refine wl_box 32 _ _ rfl rfl (show _ = Value.agg #[.int .i64 k0, .int .i64 k1, .int .i64 k2, .int .i64 k3] from rfl) ?_; intro W5 bk Bk_5 l5 k5; have gk : w.heap.size ≤ bk := Nat.le_trans Hw4.size l5; have nwk : bw ≠ bk := Nat.ne_of_lt (Nat.lt_of_lt_of_le Bw_4.lt l5); have nrk : br ≠ bk := Nat.ne_of_lt (Nat.lt_of_lt_of_le Br_4.lt l5); have nmk : bm ≠ bk := Nat.ne_of_lt (Nat.lt_of_lt_of_le Bm_4.lt l5); have nck : bc ≠ bk := Nat.ne_of_lt (Nat.lt_of_lt_of_le Bc_4.lt l5); have Bw_5 := Bw_4.keep k5; have Br_5 := Br_4.keep k5; have Bm_5 := Bm_4.keep k5; have Bc_5 := Bc_4.keep k5; have Hw5 := bq_trans Hw4 k5; clear l5 k5 Bw_4 Br_4 Bm_4 Bc_4 Hw4; have cw_0_5 : W5.cell? ⟨bw, 0, none⟩ = some (.string s) := Bw_5.cell 0)
    | (refine wl_load 23 2 _ Try.underlying23 rfl size23 _ rfl rfl _ rfl _ _ Bw_5 rfl ?_)
    | (refine wl_load 25 4 _ Try.underlying25 rfl size25 _ rfl rfl _ rfl _ _ Br_5 rfl ?_)
    | (go_at_call 9; (with_reducible refine (P1.out _).mono ?_); rintro e W6 ⟨rfl, k6⟩; have Bw_6 := Bw_5.keep k6; have Br_6 := Br_5.keep k6; have Bm_6 := Bm_5.keep k6; have Bc_6 := Bc_5.keep k6; have Bk_6 := Bk_5.keep k6; have Hw6 := bq_trans Hw5 k6; clear k6 Bw_5 Br_5 Bm_5 Bc_5 Bk_5 cw_0_5 Hw5)
    | (refine wl_alloc 23 _ zero23 rfl rfl ?_; intro W7 bp Bp_7 l7 k7; have gp : w.heap.size ≤ bp := Nat.le_trans Hw6.size l7; have nwp : bw ≠ bp := Nat.ne_of_lt (Nat.lt_of_lt_of_le Bw_6.lt l7); have nrp : br ≠ bp := Nat.ne_of_lt (Nat.lt_of_lt_of_le Br_6.lt l7); have nmp : bm ≠ bp := Nat.ne_of_lt (Nat.lt_of_lt_of_le Bm_6.lt l7); have ncp : bc ≠ bp := Nat.ne_of_lt (Nat.lt_of_lt_of_le Bc_6.lt l7); have nkp : bk ≠ bp := Nat.ne_of_lt (Nat.lt_of_lt_of_le Bk_6.lt l7); have Bw_7 := Bw_6.keep k7; have Br_7 := Br_6.keep k7; have Bm_7 := Bm_6.keep k7; have Bc_7 := Bc_6.keep k7; have Bk_7 := Bk_6.keep k7; have Hw7 := bq_trans Hw6 k7; clear l7 k7 Bw_6 Br_6 Bm_6 Bc_6 Bk_6 Hw6)
    | (refine wl_store 23 2 size23 _ _ rfl rfl _ rfl _ rfl _ _ Bp_7 rfl rfl (by kernel_rfl) ?_; intro W8 Bp_8 T8; have Bw_8 := T8.blk Bw_7 nwp; have Br_8 := T8.blk Br_7 nrp; have Bm_8 := T8.blk Bm_7 nmp; have Bc_8 := T8.blk Bc_7 ncp; have Bk_8 := T8.blk Bk_7 nkp; have Hw8 := T8.below Hw7 gp; clear T8 Bw_7 Br_7 Bm_7 Bc_7 Bk_7 Bp_7 Hw7)
    | (refine wl_load 23 2 _ Try.underlying23 rfl size23 _ rfl rfl _ rfl _ _ Bw_8 rfl ?_)
    | (refine wl_load 27 6 _ Try.underlying27 rfl size27 _ rfl rfl _ rfl _ _ Bm_8 rfl ?_)
    | (go_at_call 10; (with_reducible refine (P2.out _).mono ?_); rintro e W9 ⟨rfl, k9⟩; have Bw_9 := Bw_8.keep k9; have Br_9 := Br_8.keep k9; have Bm_9 := Bm_8.keep k9; have Bc_9 := Bc_8.keep k9; have Bk_9 := Bk_8.keep k9; have Bp_9 := Bp_8.keep k9; have Hw9 := bq_trans Hw8 k9; clear k9 Bw_8 Br_8 Bm_8 Bc_8 Bk_8 Bp_8 Hw8)
    | (refine wl_alloc 23 _ zero23 rfl rfl ?_; intro W10 bq Bq_10 l10 k10; have gq : w.heap.size ≤ bq := Nat.le_trans Hw9.size l10; have nwq : bw ≠ bq := Nat.ne_of_lt (Nat.lt_of_lt_of_le Bw_9.lt l10); have nrq : br ≠ bq := Nat.ne_of_lt (Nat.lt_of_lt_of_le Br_9.lt l10); have nmq : bm ≠ bq := Nat.ne_of_lt (Nat.lt_of_lt_of_le Bm_9.lt l10); have ncq : bc ≠ bq := Nat.ne_of_lt (Nat.lt_of_lt_of_le Bc_9.lt l10); have nkq : bk ≠ bq := Nat.ne_of_lt (Nat.lt_of_lt_of_le Bk_9.lt l10); have npq : bp ≠ bq := Nat.ne_of_lt (Nat.lt_of_lt_of_le Bp_9.lt l10); have Bw_10 := Bw_9.keep k10; have Br_10 := Br_9.keep k10; have Bm_10 := Bm_9.keep k10; have Bc_10 := Bc_9.keep k10; have Bk_10 := Bk_9.keep k10; have Bp_10 := Bp_9.keep k10; have Hw10 := bq_trans Hw9 k10; clear l10 k10 Bw_9 Br_9 Bm_9 Bc_9 Bk_9 Bp_9 Hw9)
    | (refine wl_store 23 2 size23 _ _ rfl rfl _ rfl _ rfl _ _ Bq_10 rfl rfl (by kernel_rfl) ?_; intro W11 Bq_11 T11; have Bw_11 := T11.blk Bw_10 nwq; have Br_11 := T11.blk Br_10 nrq; have Bm_11 := T11.blk Bm_10 nmq; have Bc_11 := T11.blk Bc_10 ncq; have Bk_11 := T11.blk Bk_10 nkq; have Bp_11 := T11.blk Bp_10 npq; have Hw11 := T11.below Hw10 gq; clear T11 Bw_10 Br_10 Bm_10 Bc_10 Bk_10 Bp_10 Bq_10 Hw10)
    | (refine wl_load 23 2 _ Try.underlying23 rfl size23 _ rfl rfl _ rfl _ _ Bw_11 rfl ?_)
    | (refine wl_load 30 8 _ Try.underlying30 rfl size30 _ rfl rfl _ rfl _ _ Bc_11 rfl ?_)
    | (go_at_call 11; (with_reducible refine (P3.out _).mono ?_); rintro e W12 ⟨rfl, k12⟩; have Bw_12 := Bw_11.keep k12; have Br_12 := Br_11.keep k12; have Bm_12 := Bm_11.keep k12; have Bc_12 := Bc_11.keep k12; have Bk_12 := Bk_11.keep k12; have Bp_12 := Bp_11.keep k12; have Bq_12 := Bq_11.keep k12; have Hw12 := bq_trans Hw11 k12; clear k12 Bw_11 Br_11 Bm_11 Bc_11 Bk_11 Bp_11 Bq_11 Hw11)
    | (refine wl_alloc 23 _ zero23 rfl rfl ?_; intro W13 bo Bo_13 l13 k13; have go : w.heap.size ≤ bo := Nat.le_trans Hw12.size l13; have nwo : bw ≠ bo := Nat.ne_of_lt (Nat.lt_of_lt_of_le Bw_12.lt l13); have nro : br ≠ bo := Nat.ne_of_lt (Nat.lt_of_lt_of_le Br_12.lt l13); have nmo : bm ≠ bo := Nat.ne_of_lt (Nat.lt_of_lt_of_le Bm_12.lt l13); have nco : bc ≠ bo := Nat.ne_of_lt (Nat.lt_of_lt_of_le Bc_12.lt l13); have nko : bk ≠ bo := Nat.ne_of_lt (Nat.lt_of_lt_of_le Bk_12.lt l13); have npo : bp ≠ bo := Nat.ne_of_lt (Nat.lt_of_lt_of_le Bp_12.lt l13); have nqo : bq ≠ bo := Nat.ne_of_lt (Nat.lt_of_lt_of_le Bq_12.lt l13); have Bw_13 := Bw_12.keep k13; have Br_13 := Br_12.keep k13; have Bm_13 := Bm_12.keep k13; have Bc_13 := Bc_12.keep k13; have Bk_13 := Bk_12.keep k13; have Bp_13 := Bp_12.keep k13; have Bq_13 := Bq_12.keep k13; have Hw13 := bq_trans Hw12 k13; clear l13 k13 Bw_12 Br_12 Bm_12 Bc_12 Bk_12 Bp_12 Bq_12 Hw12)
    | (refine wl_store 23 2 size23 _ _ rfl rfl _ rfl _ rfl _ _ Bo_13 rfl rfl (by kernel_rfl) ?_; intro W14 Bo_14 T14; have Bw_14 := T14.blk Bw_13 nwo; have Br_14 := T14.blk Br_13 nro; have Bm_14 := T14.blk Bm_13 nmo; have Bc_14 := T14.blk Bc_13 nco; have Bk_14 := T14.blk Bk_13 nko; have Bp_14 := T14.blk Bp_13 npo; have Bq_14 := T14.blk Bq_13 nqo; have Hw14 := T14.below Hw13 go; clear T14 Bw_13 Br_13 Bm_13 Bc_13 Bk_13 Bp_13 Bq_13 Bo_13 Hw13)
    | (refine wl_load 23 2 _ Try.underlying23 rfl size23 _ rfl rfl _ rfl _ _ Bw_14 rfl ?_)
    | (refine wl_load 32 4 _ Try.underlying32 rfl size32 _ rfl rfl _ rfl _ _ Bk_14 rfl ?_)
    | (go_at_call 12; (with_reducible refine (P4.out _).mono ?_); rintro e W15 ⟨rfl, k15⟩; have Bw_15 := Bw_14.keep k15; have Br_15 := Br_14.keep k15; have Bm_15 := Bm_14.keep k15; have Bc_15 := Bc_14.keep k15; have Bk_15 := Bk_14.keep k15; have Bp_15 := Bp_14.keep k15; have Bq_15 := Bq_14.keep k15; have Bo_15 := Bo_14.keep k15; have Hw15 := bq_trans Hw14 k15; clear k15 Bw_14 Br_14 Bm_14 Bc_14 Bk_14 Bp_14 Bq_14 Bo_14 Hw14)
    | (refine wl_alloc 23 _ zero23 rfl rfl ?_; intro W16 bz Bz_16 l16 k16; have gz : w.heap.size ≤ bz := Nat.le_trans Hw15.size l16; have nwz : bw ≠ bz := Nat.ne_of_lt (Nat.lt_of_lt_of_le Bw_15.lt l16); have nrz : br ≠ bz := Nat.ne_of_lt (Nat.lt_of_lt_of_le Br_15.lt l16); have nmz : bm ≠ bz := Nat.ne_of_lt (Nat.lt_of_lt_of_le Bm_15.lt l16); have ncz : bc ≠ bz := Nat.ne_of_lt (Nat.lt_of_lt_of_le Bc_15.lt l16); have nkz : bk ≠ bz := Nat.ne_of_lt (Nat.lt_of_lt_of_le Bk_15.lt l16); have npz : bp ≠ bz := Nat.ne_of_lt (Nat.lt_of_lt_of_le Bp_15.lt l16); have nqz : bq ≠ bz := Nat.ne_of_lt (Nat.lt_of_lt_of_le Bq_15.lt l16); have noz : bo ≠ bz := Nat.ne_of_lt (Nat.lt_of_lt_of_le Bo_15.lt l16); have Bw_16 := Bw_15.keep k16; have Br_16 := Br_15.keep k16; have Bm_16 := Bm_15.keep k16; have Bc_16 := Bc_15.keep k16; have Bk_16 := Bk_15.keep k16; have Bp_16 := Bp_15.keep k16; have Bq_16 := Bq_15.keep k16; have Bo_16 := Bo_15.keep k16; have Hw16 := bq_trans Hw15 k16; clear l16 k16 Bw_15 Br_15 Bm_15 Bc_15 Bk_15 Bp_15 Bq_15 Bo_15 Hw15)
    | (refine wl_store 23 2 size23 _ _ rfl rfl _ rfl _ rfl _ _ Bz_16 rfl rfl (by kernel_rfl) ?_; intro W17 Bz_17 T17; have Bw_17 := T17.blk Bw_16 nwz; have Br_17 := T17.blk Br_16 nrz; have Bm_17 := T17.blk Bm_16 nmz; have Bc_17 := T17.blk Bc_16 ncz; have Bk_17 := T17.blk Bk_16 nkz; have Bp_17 := T17.blk Bp_16 npz; have Bq_17 := T17.blk Bq_16 nqz; have Bo_17 := T17.blk Bo_16 noz; have Hw17 := T17.below Hw16 gz; clear T17 Bw_16 Br_16 Bm_16 Bc_16 Bk_16 Bp_16 Bq_16 Bo_16 Bz_16 Hw16))
  refine Det.wp_region_det (S := fun w' => Below W17.heap.size W17 w') (by kernel_rfl) (by kernel_rfl) (bq_drew (bq_refl _)) ?_
  refine Det.det_load 25 4 _ Try.underlying25 rfl size25 _ rfl (by rfl) _ rfl _ _ (fun w hS => Br_17.keep hS) rfl ?_
  try simp only [Act.put, List.setIfInBounds_toArray, List.set_cons_zero, List.set_cons_succ]
  refine Det.det_call (f := 13) (args := #[.agg #[.int .i64 l, .int .i64 r, .int .i64 t, .int .i64 b]]) (v := .bool false) (by rfl) ?_ (fun w hS => (X1.out w).mono fun e w' ⟨h1, h2⟩ => ⟨h1, bq_trans hS h2⟩) ?_
  · (intro w hSw; go_simp)
  try simp only [Act.put, List.setIfInBounds_toArray, List.set_cons_zero, List.set_cons_succ]
  refine Det.det_load 27 6 _ Try.underlying27 rfl size27 _ rfl (by rfl) _ rfl _ _ (fun w hS => Bm_17.keep hS) rfl ?_
  try simp only [Act.put, List.setIfInBounds_toArray, List.set_cons_zero, List.set_cons_succ]
  refine Det.det_call (f := 14) (args := #[.agg #[.int .i64 ma, .int .i64 mb, .int .i64 mc, .int .i64 md, .int .i64 mx, .int .i64 my]]) (v := .bool true) (by rfl) ?_ (fun w hS => (X2.out w).mono fun e w' ⟨h1, h2⟩ => ⟨h1, bq_trans hS h2⟩) ?_
  · (intro w hSw; go_simp)
  try simp only [Act.put, List.setIfInBounds_toArray, List.set_cons_zero, List.set_cons_succ]
  refine Det.det_load 30 8 _ Try.underlying30 rfl size30 _ rfl (by rfl) _ rfl _ _ (fun w hS => Bc_17.keep hS) rfl ?_
  try simp only [Act.put, List.setIfInBounds_toArray, List.set_cons_zero, List.set_cons_succ]
  refine Det.det_call (f := 15) (args := #[.agg #[.int .i64 c0, .int .i64 c1, .int .i64 c2, .int .i64 c3, .int .i64 d0, .int .i64 d1, .int .i64 d2, .int .i64 d3]]) (v := .bool true) (by rfl) ?_ (fun w hS => (X3.out w).mono fun e w' ⟨h1, h2⟩ => ⟨h1, bq_trans hS h2⟩) ?_
  · (intro w hSw; go_simp)
  try simp only [Act.put, List.setIfInBounds_toArray, List.set_cons_zero, List.set_cons_succ]
  refine Det.det_load 32 4 _ Try.underlying32 rfl size32 _ rfl (by rfl) _ rfl _ _ (fun w hS => Bk_17.keep hS) rfl ?_
  try simp only [Act.put, List.setIfInBounds_toArray, List.set_cons_zero, List.set_cons_succ]
  refine Det.det_call (f := 16) (args := #[.agg #[.int .i64 k0, .int .i64 k1, .int .i64 k2, .int .i64 k3]]) (v := .bool true) (by rfl) ?_ (fun w hS => (X4.out w).mono fun e w' ⟨h1, h2⟩ => ⟨h1, bq_trans hS h2⟩) ?_
  · (intro w hSw; go_simp)
  try simp only [Act.put, List.setIfInBounds_toArray, List.set_cons_zero, List.set_cons_succ]
  refine Det.det_take (v := ?_) (by rfl) ?_ ?_
  rotate_left
  · (intro w hSw; go_simp; try with_reducible rfl)
  try simp only [Act.put, List.setIfInBounds_toArray, List.set_cons_zero, List.set_cons_succ]
  refine Det.det_take (v := ?_) (by rfl) ?_ ?_
  rotate_left
  · (intro w hSw; go_simp; try with_reducible rfl)
  try simp only [Act.put, List.setIfInBounds_toArray, List.set_cons_zero, List.set_cons_succ]
  refine Det.det_take (v := ?_) (by rfl) ?_ ?_
  rotate_left
  · (intro w hSw; go_simp; try with_reducible rfl)
  try simp only [Act.put, List.setIfInBounds_toArray, List.set_cons_zero, List.set_cons_succ]
  refine Det.det_take (v := ?_) (by rfl) ?_ ?_
  rotate_left
  · (intro w hSw; go_simp; try with_reducible rfl)
  try simp only [Act.put, List.setIfInBounds_toArray, List.set_cons_zero, List.set_cons_succ]
  refine Det.det_nil (fun W18 k18 => ?_)
  have Bw_18 := Bw_17.keep k18
  have Br_18 := Br_17.keep k18
  have Bm_18 := Bm_17.keep k18
  have Bc_18 := Bc_17.keep k18
  have Bk_18 := Bk_17.keep k18
  have Bp_18 := Bp_17.keep k18
  have Bq_18 := Bq_17.keep k18
  have Bo_18 := Bo_17.keep k18
  have Bz_18 := Bz_17.keep k18
  have Hw18 := bq_trans Hw17 k18
  clear k18 Bw_17 Br_17 Bm_17 Bc_17 Bk_17 Bp_17 Bq_17 Bo_17 Bz_17 Hw17
  go_upto_region 10 with (go_big_may; first
    | (refine wl_load 25 4 _ Try.underlying25 rfl size25 _ rfl rfl _ rfl _ _ Br_18 rfl ?_)
    | (go_at_call 17; (with_reducible refine (Y1.out _).mono ?_); rintro e W19 ⟨rfl, k19⟩; have Bw_19 := Bw_18.keep k19; have Br_19 := Br_18.keep k19; have Bm_19 := Bm_18.keep k19; have Bc_19 := Bc_18.keep k19; have Bk_19 := Bk_18.keep k19; have Bp_19 := Bp_18.keep k19; have Bq_19 := Bq_18.keep k19; have Bo_19 := Bo_18.keep k19; have Bz_19 := Bz_18.keep k19; have Hw19 := bq_trans Hw18 k19; clear k19 Bw_18 Br_18 Bm_18 Bc_18 Bk_18 Bp_18 Bq_18 Bo_18 Bz_18 Hw18)
    | (refine wlg_load 27 6 _ Try.underlying27 rfl size27 _ rfl rfl _ rfl _ _ Bm_19 rfl ?_)
    | (go_at_call 18; (with_reducible refine (Y2.out _).mono ?_); rintro e W20 ⟨rfl, k20⟩; have Bw_20 := Bw_19.keep k20; have Br_20 := Br_19.keep k20; have Bm_20 := Bm_19.keep k20; have Bc_20 := Bc_19.keep k20; have Bk_20 := Bk_19.keep k20; have Bp_20 := Bp_19.keep k20; have Bq_20 := Bq_19.keep k20; have Bo_20 := Bo_19.keep k20; have Bz_20 := Bz_19.keep k20; have Hw20 := bq_trans Hw19 k20; clear k20 Bw_19 Br_19 Bm_19 Bc_19 Bk_19 Bp_19 Bq_19 Bo_19 Bz_19 Hw19)
    | (refine wlg_load 30 8 _ Try.underlying30 rfl size30 _ rfl rfl _ rfl _ _ Bc_20 rfl ?_)
    | (go_at_call 19; (with_reducible refine (Y3.out _).mono ?_); rintro e W21 ⟨rfl, k21⟩; have Bw_21 := Bw_20.keep k21; have Br_21 := Br_20.keep k21; have Bm_21 := Bm_20.keep k21; have Bc_21 := Bc_20.keep k21; have Bk_21 := Bk_20.keep k21; have Bp_21 := Bp_20.keep k21; have Bq_21 := Bq_20.keep k21; have Bo_21 := Bo_20.keep k21; have Bz_21 := Bz_20.keep k21; have Hw21 := bq_trans Hw20 k21; clear k21 Bw_20 Br_20 Bm_20 Bc_20 Bk_20 Bp_20 Bq_20 Bo_20 Bz_20 Hw20)
    | (refine wlg_load 32 4 _ Try.underlying32 rfl size32 _ rfl rfl _ rfl _ _ Bk_21 rfl ?_)
    | (go_at_call 20; (with_reducible refine (Y4.out _).mono ?_); rintro e W22 ⟨rfl, k22⟩; have Bw_22 := Bw_21.keep k22; have Br_22 := Br_21.keep k22; have Bm_22 := Bm_21.keep k22; have Bc_22 := Bc_21.keep k22; have Bk_22 := Bk_21.keep k22; have Bp_22 := Bp_21.keep k22; have Bq_22 := Bq_21.keep k22; have Bo_22 := Bo_21.keep k22; have Bz_22 := Bz_21.keep k22; have Hw22 := bq_trans Hw21 k22; clear k22 Bw_21 Br_21 Bm_21 Bc_21 Bk_21 Bp_21 Bq_21 Bo_21 Bz_21 Hw21))
  refine Det.wp_region_det (S := fun w' => Below W22.heap.size W22 w') (by kernel_rfl) (by kernel_rfl) (bq_drew (bq_refl _)) ?_
  refine Det.det_take (v := ?_) (by rfl) ?_ ?_
  rotate_left
  · (intro w hSw; go_simp; try with_reducible rfl)
  try simp only [Act.put, List.setIfInBounds_toArray, List.set_cons_zero, List.set_cons_succ]
  refine Det.det_take (v := ?_) (by rfl) ?_ ?_
  rotate_left
  · (intro w hSw; go_simp; try with_reducible rfl)
  try simp only [Act.put, List.setIfInBounds_toArray, List.set_cons_zero, List.set_cons_succ]
  refine Det.det_skip (by rfl) ?_
  try simp only [Act.put, List.setIfInBounds_toArray, List.set_cons_zero, List.set_cons_succ]
  refine Det.det_skip (by rfl) ?_
  try simp only [Act.put, List.setIfInBounds_toArray, List.set_cons_zero, List.set_cons_succ]
  refine Det.det_skip (by rfl) ?_
  try simp only [Act.put, List.setIfInBounds_toArray, List.set_cons_zero, List.set_cons_succ]
  refine Det.det_skip (by rfl) ?_
  try simp only [Act.put, List.setIfInBounds_toArray, List.set_cons_zero, List.set_cons_succ]
  refine Det.det_skip (by rfl) ?_
  try simp only [Act.put, List.setIfInBounds_toArray, List.set_cons_zero, List.set_cons_succ]
  refine Det.det_skip (by rfl) ?_
  try simp only [Act.put, List.setIfInBounds_toArray, List.set_cons_zero, List.set_cons_succ]
  refine Det.det_skip (by rfl) ?_
  try simp only [Act.put, List.setIfInBounds_toArray, List.set_cons_zero, List.set_cons_succ]
  refine Det.det_skip (by rfl) ?_
  try simp only [Act.put, List.setIfInBounds_toArray, List.set_cons_zero, List.set_cons_succ]
  refine Det.det_take (v := ?_) (by rfl) ?_ ?_
  rotate_left
  · (intro w hSw; go_simp; try with_reducible rfl)
  try simp only [Act.put, List.setIfInBounds_toArray, List.set_cons_zero, List.set_cons_succ]
  refine Det.det_take (v := ?_) (by rfl) ?_ ?_
  rotate_left
  · (intro w hSw; go_simp; try with_reducible rfl)
  try simp only [Act.put, List.setIfInBounds_toArray, List.set_cons_zero, List.set_cons_succ]
  refine Det.det_take (v := ?_) (by rfl) ?_ ?_
  rotate_left
  · (intro w hSw; go_simp; try with_reducible rfl)
  try simp only [Act.put, List.setIfInBounds_toArray, List.set_cons_zero, List.set_cons_succ]
  refine Det.det_take (v := ?_) (by rfl) ?_ ?_
  rotate_left
  · (intro w hSw; go_simp; try with_reducible rfl)
  try simp only [Act.put, List.setIfInBounds_toArray, List.set_cons_zero, List.set_cons_succ]
  refine Det.det_load 23 2 _ Try.underlying23 rfl size23 _ rfl (by rfl) _ rfl _ _ (fun w hS => Bq_22.keep hS) rfl ?_
  try simp only [Act.put, List.setIfInBounds_toArray, List.set_cons_zero, List.set_cons_succ]
  refine Det.det_take (v := ?_) (by rfl) ?_ ?_
  rotate_left
  · (intro w hSw; go_simp; try with_reducible rfl)
  try simp only [Act.put, List.setIfInBounds_toArray, List.set_cons_zero, List.set_cons_succ]
  refine Det.det_take (v := ?_) (by rfl) ?_ ?_
  rotate_left
  · (intro w hSw; go_simp; try with_reducible rfl)
  try simp only [Act.put, List.setIfInBounds_toArray, List.set_cons_zero, List.set_cons_succ]
  refine Det.det_take (v := ?_) (by rfl) ?_ ?_
  rotate_left
  · (intro w hSw; have cc := (Bw_22.keep hSw).cell 0; go_simp; try with_reducible rfl)
  try simp only [Act.put, List.setIfInBounds_toArray, List.set_cons_zero, List.set_cons_succ]
  refine Det.det_load 27 6 _ Try.underlying27 rfl size27 _ rfl (by rfl) _ rfl _ _ (fun w hS => Bm_22.keep hS) rfl ?_
  try simp only [Act.put, List.setIfInBounds_toArray, List.set_cons_zero, List.set_cons_succ]
  refine Det.det_call (f := 23) (args := #[.string s, .agg #[.int .i64 ma, .int .i64 mb, .int .i64 mc, .int .i64 md, .int .i64 mx, .int .i64 my]]) (v := .string u2) (by rfl) ?_ (fun w hS => (R2.out w).mono fun e w' ⟨h1, h2⟩ => ⟨h1, bq_trans hS h2⟩) ?_
  · (intro w hSw; go_simp)
  try simp only [Act.put, List.setIfInBounds_toArray, List.set_cons_zero, List.set_cons_succ]
  refine Det.det_call (f := 21) (args := #[.agg #[.string u2, .int .i64 0], .int .i64 0, .bool true, .string u2]) (v := .bool true) (by rfl) ?_ (fun w hS => (lawput_yes u2 w).mono fun e w' ⟨h1, h2⟩ => ⟨h1, bq_trans hS h2⟩) ?_
  · (intro w hSw; go_simp)
  try simp only [Act.put, List.setIfInBounds_toArray, List.set_cons_zero, List.set_cons_succ]
  refine Det.det_take (v := ?_) (by rfl) ?_ ?_
  rotate_left
  · (intro w hSw; go_simp; try with_reducible rfl)
  try simp only [Act.put, List.setIfInBounds_toArray, List.set_cons_zero, List.set_cons_succ]
  refine Det.det_take (v := ?_) (by rfl) ?_ ?_
  rotate_left
  · (intro w hSw; go_simp; try with_reducible rfl)
  try simp only [Act.put, List.setIfInBounds_toArray, List.set_cons_zero, List.set_cons_succ]
  refine Det.det_take (v := ?_) (by rfl) ?_ ?_
  rotate_left
  · (intro w hSw; go_simp; try with_reducible rfl)
  try simp only [Act.put, List.setIfInBounds_toArray, List.set_cons_zero, List.set_cons_succ]
  refine Det.det_take (v := ?_) (by rfl) ?_ ?_
  rotate_left
  · (intro w hSw; go_simp; try with_reducible rfl)
  try simp only [Act.put, List.setIfInBounds_toArray, List.set_cons_zero, List.set_cons_succ]
  refine Det.det_take (v := ?_) (by rfl) ?_ ?_
  rotate_left
  · (intro w hSw; go_simp; try with_reducible rfl)
  try simp only [Act.put, List.setIfInBounds_toArray, List.set_cons_zero, List.set_cons_succ]
  refine Det.det_take (v := ?_) (by rfl) ?_ ?_
  rotate_left
  · (intro w hSw; go_simp; try with_reducible rfl)
  try simp only [Act.put, List.setIfInBounds_toArray, List.set_cons_zero, List.set_cons_succ]
  refine Det.det_load 23 2 _ Try.underlying23 rfl size23 _ rfl (by rfl) _ rfl _ _ (fun w hS => Bo_22.keep hS) rfl ?_
  try simp only [Act.put, List.setIfInBounds_toArray, List.set_cons_zero, List.set_cons_succ]
  refine Det.det_take (v := ?_) (by rfl) ?_ ?_
  rotate_left
  · (intro w hSw; go_simp; try with_reducible rfl)
  try simp only [Act.put, List.setIfInBounds_toArray, List.set_cons_zero, List.set_cons_succ]
  refine Det.det_take (v := ?_) (by rfl) ?_ ?_
  rotate_left
  · (intro w hSw; go_simp; try with_reducible rfl)
  try simp only [Act.put, List.setIfInBounds_toArray, List.set_cons_zero, List.set_cons_succ]
  refine Det.det_take (v := ?_) (by rfl) ?_ ?_
  rotate_left
  · (intro w hSw; have cc := (Bw_22.keep hSw).cell 0; go_simp; try with_reducible rfl)
  try simp only [Act.put, List.setIfInBounds_toArray, List.set_cons_zero, List.set_cons_succ]
  refine Det.det_load 30 8 _ Try.underlying30 rfl size30 _ rfl (by rfl) _ rfl _ _ (fun w hS => Bc_22.keep hS) rfl ?_
  try simp only [Act.put, List.setIfInBounds_toArray, List.set_cons_zero, List.set_cons_succ]
  refine Det.det_call (f := 24) (args := #[.string s, .agg #[.int .i64 c0, .int .i64 c1, .int .i64 c2, .int .i64 c3, .int .i64 d0, .int .i64 d1, .int .i64 d2, .int .i64 d3]]) (v := .string u3) (by rfl) ?_ (fun w hS => (R3.out w).mono fun e w' ⟨h1, h2⟩ => ⟨h1, bq_trans hS h2⟩) ?_
  · (intro w hSw; go_simp)
  try simp only [Act.put, List.setIfInBounds_toArray, List.set_cons_zero, List.set_cons_succ]
  refine Det.det_call (f := 21) (args := #[.agg #[.string u3, .int .i64 0], .int .i64 0, .bool true, .string u3]) (v := .bool true) (by rfl) ?_ (fun w hS => (lawput_yes u3 w).mono fun e w' ⟨h1, h2⟩ => ⟨h1, bq_trans hS h2⟩) ?_
  · (intro w hSw; go_simp)
  try simp only [Act.put, List.setIfInBounds_toArray, List.set_cons_zero, List.set_cons_succ]
  refine Det.det_take (v := ?_) (by rfl) ?_ ?_
  rotate_left
  · (intro w hSw; go_simp; try with_reducible rfl)
  try simp only [Act.put, List.setIfInBounds_toArray, List.set_cons_zero, List.set_cons_succ]
  refine Det.det_take (v := ?_) (by rfl) ?_ ?_
  rotate_left
  · (intro w hSw; go_simp; try with_reducible rfl)
  try simp only [Act.put, List.setIfInBounds_toArray, List.set_cons_zero, List.set_cons_succ]
  refine Det.det_take (v := ?_) (by rfl) ?_ ?_
  rotate_left
  · (intro w hSw; go_simp; try with_reducible rfl)
  try simp only [Act.put, List.setIfInBounds_toArray, List.set_cons_zero, List.set_cons_succ]
  refine Det.det_take (v := ?_) (by rfl) ?_ ?_
  rotate_left
  · (intro w hSw; go_simp; try with_reducible rfl)
  try simp only [Act.put, List.setIfInBounds_toArray, List.set_cons_zero, List.set_cons_succ]
  refine Det.det_take (v := ?_) (by rfl) ?_ ?_
  rotate_left
  · (intro w hSw; go_simp; try with_reducible rfl)
  try simp only [Act.put, List.setIfInBounds_toArray, List.set_cons_zero, List.set_cons_succ]
  refine Det.det_take (v := ?_) (by rfl) ?_ ?_
  rotate_left
  · (intro w hSw; go_simp; try with_reducible rfl)
  try simp only [Act.put, List.setIfInBounds_toArray, List.set_cons_zero, List.set_cons_succ]
  refine Det.det_load 23 2 _ Try.underlying23 rfl size23 _ rfl (by rfl) _ rfl _ _ (fun w hS => Bz_22.keep hS) rfl ?_
  try simp only [Act.put, List.setIfInBounds_toArray, List.set_cons_zero, List.set_cons_succ]
  refine Det.det_take (v := ?_) (by rfl) ?_ ?_
  rotate_left
  · (intro w hSw; go_simp; try with_reducible rfl)
  try simp only [Act.put, List.setIfInBounds_toArray, List.set_cons_zero, List.set_cons_succ]
  refine Det.det_take (v := ?_) (by rfl) ?_ ?_
  rotate_left
  · (intro w hSw; go_simp; try with_reducible rfl)
  try simp only [Act.put, List.setIfInBounds_toArray, List.set_cons_zero, List.set_cons_succ]
  refine Det.det_take (v := ?_) (by rfl) ?_ ?_
  rotate_left
  · (intro w hSw; have cc := (Bw_22.keep hSw).cell 0; go_simp; try with_reducible rfl)
  try simp only [Act.put, List.setIfInBounds_toArray, List.set_cons_zero, List.set_cons_succ]
  refine Det.det_load 32 4 _ Try.underlying32 rfl size32 _ rfl (by rfl) _ rfl _ _ (fun w hS => Bk_22.keep hS) rfl ?_
  try simp only [Act.put, List.setIfInBounds_toArray, List.set_cons_zero, List.set_cons_succ]
  refine Det.det_call (f := 25) (args := #[.string s, .agg #[.int .i64 k0, .int .i64 k1, .int .i64 k2, .int .i64 k3]]) (v := .string u4) (by rfl) ?_ (fun w hS => (R4.out w).mono fun e w' ⟨h1, h2⟩ => ⟨h1, bq_trans hS h2⟩) ?_
  · (intro w hSw; go_simp)
  try simp only [Act.put, List.setIfInBounds_toArray, List.set_cons_zero, List.set_cons_succ]
  refine Det.det_call (f := 21) (args := #[.agg #[.string u4, .int .i64 0], .int .i64 0, .bool true, .string u4]) (v := .bool true) (by rfl) ?_ (fun w hS => (lawput_yes u4 w).mono fun e w' ⟨h1, h2⟩ => ⟨h1, bq_trans hS h2⟩) ?_
  · (intro w hSw; go_simp)
  try simp only [Act.put, List.setIfInBounds_toArray, List.set_cons_zero, List.set_cons_succ]
  refine Det.det_take (v := ?_) (by rfl) ?_ ?_
  rotate_left
  · (intro w hSw; go_simp; try with_reducible rfl)
  try simp only [Act.put, List.setIfInBounds_toArray, List.set_cons_zero, List.set_cons_succ]
  refine Det.det_take (v := ?_) (by rfl) ?_ ?_
  rotate_left
  · (intro w hSw; go_simp; try with_reducible rfl)
  try simp only [Act.put, List.setIfInBounds_toArray, List.set_cons_zero, List.set_cons_succ]
  refine Det.det_take (v := ?_) (by rfl) ?_ ?_
  rotate_left
  · (intro w hSw; go_simp; try with_reducible rfl)
  try simp only [Act.put, List.setIfInBounds_toArray, List.set_cons_zero, List.set_cons_succ]
  refine Det.det_nil (fun W23 k23 => ?_)
  have Bw_23 := Bw_22.keep k23
  have Br_23 := Br_22.keep k23
  have Bm_23 := Bm_22.keep k23
  have Bc_23 := Bc_22.keep k23
  have Bk_23 := Bk_22.keep k23
  have Bp_23 := Bp_22.keep k23
  have Bq_23 := Bq_22.keep k23
  have Bo_23 := Bo_22.keep k23
  have Bz_23 := Bz_22.keep k23
  have Hw23 := bq_trans Hw22 k23
  clear k23 Bw_22 Br_22 Bm_22 Bc_22 Bk_22 Bp_22 Bq_22 Bo_22 Bz_22 Hw22
  go_wp2_with (first
    | (refine wlg_load 23 2 _ Try.underlying23 rfl size23 _ rfl rfl _ rfl _ _ Bp_23 rfl ?_)
    | (go_at_call 21; (with_reducible refine (lawput_no _).mono ?_); rintro e W24 ⟨rfl, k24⟩; have Bw_24 := Bw_23.keep k24; have Br_24 := Br_23.keep k24; have Bm_24 := Bm_23.keep k24; have Bc_24 := Bc_23.keep k24; have Bk_24 := Bk_23.keep k24; have Bp_24 := Bp_23.keep k24; have Bq_24 := Bq_23.keep k24; have Bo_24 := Bo_23.keep k24; have Bz_24 := Bz_23.keep k24; have Hw24 := bq_trans Hw23 k24; clear k24 Bw_23 Br_23 Bm_23 Bc_23 Bk_23 Bp_23 Bq_23 Bo_23 Bz_23 Hw23)
    | (go_at_call 8; (with_reducible refine (awake_any _).mono ?_); rintro e W25 ⟨rfl, k25⟩; have Bw_25 := Bw_24.keep k25; have Br_25 := Br_24.keep k25; have Bm_25 := Bm_24.keep k25; have Bc_25 := Bc_24.keep k25; have Bk_25 := Bk_24.keep k25; have Bp_25 := Bp_24.keep k25; have Bq_25 := Bq_24.keep k25; have Bo_25 := Bo_24.keep k25; have Bz_25 := Bz_24.keep k25; have Hw25 := bq_trans Hw24 k25; clear k25 Bw_24 Br_24 Bm_24 Bc_24 Bk_24 Bp_24 Bq_24 Bo_24 Bz_24 Hw24))
  go_ret
  exact ⟨rfl, Hw25⟩
set_option maxHeartbeats 8000000 in
theorem fputs_1111 (f l r t b ma mb mc md mx my c0 c1 c2 c3 d0 d1 d2 d3 k0 k1 k2 k3 : Int) (s u1 u2 u3 u4 : ByteArray) (w : World) (hs : s.size ≤ 1024)
    (P1 : Hid (∀ W, Calls Try.prog 9 #[.agg #[.string s, .int .i64 f], .agg #[.int .i64 l, .int .i64 r, .int .i64 t, .int .i64 b]] W fun e w' => e = .returned (.tuple #[.agg #[.string u1, .int .i64 0], .int .i64 0]) ∧ Below W.heap.size W w'))
    (X1 : Hid (∀ W, Calls Try.prog 13 #[.agg #[.int .i64 l, .int .i64 r, .int .i64 t, .int .i64 b]] W fun e w' => e = .returned (.bool true) ∧ Below W.heap.size W w'))
    (Y1 : Hid (∀ W, Calls Try.prog 17 #[.agg #[.int .i64 l, .int .i64 r, .int .i64 t, .int .i64 b]] W fun e w' => e = .returned (.bool true) ∧ Below W.heap.size W w'))
    (R1 : Hid (∀ W, Calls Try.prog 22 #[.string s, .agg #[.int .i64 l, .int .i64 r, .int .i64 t, .int .i64 b]] W fun e w' => e = .returned (.string u1) ∧ Below W.heap.size W w'))
    (P2 : Hid (∀ W, Calls Try.prog 10 #[.agg #[.string s, .int .i64 f], .agg #[.int .i64 ma, .int .i64 mb, .int .i64 mc, .int .i64 md, .int .i64 mx, .int .i64 my]] W fun e w' => e = .returned (.tuple #[.agg #[.string u2, .int .i64 0], .int .i64 0]) ∧ Below W.heap.size W w'))
    (X2 : Hid (∀ W, Calls Try.prog 14 #[.agg #[.int .i64 ma, .int .i64 mb, .int .i64 mc, .int .i64 md, .int .i64 mx, .int .i64 my]] W fun e w' => e = .returned (.bool true) ∧ Below W.heap.size W w'))
    (Y2 : Hid (∀ W, Calls Try.prog 18 #[.agg #[.int .i64 ma, .int .i64 mb, .int .i64 mc, .int .i64 md, .int .i64 mx, .int .i64 my]] W fun e w' => e = .returned (.bool true) ∧ Below W.heap.size W w'))
    (R2 : Hid (∀ W, Calls Try.prog 23 #[.string s, .agg #[.int .i64 ma, .int .i64 mb, .int .i64 mc, .int .i64 md, .int .i64 mx, .int .i64 my]] W fun e w' => e = .returned (.string u2) ∧ Below W.heap.size W w'))
    (P3 : Hid (∀ W, Calls Try.prog 11 #[.agg #[.string s, .int .i64 f], .agg #[.int .i64 c0, .int .i64 c1, .int .i64 c2, .int .i64 c3, .int .i64 d0, .int .i64 d1, .int .i64 d2, .int .i64 d3]] W fun e w' => e = .returned (.tuple #[.agg #[.string u3, .int .i64 0], .int .i64 0]) ∧ Below W.heap.size W w'))
    (X3 : Hid (∀ W, Calls Try.prog 15 #[.agg #[.int .i64 c0, .int .i64 c1, .int .i64 c2, .int .i64 c3, .int .i64 d0, .int .i64 d1, .int .i64 d2, .int .i64 d3]] W fun e w' => e = .returned (.bool true) ∧ Below W.heap.size W w'))
    (Y3 : Hid (∀ W, Calls Try.prog 19 #[.agg #[.int .i64 c0, .int .i64 c1, .int .i64 c2, .int .i64 c3, .int .i64 d0, .int .i64 d1, .int .i64 d2, .int .i64 d3]] W fun e w' => e = .returned (.bool true) ∧ Below W.heap.size W w'))
    (R3 : Hid (∀ W, Calls Try.prog 24 #[.string s, .agg #[.int .i64 c0, .int .i64 c1, .int .i64 c2, .int .i64 c3, .int .i64 d0, .int .i64 d1, .int .i64 d2, .int .i64 d3]] W fun e w' => e = .returned (.string u3) ∧ Below W.heap.size W w'))
    (P4 : Hid (∀ W, Calls Try.prog 12 #[.agg #[.string s, .int .i64 f], .agg #[.int .i64 k0, .int .i64 k1, .int .i64 k2, .int .i64 k3]] W fun e w' => e = .returned (.tuple #[.agg #[.string u4, .int .i64 0], .int .i64 0]) ∧ Below W.heap.size W w'))
    (X4 : Hid (∀ W, Calls Try.prog 16 #[.agg #[.int .i64 k0, .int .i64 k1, .int .i64 k2, .int .i64 k3]] W fun e w' => e = .returned (.bool true) ∧ Below W.heap.size W w'))
    (Y4 : Hid (∀ W, Calls Try.prog 20 #[.agg #[.int .i64 k0, .int .i64 k1, .int .i64 k2, .int .i64 k3]] W fun e w' => e = .returned (.bool true) ∧ Below W.heap.size W w'))
    (R4 : Hid (∀ W, Calls Try.prog 25 #[.string s, .agg #[.int .i64 k0, .int .i64 k1, .int .i64 k2, .int .i64 k3]] W fun e w' => e = .returned (.string u4) ∧ Below W.heap.size W w'))
    : Calls Try.prog 3 #[.agg #[.string s, .int .i64 f], .agg #[.int .i64 l, .int .i64 r, .int .i64 t, .int .i64 b], .agg #[.int .i64 ma, .int .i64 mb, .int .i64 mc, .int .i64 md, .int .i64 mx, .int .i64 my], .agg #[.int .i64 c0, .int .i64 c1, .int .i64 c2, .int .i64 c3, .int .i64 d0, .int .i64 d1, .int .i64 d2, .int .i64 d3], .agg #[.int .i64 k0, .int .i64 k1, .int .i64 k2, .int .i64 k3]] w fun e w' => e = .returned (.bool true) ∧ Below w.heap.size w w' := by
  go_enter Try.func3, Try.ntmps3
  go_upto_region 7 with (go_big_may; first
    | (refine wl_box 23 _ _ rfl rfl (show _ = Value.agg #[.string s, .int .i64 f] from rfl) ?_; intro W1 bw Bw_1 l1 k1; have gw : w.heap.size ≤ bw := l1; have Hw1 := k1; clear l1 k1)
    | (refine wl_box 25 _ _ rfl rfl (show _ = Value.agg #[.int .i64 l, .int .i64 r, .int .i64 t, .int .i64 b] from rfl) ?_; intro W2 br Br_2 l2 k2; have gr : w.heap.size ≤ br := Nat.le_trans Hw1.size l2; have nwr : bw ≠ br := Nat.ne_of_lt (Nat.lt_of_lt_of_le Bw_1.lt l2); have Bw_2 := Bw_1.keep k2; have Hw2 := bq_trans Hw1 k2; clear l2 k2 Bw_1 Hw1)
    | (refine wl_box 27 _ _ rfl rfl (show _ = Value.agg #[.int .i64 ma, .int .i64 mb, .int .i64 mc, .int .i64 md, .int .i64 mx, .int .i64 my] from rfl) ?_; intro W3 bm Bm_3 l3 k3; have gm : w.heap.size ≤ bm := Nat.le_trans Hw2.size l3; have nwm : bw ≠ bm := Nat.ne_of_lt (Nat.lt_of_lt_of_le Bw_2.lt l3); have nrm : br ≠ bm := Nat.ne_of_lt (Nat.lt_of_lt_of_le Br_2.lt l3); have Bw_3 := Bw_2.keep k3; have Br_3 := Br_2.keep k3; have Hw3 := bq_trans Hw2 k3; clear l3 k3 Bw_2 Br_2 Hw2)
    | (refine wl_box 30 _ _ rfl rfl (show _ = Value.agg #[.int .i64 c0, .int .i64 c1, .int .i64 c2, .int .i64 c3, .int .i64 d0, .int .i64 d1, .int .i64 d2, .int .i64 d3] from rfl) ?_; intro W4 bc Bc_4 l4 k4; have gc : w.heap.size ≤ bc := Nat.le_trans Hw3.size l4; have nwc : bw ≠ bc := Nat.ne_of_lt (Nat.lt_of_lt_of_le Bw_3.lt l4); have nrc : br ≠ bc := Nat.ne_of_lt (Nat.lt_of_lt_of_le Br_3.lt l4); have nmc : bm ≠ bc := Nat.ne_of_lt (Nat.lt_of_lt_of_le Bm_3.lt l4); have Bw_4 := Bw_3.keep k4; have Br_4 := Br_3.keep k4; have Bm_4 := Bm_3.keep k4; have Hw4 := bq_trans Hw3 k4; clear l4 k4 Bw_3 Br_3 Bm_3 Hw3)
    | (refine wl_box 32 _ _ rfl rfl (show _ = Value.agg #[.int .i64 k0, .int .i64 k1, .int .i64 k2, .int .i64 k3] from rfl) ?_; intro W5 bk Bk_5 l5 k5; have gk : w.heap.size ≤ bk := Nat.le_trans Hw4.size l5; have nwk : bw ≠ bk := Nat.ne_of_lt (Nat.lt_of_lt_of_le Bw_4.lt l5); have nrk : br ≠ bk := Nat.ne_of_lt (Nat.lt_of_lt_of_le Br_4.lt l5); have nmk : bm ≠ bk := Nat.ne_of_lt (Nat.lt_of_lt_of_le Bm_4.lt l5); have nck : bc ≠ bk := Nat.ne_of_lt (Nat.lt_of_lt_of_le Bc_4.lt l5); have Bw_5 := Bw_4.keep k5; have Br_5 := Br_4.keep k5; have Bm_5 := Bm_4.keep k5; have Bc_5 := Bc_4.keep k5; have Hw5 := bq_trans Hw4 k5; clear l5 k5 Bw_4 Br_4 Bm_4 Bc_4 Hw4; have cw_0_5 : W5.cell? ⟨bw, 0, none⟩ = some (.string s) := Bw_5.cell 0)
    | (refine wl_load 23 2 _ Try.underlying23 rfl size23 _ rfl rfl _ rfl _ _ Bw_5 rfl ?_)
    | (refine wl_load 25 4 _ Try.underlying25 rfl size25 _ rfl rfl _ rfl _ _ Br_5 rfl ?_)
    | (go_at_call 9; (with_reducible refine (P1.out _).mono ?_); rintro e W6 ⟨rfl, k6⟩; have Bw_6 := Bw_5.keep k6; have Br_6 := Br_5.keep k6; have Bm_6 := Bm_5.keep k6; have Bc_6 := Bc_5.keep k6; have Bk_6 := Bk_5.keep k6; have Hw6 := bq_trans Hw5 k6; clear k6 Bw_5 Br_5 Bm_5 Bc_5 Bk_5 cw_0_5 Hw5)
    | (refine wl_alloc 23 _ zero23 rfl rfl ?_; intro W7 bp Bp_7 l7 k7; have gp : w.heap.size ≤ bp := Nat.le_trans Hw6.size l7; have nwp : bw ≠ bp := Nat.ne_of_lt (Nat.lt_of_lt_of_le Bw_6.lt l7); have nrp : br ≠ bp := Nat.ne_of_lt (Nat.lt_of_lt_of_le Br_6.lt l7); have nmp : bm ≠ bp := Nat.ne_of_lt (Nat.lt_of_lt_of_le Bm_6.lt l7); have ncp : bc ≠ bp := Nat.ne_of_lt (Nat.lt_of_lt_of_le Bc_6.lt l7); have nkp : bk ≠ bp := Nat.ne_of_lt (Nat.lt_of_lt_of_le Bk_6.lt l7); have Bw_7 := Bw_6.keep k7; have Br_7 := Br_6.keep k7; have Bm_7 := Bm_6.keep k7; have Bc_7 := Bc_6.keep k7; have Bk_7 := Bk_6.keep k7; have Hw7 := bq_trans Hw6 k7; clear l7 k7 Bw_6 Br_6 Bm_6 Bc_6 Bk_6 Hw6)
    | (refine wl_store 23 2 size23 _ _ rfl rfl _ rfl _ rfl _ _ Bp_7 rfl rfl (by kernel_rfl) ?_; intro W8 Bp_8 T8; have Bw_8 := T8.blk Bw_7 nwp; have Br_8 := T8.blk Br_7 nrp; have Bm_8 := T8.blk Bm_7 nmp; have Bc_8 := T8.blk Bc_7 ncp; have Bk_8 := T8.blk Bk_7 nkp; have Hw8 := T8.below Hw7 gp; clear T8 Bw_7 Br_7 Bm_7 Bc_7 Bk_7 Bp_7 Hw7)
    | (refine wl_load 23 2 _ Try.underlying23 rfl size23 _ rfl rfl _ rfl _ _ Bw_8 rfl ?_)
    | (refine wl_load 27 6 _ Try.underlying27 rfl size27 _ rfl rfl _ rfl _ _ Bm_8 rfl ?_)
    | (go_at_call 10; (with_reducible refine (P2.out _).mono ?_); rintro e W9 ⟨rfl, k9⟩; have Bw_9 := Bw_8.keep k9; have Br_9 := Br_8.keep k9; have Bm_9 := Bm_8.keep k9; have Bc_9 := Bc_8.keep k9; have Bk_9 := Bk_8.keep k9; have Bp_9 := Bp_8.keep k9; have Hw9 := bq_trans Hw8 k9; clear k9 Bw_8 Br_8 Bm_8 Bc_8 Bk_8 Bp_8 Hw8)
    | (refine wl_alloc 23 _ zero23 rfl rfl ?_; intro W10 bq Bq_10 l10 k10; have gq : w.heap.size ≤ bq := Nat.le_trans Hw9.size l10; have nwq : bw ≠ bq := Nat.ne_of_lt (Nat.lt_of_lt_of_le Bw_9.lt l10); have nrq : br ≠ bq := Nat.ne_of_lt (Nat.lt_of_lt_of_le Br_9.lt l10); have nmq : bm ≠ bq := Nat.ne_of_lt (Nat.lt_of_lt_of_le Bm_9.lt l10); have ncq : bc ≠ bq := Nat.ne_of_lt (Nat.lt_of_lt_of_le Bc_9.lt l10); have nkq : bk ≠ bq := Nat.ne_of_lt (Nat.lt_of_lt_of_le Bk_9.lt l10); have npq : bp ≠ bq := Nat.ne_of_lt (Nat.lt_of_lt_of_le Bp_9.lt l10); have Bw_10 := Bw_9.keep k10; have Br_10 := Br_9.keep k10; have Bm_10 := Bm_9.keep k10; have Bc_10 := Bc_9.keep k10; have Bk_10 := Bk_9.keep k10; have Bp_10 := Bp_9.keep k10; have Hw10 := bq_trans Hw9 k10; clear l10 k10 Bw_9 Br_9 Bm_9 Bc_9 Bk_9 Bp_9 Hw9)
    | (refine wl_store 23 2 size23 _ _ rfl rfl _ rfl _ rfl _ _ Bq_10 rfl rfl (by kernel_rfl) ?_; intro W11 Bq_11 T11; have Bw_11 := T11.blk Bw_10 nwq; have Br_11 := T11.blk Br_10 nrq; have Bm_11 := T11.blk Bm_10 nmq; have Bc_11 := T11.blk Bc_10 ncq; have Bk_11 := T11.blk Bk_10 nkq; have Bp_11 := T11.blk Bp_10 npq; have Hw11 := T11.below Hw10 gq; clear T11 Bw_10 Br_10 Bm_10 Bc_10 Bk_10 Bp_10 Bq_10 Hw10)
    | (refine wl_load 23 2 _ Try.underlying23 rfl size23 _ rfl rfl _ rfl _ _ Bw_11 rfl ?_)
    | (refine wl_load 30 8 _ Try.underlying30 rfl size30 _ rfl rfl _ rfl _ _ Bc_11 rfl ?_)
    | (go_at_call 11; (with_reducible refine (P3.out _).mono ?_); rintro e W12 ⟨rfl, k12⟩; have Bw_12 := Bw_11.keep k12; have Br_12 := Br_11.keep k12; have Bm_12 := Bm_11.keep k12; have Bc_12 := Bc_11.keep k12; have Bk_12 := Bk_11.keep k12; have Bp_12 := Bp_11.keep k12; have Bq_12 := Bq_11.keep k12; have Hw12 := bq_trans Hw11 k12; clear k12 Bw_11 Br_11 Bm_11 Bc_11 Bk_11 Bp_11 Bq_11 Hw11)
    | (refine wl_alloc 23 _ zero23 rfl rfl ?_; intro W13 bo Bo_13 l13 k13; have go : w.heap.size ≤ bo := Nat.le_trans Hw12.size l13; have nwo : bw ≠ bo := Nat.ne_of_lt (Nat.lt_of_lt_of_le Bw_12.lt l13); have nro : br ≠ bo := Nat.ne_of_lt (Nat.lt_of_lt_of_le Br_12.lt l13); have nmo : bm ≠ bo := Nat.ne_of_lt (Nat.lt_of_lt_of_le Bm_12.lt l13); have nco : bc ≠ bo := Nat.ne_of_lt (Nat.lt_of_lt_of_le Bc_12.lt l13); have nko : bk ≠ bo := Nat.ne_of_lt (Nat.lt_of_lt_of_le Bk_12.lt l13); have npo : bp ≠ bo := Nat.ne_of_lt (Nat.lt_of_lt_of_le Bp_12.lt l13); have nqo : bq ≠ bo := Nat.ne_of_lt (Nat.lt_of_lt_of_le Bq_12.lt l13); have Bw_13 := Bw_12.keep k13; have Br_13 := Br_12.keep k13; have Bm_13 := Bm_12.keep k13; have Bc_13 := Bc_12.keep k13; have Bk_13 := Bk_12.keep k13; have Bp_13 := Bp_12.keep k13; have Bq_13 := Bq_12.keep k13; have Hw13 := bq_trans Hw12 k13; clear l13 k13 Bw_12 Br_12 Bm_12 Bc_12 Bk_12 Bp_12 Bq_12 Hw12)
    | (refine wl_store 23 2 size23 _ _ rfl rfl _ rfl _ rfl _ _ Bo_13 rfl rfl (by kernel_rfl) ?_; intro W14 Bo_14 T14; have Bw_14 := T14.blk Bw_13 nwo; have Br_14 := T14.blk Br_13 nro; have Bm_14 := T14.blk Bm_13 nmo; have Bc_14 := T14.blk Bc_13 nco; have Bk_14 := T14.blk Bk_13 nko; have Bp_14 := T14.blk Bp_13 npo; have Bq_14 := T14.blk Bq_13 nqo; have Hw14 := T14.below Hw13 go; clear T14 Bw_13 Br_13 Bm_13 Bc_13 Bk_13 Bp_13 Bq_13 Bo_13 Hw13)
    | (refine wl_load 23 2 _ Try.underlying23 rfl size23 _ rfl rfl _ rfl _ _ Bw_14 rfl ?_)
    | (refine wl_load 32 4 _ Try.underlying32 rfl size32 _ rfl rfl _ rfl _ _ Bk_14 rfl ?_)
    | (go_at_call 12; (with_reducible refine (P4.out _).mono ?_); rintro e W15 ⟨rfl, k15⟩; have Bw_15 := Bw_14.keep k15; have Br_15 := Br_14.keep k15; have Bm_15 := Bm_14.keep k15; have Bc_15 := Bc_14.keep k15; have Bk_15 := Bk_14.keep k15; have Bp_15 := Bp_14.keep k15; have Bq_15 := Bq_14.keep k15; have Bo_15 := Bo_14.keep k15; have Hw15 := bq_trans Hw14 k15; clear k15 Bw_14 Br_14 Bm_14 Bc_14 Bk_14 Bp_14 Bq_14 Bo_14 Hw14)
    | (refine wl_alloc 23 _ zero23 rfl rfl ?_; intro W16 bz Bz_16 l16 k16; have gz : w.heap.size ≤ bz := Nat.le_trans Hw15.size l16; have nwz : bw ≠ bz := Nat.ne_of_lt (Nat.lt_of_lt_of_le Bw_15.lt l16); have nrz : br ≠ bz := Nat.ne_of_lt (Nat.lt_of_lt_of_le Br_15.lt l16); have nmz : bm ≠ bz := Nat.ne_of_lt (Nat.lt_of_lt_of_le Bm_15.lt l16); have ncz : bc ≠ bz := Nat.ne_of_lt (Nat.lt_of_lt_of_le Bc_15.lt l16); have nkz : bk ≠ bz := Nat.ne_of_lt (Nat.lt_of_lt_of_le Bk_15.lt l16); have npz : bp ≠ bz := Nat.ne_of_lt (Nat.lt_of_lt_of_le Bp_15.lt l16); have nqz : bq ≠ bz := Nat.ne_of_lt (Nat.lt_of_lt_of_le Bq_15.lt l16); have noz : bo ≠ bz := Nat.ne_of_lt (Nat.lt_of_lt_of_le Bo_15.lt l16); have Bw_16 := Bw_15.keep k16; have Br_16 := Br_15.keep k16; have Bm_16 := Bm_15.keep k16; have Bc_16 := Bc_15.keep k16; have Bk_16 := Bk_15.keep k16; have Bp_16 := Bp_15.keep k16; have Bq_16 := Bq_15.keep k16; have Bo_16 := Bo_15.keep k16; have Hw16 := bq_trans Hw15 k16; clear l16 k16 Bw_15 Br_15 Bm_15 Bc_15 Bk_15 Bp_15 Bq_15 Bo_15 Hw15)
    | (refine wl_store 23 2 size23 _ _ rfl rfl _ rfl _ rfl _ _ Bz_16 rfl rfl (by kernel_rfl) ?_; intro W17 Bz_17 T17; have Bw_17 := T17.blk Bw_16 nwz; have Br_17 := T17.blk Br_16 nrz; have Bm_17 := T17.blk Bm_16 nmz; have Bc_17 := T17.blk Bc_16 ncz; have Bk_17 := T17.blk Bk_16 nkz; have Bp_17 := T17.blk Bp_16 npz; have Bq_17 := T17.blk Bq_16 nqz; have Bo_17 := T17.blk Bo_16 noz; have Hw17 := T17.below Hw16 gz; clear T17 Bw_16 Br_16 Bm_16 Bc_16 Bk_16 Bp_16 Bq_16 Bo_16 Bz_16 Hw16))
  refine Det.wp_region_det (S := fun w' => Below W17.heap.size W17 w') (by kernel_rfl) (by kernel_rfl) (bq_drew (bq_refl _)) ?_
  refine Det.det_load 25 4 _ Try.underlying25 rfl size25 _ rfl (by rfl) _ rfl _ _ (fun w hS => Br_17.keep hS) rfl ?_
  try simp only [Act.put, List.setIfInBounds_toArray, List.set_cons_zero, List.set_cons_succ]
  refine Det.det_call (f := 13) (args := #[.agg #[.int .i64 l, .int .i64 r, .int .i64 t, .int .i64 b]]) (v := .bool true) (by rfl) ?_ (fun w hS => (X1.out w).mono fun e w' ⟨h1, h2⟩ => ⟨h1, bq_trans hS h2⟩) ?_
  · (intro w hSw; go_simp)
  try simp only [Act.put, List.setIfInBounds_toArray, List.set_cons_zero, List.set_cons_succ]
  refine Det.det_load 27 6 _ Try.underlying27 rfl size27 _ rfl (by rfl) _ rfl _ _ (fun w hS => Bm_17.keep hS) rfl ?_
  try simp only [Act.put, List.setIfInBounds_toArray, List.set_cons_zero, List.set_cons_succ]
  refine Det.det_call (f := 14) (args := #[.agg #[.int .i64 ma, .int .i64 mb, .int .i64 mc, .int .i64 md, .int .i64 mx, .int .i64 my]]) (v := .bool true) (by rfl) ?_ (fun w hS => (X2.out w).mono fun e w' ⟨h1, h2⟩ => ⟨h1, bq_trans hS h2⟩) ?_
  · (intro w hSw; go_simp)
  try simp only [Act.put, List.setIfInBounds_toArray, List.set_cons_zero, List.set_cons_succ]
  refine Det.det_load 30 8 _ Try.underlying30 rfl size30 _ rfl (by rfl) _ rfl _ _ (fun w hS => Bc_17.keep hS) rfl ?_
  try simp only [Act.put, List.setIfInBounds_toArray, List.set_cons_zero, List.set_cons_succ]
  refine Det.det_call (f := 15) (args := #[.agg #[.int .i64 c0, .int .i64 c1, .int .i64 c2, .int .i64 c3, .int .i64 d0, .int .i64 d1, .int .i64 d2, .int .i64 d3]]) (v := .bool true) (by rfl) ?_ (fun w hS => (X3.out w).mono fun e w' ⟨h1, h2⟩ => ⟨h1, bq_trans hS h2⟩) ?_
  · (intro w hSw; go_simp)
  try simp only [Act.put, List.setIfInBounds_toArray, List.set_cons_zero, List.set_cons_succ]
  refine Det.det_load 32 4 _ Try.underlying32 rfl size32 _ rfl (by rfl) _ rfl _ _ (fun w hS => Bk_17.keep hS) rfl ?_
  try simp only [Act.put, List.setIfInBounds_toArray, List.set_cons_zero, List.set_cons_succ]
  refine Det.det_call (f := 16) (args := #[.agg #[.int .i64 k0, .int .i64 k1, .int .i64 k2, .int .i64 k3]]) (v := .bool true) (by rfl) ?_ (fun w hS => (X4.out w).mono fun e w' ⟨h1, h2⟩ => ⟨h1, bq_trans hS h2⟩) ?_
  · (intro w hSw; go_simp)
  try simp only [Act.put, List.setIfInBounds_toArray, List.set_cons_zero, List.set_cons_succ]
  refine Det.det_take (v := ?_) (by rfl) ?_ ?_
  rotate_left
  · (intro w hSw; go_simp; try with_reducible rfl)
  try simp only [Act.put, List.setIfInBounds_toArray, List.set_cons_zero, List.set_cons_succ]
  refine Det.det_take (v := ?_) (by rfl) ?_ ?_
  rotate_left
  · (intro w hSw; go_simp; try with_reducible rfl)
  try simp only [Act.put, List.setIfInBounds_toArray, List.set_cons_zero, List.set_cons_succ]
  refine Det.det_take (v := ?_) (by rfl) ?_ ?_
  rotate_left
  · (intro w hSw; go_simp; try with_reducible rfl)
  try simp only [Act.put, List.setIfInBounds_toArray, List.set_cons_zero, List.set_cons_succ]
  refine Det.det_take (v := ?_) (by rfl) ?_ ?_
  rotate_left
  · (intro w hSw; go_simp; try with_reducible rfl)
  try simp only [Act.put, List.setIfInBounds_toArray, List.set_cons_zero, List.set_cons_succ]
  refine Det.det_nil (fun W18 k18 => ?_)
  have Bw_18 := Bw_17.keep k18
  have Br_18 := Br_17.keep k18
  have Bm_18 := Bm_17.keep k18
  have Bc_18 := Bc_17.keep k18
  have Bk_18 := Bk_17.keep k18
  have Bp_18 := Bp_17.keep k18
  have Bq_18 := Bq_17.keep k18
  have Bo_18 := Bo_17.keep k18
  have Bz_18 := Bz_17.keep k18
  have Hw18 := bq_trans Hw17 k18
  clear k18 Bw_17 Br_17 Bm_17 Bc_17 Bk_17 Bp_17 Bq_17 Bo_17 Bz_17 Hw17
  go_upto_region 10 with (go_big_may; first
    | (refine wl_load 25 4 _ Try.underlying25 rfl size25 _ rfl rfl _ rfl _ _ Br_18 rfl ?_)
    | (go_at_call 17; (with_reducible refine (Y1.out _).mono ?_); rintro e W19 ⟨rfl, k19⟩; have Bw_19 := Bw_18.keep k19; have Br_19 := Br_18.keep k19; have Bm_19 := Bm_18.keep k19; have Bc_19 := Bc_18.keep k19; have Bk_19 := Bk_18.keep k19; have Bp_19 := Bp_18.keep k19; have Bq_19 := Bq_18.keep k19; have Bo_19 := Bo_18.keep k19; have Bz_19 := Bz_18.keep k19; have Hw19 := bq_trans Hw18 k19; clear k19 Bw_18 Br_18 Bm_18 Bc_18 Bk_18 Bp_18 Bq_18 Bo_18 Bz_18 Hw18)
    | (refine wlg_load 27 6 _ Try.underlying27 rfl size27 _ rfl rfl _ rfl _ _ Bm_19 rfl ?_)
    | (go_at_call 18; (with_reducible refine (Y2.out _).mono ?_); rintro e W20 ⟨rfl, k20⟩; have Bw_20 := Bw_19.keep k20; have Br_20 := Br_19.keep k20; have Bm_20 := Bm_19.keep k20; have Bc_20 := Bc_19.keep k20; have Bk_20 := Bk_19.keep k20; have Bp_20 := Bp_19.keep k20; have Bq_20 := Bq_19.keep k20; have Bo_20 := Bo_19.keep k20; have Bz_20 := Bz_19.keep k20; have Hw20 := bq_trans Hw19 k20; clear k20 Bw_19 Br_19 Bm_19 Bc_19 Bk_19 Bp_19 Bq_19 Bo_19 Bz_19 Hw19)
    | (refine wlg_load 30 8 _ Try.underlying30 rfl size30 _ rfl rfl _ rfl _ _ Bc_20 rfl ?_)
    | (go_at_call 19; (with_reducible refine (Y3.out _).mono ?_); rintro e W21 ⟨rfl, k21⟩; have Bw_21 := Bw_20.keep k21; have Br_21 := Br_20.keep k21; have Bm_21 := Bm_20.keep k21; have Bc_21 := Bc_20.keep k21; have Bk_21 := Bk_20.keep k21; have Bp_21 := Bp_20.keep k21; have Bq_21 := Bq_20.keep k21; have Bo_21 := Bo_20.keep k21; have Bz_21 := Bz_20.keep k21; have Hw21 := bq_trans Hw20 k21; clear k21 Bw_20 Br_20 Bm_20 Bc_20 Bk_20 Bp_20 Bq_20 Bo_20 Bz_20 Hw20)
    | (refine wlg_load 32 4 _ Try.underlying32 rfl size32 _ rfl rfl _ rfl _ _ Bk_21 rfl ?_)
    | (go_at_call 20; (with_reducible refine (Y4.out _).mono ?_); rintro e W22 ⟨rfl, k22⟩; have Bw_22 := Bw_21.keep k22; have Br_22 := Br_21.keep k22; have Bm_22 := Bm_21.keep k22; have Bc_22 := Bc_21.keep k22; have Bk_22 := Bk_21.keep k22; have Bp_22 := Bp_21.keep k22; have Bq_22 := Bq_21.keep k22; have Bo_22 := Bo_21.keep k22; have Bz_22 := Bz_21.keep k22; have Hw22 := bq_trans Hw21 k22; clear k22 Bw_21 Br_21 Bm_21 Bc_21 Bk_21 Bp_21 Bq_21 Bo_21 Bz_21 Hw21))
  refine Det.wp_region_det (S := fun w' => Below W22.heap.size W22 w') (by kernel_rfl) (by kernel_rfl) (bq_drew (bq_refl _)) ?_
  refine Det.det_take (v := ?_) (by rfl) ?_ ?_
  rotate_left
  · (intro w hSw; go_simp; try with_reducible rfl)
  try simp only [Act.put, List.setIfInBounds_toArray, List.set_cons_zero, List.set_cons_succ]
  refine Det.det_take (v := ?_) (by rfl) ?_ ?_
  rotate_left
  · (intro w hSw; go_simp; try with_reducible rfl)
  try simp only [Act.put, List.setIfInBounds_toArray, List.set_cons_zero, List.set_cons_succ]
  refine Det.det_load 23 2 _ Try.underlying23 rfl size23 _ rfl (by rfl) _ rfl _ _ (fun w hS => Bp_22.keep hS) rfl ?_
  try simp only [Act.put, List.setIfInBounds_toArray, List.set_cons_zero, List.set_cons_succ]
  refine Det.det_take (v := ?_) (by rfl) ?_ ?_
  rotate_left
  · (intro w hSw; go_simp; try with_reducible rfl)
  try simp only [Act.put, List.setIfInBounds_toArray, List.set_cons_zero, List.set_cons_succ]
  refine Det.det_take (v := ?_) (by rfl) ?_ ?_
  rotate_left
  · (intro w hSw; go_simp; try with_reducible rfl)
  try simp only [Act.put, List.setIfInBounds_toArray, List.set_cons_zero, List.set_cons_succ]
  refine Det.det_take (v := ?_) (by rfl) ?_ ?_
  rotate_left
  · (intro w hSw; have cc := (Bw_22.keep hSw).cell 0; go_simp; try with_reducible rfl)
  try simp only [Act.put, List.setIfInBounds_toArray, List.set_cons_zero, List.set_cons_succ]
  refine Det.det_load 25 4 _ Try.underlying25 rfl size25 _ rfl (by rfl) _ rfl _ _ (fun w hS => Br_22.keep hS) rfl ?_
  try simp only [Act.put, List.setIfInBounds_toArray, List.set_cons_zero, List.set_cons_succ]
  refine Det.det_call (f := 22) (args := #[.string s, .agg #[.int .i64 l, .int .i64 r, .int .i64 t, .int .i64 b]]) (v := .string u1) (by rfl) ?_ (fun w hS => (R1.out w).mono fun e w' ⟨h1, h2⟩ => ⟨h1, bq_trans hS h2⟩) ?_
  · (intro w hSw; go_simp)
  try simp only [Act.put, List.setIfInBounds_toArray, List.set_cons_zero, List.set_cons_succ]
  refine Det.det_call (f := 21) (args := #[.agg #[.string u1, .int .i64 0], .int .i64 0, .bool true, .string u1]) (v := .bool true) (by rfl) ?_ (fun w hS => (lawput_yes u1 w).mono fun e w' ⟨h1, h2⟩ => ⟨h1, bq_trans hS h2⟩) ?_
  · (intro w hSw; go_simp)
  try simp only [Act.put, List.setIfInBounds_toArray, List.set_cons_zero, List.set_cons_succ]
  refine Det.det_take (v := ?_) (by rfl) ?_ ?_
  rotate_left
  · (intro w hSw; go_simp; try with_reducible rfl)
  try simp only [Act.put, List.setIfInBounds_toArray, List.set_cons_zero, List.set_cons_succ]
  refine Det.det_take (v := ?_) (by rfl) ?_ ?_
  rotate_left
  · (intro w hSw; go_simp; try with_reducible rfl)
  try simp only [Act.put, List.setIfInBounds_toArray, List.set_cons_zero, List.set_cons_succ]
  refine Det.det_take (v := ?_) (by rfl) ?_ ?_
  rotate_left
  · (intro w hSw; go_simp; try with_reducible rfl)
  try simp only [Act.put, List.setIfInBounds_toArray, List.set_cons_zero, List.set_cons_succ]
  refine Det.det_take (v := ?_) (by rfl) ?_ ?_
  rotate_left
  · (intro w hSw; go_simp; try with_reducible rfl)
  try simp only [Act.put, List.setIfInBounds_toArray, List.set_cons_zero, List.set_cons_succ]
  refine Det.det_take (v := ?_) (by rfl) ?_ ?_
  rotate_left
  · (intro w hSw; go_simp; try with_reducible rfl)
  try simp only [Act.put, List.setIfInBounds_toArray, List.set_cons_zero, List.set_cons_succ]
  refine Det.det_load 23 2 _ Try.underlying23 rfl size23 _ rfl (by rfl) _ rfl _ _ (fun w hS => Bq_22.keep hS) rfl ?_
  try simp only [Act.put, List.setIfInBounds_toArray, List.set_cons_zero, List.set_cons_succ]
  refine Det.det_take (v := ?_) (by rfl) ?_ ?_
  rotate_left
  · (intro w hSw; go_simp; try with_reducible rfl)
  try simp only [Act.put, List.setIfInBounds_toArray, List.set_cons_zero, List.set_cons_succ]
  refine Det.det_take (v := ?_) (by rfl) ?_ ?_
  rotate_left
  · (intro w hSw; go_simp; try with_reducible rfl)
  try simp only [Act.put, List.setIfInBounds_toArray, List.set_cons_zero, List.set_cons_succ]
  refine Det.det_take (v := ?_) (by rfl) ?_ ?_
  rotate_left
  · (intro w hSw; have cc := (Bw_22.keep hSw).cell 0; go_simp; try with_reducible rfl)
  try simp only [Act.put, List.setIfInBounds_toArray, List.set_cons_zero, List.set_cons_succ]
  refine Det.det_load 27 6 _ Try.underlying27 rfl size27 _ rfl (by rfl) _ rfl _ _ (fun w hS => Bm_22.keep hS) rfl ?_
  try simp only [Act.put, List.setIfInBounds_toArray, List.set_cons_zero, List.set_cons_succ]
  refine Det.det_call (f := 23) (args := #[.string s, .agg #[.int .i64 ma, .int .i64 mb, .int .i64 mc, .int .i64 md, .int .i64 mx, .int .i64 my]]) (v := .string u2) (by rfl) ?_ (fun w hS => (R2.out w).mono fun e w' ⟨h1, h2⟩ => ⟨h1, bq_trans hS h2⟩) ?_
  · (intro w hSw; go_simp)
  try simp only [Act.put, List.setIfInBounds_toArray, List.set_cons_zero, List.set_cons_succ]
  refine Det.det_call (f := 21) (args := #[.agg #[.string u2, .int .i64 0], .int .i64 0, .bool true, .string u2]) (v := .bool true) (by rfl) ?_ (fun w hS => (lawput_yes u2 w).mono fun e w' ⟨h1, h2⟩ => ⟨h1, bq_trans hS h2⟩) ?_
  · (intro w hSw; go_simp)
  try simp only [Act.put, List.setIfInBounds_toArray, List.set_cons_zero, List.set_cons_succ]
  refine Det.det_take (v := ?_) (by rfl) ?_ ?_
  rotate_left
  · (intro w hSw; go_simp; try with_reducible rfl)
  try simp only [Act.put, List.setIfInBounds_toArray, List.set_cons_zero, List.set_cons_succ]
  refine Det.det_take (v := ?_) (by rfl) ?_ ?_
  rotate_left
  · (intro w hSw; go_simp; try with_reducible rfl)
  try simp only [Act.put, List.setIfInBounds_toArray, List.set_cons_zero, List.set_cons_succ]
  refine Det.det_take (v := ?_) (by rfl) ?_ ?_
  rotate_left
  · (intro w hSw; go_simp; try with_reducible rfl)
  try simp only [Act.put, List.setIfInBounds_toArray, List.set_cons_zero, List.set_cons_succ]
  refine Det.det_take (v := ?_) (by rfl) ?_ ?_
  rotate_left
  · (intro w hSw; go_simp; try with_reducible rfl)
  try simp only [Act.put, List.setIfInBounds_toArray, List.set_cons_zero, List.set_cons_succ]
  refine Det.det_take (v := ?_) (by rfl) ?_ ?_
  rotate_left
  · (intro w hSw; go_simp; try with_reducible rfl)
  try simp only [Act.put, List.setIfInBounds_toArray, List.set_cons_zero, List.set_cons_succ]
  refine Det.det_take (v := ?_) (by rfl) ?_ ?_
  rotate_left
  · (intro w hSw; go_simp; try with_reducible rfl)
  try simp only [Act.put, List.setIfInBounds_toArray, List.set_cons_zero, List.set_cons_succ]
  refine Det.det_load 23 2 _ Try.underlying23 rfl size23 _ rfl (by rfl) _ rfl _ _ (fun w hS => Bo_22.keep hS) rfl ?_
  try simp only [Act.put, List.setIfInBounds_toArray, List.set_cons_zero, List.set_cons_succ]
  refine Det.det_take (v := ?_) (by rfl) ?_ ?_
  rotate_left
  · (intro w hSw; go_simp; try with_reducible rfl)
  try simp only [Act.put, List.setIfInBounds_toArray, List.set_cons_zero, List.set_cons_succ]
  refine Det.det_take (v := ?_) (by rfl) ?_ ?_
  rotate_left
  · (intro w hSw; go_simp; try with_reducible rfl)
  try simp only [Act.put, List.setIfInBounds_toArray, List.set_cons_zero, List.set_cons_succ]
  refine Det.det_take (v := ?_) (by rfl) ?_ ?_
  rotate_left
  · (intro w hSw; have cc := (Bw_22.keep hSw).cell 0; go_simp; try with_reducible rfl)
  try simp only [Act.put, List.setIfInBounds_toArray, List.set_cons_zero, List.set_cons_succ]
  refine Det.det_load 30 8 _ Try.underlying30 rfl size30 _ rfl (by rfl) _ rfl _ _ (fun w hS => Bc_22.keep hS) rfl ?_
  try simp only [Act.put, List.setIfInBounds_toArray, List.set_cons_zero, List.set_cons_succ]
  refine Det.det_call (f := 24) (args := #[.string s, .agg #[.int .i64 c0, .int .i64 c1, .int .i64 c2, .int .i64 c3, .int .i64 d0, .int .i64 d1, .int .i64 d2, .int .i64 d3]]) (v := .string u3) (by rfl) ?_ (fun w hS => (R3.out w).mono fun e w' ⟨h1, h2⟩ => ⟨h1, bq_trans hS h2⟩) ?_
  · (intro w hSw; go_simp)
  try simp only [Act.put, List.setIfInBounds_toArray, List.set_cons_zero, List.set_cons_succ]
  refine Det.det_call (f := 21) (args := #[.agg #[.string u3, .int .i64 0], .int .i64 0, .bool true, .string u3]) (v := .bool true) (by rfl) ?_ (fun w hS => (lawput_yes u3 w).mono fun e w' ⟨h1, h2⟩ => ⟨h1, bq_trans hS h2⟩) ?_
  · (intro w hSw; go_simp)
  try simp only [Act.put, List.setIfInBounds_toArray, List.set_cons_zero, List.set_cons_succ]
  refine Det.det_take (v := ?_) (by rfl) ?_ ?_
  rotate_left
  · (intro w hSw; go_simp; try with_reducible rfl)
  try simp only [Act.put, List.setIfInBounds_toArray, List.set_cons_zero, List.set_cons_succ]
  refine Det.det_take (v := ?_) (by rfl) ?_ ?_
  rotate_left
  · (intro w hSw; go_simp; try with_reducible rfl)
  try simp only [Act.put, List.setIfInBounds_toArray, List.set_cons_zero, List.set_cons_succ]
  refine Det.det_take (v := ?_) (by rfl) ?_ ?_
  rotate_left
  · (intro w hSw; go_simp; try with_reducible rfl)
  try simp only [Act.put, List.setIfInBounds_toArray, List.set_cons_zero, List.set_cons_succ]
  refine Det.det_take (v := ?_) (by rfl) ?_ ?_
  rotate_left
  · (intro w hSw; go_simp; try with_reducible rfl)
  try simp only [Act.put, List.setIfInBounds_toArray, List.set_cons_zero, List.set_cons_succ]
  refine Det.det_take (v := ?_) (by rfl) ?_ ?_
  rotate_left
  · (intro w hSw; go_simp; try with_reducible rfl)
  try simp only [Act.put, List.setIfInBounds_toArray, List.set_cons_zero, List.set_cons_succ]
  refine Det.det_take (v := ?_) (by rfl) ?_ ?_
  rotate_left
  · (intro w hSw; go_simp; try with_reducible rfl)
  try simp only [Act.put, List.setIfInBounds_toArray, List.set_cons_zero, List.set_cons_succ]
  refine Det.det_load 23 2 _ Try.underlying23 rfl size23 _ rfl (by rfl) _ rfl _ _ (fun w hS => Bz_22.keep hS) rfl ?_
  try simp only [Act.put, List.setIfInBounds_toArray, List.set_cons_zero, List.set_cons_succ]
  refine Det.det_take (v := ?_) (by rfl) ?_ ?_
  rotate_left
  · (intro w hSw; go_simp; try with_reducible rfl)
  try simp only [Act.put, List.setIfInBounds_toArray, List.set_cons_zero, List.set_cons_succ]
  refine Det.det_take (v := ?_) (by rfl) ?_ ?_
  rotate_left
  · (intro w hSw; go_simp; try with_reducible rfl)
  try simp only [Act.put, List.setIfInBounds_toArray, List.set_cons_zero, List.set_cons_succ]
  refine Det.det_take (v := ?_) (by rfl) ?_ ?_
  rotate_left
  · (intro w hSw; have cc := (Bw_22.keep hSw).cell 0; go_simp; try with_reducible rfl)
  try simp only [Act.put, List.setIfInBounds_toArray, List.set_cons_zero, List.set_cons_succ]
  refine Det.det_load 32 4 _ Try.underlying32 rfl size32 _ rfl (by rfl) _ rfl _ _ (fun w hS => Bk_22.keep hS) rfl ?_
  try simp only [Act.put, List.setIfInBounds_toArray, List.set_cons_zero, List.set_cons_succ]
  refine Det.det_call (f := 25) (args := #[.string s, .agg #[.int .i64 k0, .int .i64 k1, .int .i64 k2, .int .i64 k3]]) (v := .string u4) (by rfl) ?_ (fun w hS => (R4.out w).mono fun e w' ⟨h1, h2⟩ => ⟨h1, bq_trans hS h2⟩) ?_
  · (intro w hSw; go_simp)
  try simp only [Act.put, List.setIfInBounds_toArray, List.set_cons_zero, List.set_cons_succ]
  refine Det.det_call (f := 21) (args := #[.agg #[.string u4, .int .i64 0], .int .i64 0, .bool true, .string u4]) (v := .bool true) (by rfl) ?_ (fun w hS => (lawput_yes u4 w).mono fun e w' ⟨h1, h2⟩ => ⟨h1, bq_trans hS h2⟩) ?_
  · (intro w hSw; go_simp)
  try simp only [Act.put, List.setIfInBounds_toArray, List.set_cons_zero, List.set_cons_succ]
  refine Det.det_take (v := ?_) (by rfl) ?_ ?_
  rotate_left
  · (intro w hSw; go_simp; try with_reducible rfl)
  try simp only [Act.put, List.setIfInBounds_toArray, List.set_cons_zero, List.set_cons_succ]
  refine Det.det_take (v := ?_) (by rfl) ?_ ?_
  rotate_left
  · (intro w hSw; go_simp; try with_reducible rfl)
  try simp only [Act.put, List.setIfInBounds_toArray, List.set_cons_zero, List.set_cons_succ]
  refine Det.det_take (v := ?_) (by rfl) ?_ ?_
  rotate_left
  · (intro w hSw; go_simp; try with_reducible rfl)
  try simp only [Act.put, List.setIfInBounds_toArray, List.set_cons_zero, List.set_cons_succ]
  refine Det.det_nil (fun W23 k23 => ?_)
  have Bw_23 := Bw_22.keep k23
  have Br_23 := Br_22.keep k23
  have Bm_23 := Bm_22.keep k23
  have Bc_23 := Bc_22.keep k23
  have Bk_23 := Bk_22.keep k23
  have Bp_23 := Bp_22.keep k23
  have Bq_23 := Bq_22.keep k23
  have Bo_23 := Bo_22.keep k23
  have Bz_23 := Bz_22.keep k23
  have Hw23 := bq_trans Hw22 k23
  clear k23 Bw_22 Br_22 Bm_22 Bc_22 Bk_22 Bp_22 Bq_22 Bo_22 Bz_22 Hw22
  go_wp2_with (first
    | (go_at_call 8; (with_reducible refine (awake_any _).mono ?_); rintro e W24 ⟨rfl, k24⟩; have Bw_24 := Bw_23.keep k24; have Br_24 := Br_23.keep k24; have Bm_24 := Bm_23.keep k24; have Bc_24 := Bc_23.keep k24; have Bk_24 := Bk_23.keep k24; have Bp_24 := Bp_23.keep k24; have Bq_24 := Bq_23.keep k24; have Bo_24 := Bo_23.keep k24; have Bz_24 := Bz_23.keep k24; have Hw24 := bq_trans Hw23 k24; clear k24 Bw_23 Br_23 Bm_23 Bc_23 Bk_23 Bp_23 Bq_23 Bo_23 Bz_23 Hw23))
  go_ret
  exact ⟨rfl, Hw24⟩
end Go.Proofs.Ytfaipbdkkkhacaa
