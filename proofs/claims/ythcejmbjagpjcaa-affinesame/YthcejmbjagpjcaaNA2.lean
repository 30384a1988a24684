import Derived.Test.YthcejmbjagpjcaaN7
import Derived.Test.YthcejmbjagpjcaaDv
/- Layer 14: the walk of AffineSame, ways 2. -/
namespace Go.Proofs.Ythcejmbjagpjcaa
open Go.RowKit
set_option linter.unusedVariables false
set_option linter.unusedSimpArgs false
set_option maxRecDepth 100000

set_option maxHeartbeats 4000000 in
theorem same14_1000 (A B C D X Y m0 m1 m2 m3 d0 d1 d2 d3 kr kg kb ka x y r s ev : Int) (w : World) (hev : (ev != 0) = true) (HM : Hid ((2 * r).tmod 2 = 0 ∧ (2 * s).tmod 2 = 0)) (HA : Hid (∀ W, Calls Try.prog 14 #[] W fun e w' => e = .returned (.bool true) ∧ Below W.heap.size W w')) (HS : Hid (∀ W, Calls Try.prog 27 #[] W fun e w' => e = .returned (.agg #[.int .i64 65536, .int .i64 0, .int .i64 0, .int .i64 65536, .int .i64 0, .int .i64 0]) ∧ Below W.heap.size W w'))
    (H1 : Hid (∀ W, Calls Try.prog 9 #[.agg #[.int .i64 A, .int .i64 B, .int .i64 C, .int .i64 D, .int .i64 X, .int .i64 Y], .agg #[.int .i64 65536, .int .i64 0, .int .i64 0, .int .i64 65536, .int .i64 0, .int .i64 0]] W fun e w' => e = .returned (.tuple #[.agg #[.int .i64 A, .int .i64 B, .int .i64 C, .int .i64 D, .int .i64 X, .int .i64 Y], .int .i64 0]) ∧ Below W.heap.size W w')) (H2 : Hid (∀ W, Calls Try.prog 9 #[.agg #[.int .i64 65536, .int .i64 0, .int .i64 0, .int .i64 65536, .int .i64 0, .int .i64 0], .agg #[.int .i64 A, .int .i64 B, .int .i64 C, .int .i64 D, .int .i64 X, .int .i64 Y]] W fun e w' => e = .returned (.tuple #[.agg #[.int .i64 A, .int .i64 B, .int .i64 C, .int .i64 D, .int .i64 X, .int .i64 Y], .int .i64 0]) ∧ Below W.heap.size W w')) (H3 : Hid (∀ W, Calls Try.prog 21 #[.agg #[.int .i64 A, .int .i64 B, .int .i64 C, .int .i64 D, .int .i64 X, .int .i64 Y]] W fun e w' => e = .returned (.bool true) ∧ Below W.heap.size W w')) (H4 : Hid (∀ W, Calls Try.prog 12 #[.agg #[.int .i64 m0, .int .i64 m1, .int .i64 m2, .int .i64 m3, .int .i64 d0, .int .i64 d1, .int .i64 d2, .int .i64 d3]] W fun e w' => e = .returned (.bool false) ∧ Below W.heap.size W w'))  (H7 : Hid (∀ W, Calls Try.prog 24 #[.agg #[.int .i64 kr, .int .i64 kg, .int .i64 kb, .int .i64 ka]] W fun e w' => e = .returned (.bool false) ∧ Below W.heap.size W w')) 
    (H9 : Hid (∀ W, Calls Try.prog 16 #[.agg #[.int .i64 A, .int .i64 B, .int .i64 C, .int .i64 D, .int .i64 X, .int .i64 Y], .agg #[.int .i64 x, .int .i64 y]] W fun e w' => e = .returned (.tuple #[.agg #[.int .i64 0, .int .i64 0], .int .i64 ev]) ∧ Below W.heap.size W w')) :
    Calls Try.prog 7 #[.agg #[.int .i64 A, .int .i64 B, .int .i64 C, .int .i64 D, .int .i64 X, .int .i64 Y], .agg #[.int .i64 m0, .int .i64 m1, .int .i64 m2, .int .i64 m3, .int .i64 d0, .int .i64 d1, .int .i64 d2, .int .i64 d3], .agg #[.int .i64 kr, .int .i64 kg, .int .i64 kb, .int .i64 ka], .agg #[.int .i64 x, .int .i64 y]] w fun e w' => e = .returned (.bool true) ∧ Below w.heap.size w w' := by
  have HEV := Lib.hid hev
  clear hev
  go_enter Try.func7, Try.ntmps7
  go_upto_region 1 with (go_big_may; first
    | (refine wl_box 23 _ _ rfl rfl (show _ = Value.agg #[.int .i64 A, .int .i64 B, .int .i64 C, .int .i64 D, .int .i64 X, .int .i64 Y] from rfl) ?_; intro W1 bm Bm_1 l1 k1; have gm : w.heap.size ≤ bm := l1; have Hw1 := k1; clear l1 k1)
    | (refine wl_box 26 _ _ rfl rfl (show _ = Value.agg #[.int .i64 m0, .int .i64 m1, .int .i64 m2, .int .i64 m3, .int .i64 d0, .int .i64 d1, .int .i64 d2, .int .i64 d3] from rfl) ?_; intro W2 bc Bc_2 l2 k2; have gc : w.heap.size ≤ bc := Nat.le_trans Hw1.size l2; have nmc : bm ≠ bc := Nat.ne_of_lt (Nat.lt_of_lt_of_le Bm_1.lt l2); have Bm_2 := Bm_1.keep k2; have Hw2 := bq_trans Hw1 k2; clear l2 k2 Bm_1 Hw1)
    | (refine wl_box 48 _ _ rfl rfl (show _ = Value.agg #[.int .i64 kr, .int .i64 kg, .int .i64 kb, .int .i64 ka] from rfl) ?_; intro W3 bk Bk_3 l3 k3; have gk : w.heap.size ≤ bk := Nat.le_trans Hw2.size l3; have nmk : bm ≠ bk := Nat.ne_of_lt (Nat.lt_of_lt_of_le Bm_2.lt l3); have nck : bc ≠ bk := Nat.ne_of_lt (Nat.lt_of_lt_of_le Bc_2.lt l3); have Bm_3 := Bm_2.keep k3; have Bc_3 := Bc_2.keep k3; have Hw3 := bq_trans Hw2 k3; clear l3 k3 Bm_2 Bc_2 Hw2)
    | (refine wl_box 37 _ _ rfl rfl (show _ = Value.agg #[.int .i64 x, .int .i64 y] from rfl) ?_; intro W4 bp Bp_4 l4 k4; have gp : w.heap.size ≤ bp := Nat.le_trans Hw3.size l4; have nmp : bm ≠ bp := Nat.ne_of_lt (Nat.lt_of_lt_of_le Bm_3.lt l4); have ncp : bc ≠ bp := Nat.ne_of_lt (Nat.lt_of_lt_of_le Bc_3.lt l4); have nkp : bk ≠ bp := Nat.ne_of_lt (Nat.lt_of_lt_of_le Bk_3.lt l4); have Bm_4 := Bm_3.keep k4; have Bc_4 := Bc_3.keep k4; have Bk_4 := Bk_3.keep k4; have Hw4 := bq_trans Hw3 k4; clear l4 k4 Bm_3 Bc_3 Bk_3 Hw3))
  go_upto_region 2 with (go_big_may; first
    | (refine wl_alloc 26 _ zeCx rfl rfl ?_; intro W5 bn Bn_5 l5 k5; have gn : w.heap.size ≤ bn := Nat.le_trans Hw4.size l5; have nmn : bm ≠ bn := Nat.ne_of_lt (Nat.lt_of_lt_of_le Bm_4.lt l5); have ncn : bc ≠ bn := Nat.ne_of_lt (Nat.lt_of_lt_of_le Bc_4.lt l5); have nkn : bk ≠ bn := Nat.ne_of_lt (Nat.lt_of_lt_of_le Bk_4.lt l5); have npn : bp ≠ bn := Nat.ne_of_lt (Nat.lt_of_lt_of_le Bp_4.lt l5); have Bm_5 := Bm_4.keep k5; have Bc_5 := Bc_4.keep k5; have Bk_5 := Bk_4.keep k5; have Bp_5 := Bp_4.keep k5; have Hw5 := bq_trans Hw4 k5; clear l5 k5 Bm_4 Bc_4 Bk_4 Bp_4 Hw4)
    | (refine wl_store 26 8 szCx _ _ rfl rfl _ rfl #[.int .i64 256, .int .i64 256, .int .i64 256, .int .i64 256, .int .i64 0, .int .i64 0, .int .i64 0, .int .i64 0] rfl _ _ Bn_5 rfl rfl (by kernel_rfl) ?_; intro W6 Bn_6 T6; have Bm_6 := T6.blk Bm_5 nmn; have Bc_6 := T6.blk Bc_5 ncn; have Bk_6 := T6.blk Bk_5 nkn; have Bp_6 := T6.blk Bp_5 npn; have Hw6 := T6.below Hw5 gn; clear T6 Bm_5 Bc_5 Bk_5 Bp_5 Bn_5 Hw5))
  refine Dnw.wp_region_new 6 7 10 23 6 _ #[.int .i64 A, .int .i64 B, .int .i64 C, .int .i64 D, .int .i64 X, .int .i64 Y] (by kernel_rfl) (by kernel_rfl) (Dnw.new_of zeMt szMt rfl rfl rfl rfl rfl rfl rfl (by intro h; cases h) rfl rfl (by kernel_rfl) (by kernel_rfl)) rfl (by kernel_rfl) (of_decide_eq_true rfl) ?_
  refine Dnw.dn_load (by decide) (by decide) 23 6 _ Try.underlying23 rfl szMt _ rfl (by rfl) _ rfl _ _ (fun w hS => Bm_6.keep hS) rfl ?_
  try simp only [Act.put, List.setIfInBounds_toArray, List.set_cons_zero, List.set_cons_succ]
  refine Dnw.dn_call (f := 27) (args := #[]) (v := .agg #[.int .i64 65536, .int .i64 0, .int .i64 0, .int .i64 65536, .int .i64 0, .int .i64 0]) (by decide) (by decide) (by rfl) ?_ (fun w hS => HS.out w) ?_
  · (intro w hSw; go_simp)
  try simp only [Act.put, List.setIfInBounds_toArray, List.set_cons_zero, List.set_cons_succ]
  refine Dnw.dn_call (f := 9) (args := #[.agg #[.int .i64 A, .int .i64 B, .int .i64 C, .int .i64 D, .int .i64 X, .int .i64 Y], .agg #[.int .i64 65536, .int .i64 0, .int .i64 0, .int .i64 65536, .int .i64 0, .int .i64 0]]) (v := .tuple #[.agg #[.int .i64 A, .int .i64 B, .int .i64 C, .int .i64 D, .int .i64 X, .int .i64 Y], .int .i64 0]) (by decide) (by decide) (by rfl) ?_ (fun w hS => H1.out w) ?_
  · (intro w hSw; go_simp)
  try simp only [Act.put, List.setIfInBounds_toArray, List.set_cons_zero, List.set_cons_succ]
  refine Dnw.dn_take (v := ?_) (by decide) (by decide) (by rfl) ?_ ?_
  rotate_left
  · (intro w hSw; go_simp; try with_reducible rfl)
  try simp only [Act.put, List.setIfInBounds_toArray, List.set_cons_zero, List.set_cons_succ]
  refine Dnw.dn_take (v := ?_) (by decide) (by decide) (by rfl) ?_ ?_
  rotate_left
  · (intro w hSw; go_simp; try with_reducible rfl)
  try simp only [Act.put, List.setIfInBounds_toArray, List.set_cons_zero, List.set_cons_succ]
  refine Dnw.dn_take (v := ?_) (by decide) (by decide) (by rfl) ?_ ?_
  rotate_left
  · (intro w hSw; go_simp; try with_reducible rfl)
  try simp only [Act.put, List.setIfInBounds_toArray, List.set_cons_zero, List.set_cons_succ]
  refine Dnw.dn_alloc rfl ?_
  try simp only [Act.put, List.setIfInBounds_toArray, List.set_cons_zero, List.set_cons_succ]
  refine Dnw.dn_store rfl _ rfl rfl ?_
  try simp only [Act.put, List.setIfInBounds_toArray, List.set_cons_zero, List.set_cons_succ]
  refine Dnw.dn_take (v := ?_) (by decide) (by decide) (by rfl) ?_ ?_
  rotate_left
  · (intro w hSw; go_simp; try with_reducible rfl)
  try simp only [Act.put, List.setIfInBounds_toArray, List.set_cons_zero, List.set_cons_succ]
  (refine Dnw.dn_nil ?_; intro W7 ba Ba_7 l7 k7; have ga : w.heap.size ≤ ba := Nat.le_trans Hw6.size l7; have nma : bm ≠ ba := Nat.ne_of_lt (Nat.lt_of_lt_of_le Bm_6.lt l7); have nca : bc ≠ ba := Nat.ne_of_lt (Nat.lt_of_lt_of_le Bc_6.lt l7); have nka : bk ≠ ba := Nat.ne_of_lt (Nat.lt_of_lt_of_le Bk_6.lt l7); have npa : bp ≠ ba := Nat.ne_of_lt (Nat.lt_of_lt_of_le Bp_6.lt l7); have nna : bn ≠ ba := Nat.ne_of_lt (Nat.lt_of_lt_of_le Bn_6.lt l7); have Bm_7 := Bm_6.keep k7; have Bc_7 := Bc_6.keep k7; have Bk_7 := Bk_6.keep k7; have Bp_7 := Bp_6.keep k7; have Bn_7 := Bn_6.keep k7; have Hw7 := bq_trans Hw6 k7; clear l7 k7 Bm_6 Bc_6 Bk_6 Bp_6 Bn_6 Hw6)
  try simp only [Act.put, List.setIfInBounds_toArray, List.set_cons_zero, List.set_cons_succ]
  go_upto_region 3 with (fail)
  refine Dnw.wp_region_new 6 7 12 23 6 _ #[.int .i64 A, .int .i64 B, .int .i64 C, .int .i64 D, .int .i64 X, .int .i64 Y] (by kernel_rfl) (by kernel_rfl) (Dnw.new_of zeMt szMt rfl rfl rfl rfl rfl rfl rfl (by intro h; cases h) rfl rfl (by kernel_rfl) (by kernel_rfl)) rfl (by kernel_rfl) (of_decide_eq_true rfl) ?_
  refine Dnw.dn_call (f := 27) (args := #[]) (v := .agg #[.int .i64 65536, .int .i64 0, .int .i64 0, .int .i64 65536, .int .i64 0, .int .i64 0]) (by decide) (by decide) (by rfl) ?_ (fun w hS => HS.out w) ?_
  · (intro w hSw; go_simp)
  try simp only [Act.put, List.setIfInBounds_toArray, List.set_cons_zero, List.set_cons_succ]
  refine Dnw.dn_load (by decide) (by decide) 23 6 _ Try.underlying23 rfl szMt _ rfl (by rfl) _ rfl _ _ (fun w hS => Bm_7.keep hS) rfl ?_
  try simp only [Act.put, List.setIfInBounds_toArray, List.set_cons_zero, List.set_cons_succ]
  refine Dnw.dn_call (f := 9) (args := #[.agg #[.int .i64 65536, .int .i64 0, .int .i64 0, .int .i64 65536, .int .i64 0, .int .i64 0], .agg #[.int .i64 A, .int .i64 B, .int .i64 C, .int .i64 D, .int .i64 X, .int .i64 Y]]) (v := .tuple #[.agg #[.int .i64 A, .int .i64 B, .int .i64 C, .int .i64 D, .int .i64 X, .int .i64 Y], .int .i64 0]) (by decide) (by decide) (by rfl) ?_ (fun w hS => H2.out w) ?_
  · (intro w hSw; go_simp)
  try simp only [Act.put, List.setIfInBounds_toArray, List.set_cons_zero, List.set_cons_succ]
  refine Dnw.dn_take (v := ?_) (by decide) (by decide) (by rfl) ?_ ?_
  rotate_left
  · (intro w hSw; go_simp; try with_reducible rfl)
  try simp only [Act.put, List.setIfInBounds_toArray, List.set_cons_zero, List.set_cons_succ]
  refine Dnw.dn_take (v := ?_) (by decide) (by decide) (by rfl) ?_ ?_
  rotate_left
  · (intro w hSw; go_simp; try with_reducible rfl)
  try simp only [Act.put, List.setIfInBounds_toArray, List.set_cons_zero, List.set_cons_succ]
  refine Dnw.dn_take (v := ?_) (by decide) (by decide) (by rfl) ?_ ?_
  rotate_left
  · (intro w hSw; go_simp; try with_reducible rfl)
  try simp only [Act.put, List.setIfInBounds_toArray, List.set_cons_zero, List.set_cons_succ]
  refine Dnw.dn_alloc rfl ?_
  try simp only [Act.put, List.setIfInBounds_toArray, List.set_cons_zero, List.set_cons_succ]
  refine Dnw.dn_store rfl _ rfl rfl ?_
  try simp only [Act.put, List.setIfInBounds_toArray, List.set_cons_zero, List.set_cons_succ]
  refine Dnw.dn_take (v := ?_) (by decide) (by decide) (by rfl) ?_ ?_
  rotate_left
  · (intro w hSw; go_simp; try with_reducible rfl)
  try simp only [Act.put, List.setIfInBounds_toArray, List.set_cons_zero, List.set_cons_succ]
  (refine Dnw.dn_nil ?_; intro W8 bb Bb_8 l8 k8; have gb : w.heap.size ≤ bb := Nat.le_trans Hw7.size l8; have nmb : bm ≠ bb := Nat.ne_of_lt (Nat.lt_of_lt_of_le Bm_7.lt l8); have ncb : bc ≠ bb := Nat.ne_of_lt (Nat.lt_of_lt_of_le Bc_7.lt l8); have nkb : bk ≠ bb := Nat.ne_of_lt (Nat.lt_of_lt_of_le Bk_7.lt l8); have npb : bp ≠ bb := Nat.ne_of_lt (Nat.lt_of_lt_of_le Bp_7.lt l8); have nnb : bn ≠ bb := Nat.ne_of_lt (Nat.lt_of_lt_of_le Bn_7.lt l8); have nab : ba ≠ bb := Nat.ne_of_lt (Nat.lt_of_lt_of_le Ba_7.lt l8); have Bm_8 := Bm_7.keep k8; have Bc_8 := Bc_7.keep k8; have Bk_8 := Bk_7.keep k8; have Bp_8 := Bp_7.keep k8; have Bn_8 := Bn_7.keep k8; have Ba_8 := Ba_7.keep k8; have Hw8 := bq_trans Hw7 k8; clear l8 k8 Bm_7 Bc_7 Bk_7 Bp_7 Bn_7 Ba_7 Hw7)
  try simp only [Act.put, List.setIfInBounds_toArray, List.set_cons_zero, List.set_cons_succ]
  go_upto_region 4 with (fail)
  refine Det.wp_region_text (S := fun w' => Below W8.heap.size W8 w') (bq_refl _) ?_
  refine Det.det_load 23 6 _ Try.underlying23 rfl szMt _ rfl (by rfl) _ rfl _ _ (fun w hS => Bm_8.keep hS) rfl ?_
  try simp only [Act.put, List.setIfInBounds_toArray, List.set_cons_zero, List.set_cons_succ]
  refine Det.det_call (f := 21) (args := #[.agg #[.int .i64 A, .int .i64 B, .int .i64 C, .int .i64 D, .int .i64 X, .int .i64 Y]]) (v := .bool true) (by rfl) ?_ (fun w hS => (H3.out w).mono fun e w' ⟨h1, h2⟩ => ⟨h1, bq_trans hS h2⟩) ?_
  · (intro w hSw; go_simp)
  try simp only [Act.put, List.setIfInBounds_toArray, List.set_cons_zero, List.set_cons_succ]
  refine Det.det_take (v := ?_) (by rfl) ?_ ?_
  rotate_left
  · (intro w hSw; go_simp; try with_reducible rfl)
  try simp only [Act.put, List.setIfInBounds_toArray, List.set_cons_zero, List.set_cons_succ]
  refine Det.det_load 23 6 _ Try.underlying23 rfl szMt _ rfl (by rfl) _ rfl _ _ (fun w hS => Ba_8.keep hS) rfl ?_
  try simp only [Act.put, List.setIfInBounds_toArray, List.set_cons_zero, List.set_cons_succ]
  refine Det.det_load 23 6 _ Try.underlying23 rfl szMt _ rfl (by rfl) _ rfl _ _ (fun w hS => Bm_8.keep hS) rfl ?_
  try simp only [Act.put, List.setIfInBounds_toArray, List.set_cons_zero, List.set_cons_succ]
  refine Det.det_take (v := ?_) (by rfl) ?_ ?_
  rotate_left
  · (intro w hSw; have q := eqM14 A B C D X Y w; go_simp; try with_reducible rfl)
  try simp only [Act.put, List.setIfInBounds_toArray, List.set_cons_zero, List.set_cons_succ]
  refine Det.det_take (v := ?_) (by rfl) ?_ ?_
  rotate_left
  · (intro w hSw; go_simp; try with_reducible rfl)
  try simp only [Act.put, List.setIfInBounds_toArray, List.set_cons_zero, List.set_cons_succ]
  refine Det.det_load 23 6 _ Try.underlying23 rfl szMt _ rfl (by rfl) _ rfl _ _ (fun w hS => Bb_8.keep hS) rfl ?_
  try simp only [Act.put, List.setIfInBounds_toArray, List.set_cons_zero, List.set_cons_succ]
  refine Det.det_load 23 6 _ Try.underlying23 rfl szMt _ rfl (by rfl) _ rfl _ _ (fun w hS => Bm_8.keep hS) rfl ?_
  try simp only [Act.put, List.setIfInBounds_toArray, List.set_cons_zero, List.set_cons_succ]
  refine Det.det_take (v := ?_) (by rfl) ?_ ?_
  rotate_left
  · (intro w hSw; have q := eqM14 A B C D X Y w; go_simp; try with_reducible rfl)
  try simp only [Act.put, List.setIfInBounds_toArray, List.set_cons_zero, List.set_cons_succ]
  refine Det.det_take (v := ?_) (by rfl) ?_ ?_
  rotate_left
  · (intro w hSw; go_simp; try with_reducible rfl)
  try simp only [Act.put, List.setIfInBounds_toArray, List.set_cons_zero, List.set_cons_succ]
  refine Det.det_take (v := ?_) (by rfl) ?_ ?_
  rotate_left
  · (intro w hSw; go_simp; try with_reducible rfl)
  try simp only [Act.put, List.setIfInBounds_toArray, List.set_cons_zero, List.set_cons_succ]
  refine Det.det_take (v := ?_) (by rfl) ?_ ?_
  rotate_left
  · (intro w hSw; go_simp; try with_reducible rfl)
  try simp only [Act.put, List.setIfInBounds_toArray, List.set_cons_zero, List.set_cons_succ]
  refine Det.det_take (v := ?_) (by rfl) ?_ ?_
  rotate_left
  · (intro w hSw; go_simp; try with_reducible rfl)
  try simp only [Act.put, List.setIfInBounds_toArray, List.set_cons_zero, List.set_cons_succ]
  refine Det.det_take (v := ?_) (by rfl) ?_ ?_
  rotate_left
  · (intro w hSw; go_simp; try with_reducible rfl)
  try simp only [Act.put, List.setIfInBounds_toArray, List.set_cons_zero, List.set_cons_succ]
  refine Det.det_take (v := ?_) (by rfl) ?_ ?_
  rotate_left
  · (intro w hSw; go_simp; try with_reducible rfl)
  try simp only [Act.put, List.setIfInBounds_toArray, List.set_cons_zero, List.set_cons_succ]
  refine Det.det_take (v := ?_) (by rfl) ?_ ?_
  rotate_left
  · (intro w hSw; go_simp; try with_reducible rfl)
  try simp only [Act.put, List.setIfInBounds_toArray, List.set_cons_zero, List.set_cons_succ]
  refine Det.det_take (v := ?_) (by rfl) ?_ ?_
  rotate_left
  · (intro w hSw; go_simp; try with_reducible rfl)
  try simp only [Act.put, List.setIfInBounds_toArray, List.set_cons_zero, List.set_cons_succ]
  refine Det.det_take (v := ?_) (by rfl) ?_ ?_
  rotate_left
  · (intro w hSw; go_simp; try with_reducible rfl)
  try simp only [Act.put, List.setIfInBounds_toArray, List.set_cons_zero, List.set_cons_succ]
  refine Det.det_take (v := ?_) (by rfl) ?_ ?_
  rotate_left
  · (intro w hSw; go_simp; try with_reducible rfl)
  try simp only [Act.put, List.setIfInBounds_toArray, List.set_cons_zero, List.set_cons_succ]
  refine Det.det_nil (fun W9 k9 => ?_)
  have Bm_9 := Bm_8.keep k9
  have Bc_9 := Bc_8.keep k9
  have Bk_9 := Bk_8.keep k9
  have Bp_9 := Bp_8.keep k9
  have Bn_9 := Bn_8.keep k9
  have Ba_9 := Ba_8.keep k9
  have Bb_9 := Bb_8.keep k9
  have Hw9 := bq_trans Hw8 k9
  clear k9 Bm_8 Bc_8 Bk_8 Bp_8 Bn_8 Ba_8 Bb_8 Hw8
  go_upto_region 6 with (fail)
  refine Det.wp_region_det (S := fun w' => Below W9.heap.size W9 w') (by kernel_rfl) (by kernel_rfl) (bq_drew (bq_refl _)) ?_
  refine Det.det_load 26 8 _ Try.underlying26 rfl szCx _ rfl (by rfl) _ rfl _ _ (fun w hS => Bc_9.keep hS) rfl ?_
  try simp only [Act.put, List.setIfInBounds_toArray, List.set_cons_zero, List.set_cons_succ]
  refine Det.det_call (f := 12) (args := #[.agg #[.int .i64 m0, .int .i64 m1, .int .i64 m2, .int .i64 m3, .int .i64 d0, .int .i64 d1, .int .i64 d2, .int .i64 d3]]) (v := .bool false) (by rfl) ?_ (fun w hS => (H4.out w).mono fun e w' ⟨h1, h2⟩ => ⟨h1, bq_trans hS h2⟩) ?_
  · (intro w hSw; go_simp)
  try simp only [Act.put, List.setIfInBounds_toArray, List.set_cons_zero, List.set_cons_succ]
  refine Det.det_take (v := ?_) (by rfl) ?_ ?_
  rotate_left
  · (intro w hSw; go_simp; try with_reducible rfl)
  try simp only [Act.put, List.setIfInBounds_toArray, List.set_cons_zero, List.set_cons_succ]
  refine Det.det_skip (by rfl) ?_
  try simp only [Act.put, List.setIfInBounds_toArray, List.set_cons_zero, List.set_cons_succ]
  refine Det.det_skip (by rfl) ?_
  try simp only [Act.put, List.setIfInBounds_toArray, List.set_cons_zero, List.set_cons_succ]
  refine Det.det_skip (by rfl) ?_
  try simp only [Act.put, List.setIfInBounds_toArray, List.set_cons_zero, List.set_cons_succ]
  refine Det.det_skip (by rfl) ?_
  try simp only [Act.put, List.setIfInBounds_toArray, List.set_cons_zero, List.set_cons_succ]
  refine Det.det_skip (by rfl) ?_
  try simp only [Act.put, List.setIfInBounds_toArray, List.set_cons_zero, List.set_cons_succ]
  refine Det.det_skip (by rfl) ?_
  try simp only [Act.put, List.setIfInBounds_toArray, List.set_cons_zero, List.set_cons_succ]
  refine Det.det_skip (by rfl) ?_
  try simp only [Act.put, List.setIfInBounds_toArray, List.set_cons_zero, List.set_cons_succ]
  refine Det.det_skip (by rfl) ?_
  try simp only [Act.put, List.setIfInBounds_toArray, List.set_cons_zero, List.set_cons_succ]
  refine Det.det_skip (by rfl) ?_
  try simp only [Act.put, List.setIfInBounds_toArray, List.set_cons_zero, List.set_cons_succ]
  refine Det.det_skip (by rfl) ?_
  try simp only [Act.put, List.setIfInBounds_toArray, List.set_cons_zero, List.set_cons_succ]
  refine Det.det_skip (by rfl) ?_
  try simp only [Act.put, List.setIfInBounds_toArray, List.set_cons_zero, List.set_cons_succ]
  refine Det.det_skip (by rfl) ?_
  try simp only [Act.put, List.setIfInBounds_toArray, List.set_cons_zero, List.set_cons_succ]
  refine Det.det_take (v := ?_) (by rfl) ?_ ?_
  rotate_left
  · (intro w hSw; go_simp; try with_reducible rfl)
  try simp only [Act.put, List.setIfInBounds_toArray, List.set_cons_zero, List.set_cons_succ]
  refine Det.det_nil (fun W10 k10 => ?_)
  have Bm_10 := Bm_9.keep k10
  have Bc_10 := Bc_9.keep k10
  have Bk_10 := Bk_9.keep k10
  have Bp_10 := Bp_9.keep k10
  have Bn_10 := Bn_9.keep k10
  have Ba_10 := Ba_9.keep k10
  have Bb_10 := Bb_9.keep k10
  have Hw10 := bq_trans Hw9 k10
  clear k10 Bm_9 Bc_9 Bk_9 Bp_9 Bn_9 Ba_9 Bb_9 Hw9
  go_upto_region 8 with (fail)
  refine Det.wp_region_det (S := fun w' => Below W10.heap.size W10 w') (by kernel_rfl) (by kernel_rfl) (bq_drew (bq_refl _)) ?_
  refine Det.det_load 48 4 _ Try.underlying48 rfl szRg _ rfl (by rfl) _ rfl _ _ (fun w hS => Bk_10.keep hS) rfl ?_
  try simp only [Act.put, List.setIfInBounds_toArray, List.set_cons_zero, List.set_cons_succ]
  refine Det.det_call (f := 24) (args := #[.agg #[.int .i64 kr, .int .i64 kg, .int .i64 kb, .int .i64 ka]]) (v := .bool false) (by rfl) ?_ (fun w hS => (H7.out w).mono fun e w' ⟨h1, h2⟩ => ⟨h1, bq_trans hS h2⟩) ?_
  · (intro w hSw; go_simp)
  try simp only [Act.put, List.setIfInBounds_toArray, List.set_cons_zero, List.set_cons_succ]
  refine Det.det_take (v := ?_) (by rfl) ?_ ?_
  rotate_left
  · (intro w hSw; go_simp; try with_reducible rfl)
  try simp only [Act.put, List.setIfInBounds_toArray, List.set_cons_zero, List.set_cons_succ]
  refine Det.det_skip (by rfl) ?_
  try simp only [Act.put, List.setIfInBounds_toArray, List.set_cons_zero, List.set_cons_succ]
  refine Det.det_skip (by rfl) ?_
  try simp only [Act.put, List.setIfInBounds_toArray, List.set_cons_zero, List.set_cons_succ]
  refine Det.det_skip (by rfl) ?_
  try simp only [Act.put, List.setIfInBounds_toArray, List.set_cons_zero, List.set_cons_succ]
  refine Det.det_skip (by rfl) ?_
  try simp only [Act.put, List.setIfInBounds_toArray, List.set_cons_zero, List.set_cons_succ]
  refine Det.det_skip (by rfl) ?_
  try simp only [Act.put, List.setIfInBounds_toArray, List.set_cons_zero, List.set_cons_succ]
  refine Det.det_take (v := ?_) (by rfl) ?_ ?_
  rotate_left
  · (intro w hSw; go_simp; try with_reducible rfl)
  try simp only [Act.put, List.setIfInBounds_toArray, List.set_cons_zero, List.set_cons_succ]
  refine Det.det_nil (fun W11 k11 => ?_)
  have Bm_11 := Bm_10.keep k11
  have Bc_11 := Bc_10.keep k11
  have Bk_11 := Bk_10.keep k11
  have Bp_11 := Bp_10.keep k11
  have Bn_11 := Bn_10.keep k11
  have Ba_11 := Ba_10.keep k11
  have Bb_11 := Bb_10.keep k11
  have Hw11 := bq_trans Hw10 k11
  clear k11 Bm_10 Bc_10 Bk_10 Bp_10 Bn_10 Ba_10 Bb_10 Hw10
  go_upto_region 10 with (fail)
  go_upto_region 11 with (go_big_may; first
    | (refine wl_load 23 6 _ Try.underlying23 rfl szMt _ rfl rfl _ rfl _ _ Bm_11 rfl ?_)
    | (refine wl_load 37 2 _ Try.underlying37 rfl szPt _ rfl rfl _ rfl _ _ Bp_11 rfl ?_)
    | (go_at_call 16; (with_reducible refine (H9.out _).mono ?_); rintro e W12 ⟨rfl, k12⟩; have Bm_12 := Bm_11.keep k12; have Bc_12 := Bc_11.keep k12; have Bk_12 := Bk_11.keep k12; have Bp_12 := Bp_11.keep k12; have Bn_12 := Bn_11.keep k12; have Ba_12 := Ba_11.keep k12; have Bb_12 := Bb_11.keep k12; have Hw12 := bq_trans Hw11 k12; clear k12 Bm_11 Bc_11 Bk_11 Bp_11 Bn_11 Ba_11 Bb_11 Hw11)
    | (refine wl_alloc 37 _ zePt rfl rfl ?_; intro W13 bg Bg_13 l13 k13; have gg : w.heap.size ≤ bg := Nat.le_trans Hw12.size l13; have nmg : bm ≠ bg := Nat.ne_of_lt (Nat.lt_of_lt_of_le Bm_12.lt l13); have ncg : bc ≠ bg := Nat.ne_of_lt (Nat.lt_of_lt_of_le Bc_12.lt l13); have nkg : bk ≠ bg := Nat.ne_of_lt (Nat.lt_of_lt_of_le Bk_12.lt l13); have npg : bp ≠ bg := Nat.ne_of_lt (Nat.lt_of_lt_of_le Bp_12.lt l13); have nng : bn ≠ bg := Nat.ne_of_lt (Nat.lt_of_lt_of_le Bn_12.lt l13); have nag : ba ≠ bg := Nat.ne_of_lt (Nat.lt_of_lt_of_le Ba_12.lt l13); have nbg : bb ≠ bg := Nat.ne_of_lt (Nat.lt_of_lt_of_le Bb_12.lt l13); have Bm_13 := Bm_12.keep k13; have Bc_13 := Bc_12.keep k13; have Bk_13 := Bk_12.keep k13; have Bp_13 := Bp_12.keep k13; have Bn_13 := Bn_12.keep k13; have Ba_13 := Ba_12.keep k13; have Bb_13 := Bb_12.keep k13; have Hw13 := bq_trans Hw12 k13; clear l13 k13 Bm_12 Bc_12 Bk_12 Bp_12 Bn_12 Ba_12 Bb_12 Hw12)
    | (refine wl_store 37 2 szPt _ _ rfl rfl _ rfl #[.int .i64 0, .int .i64 0] rfl _ _ Bg_13 rfl rfl (by kernel_rfl) ?_; intro W14 Bg_14 T14; have Bm_14 := T14.blk Bm_13 nmg; have Bc_14 := T14.blk Bc_13 ncg; have Bk_14 := T14.blk Bk_13 nkg; have Bp_14 := T14.blk Bp_13 npg; have Bn_14 := T14.blk Bn_13 nng; have Ba_14 := T14.blk Ba_13 nag; have Bb_14 := T14.blk Bb_13 nbg; have Hw14 := T14.below Hw13 gg; clear T14 Bm_13 Bc_13 Bk_13 Bp_13 Bn_13 Ba_13 Bb_13 Bg_13 Hw13))
  refine Det.wp_region_text (S := fun w' => Below W14.heap.size W14 w') (bq_refl _) ?_
  refine Det.det_take (v := ?_) (by rfl) ?_ ?_
  rotate_left
  · (intro w hSw; go_simp; try with_reducible rfl)
  try simp only [Act.put, List.setIfInBounds_toArray, List.set_cons_zero, List.set_cons_succ]
  refine Det.det_take (v := ?_) (by rfl) ?_ ?_
  rotate_left
  · (intro w hSw; have he := HEV.out; go_simp; try with_reducible rfl)
  try simp only [Act.put, List.setIfInBounds_toArray, List.set_cons_zero, List.set_cons_succ]
  refine Det.det_take (v := ?_) (by rfl) ?_ ?_
  rotate_left
  · (intro w hSw; go_simp; try with_reducible rfl)
  try simp only [Act.put, List.setIfInBounds_toArray, List.set_cons_zero, List.set_cons_succ]
  refine Det.det_skip (by rfl) ?_
  try simp only [Act.put, List.setIfInBounds_toArray, List.set_cons_zero, List.set_cons_succ]
  refine Det.det_skip (by rfl) ?_
  try simp only [Act.put, List.setIfInBounds_toArray, List.set_cons_zero, List.set_cons_succ]
  refine Det.det_skip (by rfl) ?_
  try simp only [Act.put, List.setIfInBounds_toArray, List.set_cons_zero, List.set_cons_succ]
  refine Det.det_skip (by rfl) ?_
  try simp only [Act.put, List.setIfInBounds_toArray, List.set_cons_zero, List.set_cons_succ]
  refine Det.det_skip (by rfl) ?_
  try simp only [Act.put, List.setIfInBounds_toArray, List.set_cons_zero, List.set_cons_succ]
  refine Det.det_skip (by rfl) ?_
  try simp only [Act.put, List.setIfInBounds_toArray, List.set_cons_zero, List.set_cons_succ]
  refine Det.det_skip (by rfl) ?_
  try simp only [Act.put, List.setIfInBounds_toArray, List.set_cons_zero, List.set_cons_succ]
  refine Det.det_skip (by rfl) ?_
  try simp only [Act.put, List.setIfInBounds_toArray, List.set_cons_zero, List.set_cons_succ]
  refine Det.det_skip (by rfl) ?_
  try simp only [Act.put, List.setIfInBounds_toArray, List.set_cons_zero, List.set_cons_succ]
  refine Det.det_skip (by rfl) ?_
  try simp only [Act.put, List.setIfInBounds_toArray, List.set_cons_zero, List.set_cons_succ]
  refine Det.det_take (v := ?_) (by rfl) ?_ ?_
  rotate_left
  · (intro w hSw; go_simp; try with_reducible rfl)
  try simp only [Act.put, List.setIfInBounds_toArray, List.set_cons_zero, List.set_cons_succ]
  refine Det.det_take (v := ?_) (by rfl) ?_ ?_
  rotate_left
  · (intro w hSw; go_simp; try with_reducible rfl)
  try simp only [Act.put, List.setIfInBounds_toArray, List.set_cons_zero, List.set_cons_succ]
  refine Det.det_call (f := 14) (args := #[]) (v := .bool true) (by rfl) ?_ (fun w hS => (HA.out w).mono fun e w' ⟨h1, h2⟩ => ⟨h1, bq_trans hS h2⟩) ?_
  · (intro w hSw; go_simp)
  try simp only [Act.put, List.setIfInBounds_toArray, List.set_cons_zero, List.set_cons_succ]
  refine Det.det_take (v := ?_) (by rfl) ?_ ?_
  rotate_left
  · (intro w hSw; go_simp; try with_reducible rfl)
  try simp only [Act.put, List.setIfInBounds_toArray, List.set_cons_zero, List.set_cons_succ]
  refine Det.det_take (v := ?_) (by rfl) ?_ ?_
  rotate_left
  · (intro w hSw; go_simp; try with_reducible rfl)
  try simp only [Act.put, List.setIfInBounds_toArray, List.set_cons_zero, List.set_cons_succ]
  refine Det.det_nil (fun W15 k15 => ?_)
  have Bm_15 := Bm_14.keep k15
  have Bc_15 := Bc_14.keep k15
  have Bk_15 := Bk_14.keep k15
  have Bp_15 := Bp_14.keep k15
  have Bn_15 := Bn_14.keep k15
  have Ba_15 := Ba_14.keep k15
  have Bb_15 := Bb_14.keep k15
  have Bg_15 := Bg_14.keep k15
  have Hw15 := bq_trans Hw14 k15
  clear k15 Bm_14 Bc_14 Bk_14 Bp_14 Bn_14 Ba_14 Bb_14 Bg_14 Hw14
  go_wp2_with fail
  go_ret
  exact ⟨rfl, Hw15⟩
set_option maxHeartbeats 4000000 in
theorem same14_1001 (A B C D X Y m0 m1 m2 m3 d0 d1 d2 d3 kr kg kb ka x y r s ev : Int) (w : World) (hev : (ev != 0) = true) (HM : Hid ((2 * r).tmod 2 = 0 ∧ (2 * s).tmod 2 = 0)) (HA : Hid (∀ W, Calls Try.prog 14 #[] W fun e w' => e = .returned (.bool true) ∧ Below W.heap.size W w')) (HS : Hid (∀ W, Calls Try.prog 27 #[] W fun e w' => e = .returned (.agg #[.int .i64 65536, .int .i64 0, .int .i64 0, .int .i64 65536, .int .i64 0, .int .i64 0]) ∧ Below W.heap.size W w'))
    (H1 : Hid (∀ W, Calls Try.prog 9 #[.agg #[.int .i64 A, .int .i64 B, .int .i64 C, .int .i64 D, .int .i64 X, .int .i64 Y], .agg #[.int .i64 65536, .int .i64 0, .int .i64 0, .int .i64 65536, .int .i64 0, .int .i64 0]] W fun e w' => e = .returned (.tuple #[.agg #[.int .i64 A, .int .i64 B, .int .i64 C, .int .i64 D, .int .i64 X, .int .i64 Y], .int .i64 0]) ∧ Below W.heap.size W w')) (H2 : Hid (∀ W, Calls Try.prog 9 #[.agg #[.int .i64 65536, .int .i64 0, .int .i64 0, .int .i64 65536, .int .i64 0, .int .i64 0], .agg #[.int .i64 A, .int .i64 B, .int .i64 C, .int .i64 D, .int .i64 X, .int .i64 Y]] W fun e w' => e = .returned (.tuple #[.agg #[.int .i64 A, .int .i64 B, .int .i64 C, .int .i64 D, .int .i64 X, .int .i64 Y], .int .i64 0]) ∧ Below W.heap.size W w')) (H3 : Hid (∀ W, Calls Try.prog 21 #[.agg #[.int .i64 A, .int .i64 B, .int .i64 C, .int .i64 D, .int .i64 X, .int .i64 Y]] W fun e w' => e = .returned (.bool true) ∧ Below W.heap.size W w')) (H4 : Hid (∀ W, Calls Try.prog 12 #[.agg #[.int .i64 m0, .int .i64 m1, .int .i64 m2, .int .i64 m3, .int .i64 d0, .int .i64 d1, .int .i64 d2, .int .i64 d3]] W fun e w' => e = .returned (.bool false) ∧ Below W.heap.size W w'))  (H7 : Hid (∀ W, Calls Try.prog 24 #[.agg #[.int .i64 kr, .int .i64 kg, .int .i64 kb, .int .i64 ka]] W fun e w' => e = .returned (.bool false) ∧ Below W.heap.size W w')) 
    (H9 : Hid (∀ W, Calls Try.prog 16 #[.agg #[.int .i64 A, .int .i64 B, .int .i64 C, .int .i64 D, .int .i64 X, .int .i64 Y], .agg #[.int .i64 x, .int .i64 y]] W fun e w' => e = .returned (.tuple #[.agg #[.int .i64 (2 * r), .int .i64 (2 * s)], .int .i64 0]) ∧ Below W.heap.size W w')) :
    Calls Try.prog 7 #[.agg #[.int .i64 A, .int .i64 B, .int .i64 C, .int .i64 D, .int .i64 X, .int .i64 Y], .agg #[.int .i64 m0, .int .i64 m1, .int .i64 m2, .int .i64 m3, .int .i64 d0, .int .i64 d1, .int .i64 d2, .int .i64 d3], .agg #[.int .i64 kr, .int .i64 kg, .int .i64 kb, .int .i64 ka], .agg #[.int .i64 x, .int .i64 y]] w fun e w' => e = .returned (.bool true) ∧ Below w.heap.size w w' := by
  have HEV := Lib.hid hev
  clear hev
  go_enter Try.func7, Try.ntmps7
  go_upto_region 1 with (go_big_may; first
    | (refine wl_box 23 _ _ rfl rfl (show _ = Value.agg #[.int .i64 A, .int .i64 B, .int .i64 C, .int .i64 D, .int .i64 X, .int .i64 Y] from rfl) ?_; intro W1 bm Bm_1 l1 k1; have gm : w.heap.size ≤ bm := l1; have Hw1 := k1; clear l1 k1)
    | (refine wl_box 26 _ _ rfl rfl (show _ = Value.agg #[.int .i64 m0, .int .i64 m1, .int .i64 m2, .int .i64 m3, .int .i64 d0, .int .i64 d1, .int .i64 d2, .int .i64 d3] from rfl) ?_; intro W2 bc Bc_2 l2 k2; have gc : w.heap.size ≤ bc := Nat.le_trans Hw1.size l2; have nmc : bm ≠ bc := Nat.ne_of_lt (Nat.lt_of_lt_of_le Bm_1.lt l2); have Bm_2 := Bm_1.keep k2; have Hw2 := bq_trans Hw1 k2; clear l2 k2 Bm_1 Hw1)
    | (refine wl_box 48 _ _ rfl rfl (show _ = Value.agg #[.int .i64 kr, .int .i64 kg, .int .i64 kb, .int .i64 ka] from rfl) ?_; intro W3 bk Bk_3 l3 k3; have gk : w.heap.size ≤ bk := Nat.le_trans Hw2.size l3; have nmk : bm ≠ bk := Nat.ne_of_lt (Nat.lt_of_lt_of_le Bm_2.lt l3); have nck : bc ≠ bk := Nat.ne_of_lt (Nat.lt_of_lt_of_le Bc_2.lt l3); have Bm_3 := Bm_2.keep k3; have Bc_3 := Bc_2.keep k3; have Hw3 := bq_trans Hw2 k3; clear l3 k3 Bm_2 Bc_2 Hw2)
    | (refine wl_box 37 _ _ rfl rfl (show _ = Value.agg #[.int .i64 x, .int .i64 y] from rfl) ?_; intro W4 bp Bp_4 l4 k4; have gp : w.heap.size ≤ bp := Nat.le_trans Hw3.size l4; have nmp : bm ≠ bp := Nat.ne_of_lt (Nat.lt_of_lt_of_le Bm_3.lt l4); have ncp : bc ≠ bp := Nat.ne_of_lt (Nat.lt_of_lt_of_le Bc_3.lt l4); have nkp : bk ≠ bp := Nat.ne_of_lt (Nat.lt_of_lt_of_le Bk_3.lt l4); have Bm_4 := Bm_3.keep k4; have Bc_4 := Bc_3.keep k4; have Bk_4 := Bk_3.keep k4; have Hw4 := bq_trans Hw3 k4; clear l4 k4 Bm_3 Bc_3 Bk_3 Hw3))
  go_upto_region 2 with (go_big_may; first
    | (refine wl_alloc 26 _ zeCx rfl rfl ?_; intro W5 bn Bn_5 l5 k5; have gn : w.heap.size ≤ bn := Nat.le_trans Hw4.size l5; have nmn : bm ≠ bn := Nat.ne_of_lt (Nat.lt_of_lt_of_le Bm_4.lt l5); have ncn : bc ≠ bn := Nat.ne_of_lt (Nat.lt_of_lt_of_le Bc_4.lt l5); have nkn : bk ≠ bn := Nat.ne_of_lt (Nat.lt_of_lt_of_le Bk_4.lt l5); have npn : bp ≠ bn := Nat.ne_of_lt (Nat.lt_of_lt_of_le Bp_4.lt l5); have Bm_5 := Bm_4.keep k5; have Bc_5 := Bc_4.keep k5; have Bk_5 := Bk_4.keep k5; have Bp_5 := Bp_4.keep k5; have Hw5 := bq_trans Hw4 k5; clear l5 k5 Bm_4 Bc_4 Bk_4 Bp_4 Hw4)
    | (refine wl_store 26 8 szCx _ _ rfl rfl _ rfl #[.int .i64 256, .int .i64 256, .int .i64 256, .int .i64 256, .int .i64 0, .int .i64 0, .int .i64 0, .int .i64 0] rfl _ _ Bn_5 rfl rfl (by kernel_rfl) ?_; intro W6 Bn_6 T6; have Bm_6 := T6.blk Bm_5 nmn; have Bc_6 := T6.blk Bc_5 ncn; have Bk_6 := T6.blk Bk_5 nkn; have Bp_6 := T6.blk Bp_5 npn; have Hw6 := T6.below Hw5 gn; clear T6 Bm_5 Bc_5 Bk_5 Bp_5 Bn_5 Hw5))
  refine Dnw.wp_region_new 6 7 10 23 6 _ #[.int .i64 A, .int .i64 B, .int .i64 C, .int .i64 D, .int .i64 X, .int .i64 Y] (by kernel_rfl) (by kernel_rfl) (Dnw.new_of zeMt szMt rfl rfl rfl rfl rfl rfl rfl (by intro h; cases h) rfl rfl (by kernel_rfl) (by kernel_rfl)) rfl (by kernel_rfl) (of_decide_eq_true rfl) ?_
  refine Dnw.dn_load (by decide) (by decide) 23 6 _ Try.underlying23 rfl szMt _ rfl (by rfl) _ rfl _ _ (fun w hS => Bm_6.keep hS) rfl ?_
  try simp only [Act.put, List.setIfInBounds_toArray, List.set_cons_zero, List.set_cons_succ]
  refine Dnw.dn_call (f := 27) (args := #[]) (v := .agg #[.int .i64 65536, .int .i64 0, .int .i64 0, .int .i64 65536, .int .i64 0, .int .i64 0]) (by decide) (by decide) (by rfl) ?_ (fun w hS => HS.out w) ?_
  · (intro w hSw; go_simp)
  try simp only [Act.put, List.setIfInBounds_toArray, List.set_cons_zero, List.set_cons_succ]
  refine Dnw.dn_call (f := 9) (args := #[.agg #[.int .i64 A, .int .i64 B, .int .i64 C, .int .i64 D, .int .i64 X, .int .i64 Y], .agg #[.int .i64 65536, .int .i64 0, .int .i64 0, .int .i64 65536, .int .i64 0, .int .i64 0]]) (v := .tuple #[.agg #[.int .i64 A, .int .i64 B, .int .i64 C, .int .i64 D, .int .i64 X, .int .i64 Y], .int .i64 0]) (by decide) (by decide) (by rfl) ?_ (fun w hS => H1.out w) ?_
  · (intro w hSw; go_simp)
  try simp only [Act.put, List.setIfInBounds_toArray, List.set_cons_zero, List.set_cons_succ]
  refine Dnw.dn_take (v := ?_) (by decide) (by decide) (by rfl) ?_ ?_
  rotate_left
  · (intro w hSw; go_simp; try with_reducible rfl)
  try simp only [Act.put, List.setIfInBounds_toArray, List.set_cons_zero, List.set_cons_succ]
  refine Dnw.dn_take (v := ?_) (by decide) (by decide) (by rfl) ?_ ?_
  rotate_left
  · (intro w hSw; go_simp; try with_reducible rfl)
  try simp only [Act.put, List.setIfInBounds_toArray, List.set_cons_zero, List.set_cons_succ]
  refine Dnw.dn_take (v := ?_) (by decide) (by decide) (by rfl) ?_ ?_
  rotate_left
  · (intro w hSw; go_simp; try with_reducible rfl)
  try simp only [Act.put, List.setIfInBounds_toArray, List.set_cons_zero, List.set_cons_succ]
  refine Dnw.dn_alloc rfl ?_
  try simp only [Act.put, List.setIfInBounds_toArray, List.set_cons_zero, List.set_cons_succ]
  refine Dnw.dn_store rfl _ rfl rfl ?_
  try simp only [Act.put, List.setIfInBounds_toArray, List.set_cons_zero, List.set_cons_succ]
  refine Dnw.dn_take (v := ?_) (by decide) (by decide) (by rfl) ?_ ?_
  rotate_left
  · (intro w hSw; go_simp; try with_reducible rfl)
  try simp only [Act.put, List.setIfInBounds_toArray, List.set_cons_zero, List.set_cons_succ]
  (refine Dnw.dn_nil ?_; intro W7 ba Ba_7 l7 k7; have ga : w.heap.size ≤ ba := Nat.le_trans Hw6.size l7; have nma : bm ≠ ba := Nat.ne_of_lt (Nat.lt_of_lt_of_le Bm_6.lt l7); have nca : bc ≠ ba := Nat.ne_of_lt (Nat.lt_of_lt_of_le Bc_6.lt l7); have nka : bk ≠ ba := Nat.ne_of_lt (Nat.lt_of_lt_of_le Bk_6.lt l7); have npa : bp ≠ ba := Nat.ne_of_lt (Nat.lt_of_lt_of_le Bp_6.lt l7); have nna : bn ≠ ba := Nat.ne_of_lt (Nat.lt_of_lt_of_le Bn_6.lt l7); have Bm_7 := Bm_6.keep k7; have Bc_7 := Bc_6.keep k7; have Bk_7 := Bk_6.keep k7; have Bp_7 := Bp_6.keep k7; have Bn_7 := Bn_6.keep k7; have Hw7 := bq_trans Hw6 k7; clear l7 k7 Bm_6 Bc_6 Bk_6 Bp_6 Bn_6 Hw6)
  try simp only [Act.put, List.setIfInBounds_toArray, List.set_cons_zero, List.set_cons_succ]
  go_upto_region 3 with (fail)
  refine Dnw.wp_region_new 6 7 12 23 6 _ #[.int .i64 A, .int .i64 B, .int .i64 C, .int .i64 D, .int .i64 X, .int .i64 Y] (by kernel_rfl) (by kernel_rfl) (Dnw.new_of zeMt szMt rfl rfl rfl rfl rfl rfl rfl (by intro h; cases h) rfl rfl (by kernel_rfl) (by kernel_rfl)) rfl (by kernel_rfl) (of_decide_eq_true rfl) ?_
  refine Dnw.dn_call (f := 27) (args := #[]) (v := .agg #[.int .i64 65536, .int .i64 0, .int .i64 0, .int .i64 65536, .int .i64 0, .int .i64 0]) (by decide) (by decide) (by rfl) ?_ (fun w hS => HS.out w) ?_
  · (intro w hSw; go_simp)
  try simp only [Act.put, List.setIfInBounds_toArray, List.set_cons_zero, List.set_cons_succ]
  refine Dnw.dn_load (by decide) (by decide) 23 6 _ Try.underlying23 rfl szMt _ rfl (by rfl) _ rfl _ _ (fun w hS => Bm_7.keep hS) rfl ?_
  try simp only [Act.put, List.setIfInBounds_toArray, List.set_cons_zero, List.set_cons_succ]
  refine Dnw.dn_call (f := 9) (args := #[.agg #[.int .i64 65536, .int .i64 0, .int .i64 0, .int .i64 65536, .int .i64 0, .int .i64 0], .agg #[.int .i64 A, .int .i64 B, .int .i64 C, .int .i64 D, .int .i64 X, .int .i64 Y]]) (v := .tuple #[.agg #[.int .i64 A, .int .i64 B, .int .i64 C, .int .i64 D, .int .i64 X, .int .i64 Y], .int .i64 0]) (by decide) (by decide) (by rfl) ?_ (fun w hS => H2.out w) ?_
  · (intro w hSw; go_simp)
  try simp only [Act.put, List.setIfInBounds_toArray, List.set_cons_zero, List.set_cons_succ]
  refine Dnw.dn_take (v := ?_) (by decide) (by decide) (by rfl) ?_ ?_
  rotate_left
  · (intro w hSw; go_simp; try with_reducible rfl)
  try simp only [Act.put, List.setIfInBounds_toArray, List.set_cons_zero, List.set_cons_succ]
  refine Dnw.dn_take (v := ?_) (by decide) (by decide) (by rfl) ?_ ?_
  rotate_left
  · (intro w hSw; go_simp; try with_reducible rfl)
  try simp only [Act.put, List.setIfInBounds_toArray, List.set_cons_zero, List.set_cons_succ]
  refine Dnw.dn_take (v := ?_) (by decide) (by decide) (by rfl) ?_ ?_
  rotate_left
  · (intro w hSw; go_simp; try with_reducible rfl)
  try simp only [Act.put, List.setIfInBounds_toArray, List.set_cons_zero, List.set_cons_succ]
  refine Dnw.dn_alloc rfl ?_
  try simp only [Act.put, List.setIfInBounds_toArray, List.set_cons_zero, List.set_cons_succ]
  refine Dnw.dn_store rfl _ rfl rfl ?_
  try simp only [Act.put, List.setIfInBounds_toArray, List.set_cons_zero, List.set_cons_succ]
  refine Dnw.dn_take (v := ?_) (by decide) (by decide) (by rfl) ?_ ?_
  rotate_left
  · (intro w hSw; go_simp; try with_reducible rfl)
  try simp only [Act.put, List.setIfInBounds_toArray, List.set_cons_zero, List.set_cons_succ]
  (refine Dnw.dn_nil ?_; intro W8 bb Bb_8 l8 k8; have gb : w.heap.size ≤ bb := Nat.le_trans Hw7.size l8; have nmb : bm ≠ bb := Nat.ne_of_lt (Nat.lt_of_lt_of_le Bm_7.lt l8); have ncb : bc ≠ bb := Nat.ne_of_lt (Nat.lt_of_lt_of_le Bc_7.lt l8); have nkb : bk ≠ bb := Nat.ne_of_lt (Nat.lt_of_lt_of_le Bk_7.lt l8); have npb : bp ≠ bb := Nat.ne_of_lt (Nat.lt_of_lt_of_le Bp_7.lt l8); have nnb : bn ≠ bb := Nat.ne_of_lt (Nat.lt_of_lt_of_le Bn_7.lt l8); have nab : ba ≠ bb := Nat.ne_of_lt (Nat.lt_of_lt_of_le Ba_7.lt l8); have Bm_8 := Bm_7.keep k8; have Bc_8 := Bc_7.keep k8; have Bk_8 := Bk_7.keep k8; have Bp_8 := Bp_7.keep k8; have Bn_8 := Bn_7.keep k8; have Ba_8 := Ba_7.keep k8; have Hw8 := bq_trans Hw7 k8; clear l8 k8 Bm_7 Bc_7 Bk_7 Bp_7 Bn_7 Ba_7 Hw7)
  try simp only [Act.put, List.setIfInBounds_toArray, List.set_cons_zero, List.set_cons_succ]
  go_upto_region 4 with (fail)
  refine Det.wp_region_text (S := fun w' => Below W8.heap.size W8 w') (bq_refl _) ?_
  refine Det.det_load 23 6 _ Try.underlying23 rfl szMt _ rfl (by rfl) _ rfl _ _ (fun w hS => Bm_8.keep hS) rfl ?_
  try simp only [Act.put, List.setIfInBounds_toArray, List.set_cons_zero, List.set_cons_succ]
  refine Det.det_call (f := 21) (args := #[.agg #[.int .i64 A, .int .i64 B, .int .i64 C, .int .i64 D, .int .i64 X, .int .i64 Y]]) (v := .bool true) (by rfl) ?_ (fun w hS => (H3.out w).mono fun e w' ⟨h1, h2⟩ => ⟨h1, bq_trans hS h2⟩) ?_
  · (intro w hSw; go_simp)
  try simp only [Act.put, List.setIfInBounds_toArray, List.set_cons_zero, List.set_cons_succ]
  refine Det.det_take (v := ?_) (by rfl) ?_ ?_
  rotate_left
  · (intro w hSw; go_simp; try with_reducible rfl)
  try simp only [Act.put, List.setIfInBounds_toArray, List.set_cons_zero, List.set_cons_succ]
  refine Det.det_load 23 6 _ Try.underlying23 rfl szMt _ rfl (by rfl) _ rfl _ _ (fun w hS => Ba_8.keep hS) rfl ?_
  try simp only [Act.put, List.setIfInBounds_toArray, List.set_cons_zero, List.set_cons_succ]
  refine Det.det_load 23 6 _ Try.underlying23 rfl szMt _ rfl (by rfl) _ rfl _ _ (fun w hS => Bm_8.keep hS) rfl ?_
  try simp only [Act.put, List.setIfInBounds_toArray, List.set_cons_zero, List.set_cons_succ]
  refine Det.det_take (v := ?_) (by rfl) ?_ ?_
  rotate_left
  · (intro w hSw; have q := eqM14 A B C D X Y w; go_simp; try with_reducible rfl)
  try simp only [Act.put, List.setIfInBounds_toArray, List.set_cons_zero, List.set_cons_succ]
  refine Det.det_take (v := ?_) (by rfl) ?_ ?_
  rotate_left
  · (intro w hSw; go_simp; try with_reducible rfl)
  try simp only [Act.put, List.setIfInBounds_toArray, List.set_cons_zero, List.set_cons_succ]
  refine Det.det_load 23 6 _ Try.underlying23 rfl szMt _ rfl (by rfl) _ rfl _ _ (fun w hS => Bb_8.keep hS) rfl ?_
  try simp only [Act.put, List.setIfInBounds_toArray, List.set_cons_zero, List.set_cons_succ]
  refine Det.det_load 23 6 _ Try.underlying23 rfl szMt _ rfl (by rfl) _ rfl _ _ (fun w hS => Bm_8.keep hS) rfl ?_
  try simp only [Act.put, List.setIfInBounds_toArray, List.set_cons_zero, List.set_cons_succ]
  refine Det.det_take (v := ?_) (by rfl) ?_ ?_
  rotate_left
  · (intro w hSw; have q := eqM14 A B C D X Y w; go_simp; try with_reducible rfl)
  try simp only [Act.put, List.setIfInBounds_toArray, List.set_cons_zero, List.set_cons_succ]
  refine Det.det_take (v := ?_) (by rfl) ?_ ?_
  rotate_left
  · (intro w hSw; go_simp; try with_reducible rfl)
  try simp only [Act.put, List.setIfInBounds_toArray, List.set_cons_zero, List.set_cons_succ]
  refine Det.det_take (v := ?_) (by rfl) ?_ ?_
  rotate_left
  · (intro w hSw; go_simp; try with_reducible rfl)
  try simp only [Act.put, List.setIfInBounds_toArray, List.set_cons_zero, List.set_cons_succ]
  refine Det.det_take (v := ?_) (by rfl) ?_ ?_
  rotate_left
  · (intro w hSw; go_simp; try with_reducible rfl)
  try simp only [Act.put, List.setIfInBounds_toArray, List.set_cons_zero, List.set_cons_succ]
  refine Det.det_take (v := ?_) (by rfl) ?_ ?_
  rotate_left
  · (intro w hSw; go_simp; try with_reducible rfl)
  try simp only [Act.put, List.setIfInBounds_toArray, List.set_cons_zero, List.set_cons_succ]
  refine Det.det_take (v := ?_) (by rfl) ?_ ?_
  rotate_left
  · (intro w hSw; go_simp; try with_reducible rfl)
  try simp only [Act.put, List.setIfInBounds_toArray, List.set_cons_zero, List.set_cons_succ]
  refine Det.det_take (v := ?_) (by rfl) ?_ ?_
  rotate_left
  · (intro w hSw; go_simp; try with_reducible rfl)
  try simp only [Act.put, List.setIfInBounds_toArray, List.set_cons_zero, List.set_cons_succ]
  refine Det.det_take (v := ?_) (by rfl) ?_ ?_
  rotate_left
  · (intro w hSw; go_simp; try with_reducible rfl)
  try simp only [Act.put, List.setIfInBounds_toArray, List.set_cons_zero, List.set_cons_succ]
  refine Det.det_take (v := ?_) (by rfl) ?_ ?_
  rotate_left
  · (intro w hSw; go_simp; try with_reducible rfl)
  try simp only [Act.put, List.setIfInBounds_toArray, List.set_cons_zero, List.set_cons_succ]
  refine Det.det_take (v := ?_) (by rfl) ?_ ?_
  rotate_left
  · (intro w hSw; go_simp; try with_reducible rfl)
  try simp only [Act.put, List.setIfInBounds_toArray, List.set_cons_zero, List.set_cons_succ]
  refine Det.det_take (v := ?_) (by rfl) ?_ ?_
  rotate_left
  · (intro w hSw; go_simp; try with_reducible rfl)
  try simp only [Act.put, List.setIfInBounds_toArray, List.set_cons_zero, List.set_cons_succ]
  refine Det.det_nil (fun W9 k9 => ?_)
  have Bm_9 := Bm_8.keep k9
  have Bc_9 := Bc_8.keep k9
  have Bk_9 := Bk_8.keep k9
  have Bp_9 := Bp_8.keep k9
  have Bn_9 := Bn_8.keep k9
  have Ba_9 := Ba_8.keep k9
  have Bb_9 := Bb_8.keep k9
  have Hw9 := bq_trans Hw8 k9
  clear k9 Bm_8 Bc_8 Bk_8 Bp_8 Bn_8 Ba_8 Bb_8 Hw8
  go_upto_region 6 with (fail)
  refine Det.wp_region_det (S := fun w' => Below W9.heap.size W9 w') (by kernel_rfl) (by kernel_rfl) (bq_drew (bq_refl _)) ?_
  refine Det.det_load 26 8 _ Try.underlying26 rfl szCx _ rfl (by rfl) _ rfl _ _ (fun w hS => Bc_9.keep hS) rfl ?_
  try simp only [Act.put, List.setIfInBounds_toArray, List.set_cons_zero, List.set_cons_succ]
  refine Det.det_call (f := 12) (args := #[.agg #[.int .i64 m0, .int .i64 m1, .int .i64 m2, .int .i64 m3, .int .i64 d0, .int .i64 d1, .int .i64 d2, .int .i64 d3]]) (v := .bool false) (by rfl) ?_ (fun w hS => (H4.out w).mono fun e w' ⟨h1, h2⟩ => ⟨h1, bq_trans hS h2⟩) ?_
  · (intro w hSw; go_simp)
  try simp only [Act.put, List.setIfInBounds_toArray, List.set_cons_zero, List.set_cons_succ]
  refine Det.det_take (v := ?_) (by rfl) ?_ ?_
  rotate_left
  · (intro w hSw; go_simp; try with_reducible rfl)
  try simp only [Act.put, List.setIfInBounds_toArray, List.set_cons_zero, List.set_cons_succ]
  refine Det.det_skip (by rfl) ?_
  try simp only [Act.put, List.setIfInBounds_toArray, List.set_cons_zero, List.set_cons_succ]
  refine Det.det_skip (by rfl) ?_
  try simp only [Act.put, List.setIfInBounds_toArray, List.set_cons_zero, List.set_cons_succ]
  refine Det.det_skip (by rfl) ?_
  try simp only [Act.put, List.setIfInBounds_toArray, List.set_cons_zero, List.set_cons_succ]
  refine Det.det_skip (by rfl) ?_
  try simp only [Act.put, List.setIfInBounds_toArray, List.set_cons_zero, List.set_cons_succ]
  refine Det.det_skip (by rfl) ?_
  try simp only [Act.put, List.setIfInBounds_toArray, List.set_cons_zero, List.set_cons_succ]
  refine Det.det_skip (by rfl) ?_
  try simp only [Act.put, List.setIfInBounds_toArray, List.set_cons_zero, List.set_cons_succ]
  refine Det.det_skip (by rfl) ?_
  try simp only [Act.put, List.setIfInBounds_toArray, List.set_cons_zero, List.set_cons_succ]
  refine Det.det_skip (by rfl) ?_
  try simp only [Act.put, List.setIfInBounds_toArray, List.set_cons_zero, List.set_cons_succ]
  refine Det.det_skip (by rfl) ?_
  try simp only [Act.put, List.setIfInBounds_toArray, List.set_cons_zero, List.set_cons_succ]
  refine Det.det_skip (by rfl) ?_
  try simp only [Act.put, List.setIfInBounds_toArray, List.set_cons_zero, List.set_cons_succ]
  refine Det.det_skip (by rfl) ?_
  try simp only [Act.put, List.setIfInBounds_toArray, List.set_cons_zero, List.set_cons_succ]
  refine Det.det_skip (by rfl) ?_
  try simp only [Act.put, List.setIfInBounds_toArray, List.set_cons_zero, List.set_cons_succ]
  refine Det.det_take (v := ?_) (by rfl) ?_ ?_
  rotate_left
  · (intro w hSw; go_simp; try with_reducible rfl)
  try simp only [Act.put, List.setIfInBounds_toArray, List.set_cons_zero, List.set_cons_succ]
  refine Det.det_nil (fun W10 k10 => ?_)
  have Bm_10 := Bm_9.keep k10
  have Bc_10 := Bc_9.keep k10
  have Bk_10 := Bk_9.keep k10
  have Bp_10 := Bp_9.keep k10
  have Bn_10 := Bn_9.keep k10
  have Ba_10 := Ba_9.keep k10
  have Bb_10 := Bb_9.keep k10
  have Hw10 := bq_trans Hw9 k10
  clear k10 Bm_9 Bc_9 Bk_9 Bp_9 Bn_9 Ba_9 Bb_9 Hw9
  go_upto_region 8 with (fail)
  refine Det.wp_region_det (S := fun w' => Below W10.heap.size W10 w') (by kernel_rfl) (by kernel_rfl) (bq_drew (bq_refl _)) ?_
  refine Det.det_load 48 4 _ Try.underlying48 rfl szRg _ rfl (by rfl) _ rfl _ _ (fun w hS => Bk_10.keep hS) rfl ?_
  try simp only [Act.put, List.setIfInBounds_toArray, List.set_cons_zero, List.set_cons_succ]
  refine Det.det_call (f := 24) (args := #[.agg #[.int .i64 kr, .int .i64 kg, .int .i64 kb, .int .i64 ka]]) (v := .bool false) (by rfl) ?_ (fun w hS => (H7.out w).mono fun e w' ⟨h1, h2⟩ => ⟨h1, bq_trans hS h2⟩) ?_
  · (intro w hSw; go_simp)
  try simp only [Act.put, List.setIfInBounds_toArray, List.set_cons_zero, List.set_cons_succ]
  refine Det.det_take (v := ?_) (by rfl) ?_ ?_
  rotate_left
  · (intro w hSw; go_simp; try with_reducible rfl)
  try simp only [Act.put, List.setIfInBounds_toArray, List.set_cons_zero, List.set_cons_succ]
  refine Det.det_skip (by rfl) ?_
  try simp only [Act.put, List.setIfInBounds_toArray, List.set_cons_zero, List.set_cons_succ]
  refine Det.det_skip (by rfl) ?_
  try simp only [Act.put, List.setIfInBounds_toArray, List.set_cons_zero, List.set_cons_succ]
  refine Det.det_skip (by rfl) ?_
  try simp only [Act.put, List.setIfInBounds_toArray, List.set_cons_zero, List.set_cons_succ]
  refine Det.det_skip (by rfl) ?_
  try simp only [Act.put, List.setIfInBounds_toArray, List.set_cons_zero, List.set_cons_succ]
  refine Det.det_skip (by rfl) ?_
  try simp only [Act.put, List.setIfInBounds_toArray, List.set_cons_zero, List.set_cons_succ]
  refine Det.det_take (v := ?_) (by rfl) ?_ ?_
  rotate_left
  · (intro w hSw; go_simp; try with_reducible rfl)
  try simp only [Act.put, List.setIfInBounds_toArray, List.set_cons_zero, List.set_cons_succ]
  refine Det.det_nil (fun W11 k11 => ?_)
  have Bm_11 := Bm_10.keep k11
  have Bc_11 := Bc_10.keep k11
  have Bk_11 := Bk_10.keep k11
  have Bp_11 := Bp_10.keep k11
  have Bn_11 := Bn_10.keep k11
  have Ba_11 := Ba_10.keep k11
  have Bb_11 := Bb_10.keep k11
  have Hw11 := bq_trans Hw10 k11
  clear k11 Bm_10 Bc_10 Bk_10 Bp_10 Bn_10 Ba_10 Bb_10 Hw10
  go_upto_region 10 with (fail)
  go_upto_region 11 with (go_big_may; first
    | (refine wl_load 23 6 _ Try.underlying23 rfl szMt _ rfl rfl _ rfl _ _ Bm_11 rfl ?_)
    | (refine wl_load 37 2 _ Try.underlying37 rfl szPt _ rfl rfl _ rfl _ _ Bp_11 rfl ?_)
    | (go_at_call 16; (with_reducible refine (H9.out _).mono ?_); rintro e W12 ⟨rfl, k12⟩; have Bm_12 := Bm_11.keep k12; have Bc_12 := Bc_11.keep k12; have Bk_12 := Bk_11.keep k12; have Bp_12 := Bp_11.keep k12; have Bn_12 := Bn_11.keep k12; have Ba_12 := Ba_11.keep k12; have Bb_12 := Bb_11.keep k12; have Hw12 := bq_trans Hw11 k12; clear k12 Bm_11 Bc_11 Bk_11 Bp_11 Bn_11 Ba_11 Bb_11 Hw11)
    | (refine wl_alloc 37 _ zePt rfl rfl ?_; intro W13 bg Bg_13 l13 k13; have gg : w.heap.size ≤ bg := Nat.le_trans Hw12.size l13; have nmg : bm ≠ bg := Nat.ne_of_lt (Nat.lt_of_lt_of_le Bm_12.lt l13); have ncg : bc ≠ bg := Nat.ne_of_lt (Nat.lt_of_lt_of_le Bc_12.lt l13); have nkg : bk ≠ bg := Nat.ne_of_lt (Nat.lt_of_lt_of_le Bk_12.lt l13); have npg : bp ≠ bg := Nat.ne_of_lt (Nat.lt_of_lt_of_le Bp_12.lt l13); have nng : bn ≠ bg := Nat.ne_of_lt (Nat.lt_of_lt_of_le Bn_12.lt l13); have nag : ba ≠ bg := Nat.ne_of_lt (Nat.lt_of_lt_of_le Ba_12.lt l13); have nbg : bb ≠ bg := Nat.ne_of_lt (Nat.lt_of_lt_of_le Bb_12.lt l13); have Bm_13 := Bm_12.keep k13; have Bc_13 := Bc_12.keep k13; have Bk_13 := Bk_12.keep k13; have Bp_13 := Bp_12.keep k13; have Bn_13 := Bn_12.keep k13; have Ba_13 := Ba_12.keep k13; have Bb_13 := Bb_12.keep k13; have Hw13 := bq_trans Hw12 k13; clear l13 k13 Bm_12 Bc_12 Bk_12 Bp_12 Bn_12 Ba_12 Bb_12 Hw12)
    | (refine wl_store 37 2 szPt _ _ rfl rfl _ rfl #[.int .i64 (2 * r), .int .i64 (2 * s)] rfl _ _ Bg_13 rfl rfl (by kernel_rfl) ?_; intro W14 Bg_14 T14; have Bm_14 := T14.blk Bm_13 nmg; have Bc_14 := T14.blk Bc_13 ncg; have Bk_14 := T14.blk Bk_13 nkg; have Bp_14 := T14.blk Bp_13 npg; have Bn_14 := T14.blk Bn_13 nng; have Ba_14 := T14.blk Ba_13 nag; have Bb_14 := T14.blk Bb_13 nbg; have Hw14 := T14.below Hw13 gg; clear T14 Bm_13 Bc_13 Bk_13 Bp_13 Bn_13 Ba_13 Bb_13 Bg_13 Hw13))
  refine Det.wp_region_text (S := fun w' => Below W14.heap.size W14 w') (bq_refl _) ?_
  refine Det.det_take (v := ?_) (by rfl) ?_ ?_
  rotate_left
  · (intro w hSw; go_simp; try with_reducible rfl)
  try simp only [Act.put, List.setIfInBounds_toArray, List.set_cons_zero, List.set_cons_succ]
  refine Det.det_take (v := ?_) (by rfl) ?_ ?_
  rotate_left
  · (intro w hSw; go_simp; try with_reducible rfl)
  try simp only [Act.put, List.setIfInBounds_toArray, List.set_cons_zero, List.set_cons_succ]
  refine Det.det_take (v := ?_) (by rfl) ?_ ?_
  rotate_left
  · (intro w hSw; go_simp; try with_reducible rfl)
  try simp only [Act.put, List.setIfInBounds_toArray, List.set_cons_zero, List.set_cons_succ]
  refine Det.det_take (v := ?_) (by rfl) ?_ ?_
  rotate_left
  · (intro w hSw; go_simp; try with_reducible rfl)
  try simp only [Act.put, List.setIfInBounds_toArray, List.set_cons_zero, List.set_cons_succ]
  refine Det.det_take (v := ?_) (by rfl) ?_ ?_
  rotate_left
  · (intro w hSw; have cc : w.cell? ⟨bg, 0, none⟩ = some (.int .i64 (2 * r)) := (Bg_14.keep hSw).cell 0; go_simp; try with_reducible rfl)
  try simp only [Act.put, List.setIfInBounds_toArray, List.set_cons_zero, List.set_cons_succ]
  refine Det.det_take (v := ?_) (by rfl) ?_ ?_
  rotate_left
  · (intro w hSw; have h2 := HM.out.1; go_simp; try with_reducible rfl)
  try simp only [Act.put, List.setIfInBounds_toArray, List.set_cons_zero, List.set_cons_succ]
  refine Det.det_take (v := ?_) (by rfl) ?_ ?_
  rotate_left
  · (intro w hSw; go_simp; try with_reducible rfl)
  try simp only [Act.put, List.setIfInBounds_toArray, List.set_cons_zero, List.set_cons_succ]
  refine Det.det_take (v := ?_) (by rfl) ?_ ?_
  rotate_left
  · (intro w hSw; go_simp; try with_reducible rfl)
  try simp only [Act.put, List.setIfInBounds_toArray, List.set_cons_zero, List.set_cons_succ]
  refine Det.det_take (v := ?_) (by rfl) ?_ ?_
  rotate_left
  · (intro w hSw; go_simp; try with_reducible rfl)
  try simp only [Act.put, List.setIfInBounds_toArray, List.set_cons_zero, List.set_cons_succ]
  refine Det.det_take (v := ?_) (by rfl) ?_ ?_
  rotate_left
  · (intro w hSw; have cc : w.cell? ⟨bg, 1, none⟩ = some (.int .i64 (2 * s)) := (Bg_14.keep hSw).cell 1; go_simp; try with_reducible rfl)
  try simp only [Act.put, List.setIfInBounds_toArray, List.set_cons_zero, List.set_cons_succ]
  refine Det.det_take (v := ?_) (by rfl) ?_ ?_
  rotate_left
  · (intro w hSw; have h2 := HM.out.2; go_simp; try with_reducible rfl)
  try simp only [Act.put, List.setIfInBounds_toArray, List.set_cons_zero, List.set_cons_succ]
  refine Det.det_take (v := ?_) (by rfl) ?_ ?_
  rotate_left
  · (intro w hSw; go_simp; try with_reducible rfl)
  try simp only [Act.put, List.setIfInBounds_toArray, List.set_cons_zero, List.set_cons_succ]
  refine Det.det_take (v := ?_) (by rfl) ?_ ?_
  rotate_left
  · (intro w hSw; go_simp; try with_reducible rfl)
  try simp only [Act.put, List.setIfInBounds_toArray, List.set_cons_zero, List.set_cons_succ]
  refine Det.det_take (v := ?_) (by rfl) ?_ ?_
  rotate_left
  · (intro w hSw; go_simp; try with_reducible rfl)
  try simp only [Act.put, List.setIfInBounds_toArray, List.set_cons_zero, List.set_cons_succ]
  refine Det.det_take (v := ?_) (by rfl) ?_ ?_
  rotate_left
  · (intro w hSw; go_simp; try with_reducible rfl)
  try simp only [Act.put, List.setIfInBounds_toArray, List.set_cons_zero, List.set_cons_succ]
  refine Det.det_call (f := 14) (args := #[]) (v := .bool true) (by rfl) ?_ (fun w hS => (HA.out w).mono fun e w' ⟨h1, h2⟩ => ⟨h1, bq_trans hS h2⟩) ?_
  · (intro w hSw; go_simp)
  try simp only [Act.put, List.setIfInBounds_toArray, List.set_cons_zero, List.set_cons_succ]
  refine Det.det_take (v := ?_) (by rfl) ?_ ?_
  rotate_left
  · (intro w hSw; go_simp; try with_reducible rfl)
  try simp only [Act.put, List.setIfInBounds_toArray, List.set_cons_zero, List.set_cons_succ]
  refine Det.det_take (v := ?_) (by rfl) ?_ ?_
  rotate_left
  · (intro w hSw; go_simp; try with_reducible rfl)
  try simp only [Act.put, List.setIfInBounds_toArray, List.set_cons_zero, List.set_cons_succ]
  refine Det.det_nil (fun W15 k15 => ?_)
  have Bm_15 := Bm_14.keep k15
  have Bc_15 := Bc_14.keep k15
  have Bk_15 := Bk_14.keep k15
  have Bp_15 := Bp_14.keep k15
  have Bn_15 := Bn_14.keep k15
  have Ba_15 := Ba_14.keep k15
  have Bb_15 := Bb_14.keep k15
  have Bg_15 := Bg_14.keep k15
  have Hw15 := bq_trans Hw14 k15
  clear k15 Bm_14 Bc_14 Bk_14 Bp_14 Bn_14 Ba_14 Bb_14 Bg_14 Hw14
  go_wp2_with fail
  go_ret
  exact ⟨rfl, Hw15⟩
set_option maxHeartbeats 4000000 in
theorem same14_1010 (A B C D X Y m0 m1 m2 m3 d0 d1 d2 d3 kr kg kb ka x y r s ev : Int) (w : World) (hev : (ev != 0) = true) (HM : Hid ((2 * r).tmod 2 = 0 ∧ (2 * s).tmod 2 = 0)) (HA : Hid (∀ W, Calls Try.prog 14 #[] W fun e w' => e = .returned (.bool true) ∧ Below W.heap.size W w')) (HS : Hid (∀ W, Calls Try.prog 27 #[] W fun e w' => e = .returned (.agg #[.int .i64 65536, .int .i64 0, .int .i64 0, .int .i64 65536, .int .i64 0, .int .i64 0]) ∧ Below W.heap.size W w'))
    (H1 : Hid (∀ W, Calls Try.prog 9 #[.agg #[.int .i64 A, .int .i64 B, .int .i64 C, .int .i64 D, .int .i64 X, .int .i64 Y], .agg #[.int .i64 65536, .int .i64 0, .int .i64 0, .int .i64 65536, .int .i64 0, .int .i64 0]] W fun e w' => e = .returned (.tuple #[.agg #[.int .i64 A, .int .i64 B, .int .i64 C, .int .i64 D, .int .i64 X, .int .i64 Y], .int .i64 0]) ∧ Below W.heap.size W w')) (H2 : Hid (∀ W, Calls Try.prog 9 #[.agg #[.int .i64 65536, .int .i64 0, .int .i64 0, .int .i64 65536, .int .i64 0, .int .i64 0], .agg #[.int .i64 A, .int .i64 B, .int .i64 C, .int .i64 D, .int .i64 X, .int .i64 Y]] W fun e w' => e = .returned (.tuple #[.agg #[.int .i64 A, .int .i64 B, .int .i64 C, .int .i64 D, .int .i64 X, .int .i64 Y], .int .i64 0]) ∧ Below W.heap.size W w')) (H3 : Hid (∀ W, Calls Try.prog 21 #[.agg #[.int .i64 A, .int .i64 B, .int .i64 C, .int .i64 D, .int .i64 X, .int .i64 Y]] W fun e w' => e = .returned (.bool true) ∧ Below W.heap.size W w')) (H4 : Hid (∀ W, Calls Try.prog 12 #[.agg #[.int .i64 m0, .int .i64 m1, .int .i64 m2, .int .i64 m3, .int .i64 d0, .int .i64 d1, .int .i64 d2, .int .i64 d3]] W fun e w' => e = .returned (.bool false) ∧ Below W.heap.size W w'))  (H7 : Hid (∀ W, Calls Try.prog 24 #[.agg #[.int .i64 kr, .int .i64 kg, .int .i64 kb, .int .i64 ka]] W fun e w' => e = .returned (.bool true) ∧ Below W.heap.size W w')) (H8 : Hid (∀ W, Calls Try.prog 26 #[.agg #[.int .i64 256, .int .i64 256, .int .i64 256, .int .i64 256, .int .i64 0, .int .i64 0, .int .i64 0, .int .i64 0], .agg #[.int .i64 kr, .int .i64 kg, .int .i64 kb, .int .i64 ka]] W fun e w' => e = .returned (.agg #[.int .i64 kr, .int .i64 kg, .int .i64 kb, .int .i64 ka]) ∧ Below W.heap.size W w'))
    (H9 : Hid (∀ W, Calls Try.prog 16 #[.agg #[.int .i64 A, .int .i64 B, .int .i64 C, .int .i64 D, .int .i64 X, .int .i64 Y], .agg #[.int .i64 x, .int .i64 y]] W fun e w' => e = .returned (.tuple #[.agg #[.int .i64 0, .int .i64 0], .int .i64 ev]) ∧ Below W.heap.size W w')) :
    Calls Try.prog 7 #[.agg #[.int .i64 A, .int .i64 B, .int .i64 C, .int .i64 D, .int .i64 X, .int .i64 Y], .agg #[.int .i64 m0, .int .i64 m1, .int .i64 m2, .int .i64 m3, .int .i64 d0, .int .i64 d1, .int .i64 d2, .int .i64 d3], .agg #[.int .i64 kr, .int .i64 kg, .int .i64 kb, .int .i64 ka], .agg #[.int .i64 x, .int .i64 y]] w fun e w' => e = .returned (.bool true) ∧ Below w.heap.size w w' := by
  have HEV := Lib.hid hev
  clear hev
  go_enter Try.func7, Try.ntmps7
  go_upto_region 1 with (go_big_may; first
    | (refine wl_box 23 _ _ rfl rfl (show _ = Value.agg #[.int .i64 A, .int .i64 B, .int .i64 C, .int .i64 D, .int .i64 X, .int .i64 Y] from rfl) ?_; intro W1 bm Bm_1 l1 k1; have gm : w.heap.size ≤ bm := l1; have Hw1 := k1; clear l1 k1)
    | (refine wl_box 26 _ _ rfl rfl (show _ = Value.agg #[.int .i64 m0, .int .i64 m1, .int .i64 m2, .int .i64 m3, .int .i64 d0, .int .i64 d1, .int .i64 d2, .int .i64 d3] from rfl) ?_; intro W2 bc Bc_2 l2 k2; have gc : w.heap.size ≤ bc := Nat.le_trans Hw1.size l2; have nmc : bm ≠ bc := Nat.ne_of_lt (Nat.lt_of_lt_of_le Bm_1.lt l2); have Bm_2 := Bm_1.keep k2; have Hw2 := bq_trans Hw1 k2; clear l2 k2 Bm_1 Hw1)
    | (refine wl_box 48 _ _ rfl rfl (show _ = Value.agg #[.int .i64 kr, .int .i64 kg, .int .i64 kb, .int .i64 ka] from rfl) ?_; intro W3 bk Bk_3 l3 k3; have gk : w.heap.size ≤ bk := Nat.le_trans Hw2.size l3; have nmk : bm ≠ bk := Nat.ne_of_lt (Nat.lt_of_lt_of_le Bm_2.lt l3); have nck : bc ≠ bk := Nat.ne_of_lt (Nat.lt_of_lt_of_le Bc_2.lt l3); have Bm_3 := Bm_2.keep k3; have Bc_3 := Bc_2.keep k3; have Hw3 := bq_trans Hw2 k3; clear l3 k3 Bm_2 Bc_2 Hw2)
    | (refine wl_box 37 _ _ rfl rfl (show _ = Value.agg #[.int .i64 x, .int .i64 y] from rfl) ?_; intro W4 bp Bp_4 l4 k4; have gp : w.heap.size ≤ bp := Nat.le_trans Hw3.size l4; have nmp : bm ≠ bp := Nat.ne_of_lt (Nat.lt_of_lt_of_le Bm_3.lt l4); have ncp : bc ≠ bp := Nat.ne_of_lt (Nat.lt_of_lt_of_le Bc_3.lt l4); have nkp : bk ≠ bp := Nat.ne_of_lt (Nat.lt_of_lt_of_le Bk_3.lt l4); have Bm_4 := Bm_3.keep k4; have Bc_4 := Bc_3.keep k4; have Bk_4 := Bk_3.keep k4; have Hw4 := bq_trans Hw3 k4; clear l4 k4 Bm_3 Bc_3 Bk_3 Hw3))
  go_upto_region 2 with (go_big_may; first
    | (refine wl_alloc 26 _ zeCx rfl rfl ?_; intro W5 bn Bn_5 l5 k5; have gn : w.heap.size ≤ bn := Nat.le_trans Hw4.size l5; have nmn : bm ≠ bn := Nat.ne_of_lt (Nat.lt_of_lt_of_le Bm_4.lt l5); have ncn : bc ≠ bn := Nat.ne_of_lt (Nat.lt_of_lt_of_le Bc_4.lt l5); have nkn : bk ≠ bn := Nat.ne_of_lt (Nat.lt_of_lt_of_le Bk_4.lt l5); have npn : bp ≠ bn := Nat.ne_of_lt (Nat.lt_of_lt_of_le Bp_4.lt l5); have Bm_5 := Bm_4.keep k5; have Bc_5 := Bc_4.keep k5; have Bk_5 := Bk_4.keep k5; have Bp_5 := Bp_4.keep k5; have Hw5 := bq_trans Hw4 k5; clear l5 k5 Bm_4 Bc_4 Bk_4 Bp_4 Hw4)
    | (refine wl_store 26 8 szCx _ _ rfl rfl _ rfl #[.int .i64 256, .int .i64 256, .int .i64 256, .int .i64 256, .int .i64 0, .int .i64 0, .int .i64 0, .int .i64 0] rfl _ _ Bn_5 rfl rfl (by kernel_rfl) ?_; intro W6 Bn_6 T6; have Bm_6 := T6.blk Bm_5 nmn; have Bc_6 := T6.blk Bc_5 ncn; have Bk_6 := T6.blk Bk_5 nkn; have Bp_6 := T6.blk Bp_5 npn; have Hw6 := T6.below Hw5 gn; clear T6 Bm_5 Bc_5 Bk_5 Bp_5 Bn_5 Hw5))
  refine Dnw.wp_region_new 6 7 10 23 6 _ #[.int .i64 A, .int .i64 B, .int .i64 C, .int .i64 D, .int .i64 X, .int .i64 Y] (by kernel_rfl) (by kernel_rfl) (Dnw.new_of zeMt szMt rfl rfl rfl rfl rfl rfl rfl (by intro h; cases h) rfl rfl (by kernel_rfl) (by kernel_rfl)) rfl (by kernel_rfl) (of_decide_eq_true rfl) ?_
  refine Dnw.dn_load (by decide) (by decide) 23 6 _ Try.underlying23 rfl szMt _ rfl (by rfl) _ rfl _ _ (fun w hS => Bm_6.keep hS) rfl ?_
  try simp only [Act.put, List.setIfInBounds_toArray, List.set_cons_zero, List.set_cons_succ]
  refine Dnw.dn_call (f := 27) (args := #[]) (v := .agg #[.int .i64 65536, .int .i64 0, .int .i64 0, .int .i64 65536, .int .i64 0, .int .i64 0]) (by decide) (by decide) (by rfl) ?_ (fun w hS => HS.out w) ?_
  · (intro w hSw; go_simp)
  try simp only [Act.put, List.setIfInBounds_toArray, List.set_cons_zero, List.set_cons_succ]
  refine Dnw.dn_call (f := 9) (args := #[.agg #[.int .i64 A, .int .i64 B, .int .i64 C, .int .i64 D, .int .i64 X, .int .i64 Y], .agg #[.int .i64 65536, .int .i64 0, .int .i64 0, .int .i64 65536, .int .i64 0, .int .i64 0]]) (v := .tuple #[.agg #[.int .i64 A, .int .i64 B, .int .i64 C, .int .i64 D, .int .i64 X, .int .i64 Y], .int .i64 0]) (by decide) (by decide) (by rfl) ?_ (fun w hS => H1.out w) ?_
  · (intro w hSw; go_simp)
  try simp only [Act.put, List.setIfInBounds_toArray, List.set_cons_zero, List.set_cons_succ]
  refine Dnw.dn_take (v := ?_) (by decide) (by decide) (by rfl) ?_ ?_
  rotate_left
  · (intro w hSw; go_simp; try with_reducible rfl)
  try simp only [Act.put, List.setIfInBounds_toArray, List.set_cons_zero, List.set_cons_succ]
  refine Dnw.dn_take (v := ?_) (by decide) (by decide) (by rfl) ?_ ?_
  rotate_left
  · (intro w hSw; go_simp; try with_reducible rfl)
  try simp only [Act.put, List.setIfInBounds_toArray, List.set_cons_zero, List.set_cons_succ]
  refine Dnw.dn_take (v := ?_) (by decide) (by decide) (by rfl) ?_ ?_
  rotate_left
  · (intro w hSw; go_simp; try with_reducible rfl)
  try simp only [Act.put, List.setIfInBounds_toArray, List.set_cons_zero, List.set_cons_succ]
  refine Dnw.dn_alloc rfl ?_
  try simp only [Act.put, List.setIfInBounds_toArray, List.set_cons_zero, List.set_cons_succ]
  refine Dnw.dn_store rfl _ rfl rfl ?_
  try simp only [Act.put, List.setIfInBounds_toArray, List.set_cons_zero, List.set_cons_succ]
  refine Dnw.dn_take (v := ?_) (by decide) (by decide) (by rfl) ?_ ?_
  rotate_left
  · (intro w hSw; go_simp; try with_reducible rfl)
  try simp only [Act.put, List.setIfInBounds_toArray, List.set_cons_zero, List.set_cons_succ]
  (refine Dnw.dn_nil ?_; intro W7 ba Ba_7 l7 k7; have ga : w.heap.size ≤ ba := Nat.le_trans Hw6.size l7; have nma : bm ≠ ba := Nat.ne_of_lt (Nat.lt_of_lt_of_le Bm_6.lt l7); have nca : bc ≠ ba := Nat.ne_of_lt (Nat.lt_of_lt_of_le Bc_6.lt l7); have nka : bk ≠ ba := Nat.ne_of_lt (Nat.lt_of_lt_of_le Bk_6.lt l7); have npa : bp ≠ ba := Nat.ne_of_lt (Nat.lt_of_lt_of_le Bp_6.lt l7); have nna : bn ≠ ba := Nat.ne_of_lt (Nat.lt_of_lt_of_le Bn_6.lt l7); have Bm_7 := Bm_6.keep k7; have Bc_7 := Bc_6.keep k7; have Bk_7 := Bk_6.keep k7; have Bp_7 := Bp_6.keep k7; have Bn_7 := Bn_6.keep k7; have Hw7 := bq_trans Hw6 k7; clear l7 k7 Bm_6 Bc_6 Bk_6 Bp_6 Bn_6 Hw6)
  try simp only [Act.put, List.setIfInBounds_toArray, List.set_cons_zero, List.set_cons_succ]
  go_upto_region 3 with (fail)
  refine Dnw.wp_region_new 6 7 12 23 6 _ #[.int .i64 A, .int .i64 B, .int .i64 C, .int .i64 D, .int .i64 X, .int .i64 Y] (by kernel_rfl) (by kernel_rfl) (Dnw.new_of zeMt szMt rfl rfl rfl rfl rfl rfl rfl (by intro h; cases h) rfl rfl (by kernel_rfl) (by kernel_rfl)) rfl (by kernel_rfl) (of_decide_eq_true rfl) ?_
  refine Dnw.dn_call (f := 27) (args := #[]) (v := .agg #[.int .i64 65536, .int .i64 0, .int .i64 0, .int .i64 65536, .int .i64 0, .int .i64 0]) (by decide) (by decide) (by rfl) ?_ (fun w hS => HS.out w) ?_
  · (intro w hSw; go_simp)
  try simp only [Act.put, List.setIfInBounds_toArray, List.set_cons_zero, List.set_cons_succ]
  refine Dnw.dn_load (by decide) (by decide) 23 6 _ Try.underlying23 rfl szMt _ rfl (by rfl) _ rfl _ _ (fun w hS => Bm_7.keep hS) rfl ?_
  try simp only [Act.put, List.setIfInBounds_toArray, List.set_cons_zero, List.set_cons_succ]
  refine Dnw.dn_call (f := 9) (args := #[.agg #[.int .i64 65536, .int .i64 0, .int .i64 0, .int .i64 65536, .int .i64 0, .int .i64 0], .agg #[.int .i64 A, .int .i64 B, .int .i64 C, .int .i64 D, .int .i64 X, .int .i64 Y]]) (v := .tuple #[.agg #[.int .i64 A, .int .i64 B, .int .i64 C, .int .i64 D, .int .i64 X, .int .i64 Y], .int .i64 0]) (by decide) (by decide) (by rfl) ?_ (fun w hS => H2.out w) ?_
  · (intro w hSw; go_simp)
  try simp only [Act.put, List.setIfInBounds_toArray, List.set_cons_zero, List.set_cons_succ]
  refine Dnw.dn_take (v := ?_) (by decide) (by decide) (by rfl) ?_ ?_
  rotate_left
  · (intro w hSw; go_simp; try with_reducible rfl)
  try simp only [Act.put, List.setIfInBounds_toArray, List.set_cons_zero, List.set_cons_succ]
  refine Dnw.dn_take (v := ?_) (by decide) (by decide) (by rfl) ?_ ?_
  rotate_left
  · (intro w hSw; go_simp; try with_reducible rfl)
  try simp only [Act.put, List.setIfInBounds_toArray, List.set_cons_zero, List.set_cons_succ]
  refine Dnw.dn_take (v := ?_) (by decide) (by decide) (by rfl) ?_ ?_
  rotate_left
  · (intro w hSw; go_simp; try with_reducible rfl)
  try simp only [Act.put, List.setIfInBounds_toArray, List.set_cons_zero, List.set_cons_succ]
  refine Dnw.dn_alloc rfl ?_
  try simp only [Act.put, List.setIfInBounds_toArray, List.set_cons_zero, List.set_cons_succ]
  refine Dnw.dn_store rfl _ rfl rfl ?_
  try simp only [Act.put, List.setIfInBounds_toArray, List.set_cons_zero, List.set_cons_succ]
  refine Dnw.dn_take (v := ?_) (by decide) (by decide) (by rfl) ?_ ?_
  rotate_left
  · (intro w hSw; go_simp; try with_reducible rfl)
  try simp only [Act.put, List.setIfInBounds_toArray, List.set_cons_zero, List.set_cons_succ]
  (refine Dnw.dn_nil ?_; intro W8 bb Bb_8 l8 k8; have gb : w.heap.size ≤ bb := Nat.le_trans Hw7.size l8; have nmb : bm ≠ bb := Nat.ne_of_lt (Nat.lt_of_lt_of_le Bm_7.lt l8); have ncb : bc ≠ bb := Nat.ne_of_lt (Nat.lt_of_lt_of_le Bc_7.lt l8); have nkb : bk ≠ bb := Nat.ne_of_lt (Nat.lt_of_lt_of_le Bk_7.lt l8); have npb : bp ≠ bb := Nat.ne_of_lt (Nat.lt_of_lt_of_le Bp_7.lt l8); have nnb : bn ≠ bb := Nat.ne_of_lt (Nat.lt_of_lt_of_le Bn_7.lt l8); have nab : ba ≠ bb := Nat.ne_of_lt (Nat.lt_of_lt_of_le Ba_7.lt l8); have Bm_8 := Bm_7.keep k8; have Bc_8 := Bc_7.keep k8; have Bk_8 := Bk_7.keep k8; have Bp_8 := Bp_7.keep k8; have Bn_8 := Bn_7.keep k8; have Ba_8 := Ba_7.keep k8; have Hw8 := bq_trans Hw7 k8; clear l8 k8 Bm_7 Bc_7 Bk_7 Bp_7 Bn_7 Ba_7 Hw7)
  try simp only [Act.put, List.setIfInBounds_toArray, List.set_cons_zero, List.set_cons_succ]
  go_upto_region 4 with (fail)
  refine Det.wp_region_text (S := fun w' => Below W8.heap.size W8 w') (bq_refl _) ?_
  refine Det.det_load 23 6 _ Try.underlying23 rfl szMt _ rfl (by rfl) _ rfl _ _ (fun w hS => Bm_8.keep hS) rfl ?_
  try simp only [Act.put, List.setIfInBounds_toArray, List.set_cons_zero, List.set_cons_succ]
  refine Det.det_call (f := 21) (args := #[.agg #[.int .i64 A, .int .i64 B, .int .i64 C, .int .i64 D, .int .i64 X, .int .i64 Y]]) (v := .bool true) (by rfl) ?_ (fun w hS => (H3.out w).mono fun e w' ⟨h1, h2⟩ => ⟨h1, bq_trans hS h2⟩) ?_
  · (intro w hSw; go_simp)
  try simp only [Act.put, List.setIfInBounds_toArray, List.set_cons_zero, List.set_cons_succ]
  refine Det.det_take (v := ?_) (by rfl) ?_ ?_
  rotate_left
  · (intro w hSw; go_simp; try with_reducible rfl)
  try simp only [Act.put, List.setIfInBounds_toArray, List.set_cons_zero, List.set_cons_succ]
  refine Det.det_load 23 6 _ Try.underlying23 rfl szMt _ rfl (by rfl) _ rfl _ _ (fun w hS => Ba_8.keep hS) rfl ?_
  try simp only [Act.put, List.setIfInBounds_toArray, List.set_cons_zero, List.set_cons_succ]
  refine Det.det_load 23 6 _ Try.underlying23 rfl szMt _ rfl (by rfl) _ rfl _ _ (fun w hS => Bm_8.keep hS) rfl ?_
  try simp only [Act.put, List.setIfInBounds_toArray, List.set_cons_zero, List.set_cons_succ]
  refine Det.det_take (v := ?_) (by rfl) ?_ ?_
  rotate_left
  · (intro w hSw; have q := eqM14 A B C D X Y w; go_simp; try with_reducible rfl)
  try simp only [Act.put, List.setIfInBounds_toArray, List.set_cons_zero, List.set_cons_succ]
  refine Det.det_take (v := ?_) (by rfl) ?_ ?_
  rotate_left
  · (intro w hSw; go_simp; try with_reducible rfl)
  try simp only [Act.put, List.setIfInBounds_toArray, List.set_cons_zero, List.set_cons_succ]
  refine Det.det_load 23 6 _ Try.underlying23 rfl szMt _ rfl (by rfl) _ rfl _ _ (fun w hS => Bb_8.keep hS) rfl ?_
  try simp only [Act.put, List.setIfInBounds_toArray, List.set_cons_zero, List.set_cons_succ]
  refine Det.det_load 23 6 _ Try.underlying23 rfl szMt _ rfl (by rfl) _ rfl _ _ (fun w hS => Bm_8.keep hS) rfl ?_
  try simp only [Act.put, List.setIfInBounds_toArray, List.set_cons_zero, List.set_cons_succ]
  refine Det.det_take (v := ?_) (by rfl) ?_ ?_
  rotate_left
  · (intro w hSw; have q := eqM14 A B C D X Y w; go_simp; try with_reducible rfl)
  try simp only [Act.put, List.setIfInBounds_toArray, List.set_cons_zero, List.set_cons_succ]
  refine Det.det_take (v := ?_) (by rfl) ?_ ?_
  rotate_left
  · (intro w hSw; go_simp; try with_reducible rfl)
  try simp only [Act.put, List.setIfInBounds_toArray, List.set_cons_zero, List.set_cons_succ]
  refine Det.det_take (v := ?_) (by rfl) ?_ ?_
  rotate_left
  · (intro w hSw; go_simp; try with_reducible rfl)
  try simp only [Act.put, List.setIfInBounds_toArray, List.set_cons_zero, List.set_cons_succ]
  refine Det.det_take (v := ?_) (by rfl) ?_ ?_
  rotate_left
  · (intro w hSw; go_simp; try with_reducible rfl)
  try simp only [Act.put, List.setIfInBounds_toArray, List.set_cons_zero, List.set_cons_succ]
  refine Det.det_take (v := ?_) (by rfl) ?_ ?_
  rotate_left
  · (intro w hSw; go_simp; try with_reducible rfl)
  try simp only [Act.put, List.setIfInBounds_toArray, List.set_cons_zero, List.set_cons_succ]
  refine Det.det_take (v := ?_) (by rfl) ?_ ?_
  rotate_left
  · (intro w hSw; go_simp; try with_reducible rfl)
  try simp only [Act.put, List.setIfInBounds_toArray, List.set_cons_zero, List.set_cons_succ]
  refine Det.det_take (v := ?_) (by rfl) ?_ ?_
  rotate_left
  · (intro w hSw; go_simp; try with_reducible rfl)
  try simp only [Act.put, List.setIfInBounds_toArray, List.set_cons_zero, List.set_cons_succ]
  refine Det.det_take (v := ?_) (by rfl) ?_ ?_
  rotate_left
  · (intro w hSw; go_simp; try with_reducible rfl)
  try simp only [Act.put, List.setIfInBounds_toArray, List.set_cons_zero, List.set_cons_succ]
  refine Det.det_take (v := ?_) (by rfl) ?_ ?_
  rotate_left
  · (intro w hSw; go_simp; try with_reducible rfl)
  try simp only [Act.put, List.setIfInBounds_toArray, List.set_cons_zero, List.set_cons_succ]
  refine Det.det_take (v := ?_) (by rfl) ?_ ?_
  rotate_left
  · (intro w hSw; go_simp; try with_reducible rfl)
  try simp only [Act.put, List.setIfInBounds_toArray, List.set_cons_zero, List.set_cons_succ]
  refine Det.det_take (v := ?_) (by rfl) ?_ ?_
  rotate_left
  · (intro w hSw; go_simp; try with_reducible rfl)
  try simp only [Act.put, List.setIfInBounds_toArray, List.set_cons_zero, List.set_cons_succ]
  refine Det.det_nil (fun W9 k9 => ?_)
  have Bm_9 := Bm_8.keep k9
  have Bc_9 := Bc_8.keep k9
  have Bk_9 := Bk_8.keep k9
  have Bp_9 := Bp_8.keep k9
  have Bn_9 := Bn_8.keep k9
  have Ba_9 := Ba_8.keep k9
  have Bb_9 := Bb_8.keep k9
  have Hw9 := bq_trans Hw8 k9
  clear k9 Bm_8 Bc_8 Bk_8 Bp_8 Bn_8 Ba_8 Bb_8 Hw8
  go_upto_region 6 with (fail)
  refine Det.wp_region_det (S := fun w' => Below W9.heap.size W9 w') (by kernel_rfl) (by kernel_rfl) (bq_drew (bq_refl _)) ?_
  refine Det.det_load 26 8 _ Try.underlying26 rfl szCx _ rfl (by rfl) _ rfl _ _ (fun w hS => Bc_9.keep hS) rfl ?_
  try simp only [Act.put, List.setIfInBounds_toArray, List.set_cons_zero, List.set_cons_succ]
  refine Det.det_call (f := 12) (args := #[.agg #[.int .i64 m0, .int .i64 m1, .int .i64 m2, .int .i64 m3, .int .i64 d0, .int .i64 d1, .int .i64 d2, .int .i64 d3]]) (v := .bool false) (by rfl) ?_ (fun w hS => (H4.out w).mono fun e w' ⟨h1, h2⟩ => ⟨h1, bq_trans hS h2⟩) ?_
  · (intro w hSw; go_simp)
  try simp only [Act.put, List.setIfInBounds_toArray, List.set_cons_zero, List.set_cons_succ]
  refine Det.det_take (v := ?_) (by rfl) ?_ ?_
  rotate_left
  · (intro w hSw; go_simp; try with_reducible rfl)
  try simp only [Act.put, List.setIfInBounds_toArray, List.set_cons_zero, List.set_cons_succ]
  refine Det.det_skip (by rfl) ?_
  try simp only [Act.put, List.setIfInBounds_toArray, List.set_cons_zero, List.set_cons_succ]
  refine Det.det_skip (by rfl) ?_
  try simp only [Act.put, List.setIfInBounds_toArray, List.set_cons_zero, List.set_cons_succ]
  refine Det.det_skip (by rfl) ?_
  try simp only [Act.put, List.setIfInBounds_toArray, List.set_cons_zero, List.set_cons_succ]
  refine Det.det_skip (by rfl) ?_
  try simp only [Act.put, List.setIfInBounds_toArray, List.set_cons_zero, List.set_cons_succ]
  refine Det.det_skip (by rfl) ?_
  try simp only [Act.put, List.setIfInBounds_toArray, List.set_cons_zero, List.set_cons_succ]
  refine Det.det_skip (by rfl) ?_
  try simp only [Act.put, List.setIfInBounds_toArray, List.set_cons_zero, List.set_cons_succ]
  refine Det.det_skip (by rfl) ?_
  try simp only [Act.put, List.setIfInBounds_toArray, List.set_cons_zero, List.set_cons_succ]
  refine Det.det_skip (by rfl) ?_
  try simp only [Act.put, List.setIfInBounds_toArray, List.set_cons_zero, List.set_cons_succ]
  refine Det.det_skip (by rfl) ?_
  try simp only [Act.put, List.setIfInBounds_toArray, List.set_cons_zero, List.set_cons_succ]
  refine Det.det_skip (by rfl) ?_
  try simp only [Act.put, List.setIfInBounds_toArray, List.set_cons_zero, List.set_cons_succ]
  refine Det.det_skip (by rfl) ?_
  try simp only [Act.put, List.setIfInBounds_toArray, List.set_cons_zero, List.set_cons_succ]
  refine Det.det_skip (by rfl) ?_
  try simp only [Act.put, List.setIfInBounds_toArray, List.set_cons_zero, List.set_cons_succ]
  refine Det.det_take (v := ?_) (by rfl) ?_ ?_
  rotate_left
  · (intro w hSw; go_simp; try with_reducible rfl)
  try simp only [Act.put, List.setIfInBounds_toArray, List.set_cons_zero, List.set_cons_succ]
  refine Det.det_nil (fun W10 k10 => ?_)
  have Bm_10 := Bm_9.keep k10
  have Bc_10 := Bc_9.keep k10
  have Bk_10 := Bk_9.keep k10
  have Bp_10 := Bp_9.keep k10
  have Bn_10 := Bn_9.keep k10
  have Ba_10 := Ba_9.keep k10
  have Bb_10 := Bb_9.keep k10
  have Hw10 := bq_trans Hw9 k10
  clear k10 Bm_9 Bc_9 Bk_9 Bp_9 Bn_9 Ba_9 Bb_9 Hw9
  go_upto_region 8 with (fail)
  refine Det.wp_region_det (S := fun w' => Below W10.heap.size W10 w') (by kernel_rfl) (by kernel_rfl) (bq_drew (bq_refl _)) ?_
  refine Det.det_load 48 4 _ Try.underlying48 rfl szRg _ rfl (by rfl) _ rfl _ _ (fun w hS => Bk_10.keep hS) rfl ?_
  try simp only [Act.put, List.setIfInBounds_toArray, List.set_cons_zero, List.set_cons_succ]
  refine Det.det_call (f := 24) (args := #[.agg #[.int .i64 kr, .int .i64 kg, .int .i64 kb, .int .i64 ka]]) (v := .bool true) (by rfl) ?_ (fun w hS => (H7.out w).mono fun e w' ⟨h1, h2⟩ => ⟨h1, bq_trans hS h2⟩) ?_
  · (intro w hSw; go_simp)
  try simp only [Act.put, List.setIfInBounds_toArray, List.set_cons_zero, List.set_cons_succ]
  refine Det.det_take (v := ?_) (by rfl) ?_ ?_
  rotate_left
  · (intro w hSw; go_simp; try with_reducible rfl)
  try simp only [Act.put, List.setIfInBounds_toArray, List.set_cons_zero, List.set_cons_succ]
  refine Det.det_load 26 8 _ Try.underlying26 rfl szCx _ rfl (by rfl) _ rfl _ _ (fun w hS => Bn_10.keep hS) rfl ?_
  try simp only [Act.put, List.setIfInBounds_toArray, List.set_cons_zero, List.set_cons_succ]
  refine Det.det_load 48 4 _ Try.underlying48 rfl szRg _ rfl (by rfl) _ rfl _ _ (fun w hS => Bk_10.keep hS) rfl ?_
  try simp only [Act.put, List.setIfInBounds_toArray, List.set_cons_zero, List.set_cons_succ]
  refine Det.det_call (f := 26) (args := #[.agg #[.int .i64 256, .int .i64 256, .int .i64 256, .int .i64 256, .int .i64 0, .int .i64 0, .int .i64 0, .int .i64 0], .agg #[.int .i64 kr, .int .i64 kg, .int .i64 kb, .int .i64 ka]]) (v := .agg #[.int .i64 kr, .int .i64 kg, .int .i64 kb, .int .i64 ka]) (by rfl) ?_ (fun w hS => (H8.out w).mono fun e w' ⟨h1, h2⟩ => ⟨h1, bq_trans hS h2⟩) ?_
  · (intro w hSw; go_simp)
  try simp only [Act.put, List.setIfInBounds_toArray, List.set_cons_zero, List.set_cons_succ]
  refine Det.det_load 48 4 _ Try.underlying48 rfl szRg _ rfl (by rfl) _ rfl _ _ (fun w hS => Bk_10.keep hS) rfl ?_
  try simp only [Act.put, List.setIfInBounds_toArray, List.set_cons_zero, List.set_cons_succ]
  refine Det.det_take (v := ?_) (by rfl) ?_ ?_
  rotate_left
  · (intro w hSw; have q := eqR14 kr kg kb ka w; go_simp; try with_reducible rfl)
  try simp only [Act.put, List.setIfInBounds_toArray, List.set_cons_zero, List.set_cons_succ]
  refine Det.det_take (v := ?_) (by rfl) ?_ ?_
  rotate_left
  · (intro w hSw; go_simp; try with_reducible rfl)
  try simp only [Act.put, List.setIfInBounds_toArray, List.set_cons_zero, List.set_cons_succ]
  refine Det.det_nil (fun W11 k11 => ?_)
  have Bm_11 := Bm_10.keep k11
  have Bc_11 := Bc_10.keep k11
  have Bk_11 := Bk_10.keep k11
  have Bp_11 := Bp_10.keep k11
  have Bn_11 := Bn_10.keep k11
  have Ba_11 := Ba_10.keep k11
  have Bb_11 := Bb_10.keep k11
  have Hw11 := bq_trans Hw10 k11
  clear k11 Bm_10 Bc_10 Bk_10 Bp_10 Bn_10 Ba_10 Bb_10 Hw10
  go_upto_region 10 with (fail)
  go_upto_region 11 with (go_big_may; first
    | (refine wl_load 23 6 _ Try.underlying23 rfl szMt _ rfl rfl _ rfl _ _ Bm_11 rfl ?_)
    | (refine wl_load 37 2 _ Try.underlying37 rfl szPt _ rfl rfl _ rfl _ _ Bp_11 rfl ?_)
    | (go_at_call 16; (with_reducible refine (H9.out _).mono ?_); rintro e W12 ⟨rfl, k12⟩; have Bm_12 := Bm_11.keep k12; have Bc_12 := Bc_11.keep k12; have Bk_12 := Bk_11.keep k12; have Bp_12 := Bp_11.keep k12; have Bn_12 := Bn_11.keep k12; have Ba_12 := Ba_11.keep k12; have Bb_12 := Bb_11.keep k12; have Hw12 := bq_trans Hw11 k12; clear k12 Bm_11 Bc_11 Bk_11 Bp_11 Bn_11 Ba_11 Bb_11 Hw11)
    | (refine wl_alloc 37 _ zePt rfl rfl ?_; intro W13 bg Bg_13 l13 k13; have gg : w.heap.size ≤ bg := Nat.le_trans Hw12.size l13; have nmg : bm ≠ bg := Nat.ne_of_lt (Nat.lt_of_lt_of_le Bm_12.lt l13); have ncg : bc ≠ bg := Nat.ne_of_lt (Nat.lt_of_lt_of_le Bc_12.lt l13); have nkg : bk ≠ bg := Nat.ne_of_lt (Nat.lt_of_lt_of_le Bk_12.lt l13); have npg : bp ≠ bg := Nat.ne_of_lt (Nat.lt_of_lt_of_le Bp_12.lt l13); have nng : bn ≠ bg := Nat.ne_of_lt (Nat.lt_of_lt_of_le Bn_12.lt l13); have nag : ba ≠ bg := Nat.ne_of_lt (Nat.lt_of_lt_of_le Ba_12.lt l13); have nbg : bb ≠ bg := Nat.ne_of_lt (Nat.lt_of_lt_of_le Bb_12.lt l13); have Bm_13 := Bm_12.keep k13; have Bc_13 := Bc_12.keep k13; have Bk_13 := Bk_12.keep k13; have Bp_13 := Bp_12.keep k13; have Bn_13 := Bn_12.keep k13; have Ba_13 := Ba_12.keep k13; have Bb_13 := Bb_12.keep k13; have Hw13 := bq_trans Hw12 k13; clear l13 k13 Bm_12 Bc_12 Bk_12 Bp_12 Bn_12 Ba_12 Bb_12 Hw12)
    | (refine wl_store 37 2 szPt _ _ rfl rfl _ rfl #[.int .i64 0, .int .i64 0] rfl _ _ Bg_13 rfl rfl (by kernel_rfl) ?_; intro W14 Bg_14 T14; have Bm_14 := T14.blk Bm_13 nmg; have Bc_14 := T14.blk Bc_13 ncg; have Bk_14 := T14.blk Bk_13 nkg; have Bp_14 := T14.blk Bp_13 npg; have Bn_14 := T14.blk Bn_13 nng; have Ba_14 := T14.blk Ba_13 nag; have Bb_14 := T14.blk Bb_13 nbg; have Hw14 := T14.below Hw13 gg; clear T14 Bm_13 Bc_13 Bk_13 Bp_13 Bn_13 Ba_13 Bb_13 Bg_13 Hw13))
  refine Det.wp_region_text (S := fun w' => Below W14.heap.size W14 w') (bq_refl _) ?_
  refine Det.det_take (v := ?_) (by rfl) ?_ ?_
  rotate_left
  · (intro w hSw; go_simp; try with_reducible rfl)
  try simp only [Act.put, List.setIfInBounds_toArray, List.set_cons_zero, List.set_cons_succ]
  refine Det.det_take (v := ?_) (by rfl) ?_ ?_
  rotate_left
  · (intro w hSw; have he := HEV.out; go_simp; try with_reducible rfl)
  try simp only [Act.put, List.setIfInBounds_toArray, List.set_cons_zero, List.set_cons_succ]
  refine Det.det_take (v := ?_) (by rfl) ?_ ?_
  rotate_left
  · (intro w hSw; go_simp; try with_reducible rfl)
  try simp only [Act.put, List.setIfInBounds_toArray, List.set_cons_zero, List.set_cons_succ]
  refine Det.det_skip (by rfl) ?_
  try simp only [Act.put, List.setIfInBounds_toArray, List.set_cons_zero, List.set_cons_succ]
  refine Det.det_skip (by rfl) ?_
  try simp only [Act.put, List.setIfInBounds_toArray, List.set_cons_zero, List.set_cons_succ]
  refine Det.det_skip (by rfl) ?_
  try simp only [Act.put, List.setIfInBounds_toArray, List.set_cons_zero, List.set_cons_succ]
  refine Det.det_skip (by rfl) ?_
  try simp only [Act.put, List.setIfInBounds_toArray, List.set_cons_zero, List.set_cons_succ]
  refine Det.det_skip (by rfl) ?_
  try simp only [Act.put, List.setIfInBounds_toArray, List.set_cons_zero, List.set_cons_succ]
  refine Det.det_skip (by rfl) ?_
  try simp only [Act.put, List.setIfInBounds_toArray, List.set_cons_zero, List.set_cons_succ]
  refine Det.det_skip (by rfl) ?_
  try simp only [Act.put, List.setIfInBounds_toArray, List.set_cons_zero, List.set_cons_succ]
  refine Det.det_skip (by rfl) ?_
  try simp only [Act.put, List.setIfInBounds_toArray, List.set_cons_zero, List.set_cons_succ]
  refine Det.det_skip (by rfl) ?_
  try simp only [Act.put, List.setIfInBounds_toArray, List.set_cons_zero, List.set_cons_succ]
  refine Det.det_skip (by rfl) ?_
  try simp only [Act.put, List.setIfInBounds_toArray, List.set_cons_zero, List.set_cons_succ]
  refine Det.det_take (v := ?_) (by rfl) ?_ ?_
  rotate_left
  · (intro w hSw; go_simp; try with_reducible rfl)
  try simp only [Act.put, List.setIfInBounds_toArray, List.set_cons_zero, List.set_cons_succ]
  refine Det.det_take (v := ?_) (by rfl) ?_ ?_
  rotate_left
  · (intro w hSw; go_simp; try with_reducible rfl)
  try simp only [Act.put, List.setIfInBounds_toArray, List.set_cons_zero, List.set_cons_succ]
  refine Det.det_call (f := 14) (args := #[]) (v := .bool true) (by rfl) ?_ (fun w hS => (HA.out w).mono fun e w' ⟨h1, h2⟩ => ⟨h1, bq_trans hS h2⟩) ?_
  · (intro w hSw; go_simp)
  try simp only [Act.put, List.setIfInBounds_toArray, List.set_cons_zero, List.set_cons_succ]
  refine Det.det_take (v := ?_) (by rfl) ?_ ?_
  rotate_left
  · (intro w hSw; go_simp; try with_reducible rfl)
  try simp only [Act.put, List.setIfInBounds_toArray, List.set_cons_zero, List.set_cons_succ]
  refine Det.det_take (v := ?_) (by rfl) ?_ ?_
  rotate_left
  · (intro w hSw; go_simp; try with_reducible rfl)
  try simp only [Act.put, List.setIfInBounds_toArray, List.set_cons_zero, List.set_cons_succ]
  refine Det.det_nil (fun W15 k15 => ?_)
  have Bm_15 := Bm_14.keep k15
  have Bc_15 := Bc_14.keep k15
  have Bk_15 := Bk_14.keep k15
  have Bp_15 := Bp_14.keep k15
  have Bn_15 := Bn_14.keep k15
  have Ba_15 := Ba_14.keep k15
  have Bb_15 := Bb_14.keep k15
  have Bg_15 := Bg_14.keep k15
  have Hw15 := bq_trans Hw14 k15
  clear k15 Bm_14 Bc_14 Bk_14 Bp_14 Bn_14 Ba_14 Bb_14 Bg_14 Hw14
  go_wp2_with fail
  go_ret
  exact ⟨rfl, Hw15⟩
set_option maxHeartbeats 4000000 in
theorem same14_1011 (A B C D X Y m0 m1 m2 m3 d0 d1 d2 d3 kr kg kb ka x y r s ev : Int) (w : World) (hev : (ev != 0) = true) (HM : Hid ((2 * r).tmod 2 = 0 ∧ (2 * s).tmod 2 = 0)) (HA : Hid (∀ W, Calls Try.prog 14 #[] W fun e w' => e = .returned (.bool true) ∧ Below W.heap.size W w')) (HS : Hid (∀ W, Calls Try.prog 27 #[] W fun e w' => e = .returned (.agg #[.int .i64 65536, .int .i64 0, .int .i64 0, .int .i64 65536, .int .i64 0, .int .i64 0]) ∧ Below W.heap.size W w'))
    (H1 : Hid (∀ W, Calls Try.prog 9 #[.agg #[.int .i64 A, .int .i64 B, .int .i64 C, .int .i64 D, .int .i64 X, .int .i64 Y], .agg #[.int .i64 65536, .int .i64 0, .int .i64 0, .int .i64 65536, .int .i64 0, .int .i64 0]] W fun e w' => e = .returned (.tuple #[.agg #[.int .i64 A, .int .i64 B, .int .i64 C, .int .i64 D, .int .i64 X, .int .i64 Y], .int .i64 0]) ∧ Below W.heap.size W w')) (H2 : Hid (∀ W, Calls Try.prog 9 #[.agg #[.int .i64 65536, .int .i64 0, .int .i64 0, .int .i64 65536, .int .i64 0, .int .i64 0], .agg #[.int .i64 A, .int .i64 B, .int .i64 C, .int .i64 D, .int .i64 X, .int .i64 Y]] W fun e w' => e = .returned (.tuple #[.agg #[.int .i64 A, .int .i64 B, .int .i64 C, .int .i64 D, .int .i64 X, .int .i64 Y], .int .i64 0]) ∧ Below W.heap.size W w')) (H3 : Hid (∀ W, Calls Try.prog 21 #[.agg #[.int .i64 A, .int .i64 B, .int .i64 C, .int .i64 D, .int .i64 X, .int .i64 Y]] W fun e w' => e = .returned (.bool true) ∧ Below W.heap.size W w')) (H4 : Hid (∀ W, Calls Try.prog 12 #[.agg #[.int .i64 m0, .int .i64 m1, .int .i64 m2, .int .i64 m3, .int .i64 d0, .int .i64 d1, .int .i64 d2, .int .i64 d3]] W fun e w' => e = .returned (.bool false) ∧ Below W.heap.size W w'))  (H7 : Hid (∀ W, Calls Try.prog 24 #[.agg #[.int .i64 kr, .int .i64 kg, .int .i64 kb, .int .i64 ka]] W fun e w' => e = .returned (.bool true) ∧ Below W.heap.size W w')) (H8 : Hid (∀ W, Calls Try.prog 26 #[.agg #[.int .i64 256, .int .i64 256, .int .i64 256, .int .i64 256, .int .i64 0, .int .i64 0, .int .i64 0, .int .i64 0], .agg #[.int .i64 kr, .int .i64 kg, .int .i64 kb, .int .i64 ka]] W fun e w' => e = .returned (.agg #[.int .i64 kr, .int .i64 kg, .int .i64 kb, .int .i64 ka]) ∧ Below W.heap.size W w'))
    (H9 : Hid (∀ W, Calls Try.prog 16 #[.agg #[.int .i64 A, .int .i64 B, .int .i64 C, .int .i64 D, .int .i64 X, .int .i64 Y], .agg #[.int .i64 x, .int .i64 y]] W fun e w' => e = .returned (.tuple #[.agg #[.int .i64 (2 * r), .int .i64 (2 * s)], .int .i64 0]) ∧ Below W.heap.size W w')) :
    Calls Try.prog 7 #[.agg #[.int .i64 A, .int .i64 B, .int .i64 C, .int .i64 D, .int .i64 X, .int .i64 Y], .agg #[.int .i64 m0, .int .i64 m1, .int .i64 m2, .int .i64 m3, .int .i64 d0, .int .i64 d1, .int .i64 d2, .int .i64 d3], .agg #[.int .i64 kr, .int .i64 kg, .int .i64 kb, .int .i64 ka], .agg #[.int .i64 x, .int .i64 y]] w fun e w' => e = .returned (.bool true) ∧ Below w.heap.size w w' := by
  have HEV := Lib.hid hev
  clear hev
  go_enter Try.func7, Try.ntmps7
  go_upto_region 1 with (go_big_may; first
    | (refine wl_box 23 _ _ rfl rfl (show _ = Value.agg #[.int .i64 A, .int .i64 B, .int .i64 C, .int .i64 D, .int .i64 X, .int .i64 Y] from rfl) ?_; intro W1 bm Bm_1 l1 k1; have gm : w.heap.size ≤ bm := l1; have Hw1 := k1; clear l1 k1)
    | (refine wl_box 26 _ _ rfl rfl (show _ = Value.agg #[.int .i64 m0, .int .i64 m1, .int .i64 m2, .int .i64 m3, .int .i64 d0, .int .i64 d1, .int .i64 d2, .int .i64 d3] from rfl) ?_; intro W2 bc Bc_2 l2 k2; have gc : w.heap.size ≤ bc := Nat.le_trans Hw1.size l2; have nmc : bm ≠ bc := Nat.ne_of_lt (Nat.lt_of_lt_of_le Bm_1.lt l2); have Bm_2 := Bm_1.keep k2; have Hw2 := bq_trans Hw1 k2; clear l2 k2 Bm_1 Hw1)
    | (refine wl_box 48 _ _ rfl rfl (show _ = Value.agg #[.int .i64 kr, .int .i64 kg, .int .i64 kb, .int .i64 ka] from rfl) ?_; intro W3 bk Bk_3 l3 k3; have gk : w.heap.size ≤ bk := Nat.le_trans Hw2.size l3; have nmk : bm ≠ bk := Nat.ne_of_lt (Nat.lt_of_lt_of_le Bm_2.lt l3); have nck : bc ≠ bk := Nat.ne_of_lt (Nat.lt_of_lt_of_le Bc_2.lt l3); have Bm_3 := Bm_2.keep k3; have Bc_3 := Bc_2.keep k3; have Hw3 := bq_trans Hw2 k3; clear l3 k3 Bm_2 Bc_2 Hw2)
    | (refine wl_box 37 _ _ rfl rfl (show _ = Value.agg #[.int .i64 x, .int .i64 y] from rfl) ?_; intro W4 bp Bp_4 l4 k4; have gp : w.heap.size ≤ bp := Nat.le_trans Hw3.size l4; have nmp : bm ≠ bp := Nat.ne_of_lt (Nat.lt_of_lt_of_le Bm_3.lt l4); have ncp : bc ≠ bp := Nat.ne_of_lt (Nat.lt_of_lt_of_le Bc_3.lt l4); have nkp : bk ≠ bp := Nat.ne_of_lt (Nat.lt_of_lt_of_le Bk_3.lt l4); have Bm_4 := Bm_3.keep k4; have Bc_4 := Bc_3.keep k4; have Bk_4 := Bk_3.keep k4; have Hw4 := bq_trans Hw3 k4; clear l4 k4 Bm_3 Bc_3 Bk_3 Hw3))
  go_upto_region 2 with (go_big_may; first
    | (refine wl_alloc 26 _ zeCx rfl rfl ?_; intro W5 bn Bn_5 l5 k5; have gn : w.heap.size ≤ bn := Nat.le_trans Hw4.size l5; have nmn : bm ≠ bn := Nat.ne_of_lt (Nat.lt_of_lt_of_le Bm_4.lt l5); have ncn : bc ≠ bn := Nat.ne_of_lt (Nat.lt_of_lt_of_le Bc_4.lt l5); have nkn : bk ≠ bn := Nat.ne_of_lt (Nat.lt_of_lt_of_le Bk_4.lt l5); have npn : bp ≠ bn := Nat.ne_of_lt (Nat.lt_of_lt_of_le Bp_4.lt l5); have Bm_5 := Bm_4.keep k5; have Bc_5 := Bc_4.keep k5; have Bk_5 := Bk_4.keep k5; have Bp_5 := Bp_4.keep k5; have Hw5 := bq_trans Hw4 k5; clear l5 k5 Bm_4 Bc_4 Bk_4 Bp_4 Hw4)
    | (refine wl_store 26 8 szCx _ _ rfl rfl _ rfl #[.int .i64 256, .int .i64 256, .int .i64 256, .int .i64 256, .int .i64 0, .int .i64 0, .int .i64 0, .int .i64 0] rfl _ _ Bn_5 rfl rfl (by kernel_rfl) ?_; intro W6 Bn_6 T6; have Bm_6 := T6.blk Bm_5 nmn; have Bc_6 := T6.blk Bc_5 ncn; have Bk_6 := T6.blk Bk_5 nkn; have Bp_6 := T6.blk Bp_5 npn; have Hw6 := T6.below Hw5 gn; clear T6 Bm_5 Bc_5 Bk_5 Bp_5 Bn_5 Hw5))
  refine Dnw.wp_region_new 6 7 10 23 6 _ #[.int .i64 A, .int .i64 B, .int .i64 C, .int .i64 D, .int .i64 X, .int .i64 Y] (by kernel_rfl) (by kernel_rfl) (Dnw.new_of zeMt szMt rfl rfl rfl rfl rfl rfl rfl (by intro h; cases h) rfl rfl (by kernel_rfl) (by kernel_rfl)) rfl (by kernel_rfl) (of_decide_eq_true rfl) ?_
  refine Dnw.dn_load (by decide) (by decide) 23 6 _ Try.underlying23 rfl szMt _ rfl (by rfl) _ rfl _ _ (fun w hS => Bm_6.keep hS) rfl ?_
  try simp only [Act.put, List.setIfInBounds_toArray, List.set_cons_zero, List.set_cons_succ]
  refine Dnw.dn_call (f := 27) (args := #[]) (v := .agg #[.int .i64 65536, .int .i64 0, .int .i64 0, .int .i64 65536, .int .i64 0, .int .i64 0]) (by decide) (by decide) (by rfl) ?_ (fun w hS => HS.out w) ?_
  · (intro w hSw; go_simp)
  try simp only [Act.put, List.setIfInBounds_toArray, List.set_cons_zero, List.set_cons_succ]
  refine Dnw.dn_call (f := 9) (args := #[.agg #[.int .i64 A, .int .i64 B, .int .i64 C, .int .i64 D, .int .i64 X, .int .i64 Y], .agg #[.int .i64 65536, .int .i64 0, .int .i64 0, .int .i64 65536, .int .i64 0, .int .i64 0]]) (v := .tuple #[.agg #[.int .i64 A, .int .i64 B, .int .i64 C, .int .i64 D, .int .i64 X, .int .i64 Y], .int .i64 0]) (by decide) (by decide) (by rfl) ?_ (fun w hS => H1.out w) ?_
  · (intro w hSw; go_simp)
  try simp only [Act.put, List.setIfInBounds_toArray, List.set_cons_zero, List.set_cons_succ]
  refine Dnw.dn_take (v := ?_) (by decide) (by decide) (by rfl) ?_ ?_
  rotate_left
  · (intro w hSw; go_simp; try with_reducible rfl)
  try simp only [Act.put, List.setIfInBounds_toArray, List.set_cons_zero, List.set_cons_succ]
  refine Dnw.dn_take (v := ?_) (by decide) (by decide) (by rfl) ?_ ?_
  rotate_left
  · (intro w hSw; go_simp; try with_reducible rfl)
  try simp only [Act.put, List.setIfInBounds_toArray, List.set_cons_zero, List.set_cons_succ]
  refine Dnw.dn_take (v := ?_) (by decide) (by decide) (by rfl) ?_ ?_
  rotate_left
  · (intro w hSw; go_simp; try with_reducible rfl)
  try simp only [Act.put, List.setIfInBounds_toArray, List.set_cons_zero, List.set_cons_succ]
  refine Dnw.dn_alloc rfl ?_
  try simp only [Act.put, List.setIfInBounds_toArray, List.set_cons_zero, List.set_cons_succ]
  refine Dnw.dn_store rfl _ rfl rfl ?_
  try simp only [Act.put, List.setIfInBounds_toArray, List.set_cons_zero, List.set_cons_succ]
  refine Dnw.dn_take (v := ?_) (by decide) (by decide) (by rfl) ?_ ?_
  rotate_left
  · (intro w hSw; go_simp; try with_reducible rfl)
  try simp only [Act.put, List.setIfInBounds_toArray, List.set_cons_zero, List.set_cons_succ]
  (refine Dnw.dn_nil ?_; intro W7 ba Ba_7 l7 k7; have ga : w.heap.size ≤ ba := Nat.le_trans Hw6.size l7; have nma : bm ≠ ba := Nat.ne_of_lt (Nat.lt_of_lt_of_le Bm_6.lt l7); have nca : bc ≠ ba := Nat.ne_of_lt (Nat.lt_of_lt_of_le Bc_6.lt l7); have nka : bk ≠ ba := Nat.ne_of_lt (Nat.lt_of_lt_of_le Bk_6.lt l7); have npa : bp ≠ ba := Nat.ne_of_lt (Nat.lt_of_lt_of_le Bp_6.lt l7); have nna : bn ≠ ba := Nat.ne_of_lt (Nat.lt_of_lt_of_le Bn_6.lt l7); have Bm_7 := Bm_6.keep k7; have Bc_7 := Bc_6.keep k7; have Bk_7 := Bk_6.keep k7; have Bp_7 := Bp_6.keep k7; have Bn_7 := Bn_6.keep k7; have Hw7 := bq_trans Hw6 k7; clear l7 k7 Bm_6 Bc_6 Bk_6 Bp_6 Bn_6 Hw6)
  try simp only [Act.put, List.setIfInBounds_toArray, List.set_cons_zero, List.set_cons_succ]
  go_upto_region 3 with (fail)
  refine Dnw.wp_region_new 6 7 12 23 6 _ #[.int .i64 A, .int .i64 B, .int .i64 C, .int .i64 D, .int .i64 X, .int .i64 Y] (by kernel_rfl) (by kernel_rfl) (Dnw.new_of zeMt szMt rfl rfl rfl rfl rfl rfl rfl (by intro h; cases h) rfl rfl (by kernel_rfl) (by kernel_rfl)) rfl (by kernel_rfl) (of_decide_eq_true rfl) ?_
  refine Dnw.dn_call (f := 27) (args := #[]) (v := .agg #[.int .i64 65536, .int .i64 0, .int .i64 0, .int .i64 65536, .int .i64 0, .int .i64 0]) (by decide) (by decide) (by rfl) ?_ (fun w hS => HS.out w) ?_
  · (intro w hSw; go_simp)
  try simp only [Act.put, List.setIfInBounds_toArray, List.set_cons_zero, List.set_cons_succ]
  refine Dnw.dn_load (by decide) (by decide) 23 6 _ Try.underlying23 rfl szMt _ rfl (by rfl) _ rfl _ _ (fun w hS => Bm_7.keep hS) rfl ?_
  try simp only [Act.put, List.setIfInBounds_toArray, List.set_cons_zero, List.set_cons_succ]
  refine Dnw.dn_call (f := 9) (args := #[.agg #[.int .i64 65536, .int .i64 0, .int .i64 0, .int .i64 65536, .int .i64 0, .int .i64 0], .agg #[.int .i64 A, .int .i64 B, .int .i64 C, .int .i64 D, .int .i64 X, .int .i64 Y]]) (v := .tuple #[.agg #[.int .i64 A, .int .i64 B, .int .i64 C, .int .i64 D, .int .i64 X, .int .i64 Y], .int .i64 0]) (by decide) (by decide) (by rfl) ?_ (fun w hS => H2.out w) ?_
  · (intro w hSw; go_simp)
  try simp only [Act.put, List.setIfInBounds_toArray, List.set_cons_zero, List.set_cons_succ]
  refine Dnw.dn_take (v := ?_) (by decide) (by decide) (by rfl) ?_ ?_
  rotate_left
  · (intro w hSw; go_simp; try with_reducible rfl)
  try simp only [Act.put, List.setIfInBounds_toArray, List.set_cons_zero, List.set_cons_succ]
  refine Dnw.dn_take (v := ?_) (by decide) (by decide) (by rfl) ?_ ?_
  rotate_left
  · (intro w hSw; go_simp; try with_reducible rfl)
  try simp only [Act.put, List.setIfInBounds_toArray, List.set_cons_zero, List.set_cons_succ]
  refine Dnw.dn_take (v := ?_) (by decide) (by decide) (by rfl) ?_ ?_
  rotate_left
  · (intro w hSw; go_simp; try with_reducible rfl)
  try simp only [Act.put, List.setIfInBounds_toArray, List.set_cons_zero, List.set_cons_succ]
  refine Dnw.dn_alloc rfl ?_
  try simp only [Act.put, List.setIfInBounds_toArray, List.set_cons_zero, List.set_cons_succ]
  refine Dnw.dn_store rfl _ rfl rfl ?_
  try simp only [Act.put, List.setIfInBounds_toArray, List.set_cons_zero, List.set_cons_succ]
  refine Dnw.dn_take (v := ?_) (by decide) (by decide) (by rfl) ?_ ?_
  rotate_left
  · (intro w hSw; go_simp; try with_reducible rfl)
  try simp only [Act.put, List.setIfInBounds_toArray, List.set_cons_zero, List.set_cons_succ]
  (refine Dnw.dn_nil ?_; intro W8 bb Bb_8 l8 k8; have gb : w.heap.size ≤ bb := Nat.le_trans Hw7.size l8; have nmb : bm ≠ bb := Nat.ne_of_lt (Nat.lt_of_lt_of_le Bm_7.lt l8); have ncb : bc ≠ bb := Nat.ne_of_lt (Nat.lt_of_lt_of_le Bc_7.lt l8); have nkb : bk ≠ bb := Nat.ne_of_lt (Nat.lt_of_lt_of_le Bk_7.lt l8); have npb : bp ≠ bb := Nat.ne_of_lt (Nat.lt_of_lt_of_le Bp_7.lt l8); have nnb : bn ≠ bb := Nat.ne_of_lt (Nat.lt_of_lt_of_le Bn_7.lt l8); have nab : ba ≠ bb := Nat.ne_of_lt (Nat.lt_of_lt_of_le Ba_7.lt l8); have Bm_8 := Bm_7.keep k8; have Bc_8 := Bc_7.keep k8; have Bk_8 := Bk_7.keep k8; have Bp_8 := Bp_7.keep k8; have Bn_8 := Bn_7.keep k8; have Ba_8 := Ba_7.keep k8; have Hw8 := bq_trans Hw7 k8; clear l8 k8 Bm_7 Bc_7 Bk_7 Bp_7 Bn_7 Ba_7 Hw7)
  try simp only [Act.put, List.setIfInBounds_toArray, List.set_cons_zero, List.set_cons_succ]
  go_upto_region 4 with (fail)
  refine Det.wp_region_text (S := fun w' => Below W8.heap.size W8 w') (bq_refl _) ?_
  refine Det.det_load 23 6 _ Try.underlying23 rfl szMt _ rfl (by rfl) _ rfl _ _ (fun w hS => Bm_8.keep hS) rfl ?_
  try simp only [Act.put, List.setIfInBounds_toArray, List.set_cons_zero, List.set_cons_succ]
  refine Det.det_call (f := 21) (args := #[.agg #[.int .i64 A, .int .i64 B, .int .i64 C, .int .i64 D, .int .i64 X, .int .i64 Y]]) (v := .bool true) (by rfl) ?_ (fun w hS => (H3.out w).mono fun e w' ⟨h1, h2⟩ => ⟨h1, bq_trans hS h2⟩) ?_
  · (intro w hSw; go_simp)
  try simp only [Act.put, List.setIfInBounds_toArray, List.set_cons_zero, List.set_cons_succ]
  refine Det.det_take (v := ?_) (by rfl) ?_ ?_
  rotate_left
  · (intro w hSw; go_simp; try with_reducible rfl)
  try simp only [Act.put, List.setIfInBounds_toArray, List.set_cons_zero, List.set_cons_succ]
  refine Det.det_load 23 6 _ Try.underlying23 rfl szMt _ rfl (by rfl) _ rfl _ _ (fun w hS => Ba_8.keep hS) rfl ?_
  try simp only [Act.put, List.setIfInBounds_toArray, List.set_cons_zero, List.set_cons_succ]
  refine Det.det_load 23 6 _ Try.underlying23 rfl szMt _ rfl (by rfl) _ rfl _ _ (fun w hS => Bm_8.keep hS) rfl ?_
  try simp only [Act.put, List.setIfInBounds_toArray, List.set_cons_zero, List.set_cons_succ]
  refine Det.det_take (v := ?_) (by rfl) ?_ ?_
  rotate_left
  · (intro w hSw; have q := eqM14 A B C D X Y w; go_simp; try with_reducible rfl)
  try simp only [Act.put, List.setIfInBounds_toArray, List.set_cons_zero, List.set_cons_succ]
  refine Det.det_take (v := ?_) (by rfl) ?_ ?_
  rotate_left
  · (intro w hSw; go_simp; try with_reducible rfl)
  try simp only [Act.put, List.setIfInBounds_toArray, List.set_cons_zero, List.set_cons_succ]
  refine Det.det_load 23 6 _ Try.underlying23 rfl szMt _ rfl (by rfl) _ rfl _ _ (fun w hS => Bb_8.keep hS) rfl ?_
  try simp only [Act.put, List.setIfInBounds_toArray, List.set_cons_zero, List.set_cons_succ]
  refine Det.det_load 23 6 _ Try.underlying23 rfl szMt _ rfl (by rfl) _ rfl _ _ (fun w hS => Bm_8.keep hS) rfl ?_
  try simp only [Act.put, List.setIfInBounds_toArray, List.set_cons_zero, List.set_cons_succ]
  refine Det.det_take (v := ?_) (by rfl) ?_ ?_
  rotate_left
  · (intro w hSw; have q := eqM14 A B C D X Y w; go_simp; try with_reducible rfl)
  try simp only [Act.put, List.setIfInBounds_toArray, List.set_cons_zero, List.set_cons_succ]
  refine Det.det_take (v := ?_) (by rfl) ?_ ?_
  rotate_left
  · (intro w hSw; go_simp; try with_reducible rfl)
  try simp only [Act.put, List.setIfInBounds_toArray, List.set_cons_zero, List.set_cons_succ]
  refine Det.det_take (v := ?_) (by rfl) ?_ ?_
  rotate_left
  · (intro w hSw; go_simp; try with_reducible rfl)
  try simp only [Act.put, List.setIfInBounds_toArray, List.set_cons_zero, List.set_cons_succ]
  refine Det.det_take (v := ?_) (by rfl) ?_ ?_
  rotate_left
  · (intro w hSw; go_simp; try with_reducible rfl)
  try simp only [Act.put, List.setIfInBounds_toArray, List.set_cons_zero, List.set_cons_succ]
  refine Det.det_take (v := ?_) (by rfl) ?_ ?_
  rotate_left
  · (intro w hSw; go_simp; try with_reducible rfl)
  try simp only [Act.put, List.setIfInBounds_toArray, List.set_cons_zero, List.set_cons_succ]
  refine Det.det_take (v := ?_) (by rfl) ?_ ?_
  rotate_left
  · (intro w hSw; go_simp; try with_reducible rfl)
  try simp only [Act.put, List.setIfInBounds_toArray, List.set_cons_zero, List.set_cons_succ]
  refine Det.det_take (v := ?_) (by rfl) ?_ ?_
  rotate_left
  · (intro w hSw; go_simp; try with_reducible rfl)
  try simp only [Act.put, List.setIfInBounds_toArray, List.set_cons_zero, List.set_cons_succ]
  refine Det.det_take (v := ?_) (by rfl) ?_ ?_
  rotate_left
  · (intro w hSw; go_simp; try with_reducible rfl)
  try simp only [Act.put, List.setIfInBounds_toArray, List.set_cons_zero, List.set_cons_succ]
  refine Det.det_take (v := ?_) (by rfl) ?_ ?_
  rotate_left
  · (intro w hSw; go_simp; try with_reducible rfl)
  try simp only [Act.put, List.setIfInBounds_toArray, List.set_cons_zero, List.set_cons_succ]
  refine Det.det_take (v := ?_) (by rfl) ?_ ?_
  rotate_left
  · (intro w hSw; go_simp; try with_reducible rfl)
  try simp only [Act.put, List.setIfInBounds_toArray, List.set_cons_zero, List.set_cons_succ]
  refine Det.det_take (v := ?_) (by rfl) ?_ ?_
  rotate_left
  · (intro w hSw; go_simp; try with_reducible rfl)
  try simp only [Act.put, List.setIfInBounds_toArray, List.set_cons_zero, List.set_cons_succ]
  refine Det.det_nil (fun W9 k9 => ?_)
  have Bm_9 := Bm_8.keep k9
  have Bc_9 := Bc_8.keep k9
  have Bk_9 := Bk_8.keep k9
  have Bp_9 := Bp_8.keep k9
  have Bn_9 := Bn_8.keep k9
  have Ba_9 := Ba_8.keep k9
  have Bb_9 := Bb_8.keep k9
  have Hw9 := bq_trans Hw8 k9
  clear k9 Bm_8 Bc_8 Bk_8 Bp_8 Bn_8 Ba_8 Bb_8 Hw8
  go_upto_region 6 with (fail)
  refine Det.wp_region_det (S := fun w' => Below W9.heap.size W9 w') (by kernel_rfl) (by kernel_rfl) (bq_drew (bq_refl _)) ?_
  refine Det.det_load 26 8 _ Try.underlying26 rfl szCx _ rfl (by rfl) _ rfl _ _ (fun w hS => Bc_9.keep hS) rfl ?_
  try simp only [Act.put, List.setIfInBounds_toArray, List.set_cons_zero, List.set_cons_succ]
  refine Det.det_call (f := 12) (args := #[.agg #[.int .i64 m0, .int .i64 m1, .int .i64 m2, .int .i64 m3, .int .i64 d0, .int .i64 d1, .int .i64 d2, .int .i64 d3]]) (v := .bool false) (by rfl) ?_ (fun w hS => (H4.out w).mono fun e w' ⟨h1, h2⟩ => ⟨h1, bq_trans hS h2⟩) ?_
  · (intro w hSw; go_simp)
  try simp only [Act.put, List.setIfInBounds_toArray, List.set_cons_zero, List.set_cons_succ]
  refine Det.det_take (v := ?_) (by rfl) ?_ ?_
  rotate_left
  · (intro w hSw; go_simp; try with_reducible rfl)
  try simp only [Act.put, List.setIfInBounds_toArray, List.set_cons_zero, List.set_cons_succ]
  refine Det.det_skip (by rfl) ?_
  try simp only [Act.put, List.setIfInBounds_toArray, List.set_cons_zero, List.set_cons_succ]
  refine Det.det_skip (by rfl) ?_
  try simp only [Act.put, List.setIfInBounds_toArray, List.set_cons_zero, List.set_cons_succ]
  refine Det.det_skip (by rfl) ?_
  try simp only [Act.put, List.setIfInBounds_toArray, List.set_cons_zero, List.set_cons_succ]
  refine Det.det_skip (by rfl) ?_
  try simp only [Act.put, List.setIfInBounds_toArray, List.set_cons_zero, List.set_cons_succ]
  refine Det.det_skip (by rfl) ?_
  try simp only [Act.put, List.setIfInBounds_toArray, List.set_cons_zero, List.set_cons_succ]
  refine Det.det_skip (by rfl) ?_
  try simp only [Act.put, List.setIfInBounds_toArray, List.set_cons_zero, List.set_cons_succ]
  refine Det.det_skip (by rfl) ?_
  try simp only [Act.put, List.setIfInBounds_toArray, List.set_cons_zero, List.set_cons_succ]
  refine Det.det_skip (by rfl) ?_
  try simp only [Act.put, List.setIfInBounds_toArray, List.set_cons_zero, List.set_cons_succ]
  refine Det.det_skip (by rfl) ?_
  try simp only [Act.put, List.setIfInBounds_toArray, List.set_cons_zero, List.set_cons_succ]
  refine Det.det_skip (by rfl) ?_
  try simp only [Act.put, List.setIfInBounds_toArray, List.set_cons_zero, List.set_cons_succ]
  refine Det.det_skip (by rfl) ?_
  try simp only [Act.put, List.setIfInBounds_toArray, List.set_cons_zero, List.set_cons_succ]
  refine Det.det_skip (by rfl) ?_
  try simp only [Act.put, List.setIfInBounds_toArray, List.set_cons_zero, List.set_cons_succ]
  refine Det.det_take (v := ?_) (by rfl) ?_ ?_
  rotate_left
  · (intro w hSw; go_simp; try with_reducible rfl)
  try simp only [Act.put, List.setIfInBounds_toArray, List.set_cons_zero, List.set_cons_succ]
  refine Det.det_nil (fun W10 k10 => ?_)
  have Bm_10 := Bm_9.keep k10
  have Bc_10 := Bc_9.keep k10
  have Bk_10 := Bk_9.keep k10
  have Bp_10 := Bp_9.keep k10
  have Bn_10 := Bn_9.keep k10
  have Ba_10 := Ba_9.keep k10
  have Bb_10 := Bb_9.keep k10
  have Hw10 := bq_trans Hw9 k10
  clear k10 Bm_9 Bc_9 Bk_9 Bp_9 Bn_9 Ba_9 Bb_9 Hw9
  go_upto_region 8 with (fail)
  refine Det.wp_region_det (S := fun w' => Below W10.heap.size W10 w') (by kernel_rfl) (by kernel_rfl) (bq_drew (bq_refl _)) ?_
  refine Det.det_load 48 4 _ Try.underlying48 rfl szRg _ rfl (by rfl) _ rfl _ _ (fun w hS => Bk_10.keep hS) rfl ?_
  try simp only [Act.put, List.setIfInBounds_toArray, List.set_cons_zero, List.set_cons_succ]
  refine Det.det_call (f := 24) (args := #[.agg #[.int .i64 kr, .int .i64 kg, .int .i64 kb, .int .i64 ka]]) (v := .bool true) (by rfl) ?_ (fun w hS => (H7.out w).mono fun e w' ⟨h1, h2⟩ => ⟨h1, bq_trans hS h2⟩) ?_
  · (intro w hSw; go_simp)
  try simp only [Act.put, List.setIfInBounds_toArray, List.set_cons_zero, List.set_cons_succ]
  refine Det.det_take (v := ?_) (by rfl) ?_ ?_
  rotate_left
  · (intro w hSw; go_simp; try with_reducible rfl)
  try simp only [Act.put, List.setIfInBounds_toArray, List.set_cons_zero, List.set_cons_succ]
  refine Det.det_load 26 8 _ Try.underlying26 rfl szCx _ rfl (by rfl) _ rfl _ _ (fun w hS => Bn_10.keep hS) rfl ?_
  try simp only [Act.put, List.setIfInBounds_toArray, List.set_cons_zero, List.set_cons_succ]
  refine Det.det_load 48 4 _ Try.underlying48 rfl szRg _ rfl (by rfl) _ rfl _ _ (fun w hS => Bk_10.keep hS) rfl ?_
  try simp only [Act.put, List.setIfInBounds_toArray, List.set_cons_zero, List.set_cons_succ]
  refine Det.det_call (f := 26) (args := #[.agg #[.int .i64 256, .int .i64 256, .int .i64 256, .int .i64 256, .int .i64 0, .int .i64 0, .int .i64 0, .int .i64 0], .agg #[.int .i64 kr, .int .i64 kg, .int .i64 kb, .int .i64 ka]]) (v := .agg #[.int .i64 kr, .int .i64 kg, .int .i64 kb, .int .i64 ka]) (by rfl) ?_ (fun w hS => (H8.out w).mono fun e w' ⟨h1, h2⟩ => ⟨h1, bq_trans hS h2⟩) ?_
  · (intro w hSw; go_simp)
  try simp only [Act.put, List.setIfInBounds_toArray, List.set_cons_zero, List.set_cons_succ]
  refine Det.det_load 48 4 _ Try.underlying48 rfl szRg _ rfl (by rfl) _ rfl _ _ (fun w hS => Bk_10.keep hS) rfl ?_
  try simp only [Act.put, List.setIfInBounds_toArray, List.set_cons_zero, List.set_cons_succ]
  refine Det.det_take (v := ?_) (by rfl) ?_ ?_
  rotate_left
  · (intro w hSw; have q := eqR14 kr kg kb ka w; go_simp; try with_reducible rfl)
  try simp only [Act.put, List.setIfInBounds_toArray, List.set_cons_zero, List.set_cons_succ]
  refine Det.det_take (v := ?_) (by rfl) ?_ ?_
  rotate_left
  · (intro w hSw; go_simp; try with_reducible rfl)
  try simp only [Act.put, List.setIfInBounds_toArray, List.set_cons_zero, List.set_cons_succ]
  refine Det.det_nil (fun W11 k11 => ?_)
  have Bm_11 := Bm_10.keep k11
  have Bc_11 := Bc_10.keep k11
  have Bk_11 := Bk_10.keep k11
  have Bp_11 := Bp_10.keep k11
  have Bn_11 := Bn_10.keep k11
  have Ba_11 := Ba_10.keep k11
  have Bb_11 := Bb_10.keep k11
  have Hw11 := bq_trans Hw10 k11
  clear k11 Bm_10 Bc_10 Bk_10 Bp_10 Bn_10 Ba_10 Bb_10 Hw10
  go_upto_region 10 with (fail)
  go_upto_region 11 with (go_big_may; first
    | (refine wl_load 23 6 _ Try.underlying23 rfl szMt _ rfl rfl _ rfl _ _ Bm_11 rfl ?_)
    | (refine wl_load 37 2 _ Try.underlying37 rfl szPt _ rfl rfl _ rfl _ _ Bp_11 rfl ?_)
    | (go_at_call 16; (with_reducible refine (H9.out _).mono ?_); rintro e W12 ⟨rfl, k12⟩; have Bm_12 := Bm_11.keep k12; have Bc_12 := Bc_11.keep k12; have Bk_12 := Bk_11.keep k12; have Bp_12 := Bp_11.keep k12; have Bn_12 := Bn_11.keep k12; have Ba_12 := Ba_11.keep k12; have Bb_12 := Bb_11.keep k12; have Hw12 := bq_trans Hw11 k12; clear k12 Bm_11 Bc_11 Bk_11 Bp_11 Bn_11 Ba_11 Bb_11 Hw11)
    | (refine wl_alloc 37 _ zePt rfl rfl ?_; intro W13 bg Bg_13 l13 k13; have gg : w.heap.size ≤ bg := Nat.le_trans Hw12.size l13; have nmg : bm ≠ bg := Nat.ne_of_lt (Nat.lt_of_lt_of_le Bm_12.lt l13); have ncg : bc ≠ bg := Nat.ne_of_lt (Nat.lt_of_lt_of_le Bc_12.lt l13); have nkg : bk ≠ bg := Nat.ne_of_lt (Nat.lt_of_lt_of_le Bk_12.lt l13); have npg : bp ≠ bg := Nat.ne_of_lt (Nat.lt_of_lt_of_le Bp_12.lt l13); have nng : bn ≠ bg := Nat.ne_of_lt (Nat.lt_of_lt_of_le Bn_12.lt l13); have nag : ba ≠ bg := Nat.ne_of_lt (Nat.lt_of_lt_of_le Ba_12.lt l13); have nbg : bb ≠ bg := Nat.ne_of_lt (Nat.lt_of_lt_of_le Bb_12.lt l13); have Bm_13 := Bm_12.keep k13; have Bc_13 := Bc_12.keep k13; have Bk_13 := Bk_12.keep k13; have Bp_13 := Bp_12.keep k13; have Bn_13 := Bn_12.keep k13; have Ba_13 := Ba_12.keep k13; have Bb_13 := Bb_12.keep k13; have Hw13 := bq_trans Hw12 k13; clear l13 k13 Bm_12 Bc_12 Bk_12 Bp_12 Bn_12 Ba_12 Bb_12 Hw12)
    | (refine wl_store 37 2 szPt _ _ rfl rfl _ rfl #[.int .i64 (2 * r), .int .i64 (2 * s)] rfl _ _ Bg_13 rfl rfl (by kernel_rfl) ?_; intro W14 Bg_14 T14; have Bm_14 := T14.blk Bm_13 nmg; have Bc_14 := T14.blk Bc_13 ncg; have Bk_14 := T14.blk Bk_13 nkg; have Bp_14 := T14.blk Bp_13 npg; have Bn_14 := T14.blk Bn_13 nng; have Ba_14 := T14.blk Ba_13 nag; have Bb_14 := T14.blk Bb_13 nbg; have Hw14 := T14.below Hw13 gg; clear T14 Bm_13 Bc_13 Bk_13 Bp_13 Bn_13 Ba_13 Bb_13 Bg_13 Hw13))
  refine Det.wp_region_text (S := fun w' => Below W14.heap.size W14 w') (bq_refl _) ?_
  refine Det.det_take (v := ?_) (by rfl) ?_ ?_
  rotate_left
  · (intro w hSw; go_simp; try with_reducible rfl)
  try simp only [Act.put, List.setIfInBounds_toArray, List.set_cons_zero, List.set_cons_succ]
  refine Det.det_take (v := ?_) (by rfl) ?_ ?_
  rotate_left
  · (intro w hSw; go_simp; try with_reducible rfl)
  try simp only [Act.put, List.setIfInBounds_toArray, List.set_cons_zero, List.set_cons_succ]
  refine Det.det_take (v := ?_) (by rfl) ?_ ?_
  rotate_left
  · (intro w hSw; go_simp; try with_reducible rfl)
  try simp only [Act.put, List.setIfInBounds_toArray, List.set_cons_zero, List.set_cons_succ]
  refine Det.det_take (v := ?_) (by rfl) ?_ ?_
  rotate_left
  · (intro w hSw; go_simp; try with_reducible rfl)
  try simp only [Act.put, List.setIfInBounds_toArray, List.set_cons_zero, List.set_cons_succ]
  refine Det.det_take (v := ?_) (by rfl) ?_ ?_
  rotate_left
  · (intro w hSw; have cc : w.cell? ⟨bg, 0, none⟩ = some (.int .i64 (2 * r)) := (Bg_14.keep hSw).cell 0; go_simp; try with_reducible rfl)
  try simp only [Act.put, List.setIfInBounds_toArray, List.set_cons_zero, List.set_cons_succ]
  refine Det.det_take (v := ?_) (by rfl) ?_ ?_
  rotate_left
  · (intro w hSw; have h2 := HM.out.1; go_simp; try with_reducible rfl)
  try simp only [Act.put, List.setIfInBounds_toArray, List.set_cons_zero, List.set_cons_succ]
  refine Det.det_take (v := ?_) (by rfl) ?_ ?_
  rotate_left
  · (intro w hSw; go_simp; try with_reducible rfl)
  try simp only [Act.put, List.setIfInBounds_toArray, List.set_cons_zero, List.set_cons_succ]
  refine Det.det_take (v := ?_) (by rfl) ?_ ?_
  rotate_left
  · (intro w hSw; go_simp; try with_reducible rfl)
  try simp only [Act.put, List.setIfInBounds_toArray, List.set_cons_zero, List.set_cons_succ]
  refine Det.det_take (v := ?_) (by rfl) ?_ ?_
  rotate_left
  · (intro w hSw; go_simp; try with_reducible rfl)
  try simp only [Act.put, List.setIfInBounds_toArray, List.set_cons_zero, List.set_cons_succ]
  refine Det.det_take (v := ?_) (by rfl) ?_ ?_
  rotate_left
  · (intro w hSw; have cc : w.cell? ⟨bg, 1, none⟩ = some (.int .i64 (2 * s)) := (Bg_14.keep hSw).cell 1; go_simp; try with_reducible rfl)
  try simp only [Act.put, List.setIfInBounds_toArray, List.set_cons_zero, List.set_cons_succ]
  refine Det.det_take (v := ?_) (by rfl) ?_ ?_
  rotate_left
  · (intro w hSw; have h2 := HM.out.2; go_simp; try with_reducible rfl)
  try simp only [Act.put, List.setIfInBounds_toArray, List.set_cons_zero, List.set_cons_succ]
  refine Det.det_take (v := ?_) (by rfl) ?_ ?_
  rotate_left
  · (intro w hSw; go_simp; try with_reducible rfl)
  try simp only [Act.put, List.setIfInBounds_toArray, List.set_cons_zero, List.set_cons_succ]
  refine Det.det_take (v := ?_) (by rfl) ?_ ?_
  rotate_left
  · (intro w hSw; go_simp; try with_reducible rfl)
  try simp only [Act.put, List.setIfInBounds_toArray, List.set_cons_zero, List.set_cons_succ]
  refine Det.det_take (v := ?_) (by rfl) ?_ ?_
  rotate_left
  · (intro w hSw; go_simp; try with_reducible rfl)
  try simp only [Act.put, List.setIfInBounds_toArray, List.set_cons_zero, List.set_cons_succ]
  refine Det.det_take (v := ?_) (by rfl) ?_ ?_
  rotate_left
  · (intro w hSw; go_simp; try with_reducible rfl)
  try simp only [Act.put, List.setIfInBounds_toArray, List.set_cons_zero, List.set_cons_succ]
  refine Det.det_call (f := 14) (args := #[]) (v := .bool true) (by rfl) ?_ (fun w hS => (HA.out w).mono fun e w' ⟨h1, h2⟩ => ⟨h1, bq_trans hS h2⟩) ?_
  · (intro w hSw; go_simp)
  try simp only [Act.put, List.setIfInBounds_toArray, List.set_cons_zero, List.set_cons_succ]
  refine Det.det_take (v := ?_) (by rfl) ?_ ?_
  rotate_left
  · (intro w hSw; go_simp; try with_reducible rfl)
  try simp only [Act.put, List.setIfInBounds_toArray, List.set_cons_zero, List.set_cons_succ]
  refine Det.det_take (v := ?_) (by rfl) ?_ ?_
  rotate_left
  · (intro w hSw; go_simp; try with_reducible rfl)
  try simp only [Act.put, List.setIfInBounds_toArray, List.set_cons_zero, List.set_cons_succ]
  refine Det.det_nil (fun W15 k15 => ?_)
  have Bm_15 := Bm_14.keep k15
  have Bc_15 := Bc_14.keep k15
  have Bk_15 := Bk_14.keep k15
  have Bp_15 := Bp_14.keep k15
  have Bn_15 := Bn_14.keep k15
  have Ba_15 := Ba_14.keep k15
  have Bb_15 := Bb_14.keep k15
  have Bg_15 := Bg_14.keep k15
  have Hw15 := bq_trans Hw14 k15
  clear k15 Bm_14 Bc_14 Bk_14 Bp_14 Bn_14 Ba_14 Bb_14 Bg_14 Hw14
  go_wp2_with fail
  go_ret
  exact ⟨rfl, Hw15⟩
end Go.Proofs.Ythcejmbjagpjcaa
