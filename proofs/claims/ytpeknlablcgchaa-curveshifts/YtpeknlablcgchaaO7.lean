import Derived.Test.YtpeknlablcgchaaO4
import Derived.Test.YtpeknlablcgchaaDm
import Derived.Test.YtpeknlablcgchaaDr
/- Layer 16: the walk of CurveShifts. -/
namespace Go.Proofs.Ytpeknlablcgchaa
open Go.RowKit
set_option linter.unusedVariables false
set_option linter.unusedSimpArgs false
set_option maxRecDepth 100000

theorem bounds_i16 {m : Int} (h : (Lit.int .i16 m).wf = true) : -32768 ≤ m ∧ m ≤ 32767 := by
  simp [Lit.wf, IntKind.min, IntKind.max, IntKind.bits, IntKind.signed] at h
  omega
set_option maxHeartbeats 4000000 in
theorem shifts16_0 (ax ay bx by1 cx cy x y px py qx qy rx ry : Int) (w : World) (hx0 : -32768 ≤ x) (hx1 : x ≤ 32767) (hy0 : -32768 ≤ y) (hy1 : y ≤ 32767) (hwax : IntKind.i64.wrap (ax + 2 * x) = px) (hway : IntKind.i64.wrap (ay + 2 * y) = py) (hwbx : IntKind.i64.wrap (bx + 2 * x) = qx) (hwby1 : IntKind.i64.wrap (by1 + 2 * y) = qy) (hwcx : IntKind.i64.wrap (cx + 2 * x) = rx) (hwcy : IntKind.i64.wrap (cy + 2 * y) = ry) (HA : Hid (∀ W, Calls Try.prog 14 #[] W fun e w' => e = .returned (.bool true) ∧ Below W.heap.size W w')) (H1 : Hid (∀ W, Calls Try.prog 11 #[.agg #[.int .i64 ax, .int .i64 ay], .agg #[.int .i64 bx, .int .i64 by1], .agg #[.int .i64 cx, .int .i64 cy]] W fun e w' => e = .returned (.bool false) ∧ Below W.heap.size W w'))  :
    Calls Try.prog 7 #[.agg #[.int .i64 ax, .int .i64 ay], .agg #[.int .i64 bx, .int .i64 by1], .agg #[.int .i64 cx, .int .i64 cy], .int .i16 x, .int .i16 y] w fun e w' => e = .returned (.bool true) ∧ Below w.heap.size w w' := by
  have HEax := Lib.hid hwax
  have HEay := Lib.hid hway
  have HEbx := Lib.hid hwbx
  have HEby1 := Lib.hid hwby1
  have HEcx := Lib.hid hwcx
  have HEcy := Lib.hid hwcy
  clear hwax hway hwbx hwby1 hwcx hwcy
  go_enter Try.func7, Try.ntmps7
  go_upto_region 1 with (go_big_may; first
    | (refine wl_box 23 _ _ rfl rfl (show _ = Value.agg #[.int .i64 ax, .int .i64 ay] from rfl) ?_; intro W1 ba Ba_1 l1 k1; have ga : w.heap.size ≤ ba := l1; have Hw1 := k1; clear l1 k1)
    | (refine wl_box 23 _ _ rfl rfl (show _ = Value.agg #[.int .i64 bx, .int .i64 by1] from rfl) ?_; intro W2 bb Bb_2 l2 k2; have gb : w.heap.size ≤ bb := Nat.le_trans Hw1.size l2; have nab : ba ≠ bb := Nat.ne_of_lt (Nat.lt_of_lt_of_le Ba_1.lt l2); have Ba_2 := Ba_1.keep k2; have Hw2 := bq_trans Hw1 k2; clear l2 k2 Ba_1 Hw1)
    | (refine wl_box 23 _ _ rfl rfl (show _ = Value.agg #[.int .i64 cx, .int .i64 cy] from rfl) ?_; intro W3 bc Bc_3 l3 k3; have gc : w.heap.size ≤ bc := Nat.le_trans Hw2.size l3; have nac : ba ≠ bc := Nat.ne_of_lt (Nat.lt_of_lt_of_le Ba_2.lt l3); have nbc : bb ≠ bc := Nat.ne_of_lt (Nat.lt_of_lt_of_le Bb_2.lt l3); have Ba_3 := Ba_2.keep k3; have Bb_3 := Bb_2.keep k3; have Hw3 := bq_trans Hw2 k3; clear l3 k3 Ba_2 Bb_2 Hw2))
  go_upto_region 2 with (go_big_may; first
    | (refine wl_alloc 23 _ zePt rfl rfl ?_; intro W4 bd Bd_4 l4 k4; have gd : w.heap.size ≤ bd := Nat.le_trans Hw3.size l4; have nad : ba ≠ bd := Nat.ne_of_lt (Nat.lt_of_lt_of_le Ba_3.lt l4); have nbd : bb ≠ bd := Nat.ne_of_lt (Nat.lt_of_lt_of_le Bb_3.lt l4); have ncd : bc ≠ bd := Nat.ne_of_lt (Nat.lt_of_lt_of_le Bc_3.lt l4); have Ba_4 := Ba_3.keep k4; have Bb_4 := Bb_3.keep k4; have Bc_4 := Bc_3.keep k4; have Hw4 := bq_trans Hw3 k4; clear l4 k4 Ba_3 Bb_3 Bc_3 Hw3)
    | (refine wl_store 23 2 szPt _ _ rfl rfl _ rfl #[.int .i64 (2 * x), .int .i64 (2 * y)] rfl _ _ Bd_4 rfl rfl (by kernel_rfl) ?_; intro W5 Bd_5 T5; have Ba_5 := T5.blk Ba_4 nad; have Bb_5 := T5.blk Bb_4 nbd; have Bc_5 := T5.blk Bc_4 ncd; have Hw5 := T5.below Hw4 gd; clear T5 Ba_4 Bb_4 Bc_4 Bd_4 Hw4))
  refine Dmn.wp_region_mnew [(⟨33, 36, 12, #[.int .i64 px, .int .i64 py]⟩ : Dmn.Pr), (⟨34, 37, 13, #[.int .i64 qx, .int .i64 qy]⟩ : Dmn.Pr), (⟨35, 38, 14, #[.int .i64 rx, .int .i64 ry]⟩ : Dmn.Pr)] 23 2 _ (by kernel_rfl) (by kernel_rfl) zePt szPt rfl (by intro x hx; simp only [List.mem_cons, List.not_mem_nil, or_false] at hx; rcases hx with rfl | rfl | rfl <;> exact Dmn.new_of rfl rfl rfl rfl rfl rfl (by intro h; cases h) rfl rfl (by kernel_rfl) (by kernel_rfl) rfl (by kernel_rfl)) (by simp) (by intro x hx; simp only [List.mem_cons, List.not_mem_nil, or_false] at hx; rcases hx with rfl | rfl | rfl <;> exact of_decide_eq_true rfl) ?_
  refine Dmn.dm_take (v := ?_) (by simp) (by rfl) ?_ ?_
  rotate_left
  · (intro w hSw; go_simp; try with_reducible rfl)
  try simp only [Act.put, List.setIfInBounds_toArray, List.set_cons_zero, List.set_cons_succ]
  refine Dmn.dm_take (v := ?_) (by simp) (by rfl) ?_ ?_
  rotate_left
  · (intro w hSw; have cc : w.cell? ⟨ba, 0, none⟩ = some (.int .i64 ax) := (Ba_5.keep hSw).cell 0; go_simp; try with_reducible rfl)
  try simp only [Act.put, List.setIfInBounds_toArray, List.set_cons_zero, List.set_cons_succ]
  refine Dmn.dm_take (v := ?_) (by simp) (by rfl) ?_ ?_
  rotate_left
  · (intro w hSw; go_simp; try with_reducible rfl)
  try simp only [Act.put, List.setIfInBounds_toArray, List.set_cons_zero, List.set_cons_succ]
  refine Dmn.dm_take (v := ?_) (by simp) (by rfl) ?_ ?_
  rotate_left
  · (intro w hSw; have cc : w.cell? ⟨bd, 0, none⟩ = some (.int .i64 (2 * x)) := (Bd_5.keep hSw).cell 0; go_simp; try with_reducible rfl)
  try simp only [Act.put, List.setIfInBounds_toArray, List.set_cons_zero, List.set_cons_succ]
  refine Dmn.dm_take (v := ?_) (by simp) (by rfl) ?_ ?_
  rotate_left
  · (intro w hSw; have ew := HEax.out; go_simp; try with_reducible rfl)
  try simp only [Act.put, List.setIfInBounds_toArray, List.set_cons_zero, List.set_cons_succ]
  refine Dmn.dm_take (v := ?_) (by simp) (by rfl) ?_ ?_
  rotate_left
  · (intro w hSw; go_simp; try with_reducible rfl)
  try simp only [Act.put, List.setIfInBounds_toArray, List.set_cons_zero, List.set_cons_succ]
  refine Dmn.dm_take (v := ?_) (by simp) (by rfl) ?_ ?_
  rotate_left
  · (intro w hSw; have cc : w.cell? ⟨ba, 1, none⟩ = some (.int .i64 ay) := (Ba_5.keep hSw).cell 1; go_simp; try with_reducible rfl)
  try simp only [Act.put, List.setIfInBounds_toArray, List.set_cons_zero, List.set_cons_succ]
  refine Dmn.dm_take (v := ?_) (by simp) (by rfl) ?_ ?_
  rotate_left
  · (intro w hSw; go_simp; try with_reducible rfl)
  try simp only [Act.put, List.setIfInBounds_toArray, List.set_cons_zero, List.set_cons_succ]
  refine Dmn.dm_take (v := ?_) (by simp) (by rfl) ?_ ?_
  rotate_left
  · (intro w hSw; have cc : w.cell? ⟨bd, 1, none⟩ = some (.int .i64 (2 * y)) := (Bd_5.keep hSw).cell 1; go_simp; try with_reducible rfl)
  try simp only [Act.put, List.setIfInBounds_toArray, List.set_cons_zero, List.set_cons_succ]
  refine Dmn.dm_take (v := ?_) (by simp) (by rfl) ?_ ?_
  rotate_left
  · (intro w hSw; have ew := HEay.out; go_simp; try with_reducible rfl)
  try simp only [Act.put, List.setIfInBounds_toArray, List.set_cons_zero, List.set_cons_succ]
  refine Dmn.dm_take (v := ?_) (by simp) (by rfl) ?_ ?_
  rotate_left
  · (intro w hSw; go_simp; try with_reducible rfl)
  try simp only [Act.put, List.setIfInBounds_toArray, List.set_cons_zero, List.set_cons_succ]
  refine Dmn.dm_take (v := ?_) (by simp) (by rfl) ?_ ?_
  rotate_left
  · (intro w hSw; go_simp; try with_reducible rfl)
  try simp only [Act.put, List.setIfInBounds_toArray, List.set_cons_zero, List.set_cons_succ]
  refine Dmn.dm_take (v := ?_) (by simp) (by rfl) ?_ ?_
  rotate_left
  · (intro w hSw; have cc : w.cell? ⟨bb, 0, none⟩ = some (.int .i64 bx) := (Bb_5.keep hSw).cell 0; go_simp; try with_reducible rfl)
  try simp only [Act.put, List.setIfInBounds_toArray, List.set_cons_zero, List.set_cons_succ]
  refine Dmn.dm_take (v := ?_) (by simp) (by rfl) ?_ ?_
  rotate_left
  · (intro w hSw; go_simp; try with_reducible rfl)
  try simp only [Act.put, List.setIfInBounds_toArray, List.set_cons_zero, List.set_cons_succ]
  refine Dmn.dm_take (v := ?_) (by simp) (by rfl) ?_ ?_
  rotate_left
  · (intro w hSw; have cc : w.cell? ⟨bd, 0, none⟩ = some (.int .i64 (2 * x)) := (Bd_5.keep hSw).cell 0; go_simp; try with_reducible rfl)
  try simp only [Act.put, List.setIfInBounds_toArray, List.set_cons_zero, List.set_cons_succ]
  refine Dmn.dm_take (v := ?_) (by simp) (by rfl) ?_ ?_
  rotate_left
  · (intro w hSw; have ew := HEbx.out; go_simp; try with_reducible rfl)
  try simp only [Act.put, List.setIfInBounds_toArray, List.set_cons_zero, List.set_cons_succ]
  refine Dmn.dm_take (v := ?_) (by simp) (by rfl) ?_ ?_
  rotate_left
  · (intro w hSw; go_simp; try with_reducible rfl)
  try simp only [Act.put, List.setIfInBounds_toArray, List.set_cons_zero, List.set_cons_succ]
  refine Dmn.dm_take (v := ?_) (by simp) (by rfl) ?_ ?_
  rotate_left
  · (intro w hSw; have cc : w.cell? ⟨bb, 1, none⟩ = some (.int .i64 by1) := (Bb_5.keep hSw).cell 1; go_simp; try with_reducible rfl)
  try simp only [Act.put, List.setIfInBounds_toArray, List.set_cons_zero, List.set_cons_succ]
  refine Dmn.dm_take (v := ?_) (by simp) (by rfl) ?_ ?_
  rotate_left
  · (intro w hSw; go_simp; try with_reducible rfl)
  try simp only [Act.put, List.setIfInBounds_toArray, List.set_cons_zero, List.set_cons_succ]
  refine Dmn.dm_take (v := ?_) (by simp) (by rfl) ?_ ?_
  rotate_left
  · (intro w hSw; have cc : w.cell? ⟨bd, 1, none⟩ = some (.int .i64 (2 * y)) := (Bd_5.keep hSw).cell 1; go_simp; try with_reducible rfl)
  try simp only [Act.put, List.setIfInBounds_toArray, List.set_cons_zero, List.set_cons_succ]
  refine Dmn.dm_take (v := ?_) (by simp) (by rfl) ?_ ?_
  rotate_left
  · (intro w hSw; have ew := HEby1.out; go_simp; try with_reducible rfl)
  try simp only [Act.put, List.setIfInBounds_toArray, List.set_cons_zero, List.set_cons_succ]
  refine Dmn.dm_take (v := ?_) (by simp) (by rfl) ?_ ?_
  rotate_left
  · (intro w hSw; go_simp; try with_reducible rfl)
  try simp only [Act.put, List.setIfInBounds_toArray, List.set_cons_zero, List.set_cons_succ]
  refine Dmn.dm_take (v := ?_) (by simp) (by rfl) ?_ ?_
  rotate_left
  · (intro w hSw; go_simp; try with_reducible rfl)
  try simp only [Act.put, List.setIfInBounds_toArray, List.set_cons_zero, List.set_cons_succ]
  refine Dmn.dm_take (v := ?_) (by simp) (by rfl) ?_ ?_
  rotate_left
  · (intro w hSw; have cc : w.cell? ⟨bc, 0, none⟩ = some (.int .i64 cx) := (Bc_5.keep hSw).cell 0; go_simp; try with_reducible rfl)
  try simp only [Act.put, List.setIfInBounds_toArray, List.set_cons_zero, List.set_cons_succ]
  refine Dmn.dm_take (v := ?_) (by simp) (by rfl) ?_ ?_
  rotate_left
  · (intro w hSw; go_simp; try with_reducible rfl)
  try simp only [Act.put, List.setIfInBounds_toArray, List.set_cons_zero, List.set_cons_succ]
  refine Dmn.dm_take (v := ?_) (by simp) (by rfl) ?_ ?_
  rotate_left
  · (intro w hSw; have cc : w.cell? ⟨bd, 0, none⟩ = some (.int .i64 (2 * x)) := (Bd_5.keep hSw).cell 0; go_simp; try with_reducible rfl)
  try simp only [Act.put, List.setIfInBounds_toArray, List.set_cons_zero, List.set_cons_succ]
  refine Dmn.dm_take (v := ?_) (by simp) (by rfl) ?_ ?_
  rotate_left
  · (intro w hSw; have ew := HEcx.out; go_simp; try with_reducible rfl)
  try simp only [Act.put, List.setIfInBounds_toArray, List.set_cons_zero, List.set_cons_succ]
  refine Dmn.dm_take (v := ?_) (by simp) (by rfl) ?_ ?_
  rotate_left
  · (intro w hSw; go_simp; try with_reducible rfl)
  try simp only [Act.put, List.setIfInBounds_toArray, List.set_cons_zero, List.set_cons_succ]
  refine Dmn.dm_take (v := ?_) (by simp) (by rfl) ?_ ?_
  rotate_left
  · (intro w hSw; have cc : w.cell? ⟨bc, 1, none⟩ = some (.int .i64 cy) := (Bc_5.keep hSw).cell 1; go_simp; try with_reducible rfl)
  try simp only [Act.put, List.setIfInBounds_toArray, List.set_cons_zero, List.set_cons_succ]
  refine Dmn.dm_take (v := ?_) (by simp) (by rfl) ?_ ?_
  rotate_left
  · (intro w hSw; go_simp; try with_reducible rfl)
  try simp only [Act.put, List.setIfInBounds_toArray, List.set_cons_zero, List.set_cons_succ]
  refine Dmn.dm_take (v := ?_) (by simp) (by rfl) ?_ ?_
  rotate_left
  · (intro w hSw; have cc : w.cell? ⟨bd, 1, none⟩ = some (.int .i64 (2 * y)) := (Bd_5.keep hSw).cell 1; go_simp; try with_reducible rfl)
  try simp only [Act.put, List.setIfInBounds_toArray, List.set_cons_zero, List.set_cons_succ]
  refine Dmn.dm_take (v := ?_) (by simp) (by rfl) ?_ ?_
  rotate_left
  · (intro w hSw; have ew := HEcy.out; go_simp; try with_reducible rfl)
  try simp only [Act.put, List.setIfInBounds_toArray, List.set_cons_zero, List.set_cons_succ]
  refine Dmn.dm_take (v := ?_) (by simp) (by rfl) ?_ ?_
  rotate_left
  · (intro w hSw; go_simp; try with_reducible rfl)
  try simp only [Act.put, List.setIfInBounds_toArray, List.set_cons_zero, List.set_cons_succ]
  refine Dmn.dm_alloc (⟨33, 36, 12, #[.int .i64 px, .int .i64 py]⟩ : Dmn.Pr) (by simp) rfl ?_
  try simp only [Act.put, List.setIfInBounds_toArray, List.set_cons_zero, List.set_cons_succ]
  refine Dmn.dm_alloc (⟨34, 37, 13, #[.int .i64 qx, .int .i64 qy]⟩ : Dmn.Pr) (by simp) rfl ?_
  try simp only [Act.put, List.setIfInBounds_toArray, List.set_cons_zero, List.set_cons_succ]
  refine Dmn.dm_alloc (⟨35, 38, 14, #[.int .i64 rx, .int .i64 ry]⟩ : Dmn.Pr) (by simp) rfl ?_
  try simp only [Act.put, List.setIfInBounds_toArray, List.set_cons_zero, List.set_cons_succ]
  refine Dmn.dm_store (⟨33, 36, 12, #[.int .i64 px, .int .i64 py]⟩ : Dmn.Pr) (by simp) rfl _ rfl rfl ?_
  try simp only [Act.put, List.setIfInBounds_toArray, List.set_cons_zero, List.set_cons_succ]
  refine Dmn.dm_store (⟨34, 37, 13, #[.int .i64 qx, .int .i64 qy]⟩ : Dmn.Pr) (by simp) rfl _ rfl rfl ?_
  try simp only [Act.put, List.setIfInBounds_toArray, List.set_cons_zero, List.set_cons_succ]
  refine Dmn.dm_store (⟨35, 38, 14, #[.int .i64 rx, .int .i64 ry]⟩ : Dmn.Pr) (by simp) rfl _ rfl rfl ?_
  try simp only [Act.put, List.setIfInBounds_toArray, List.set_cons_zero, List.set_cons_succ]
  refine Dmn.dm_nil3 ?_
  intro W6 bp bq br Bp_6 Bq_6 Br_6 lp_6 lq_6 lr_6 k6
  have gp : w.heap.size ≤ bp := Nat.le_trans Hw5.size lp_6
  have nap : ba ≠ bp := Nat.ne_of_lt (Nat.lt_of_lt_of_le Ba_5.lt lp_6)
  have nbp : bb ≠ bp := Nat.ne_of_lt (Nat.lt_of_lt_of_le Bb_5.lt lp_6)
  have ncp : bc ≠ bp := Nat.ne_of_lt (Nat.lt_of_lt_of_le Bc_5.lt lp_6)
  have ndp : bd ≠ bp := Nat.ne_of_lt (Nat.lt_of_lt_of_le Bd_5.lt lp_6)
  have gq : w.heap.size ≤ bq := Nat.le_trans Hw5.size lq_6
  have naq : ba ≠ bq := Nat.ne_of_lt (Nat.lt_of_lt_of_le Ba_5.lt lq_6)
  have nbq : bb ≠ bq := Nat.ne_of_lt (Nat.lt_of_lt_of_le Bb_5.lt lq_6)
  have ncq : bc ≠ bq := Nat.ne_of_lt (Nat.lt_of_lt_of_le Bc_5.lt lq_6)
  have ndq : bd ≠ bq := Nat.ne_of_lt (Nat.lt_of_lt_of_le Bd_5.lt lq_6)
  have gr : w.heap.size ≤ br := Nat.le_trans Hw5.size lr_6
  have nar : ba ≠ br := Nat.ne_of_lt (Nat.lt_of_lt_of_le Ba_5.lt lr_6)
  have nbr : bb ≠ br := Nat.ne_of_lt (Nat.lt_of_lt_of_le Bb_5.lt lr_6)
  have ncr : bc ≠ br := Nat.ne_of_lt (Nat.lt_of_lt_of_le Bc_5.lt lr_6)
  have ndr : bd ≠ br := Nat.ne_of_lt (Nat.lt_of_lt_of_le Bd_5.lt lr_6)
  have Ba_6 := Ba_5.keep k6
  have Bb_6 := Bb_5.keep k6
  have Bc_6 := Bc_5.keep k6
  have Bd_6 := Bd_5.keep k6
  have Hw6 := bq_trans Hw5 k6
  clear k6 lp_6 lq_6 lr_6 Ba_5 Bb_5 Bc_5 Bd_5 Hw5
  try simp only [Act.put, List.setIfInBounds_toArray, List.set_cons_zero, List.set_cons_succ]
  go_wp2_with (first
    | (refine wl_load 23 2 _ Try.underlying23 rfl szPt _ rfl rfl _ rfl _ _ Ba_6 rfl ?_)
    | (refine wl_load 23 2 _ Try.underlying23 rfl szPt _ rfl rfl _ rfl _ _ Bb_6 rfl ?_)
    | (refine wl_load 23 2 _ Try.underlying23 rfl szPt _ rfl rfl _ rfl _ _ Bc_6 rfl ?_)
    | (go_at_call 11; (with_reducible refine (H1.out _).mono ?_); rintro e W7 ⟨rfl, k7⟩; have Ba_7 := Ba_6.keep k7; have Bb_7 := Bb_6.keep k7; have Bc_7 := Bc_6.keep k7; have Bd_7 := Bd_6.keep k7; have Bp_7 := Bp_6.keep k7; have Bq_7 := Bq_6.keep k7; have Br_7 := Br_6.keep k7; have Hw7 := bq_trans Hw6 k7; clear k7 Ba_6 Bb_6 Bc_6 Bd_6 Bp_6 Bq_6 Br_6 Hw6)
    | (go_at_call 14; (with_reducible refine (HA.out _).mono ?_); rintro e W8 ⟨rfl, k8⟩; have Ba_8 := Ba_7.keep k8; have Bb_8 := Bb_7.keep k8; have Bc_8 := Bc_7.keep k8; have Bd_8 := Bd_7.keep k8; have Bp_8 := Bp_7.keep k8; have Bq_8 := Bq_7.keep k8; have Br_8 := Br_7.keep k8; have Hw8 := bq_trans Hw7 k8; clear k8 Ba_7 Bb_7 Bc_7 Bd_7 Bp_7 Bq_7 Br_7 Hw7))
  go_ret
  exact ⟨rfl, Hw8⟩
set_option maxHeartbeats 4000000 in
theorem shifts16_1 (ax ay bx by1 cx cy x y px py qx qy rx ry : Int) (w : World) (hx0 : -32768 ≤ x) (hx1 : x ≤ 32767) (hy0 : -32768 ≤ y) (hy1 : y ≤ 32767) (hwax : IntKind.i64.wrap (ax + 2 * x) = px) (hway : IntKind.i64.wrap (ay + 2 * y) = py) (hwbx : IntKind.i64.wrap (bx + 2 * x) = qx) (hwby1 : IntKind.i64.wrap (by1 + 2 * y) = qy) (hwcx : IntKind.i64.wrap (cx + 2 * x) = rx) (hwcy : IntKind.i64.wrap (cy + 2 * y) = ry) (HA : Hid (∀ W, Calls Try.prog 14 #[] W fun e w' => e = .returned (.bool true) ∧ Below W.heap.size W w')) (H1 : Hid (∀ W, Calls Try.prog 11 #[.agg #[.int .i64 ax, .int .i64 ay], .agg #[.int .i64 bx, .int .i64 by1], .agg #[.int .i64 cx, .int .i64 cy]] W fun e w' => e = .returned (.bool true) ∧ Below W.heap.size W w')) (H2 : Hid (∀ W, Calls Try.prog 11 #[.agg #[.int .i64 px, .int .i64 py], .agg #[.int .i64 qx, .int .i64 qy], .agg #[.int .i64 rx, .int .i64 ry]] W fun e w' => e = .returned (.bool false) ∧ Below W.heap.size W w')) :
    Calls Try.prog 7 #[.agg #[.int .i64 ax, .int .i64 ay], .agg #[.int .i64 bx, .int .i64 by1], .agg #[.int .i64 cx, .int .i64 cy], .int .i16 x, .int .i16 y] w fun e w' => e = .returned (.bool true) ∧ Below w.heap.size w w' := by
  have HEax := Lib.hid hwax
  have HEay := Lib.hid hway
  have HEbx := Lib.hid hwbx
  have HEby1 := Lib.hid hwby1
  have HEcx := Lib.hid hwcx
  have HEcy := Lib.hid hwcy
  clear hwax hway hwbx hwby1 hwcx hwcy
  go_enter Try.func7, Try.ntmps7
  go_upto_region 1 with (go_big_may; first
    | (refine wl_box 23 _ _ rfl rfl (show _ = Value.agg #[.int .i64 ax, .int .i64 ay] from rfl) ?_; intro W1 ba Ba_1 l1 k1; have ga : w.heap.size ≤ ba := l1; have Hw1 := k1; clear l1 k1)
    | (refine wl_box 23 _ _ rfl rfl (show _ = Value.agg #[.int .i64 bx, .int .i64 by1] from rfl) ?_; intro W2 bb Bb_2 l2 k2; have gb : w.heap.size ≤ bb := Nat.le_trans Hw1.size l2; have nab : ba ≠ bb := Nat.ne_of_lt (Nat.lt_of_lt_of_le Ba_1.lt l2); have Ba_2 := Ba_1.keep k2; have Hw2 := bq_trans Hw1 k2; clear l2 k2 Ba_1 Hw1)
    | (refine wl_box 23 _ _ rfl rfl (show _ = Value.agg #[.int .i64 cx, .int .i64 cy] from rfl) ?_; intro W3 bc Bc_3 l3 k3; have gc : w.heap.size ≤ bc := Nat.le_trans Hw2.size l3; have nac : ba ≠ bc := Nat.ne_of_lt (Nat.lt_of_lt_of_le Ba_2.lt l3); have nbc : bb ≠ bc := Nat.ne_of_lt (Nat.lt_of_lt_of_le Bb_2.lt l3); have Ba_3 := Ba_2.keep k3; have Bb_3 := Bb_2.keep k3; have Hw3 := bq_trans Hw2 k3; clear l3 k3 Ba_2 Bb_2 Hw2))
  go_upto_region 2 with (go_big_may; first
    | (refine wl_alloc 23 _ zePt rfl rfl ?_; intro W4 bd Bd_4 l4 k4; have gd : w.heap.size ≤ bd := Nat.le_trans Hw3.size l4; have nad : ba ≠ bd := Nat.ne_of_lt (Nat.lt_of_lt_of_le Ba_3.lt l4); have nbd : bb ≠ bd := Nat.ne_of_lt (Nat.lt_of_lt_of_le Bb_3.lt l4); have ncd : bc ≠ bd := Nat.ne_of_lt (Nat.lt_of_lt_of_le Bc_3.lt l4); have Ba_4 := Ba_3.keep k4; have Bb_4 := Bb_3.keep k4; have Bc_4 := Bc_3.keep k4; have Hw4 := bq_trans Hw3 k4; clear l4 k4 Ba_3 Bb_3 Bc_3 Hw3)
    | (refine wl_store 23 2 szPt _ _ rfl rfl _ rfl #[.int .i64 (2 * x), .int .i64 (2 * y)] rfl _ _ Bd_4 rfl rfl (by kernel_rfl) ?_; intro W5 Bd_5 T5; have Ba_5 := T5.blk Ba_4 nad; have Bb_5 := T5.blk Bb_4 nbd; have Bc_5 := T5.blk Bc_4 ncd; have Hw5 := T5.below Hw4 gd; clear T5 Ba_4 Bb_4 Bc_4 Bd_4 Hw4))
  refine Dmn.wp_region_mnew [(⟨33, 36, 12, #[.int .i64 px, .int .i64 py]⟩ : Dmn.Pr), (⟨34, 37, 13, #[.int .i64 qx, .int .i64 qy]⟩ : Dmn.Pr), (⟨35, 38, 14, #[.int .i64 rx, .int .i64 ry]⟩ : Dmn.Pr)] 23 2 _ (by kernel_rfl) (by kernel_rfl) zePt szPt rfl (by intro x hx; simp only [List.mem_cons, List.not_mem_nil, or_false] at hx; rcases hx with rfl | rfl | rfl <;> exact Dmn.new_of rfl rfl rfl rfl rfl rfl (by intro h; cases h) rfl rfl (by kernel_rfl) (by kernel_rfl) rfl (by kernel_rfl)) (by simp) (by intro x hx; simp only [List.mem_cons, List.not_mem_nil, or_false] at hx; rcases hx with rfl | rfl | rfl <;> exact of_decide_eq_true rfl) ?_
  refine Dmn.dm_take (v := ?_) (by simp) (by rfl) ?_ ?_
  rotate_left
  · (intro w hSw; go_simp; try with_reducible rfl)
  try simp only [Act.put, List.setIfInBounds_toArray, List.set_cons_zero, List.set_cons_succ]
  refine Dmn.dm_take (v := ?_) (by simp) (by rfl) ?_ ?_
  rotate_left
  · (intro w hSw; have cc : w.cell? ⟨ba, 0, none⟩ = some (.int .i64 ax) := (Ba_5.keep hSw).cell 0; go_simp; try with_reducible rfl)
  try simp only [Act.put, List.setIfInBounds_toArray, List.set_cons_zero, List.set_cons_succ]
  refine Dmn.dm_take (v := ?_) (by simp) (by rfl) ?_ ?_
  rotate_left
  · (intro w hSw; go_simp; try with_reducible rfl)
  try simp only [Act.put, List.setIfInBounds_toArray, List.set_cons_zero, List.set_cons_succ]
  refine Dmn.dm_take (v := ?_) (by simp) (by rfl) ?_ ?_
  rotate_left
  · (intro w hSw; have cc : w.cell? ⟨bd, 0, none⟩ = some (.int .i64 (2 * x)) := (Bd_5.keep hSw).cell 0; go_simp; try with_reducible rfl)
  try simp only [Act.put, List.setIfInBounds_toArray, List.set_cons_zero, List.set_cons_succ]
  refine Dmn.dm_take (v := ?_) (by simp) (by rfl) ?_ ?_
  rotate_left
  · (intro w hSw; have ew := HEax.out; go_simp; try with_reducible rfl)
  try simp only [Act.put, List.setIfInBounds_toArray, List.set_cons_zero, List.set_cons_succ]
  refine Dmn.dm_take (v := ?_) (by simp) (by rfl) ?_ ?_
  rotate_left
  · (intro w hSw; go_simp; try with_reducible rfl)
  try simp only [Act.put, List.setIfInBounds_toArray, List.set_cons_zero, List.set_cons_succ]
  refine Dmn.dm_take (v := ?_) (by simp) (by rfl) ?_ ?_
  rotate_left
  · (intro w hSw; have cc : w.cell? ⟨ba, 1, none⟩ = some (.int .i64 ay) := (Ba_5.keep hSw).cell 1; go_simp; try with_reducible rfl)
  try simp only [Act.put, List.setIfInBounds_toArray, List.set_cons_zero, List.set_cons_succ]
  refine Dmn.dm_take (v := ?_) (by simp) (by rfl) ?_ ?_
  rotate_left
  · (intro w hSw; go_simp; try with_reducible rfl)
  try simp only [Act.put, List.setIfInBounds_toArray, List.set_cons_zero, List.set_cons_succ]
  refine Dmn.dm_take (v := ?_) (by simp) (by rfl) ?_ ?_
  rotate_left
  · (intro w hSw; have cc : w.cell? ⟨bd, 1, none⟩ = some (.int .i64 (2 * y)) := (Bd_5.keep hSw).cell 1; go_simp; try with_reducible rfl)
  try simp only [Act.put, List.setIfInBounds_toArray, List.set_cons_zero, List.set_cons_succ]
  refine Dmn.dm_take (v := ?_) (by simp) (by rfl) ?_ ?_
  rotate_left
  · (intro w hSw; have ew := HEay.out; go_simp; try with_reducible rfl)
  try simp only [Act.put, List.setIfInBounds_toArray, List.set_cons_zero, List.set_cons_succ]
  refine Dmn.dm_take (v := ?_) (by simp) (by rfl) ?_ ?_
  rotate_left
  · (intro w hSw; go_simp; try with_reducible rfl)
  try simp only [Act.put, List.setIfInBounds_toArray, List.set_cons_zero, List.set_cons_succ]
  refine Dmn.dm_take (v := ?_) (by simp) (by rfl) ?_ ?_
  rotate_left
  · (intro w hSw; go_simp; try with_reducible rfl)
  try simp only [Act.put, List.setIfInBounds_toArray, List.set_cons_zero, List.set_cons_succ]
  refine Dmn.dm_take (v := ?_) (by simp) (by rfl) ?_ ?_
  rotate_left
  · (intro w hSw; have cc : w.cell? ⟨bb, 0, none⟩ = some (.int .i64 bx) := (Bb_5.keep hSw).cell 0; go_simp; try with_reducible rfl)
  try simp only [Act.put, List.setIfInBounds_toArray, List.set_cons_zero, List.set_cons_succ]
  refine Dmn.dm_take (v := ?_) (by simp) (by rfl) ?_ ?_
  rotate_left
  · (intro w hSw; go_simp; try with_reducible rfl)
  try simp only [Act.put, List.setIfInBounds_toArray, List.set_cons_zero, List.set_cons_succ]
  refine Dmn.dm_take (v := ?_) (by simp) (by rfl) ?_ ?_
  rotate_left
  · (intro w hSw; have cc : w.cell? ⟨bd, 0, none⟩ = some (.int .i64 (2 * x)) := (Bd_5.keep hSw).cell 0; go_simp; try with_reducible rfl)
  try simp only [Act.put, List.setIfInBounds_toArray, List.set_cons_zero, List.set_cons_succ]
  refine Dmn.dm_take (v := ?_) (by simp) (by rfl) ?_ ?_
  rotate_left
  · (intro w hSw; have ew := HEbx.out; go_simp; try with_reducible rfl)
  try simp only [Act.put, List.setIfInBounds_toArray, List.set_cons_zero, List.set_cons_succ]
  refine Dmn.dm_take (v := ?_) (by simp) (by rfl) ?_ ?_
  rotate_left
  · (intro w hSw; go_simp; try with_reducible rfl)
  try simp only [Act.put, List.setIfInBounds_toArray, List.set_cons_zero, List.set_cons_succ]
  refine Dmn.dm_take (v := ?_) (by simp) (by rfl) ?_ ?_
  rotate_left
  · (intro w hSw; have cc : w.cell? ⟨bb, 1, none⟩ = some (.int .i64 by1) := (Bb_5.keep hSw).cell 1; go_simp; try with_reducible rfl)
  try simp only [Act.put, List.setIfInBounds_toArray, List.set_cons_zero, List.set_cons_succ]
  refine Dmn.dm_take (v := ?_) (by simp) (by rfl) ?_ ?_
  rotate_left
  · (intro w hSw; go_simp; try with_reducible rfl)
  try simp only [Act.put, List.setIfInBounds_toArray, List.set_cons_zero, List.set_cons_succ]
  refine Dmn.dm_take (v := ?_) (by simp) (by rfl) ?_ ?_
  rotate_left
  · (intro w hSw; have cc : w.cell? ⟨bd, 1, none⟩ = some (.int .i64 (2 * y)) := (Bd_5.keep hSw).cell 1; go_simp; try with_reducible rfl)
  try simp only [Act.put, List.setIfInBounds_toArray, List.set_cons_zero, List.set_cons_succ]
  refine Dmn.dm_take (v := ?_) (by simp) (by rfl) ?_ ?_
  rotate_left
  · (intro w hSw; have ew := HEby1.out; go_simp; try with_reducible rfl)
  try simp only [Act.put, List.setIfInBounds_toArray, List.set_cons_zero, List.set_cons_succ]
  refine Dmn.dm_take (v := ?_) (by simp) (by rfl) ?_ ?_
  rotate_left
  · (intro w hSw; go_simp; try with_reducible rfl)
  try simp only [Act.put, List.setIfInBounds_toArray, List.set_cons_zero, List.set_cons_succ]
  refine Dmn.dm_take (v := ?_) (by simp) (by rfl) ?_ ?_
  rotate_left
  · (intro w hSw; go_simp; try with_reducible rfl)
  try simp only [Act.put, List.setIfInBounds_toArray, List.set_cons_zero, List.set_cons_succ]
  refine Dmn.dm_take (v := ?_) (by simp) (by rfl) ?_ ?_
  rotate_left
  · (intro w hSw; have cc : w.cell? ⟨bc, 0, none⟩ = some (.int .i64 cx) := (Bc_5.keep hSw).cell 0; go_simp; try with_reducible rfl)
  try simp only [Act.put, List.setIfInBounds_toArray, List.set_cons_zero, List.set_cons_succ]
  refine Dmn.dm_take (v := ?_) (by simp) (by rfl) ?_ ?_
  rotate_left
  · (intro w hSw; go_simp; try with_reducible rfl)
  try simp only [Act.put, List.setIfInBounds_toArray, List.set_cons_zero, List.set_cons_succ]
  refine Dmn.dm_take (v := ?_) (by simp) (by rfl) ?_ ?_
  rotate_left
  · (intro w hSw; have cc : w.cell? ⟨bd, 0, none⟩ = some (.int .i64 (2 * x)) := (Bd_5.keep hSw).cell 0; go_simp; try with_reducible rfl)
  try simp only [Act.put, List.setIfInBounds_toArray, List.set_cons_zero, List.set_cons_succ]
  refine Dmn.dm_take (v := ?_) (by simp) (by rfl) ?_ ?_
  rotate_left
  · (intro w hSw; have ew := HEcx.out; go_simp; try with_reducible rfl)
  try simp only [Act.put, List.setIfInBounds_toArray, List.set_cons_zero, List.set_cons_succ]
  refine Dmn.dm_take (v := ?_) (by simp) (by rfl) ?_ ?_
  rotate_left
  · (intro w hSw; go_simp; try with_reducible rfl)
  try simp only [Act.put, List.setIfInBounds_toArray, List.set_cons_zero, List.set_cons_succ]
  refine Dmn.dm_take (v := ?_) (by simp) (by rfl) ?_ ?_
  rotate_left
  · (intro w hSw; have cc : w.cell? ⟨bc, 1, none⟩ = some (.int .i64 cy) := (Bc_5.keep hSw).cell 1; go_simp; try with_reducible rfl)
  try simp only [Act.put, List.setIfInBounds_toArray, List.set_cons_zero, List.set_cons_succ]
  refine Dmn.dm_take (v := ?_) (by simp) (by rfl) ?_ ?_
  rotate_left
  · (intro w hSw; go_simp; try with_reducible rfl)
  try simp only [Act.put, List.setIfInBounds_toArray, List.set_cons_zero, List.set_cons_succ]
  refine Dmn.dm_take (v := ?_) (by simp) (by rfl) ?_ ?_
  rotate_left
  · (intro w hSw; have cc : w.cell? ⟨bd, 1, none⟩ = some (.int .i64 (2 * y)) := (Bd_5.keep hSw).cell 1; go_simp; try with_reducible rfl)
  try simp only [Act.put, List.setIfInBounds_toArray, List.set_cons_zero, List.set_cons_succ]
  refine Dmn.dm_take (v := ?_) (by simp) (by rfl) ?_ ?_
  rotate_left
  · (intro w hSw; have ew := HEcy.out; go_simp; try with_reducible rfl)
  try simp only [Act.put, List.setIfInBounds_toArray, List.set_cons_zero, List.set_cons_succ]
  refine Dmn.dm_take (v := ?_) (by simp) (by rfl) ?_ ?_
  rotate_left
  · (intro w hSw; go_simp; try with_reducible rfl)
  try simp only [Act.put, List.setIfInBounds_toArray, List.set_cons_zero, List.set_cons_succ]
  refine Dmn.dm_alloc (⟨33, 36, 12, #[.int .i64 px, .int .i64 py]⟩ : Dmn.Pr) (by simp) rfl ?_
  try simp only [Act.put, List.setIfInBounds_toArray, List.set_cons_zero, List.set_cons_succ]
  refine Dmn.dm_alloc (⟨34, 37, 13, #[.int .i64 qx, .int .i64 qy]⟩ : Dmn.Pr) (by simp) rfl ?_
  try simp only [Act.put, List.setIfInBounds_toArray, List.set_cons_zero, List.set_cons_succ]
  refine Dmn.dm_alloc (⟨35, 38, 14, #[.int .i64 rx, .int .i64 ry]⟩ : Dmn.Pr) (by simp) rfl ?_
  try simp only [Act.put, List.setIfInBounds_toArray, List.set_cons_zero, List.set_cons_succ]
  refine Dmn.dm_store (⟨33, 36, 12, #[.int .i64 px, .int .i64 py]⟩ : Dmn.Pr) (by simp) rfl _ rfl rfl ?_
  try simp only [Act.put, List.setIfInBounds_toArray, List.set_cons_zero, List.set_cons_succ]
  refine Dmn.dm_store (⟨34, 37, 13, #[.int .i64 qx, .int .i64 qy]⟩ : Dmn.Pr) (by simp) rfl _ rfl rfl ?_
  try simp only [Act.put, List.setIfInBounds_toArray, List.set_cons_zero, List.set_cons_succ]
  refine Dmn.dm_store (⟨35, 38, 14, #[.int .i64 rx, .int .i64 ry]⟩ : Dmn.Pr) (by simp) rfl _ rfl rfl ?_
  try simp only [Act.put, List.setIfInBounds_toArray, List.set_cons_zero, List.set_cons_succ]
  refine Dmn.dm_nil3 ?_
  intro W6 bp bq br Bp_6 Bq_6 Br_6 lp_6 lq_6 lr_6 k6
  have gp : w.heap.size ≤ bp := Nat.le_trans Hw5.size lp_6
  have nap : ba ≠ bp := Nat.ne_of_lt (Nat.lt_of_lt_of_le Ba_5.lt lp_6)
  have nbp : bb ≠ bp := Nat.ne_of_lt (Nat.lt_of_lt_of_le Bb_5.lt lp_6)
  have ncp : bc ≠ bp := Nat.ne_of_lt (Nat.lt_of_lt_of_le Bc_5.lt lp_6)
  have ndp : bd ≠ bp := Nat.ne_of_lt (Nat.lt_of_lt_of_le Bd_5.lt lp_6)
  have gq : w.heap.size ≤ bq := Nat.le_trans Hw5.size lq_6
  have naq : ba ≠ bq := Nat.ne_of_lt (Nat.lt_of_lt_of_le Ba_5.lt lq_6)
  have nbq : bb ≠ bq := Nat.ne_of_lt (Nat.lt_of_lt_of_le Bb_5.lt lq_6)
  have ncq : bc ≠ bq := Nat.ne_of_lt (Nat.lt_of_lt_of_le Bc_5.lt lq_6)
  have ndq : bd ≠ bq := Nat.ne_of_lt (Nat.lt_of_lt_of_le Bd_5.lt lq_6)
  have gr : w.heap.size ≤ br := Nat.le_trans Hw5.size lr_6
  have nar : ba ≠ br := Nat.ne_of_lt (Nat.lt_of_lt_of_le Ba_5.lt lr_6)
  have nbr : bb ≠ br := Nat.ne_of_lt (Nat.lt_of_lt_of_le Bb_5.lt lr_6)
  have ncr : bc ≠ br := Nat.ne_of_lt (Nat.lt_of_lt_of_le Bc_5.lt lr_6)
  have ndr : bd ≠ br := Nat.ne_of_lt (Nat.lt_of_lt_of_le Bd_5.lt lr_6)
  have Ba_6 := Ba_5.keep k6
  have Bb_6 := Bb_5.keep k6
  have Bc_6 := Bc_5.keep k6
  have Bd_6 := Bd_5.keep k6
  have Hw6 := bq_trans Hw5 k6
  clear k6 lp_6 lq_6 lr_6 Ba_5 Bb_5 Bc_5 Bd_5 Hw5
  try simp only [Act.put, List.setIfInBounds_toArray, List.set_cons_zero, List.set_cons_succ]
  go_wp2_with (first
    | (refine wl_load 23 2 _ Try.underlying23 rfl szPt _ rfl rfl _ rfl _ _ Ba_6 rfl ?_)
    | (refine wl_load 23 2 _ Try.underlying23 rfl szPt _ rfl rfl _ rfl _ _ Bb_6 rfl ?_)
    | (refine wl_load 23 2 _ Try.underlying23 rfl szPt _ rfl rfl _ rfl _ _ Bc_6 rfl ?_)
    | (go_at_call 11; (with_reducible refine (H1.out _).mono ?_); rintro e W7 ⟨rfl, k7⟩; have Ba_7 := Ba_6.keep k7; have Bb_7 := Bb_6.keep k7; have Bc_7 := Bc_6.keep k7; have Bd_7 := Bd_6.keep k7; have Bp_7 := Bp_6.keep k7; have Bq_7 := Bq_6.keep k7; have Br_7 := Br_6.keep k7; have Hw7 := bq_trans Hw6 k7; clear k7 Ba_6 Bb_6 Bc_6 Bd_6 Bp_6 Bq_6 Br_6 Hw6)
    | (refine wlg_load 23 2 _ Try.underlying23 rfl szPt _ rfl rfl _ rfl _ _ Bp_7 rfl ?_)
    | (refine wlg_load 23 2 _ Try.underlying23 rfl szPt _ rfl rfl _ rfl _ _ Bq_7 rfl ?_)
    | (refine wlg_load 23 2 _ Try.underlying23 rfl szPt _ rfl rfl _ rfl _ _ Br_7 rfl ?_)
    | (go_at_call 11; (with_reducible refine (H2.out _).mono ?_); rintro e W8 ⟨rfl, k8⟩; have Ba_8 := Ba_7.keep k8; have Bb_8 := Bb_7.keep k8; have Bc_8 := Bc_7.keep k8; have Bd_8 := Bd_7.keep k8; have Bp_8 := Bp_7.keep k8; have Bq_8 := Bq_7.keep k8; have Br_8 := Br_7.keep k8; have Hw8 := bq_trans Hw7 k8; clear k8 Ba_7 Bb_7 Bc_7 Bd_7 Bp_7 Bq_7 Br_7 Hw7)
    | (go_at_call 14; (with_reducible refine (HA.out _).mono ?_); rintro e W9 ⟨rfl, k9⟩; have Ba_9 := Ba_8.keep k9; have Bb_9 := Bb_8.keep k9; have Bc_9 := Bc_8.keep k9; have Bd_9 := Bd_8.keep k9; have Bp_9 := Bp_8.keep k9; have Bq_9 := Bq_8.keep k9; have Br_9 := Br_8.keep k9; have Hw9 := bq_trans Hw8 k9; clear k9 Ba_8 Bb_8 Bc_8 Bd_8 Bp_8 Bq_8 Br_8 Hw8))
  go_ret
  exact ⟨rfl, Hw9⟩
theorem rows_last (n : Nat) (L : List (Int × Int)) : ∀ (q : Value) (w w' : World), (∃ b o c, q = .slice (some ⟨b, o, none⟩) n c ∧ Pts w b o L) → Below w.heap.size w w' → (∃ b o c, q = .slice (some ⟨b, o, none⟩) n c ∧ Pts w' b o L) := fun q w w' ⟨b, o, c, h1, h2⟩ hb => ⟨b, o, c, h1, h2.keep hb⟩
set_option maxHeartbeats 8000000 in
theorem shifts16_2 (ax ay bx by1 cx cy x y px py qx qy rx ry d : Int) (n : Nat) (L M : List (Int × Int)) (w : World) (hx0 : -32768 ≤ x) (hx1 : x ≤ 32767) (hy0 : -32768 ≤ y) (hy1 : y ≤ 32767) (hwax : IntKind.i64.wrap (ax + 2 * x) = px) (hway : IntKind.i64.wrap (ay + 2 * y) = py) (hwbx : IntKind.i64.wrap (bx + 2 * x) = qx) (hwby1 : IntKind.i64.wrap (by1 + 2 * y) = qy) (hwcx : IntKind.i64.wrap (cx + 2 * x) = rx) (hwcy : IntKind.i64.wrap (cy + 2 * y) = ry) (hn : n ≤ 32) (hn1 : 1 ≤ n) (HA : Hid (∀ W, Calls Try.prog 14 #[] W fun e w' => e = .returned (.bool true) ∧ Below W.heap.size W w')) (H1 : Hid (∀ W, Calls Try.prog 11 #[.agg #[.int .i64 ax, .int .i64 ay], .agg #[.int .i64 bx, .int .i64 by1], .agg #[.int .i64 cx, .int .i64 cy]] W fun e w' => e = .returned (.bool true) ∧ Below W.heap.size W w')) (H2 : Hid (∀ W, Calls Try.prog 11 #[.agg #[.int .i64 px, .int .i64 py], .agg #[.int .i64 qx, .int .i64 qy], .agg #[.int .i64 rx, .int .i64 ry]] W fun e w' => e = .returned (.bool true) ∧ Below W.heap.size W w'))
    (H3 : Hid (∀ W, Calls Try.prog 8 #[.agg #[.int .i64 ax, .int .i64 ay], .agg #[.int .i64 bx, .int .i64 by1], .agg #[.int .i64 cx, .int .i64 cy]] W fun e w' => (∃ b o c, e = .returned (.slice (some ⟨b, o, none⟩) n c) ∧ Pts w' b o (L)) ∧ Below W.heap.size W w')) (H4 : Hid (∀ W, Calls Try.prog 8 #[.agg #[.int .i64 px, .int .i64 py], .agg #[.int .i64 qx, .int .i64 qy], .agg #[.int .i64 rx, .int .i64 ry]] W fun e w' => (∃ b o c, e = .returned (.slice (some ⟨b, o, none⟩) n c) ∧ Pts w' b o (M)) ∧ Below W.heap.size W w')) (H5 : Hid (∀ W, Calls Try.prog 12 #[.agg #[.int .i64 ax, .int .i64 ay], .agg #[.int .i64 bx, .int .i64 by1], .agg #[.int .i64 cx, .int .i64 cy]] W fun e w' => e = .returned (.int .i64 d) ∧ Below W.heap.size W w')) (H6 : Hid (∀ W, Calls Try.prog 12 #[.agg #[.int .i64 px, .int .i64 py], .agg #[.int .i64 qx, .int .i64 qy], .agg #[.int .i64 rx, .int .i64 ry]] W fun e w' => e = .returned (.int .i64 d) ∧ Below W.heap.size W w'))
    (HK : Hid (∀ k, k < n → ∃ u v, L[k]? = some (u, v) ∧ M[k]? = some (u + 2 * x, v + 2 * y) ∧ Hid (IntKind.i64.wrap (u + 2 * x) = u + 2 * x ∧ IntKind.i64.wrap (v + 2 * y) = v + 2 * y))) :
    Calls Try.prog 7 #[.agg #[.int .i64 ax, .int .i64 ay], .agg #[.int .i64 bx, .int .i64 by1], .agg #[.int .i64 cx, .int .i64 cy], .int .i16 x, .int .i16 y] w fun e w' => e = .returned (.bool true) ∧ Below w.heap.size w w' := by
  have hn2 : (n : Int) ≤ 32 := by omega
  have hn3 : 1 ≤ (n : Int) := by omega
  clear hn hn1
  have HEax := Lib.hid hwax
  have HEay := Lib.hid hway
  have HEbx := Lib.hid hwbx
  have HEby1 := Lib.hid hwby1
  have HEcx := Lib.hid hwcx
  have HEcy := Lib.hid hwcy
  clear hwax hway hwbx hwby1 hwcx hwcy
  go_enter Try.func7, Try.ntmps7
  go_upto_region 1 with (go_big_may; first
    | (refine wl_box 23 _ _ rfl rfl (show _ = Value.agg #[.int .i64 ax, .int .i64 ay] from rfl) ?_; intro W1 ba Ba_1 l1 k1; have ga : w.heap.size ≤ ba := l1; have Hw1 := k1; clear l1 k1)
    | (refine wl_box 23 _ _ rfl rfl (show _ = Value.agg #[.int .i64 bx, .int .i64 by1] from rfl) ?_; intro W2 bb Bb_2 l2 k2; have gb : w.heap.size ≤ bb := Nat.le_trans Hw1.size l2; have nab : ba ≠ bb := Nat.ne_of_lt (Nat.lt_of_lt_of_le Ba_1.lt l2); have Ba_2 := Ba_1.keep k2; have Hw2 := bq_trans Hw1 k2; clear l2 k2 Ba_1 Hw1)
    | (refine wl_box 23 _ _ rfl rfl (show _ = Value.agg #[.int .i64 cx, .int .i64 cy] from rfl) ?_; intro W3 bc Bc_3 l3 k3; have gc : w.heap.size ≤ bc := Nat.le_trans Hw2.size l3; have nac : ba ≠ bc := Nat.ne_of_lt (Nat.lt_of_lt_of_le Ba_2.lt l3); have nbc : bb ≠ bc := Nat.ne_of_lt (Nat.lt_of_lt_of_le Bb_2.lt l3); have Ba_3 := Ba_2.keep k3; have Bb_3 := Bb_2.keep k3; have Hw3 := bq_trans Hw2 k3; clear l3 k3 Ba_2 Bb_2 Hw2))
  go_upto_region 2 with (go_big_may; first
    | (refine wl_alloc 23 _ zePt rfl rfl ?_; intro W4 bd Bd_4 l4 k4; have gd : w.heap.size ≤ bd := Nat.le_trans Hw3.size l4; have nad : ba ≠ bd := Nat.ne_of_lt (Nat.lt_of_lt_of_le Ba_3.lt l4); have nbd : bb ≠ bd := Nat.ne_of_lt (Nat.lt_of_lt_of_le Bb_3.lt l4); have ncd : bc ≠ bd := Nat.ne_of_lt (Nat.lt_of_lt_of_le Bc_3.lt l4); have Ba_4 := Ba_3.keep k4; have Bb_4 := Bb_3.keep k4; have Bc_4 := Bc_3.keep k4; have Hw4 := bq_trans Hw3 k4; clear l4 k4 Ba_3 Bb_3 Bc_3 Hw3)
    | (refine wl_store 23 2 szPt _ _ rfl rfl _ rfl #[.int .i64 (2 * x), .int .i64 (2 * y)] rfl _ _ Bd_4 rfl rfl (by kernel_rfl) ?_; intro W5 Bd_5 T5; have Ba_5 := T5.blk Ba_4 nad; have Bb_5 := T5.blk Bb_4 nbd; have Bc_5 := T5.blk Bc_4 ncd; have Hw5 := T5.below Hw4 gd; clear T5 Ba_4 Bb_4 Bc_4 Bd_4 Hw4))
  refine Dmn.wp_region_mnew [(⟨33, 36, 12, #[.int .i64 px, .int .i64 py]⟩ : Dmn.Pr), (⟨34, 37, 13, #[.int .i64 qx, .int .i64 qy]⟩ : Dmn.Pr), (⟨35, 38, 14, #[.int .i64 rx, .int .i64 ry]⟩ : Dmn.Pr)] 23 2 _ (by kernel_rfl) (by kernel_rfl) zePt szPt rfl (by intro x hx; simp only [List.mem_cons, List.not_mem_nil, or_false] at hx; rcases hx with rfl | rfl | rfl <;> exact Dmn.new_of rfl rfl rfl rfl rfl rfl (by intro h; cases h) rfl rfl (by kernel_rfl) (by kernel_rfl) rfl (by kernel_rfl)) (by simp) (by intro x hx; simp only [List.mem_cons, List.not_mem_nil, or_false] at hx; rcases hx with rfl | rfl | rfl <;> exact of_decide_eq_true rfl) ?_
  refine Dmn.dm_take (v := ?_) (by simp) (by rfl) ?_ ?_
  rotate_left
  · (intro w hSw; go_simp; try with_reducible rfl)
  try simp only [Act.put, List.setIfInBounds_toArray, List.set_cons_zero, List.set_cons_succ]
  refine Dmn.dm_take (v := ?_) (by simp) (by rfl) ?_ ?_
  rotate_left
  · (intro w hSw; have cc : w.cell? ⟨ba, 0, none⟩ = some (.int .i64 ax) := (Ba_5.keep hSw).cell 0; go_simp; try with_reducible rfl)
  try simp only [Act.put, List.setIfInBounds_toArray, List.set_cons_zero, List.set_cons_succ]
  refine Dmn.dm_take (v := ?_) (by simp) (by rfl) ?_ ?_
  rotate_left
  · (intro w hSw; go_simp; try with_reducible rfl)
  try simp only [Act.put, List.setIfInBounds_toArray, List.set_cons_zero, List.set_cons_succ]
  refine Dmn.dm_take (v := ?_) (by simp) (by rfl) ?_ ?_
  rotate_left
  · (intro w hSw; have cc : w.cell? ⟨bd, 0, none⟩ = some (.int .i64 (2 * x)) := (Bd_5.keep hSw).cell 0; go_simp; try with_reducible rfl)
  try simp only [Act.put, List.setIfInBounds_toArray, List.set_cons_zero, List.set_cons_succ]
  refine Dmn.dm_take (v := ?_) (by simp) (by rfl) ?_ ?_
  rotate_left
  · (intro w hSw; have ew := HEax.out; go_simp; try with_reducible rfl)
  try simp only [Act.put, List.setIfInBounds_toArray, List.set_cons_zero, List.set_cons_succ]
  refine Dmn.dm_take (v := ?_) (by simp) (by rfl) ?_ ?_
  rotate_left
  · (intro w hSw; go_simp; try with_reducible rfl)
  try simp only [Act.put, List.setIfInBounds_toArray, List.set_cons_zero, List.set_cons_succ]
  refine Dmn.dm_take (v := ?_) (by simp) (by rfl) ?_ ?_
  rotate_left
  · (intro w hSw; have cc : w.cell? ⟨ba, 1, none⟩ = some (.int .i64 ay) := (Ba_5.keep hSw).cell 1; go_simp; try with_reducible rfl)
  try simp only [Act.put, List.setIfInBounds_toArray, List.set_cons_zero, List.set_cons_succ]
  refine Dmn.dm_take (v := ?_) (by simp) (by rfl) ?_ ?_
  rotate_left
  · (intro w hSw; go_simp; try with_reducible rfl)
  try simp only [Act.put, List.setIfInBounds_toArray, List.set_cons_zero, List.set_cons_succ]
  refine Dmn.dm_take (v := ?_) (by simp) (by rfl) ?_ ?_
  rotate_left
  · (intro w hSw; have cc : w.cell? ⟨bd, 1, none⟩ = some (.int .i64 (2 * y)) := (Bd_5.keep hSw).cell 1; go_simp; try with_reducible rfl)
  try simp only [Act.put, List.setIfInBounds_toArray, List.set_cons_zero, List.set_cons_succ]
  refine Dmn.dm_take (v := ?_) (by simp) (by rfl) ?_ ?_
  rotate_left
  · (intro w hSw; have ew := HEay.out; go_simp; try with_reducible rfl)
  try simp only [Act.put, List.setIfInBounds_toArray, List.set_cons_zero, List.set_cons_succ]
  refine Dmn.dm_take (v := ?_) (by simp) (by rfl) ?_ ?_
  rotate_left
  · (intro w hSw; go_simp; try with_reducible rfl)
  try simp only [Act.put, List.setIfInBounds_toArray, List.set_cons_zero, List.set_cons_succ]
  refine Dmn.dm_take (v := ?_) (by simp) (by rfl) ?_ ?_
  rotate_left
  · (intro w hSw; go_simp; try with_reducible rfl)
  try simp only [Act.put, List.setIfInBounds_toArray, List.set_cons_zero, List.set_cons_succ]
  refine Dmn.dm_take (v := ?_) (by simp) (by rfl) ?_ ?_
  rotate_left
  · (intro w hSw; have cc : w.cell? ⟨bb, 0, none⟩ = some (.int .i64 bx) := (Bb_5.keep hSw).cell 0; go_simp; try with_reducible rfl)
  try simp only [Act.put, List.setIfInBounds_toArray, List.set_cons_zero, List.set_cons_succ]
  refine Dmn.dm_take (v := ?_) (by simp) (by rfl) ?_ ?_
  rotate_left
  · (intro w hSw; go_simp; try with_reducible rfl)
  try simp only [Act.put, List.setIfInBounds_toArray, List.set_cons_zero, List.set_cons_succ]
  refine Dmn.dm_take (v := ?_) (by simp) (by rfl) ?_ ?_
  rotate_left
  · (intro w hSw; have cc : w.cell? ⟨bd, 0, none⟩ = some (.int .i64 (2 * x)) := (Bd_5.keep hSw).cell 0; go_simp; try with_reducible rfl)
  try simp only [Act.put, List.setIfInBounds_toArray, List.set_cons_zero, List.set_cons_succ]
  refine Dmn.dm_take (v := ?_) (by simp) (by rfl) ?_ ?_
  rotate_left
  · (intro w hSw; have ew := HEbx.out; go_simp; try with_reducible rfl)
  try simp only [Act.put, List.setIfInBounds_toArray, List.set_cons_zero, List.set_cons_succ]
  refine Dmn.dm_take (v := ?_) (by simp) (by rfl) ?_ ?_
  rotate_left
  · (intro w hSw; go_simp; try with_reducible rfl)
  try simp only [Act.put, List.setIfInBounds_toArray, List.set_cons_zero, List.set_cons_succ]
  refine Dmn.dm_take (v := ?_) (by simp) (by rfl) ?_ ?_
  rotate_left
  · (intro w hSw; have cc : w.cell? ⟨bb, 1, none⟩ = some (.int .i64 by1) := (Bb_5.keep hSw).cell 1; go_simp; try with_reducible rfl)
  try simp only [Act.put, List.setIfInBounds_toArray, List.set_cons_zero, List.set_cons_succ]
  refine Dmn.dm_take (v := ?_) (by simp) (by rfl) ?_ ?_
  rotate_left
  · (intro w hSw; go_simp; try with_reducible rfl)
  try simp only [Act.put, List.setIfInBounds_toArray, List.set_cons_zero, List.set_cons_succ]
  refine Dmn.dm_take (v := ?_) (by simp) (by rfl) ?_ ?_
  rotate_left
  · (intro w hSw; have cc : w.cell? ⟨bd, 1, none⟩ = some (.int .i64 (2 * y)) := (Bd_5.keep hSw).cell 1; go_simp; try with_reducible rfl)
  try simp only [Act.put, List.setIfInBounds_toArray, List.set_cons_zero, List.set_cons_succ]
  refine Dmn.dm_take (v := ?_) (by simp) (by rfl) ?_ ?_
  rotate_left
  · (intro w hSw; have ew := HEby1.out; go_simp; try with_reducible rfl)
  try simp only [Act.put, List.setIfInBounds_toArray, List.set_cons_zero, List.set_cons_succ]
  refine Dmn.dm_take (v := ?_) (by simp) (by rfl) ?_ ?_
  rotate_left
  · (intro w hSw; go_simp; try with_reducible rfl)
  try simp only [Act.put, List.setIfInBounds_toArray, List.set_cons_zero, List.set_cons_succ]
  refine Dmn.dm_take (v := ?_) (by simp) (by rfl) ?_ ?_
  rotate_left
  · (intro w hSw; go_simp; try with_reducible rfl)
  try simp only [Act.put, List.setIfInBounds_toArray, List.set_cons_zero, List.set_cons_succ]
  refine Dmn.dm_take (v := ?_) (by simp) (by rfl) ?_ ?_
  rotate_left
  · (intro w hSw; have cc : w.cell? ⟨bc, 0, none⟩ = some (.int .i64 cx) := (Bc_5.keep hSw).cell 0; go_simp; try with_reducible rfl)
  try simp only [Act.put, List.setIfInBounds_toArray, List.set_cons_zero, List.set_cons_succ]
  refine Dmn.dm_take (v := ?_) (by simp) (by rfl) ?_ ?_
  rotate_left
  · (intro w hSw; go_simp; try with_reducible rfl)
  try simp only [Act.put, List.setIfInBounds_toArray, List.set_cons_zero, List.set_cons_succ]
  refine Dmn.dm_take (v := ?_) (by simp) (by rfl) ?_ ?_
  rotate_left
  · (intro w hSw; have cc : w.cell? ⟨bd, 0, none⟩ = some (.int .i64 (2 * x)) := (Bd_5.keep hSw).cell 0; go_simp; try with_reducible rfl)
  try simp only [Act.put, List.setIfInBounds_toArray, List.set_cons_zero, List.set_cons_succ]
  refine Dmn.dm_take (v := ?_) (by simp) (by rfl) ?_ ?_
  rotate_left
  · (intro w hSw; have ew := HEcx.out; go_simp; try with_reducible rfl)
  try simp only [Act.put, List.setIfInBounds_toArray, List.set_cons_zero, List.set_cons_succ]
  refine Dmn.dm_take (v := ?_) (by simp) (by rfl) ?_ ?_
  rotate_left
  · (intro w hSw; go_simp; try with_reducible rfl)
  try simp only [Act.put, List.setIfInBounds_toArray, List.set_cons_zero, List.set_cons_succ]
  refine Dmn.dm_take (v := ?_) (by simp) (by rfl) ?_ ?_
  rotate_left
  · (intro w hSw; have cc : w.cell? ⟨bc, 1, none⟩ = some (.int .i64 cy) := (Bc_5.keep hSw).cell 1; go_simp; try with_reducible rfl)
  try simp only [Act.put, List.setIfInBounds_toArray, List.set_cons_zero, List.set_cons_succ]
  refine Dmn.dm_take (v := ?_) (by simp) (by rfl) ?_ ?_
  rotate_left
  · (intro w hSw; go_simp; try with_reducible rfl)
  try simp only [Act.put, List.setIfInBounds_toArray, List.set_cons_zero, List.set_cons_succ]
  refine Dmn.dm_take (v := ?_) (by simp) (by rfl) ?_ ?_
  rotate_left
  · (intro w hSw; have cc : w.cell? ⟨bd, 1, none⟩ = some (.int .i64 (2 * y)) := (Bd_5.keep hSw).cell 1; go_simp; try with_reducible rfl)
  try simp only [Act.put, List.setIfInBounds_toArray, List.set_cons_zero, List.set_cons_succ]
  refine Dmn.dm_take (v := ?_) (by simp) (by rfl) ?_ ?_
  rotate_left
  · (intro w hSw; have ew := HEcy.out; go_simp; try with_reducible rfl)
  try simp only [Act.put, List.setIfInBounds_toArray, List.set_cons_zero, List.set_cons_succ]
  refine Dmn.dm_take (v := ?_) (by simp) (by rfl) ?_ ?_
  rotate_left
  · (intro w hSw; go_simp; try with_reducible rfl)
  try simp only [Act.put, List.setIfInBounds_toArray, List.set_cons_zero, List.set_cons_succ]
  refine Dmn.dm_alloc (⟨33, 36, 12, #[.int .i64 px, .int .i64 py]⟩ : Dmn.Pr) (by simp) rfl ?_
  try simp only [Act.put, List.setIfInBounds_toArray, List.set_cons_zero, List.set_cons_succ]
  refine Dmn.dm_alloc (⟨34, 37, 13, #[.int .i64 qx, .int .i64 qy]⟩ : Dmn.Pr) (by simp) rfl ?_
  try simp only [Act.put, List.setIfInBounds_toArray, List.set_cons_zero, List.set_cons_succ]
  refine Dmn.dm_alloc (⟨35, 38, 14, #[.int .i64 rx, .int .i64 ry]⟩ : Dmn.Pr) (by simp) rfl ?_
  try simp only [Act.put, List.setIfInBounds_toArray, List.set_cons_zero, List.set_cons_succ]
  refine Dmn.dm_store (⟨33, 36, 12, #[.int .i64 px, .int .i64 py]⟩ : Dmn.Pr) (by simp) rfl _ rfl rfl ?_
  try simp only [Act.put, List.setIfInBounds_toArray, List.set_cons_zero, List.set_cons_succ]
  refine Dmn.dm_store (⟨34, 37, 13, #[.int .i64 qx, .int .i64 qy]⟩ : Dmn.Pr) (by simp) rfl _ rfl rfl ?_
  try simp only [Act.put, List.setIfInBounds_toArray, List.set_cons_zero, List.set_cons_succ]
  refine Dmn.dm_store (⟨35, 38, 14, #[.int .i64 rx, .int .i64 ry]⟩ : Dmn.Pr) (by simp) rfl _ rfl rfl ?_
  try simp only [Act.put, List.setIfInBounds_toArray, List.set_cons_zero, List.set_cons_succ]
  refine Dmn.dm_nil3 ?_
  intro W6 bp bq br Bp_6 Bq_6 Br_6 lp_6 lq_6 lr_6 k6
  have gp : w.heap.size ≤ bp := Nat.le_trans Hw5.size lp_6
  have nap : ba ≠ bp := Nat.ne_of_lt (Nat.lt_of_lt_of_le Ba_5.lt lp_6)
  have nbp : bb ≠ bp := Nat.ne_of_lt (Nat.lt_of_lt_of_le Bb_5.lt lp_6)
  have ncp : bc ≠ bp := Nat.ne_of_lt (Nat.lt_of_lt_of_le Bc_5.lt lp_6)
  have ndp : bd ≠ bp := Nat.ne_of_lt (Nat.lt_of_lt_of_le Bd_5.lt lp_6)
  have gq : w.heap.size ≤ bq := Nat.le_trans Hw5.size lq_6
  have naq : ba ≠ bq := Nat.ne_of_lt (Nat.lt_of_lt_of_le Ba_5.lt lq_6)
  have nbq : bb ≠ bq := Nat.ne_of_lt (Nat.lt_of_lt_of_le Bb_5.lt lq_6)
  have ncq : bc ≠ bq := Nat.ne_of_lt (Nat.lt_of_lt_of_le Bc_5.lt lq_6)
  have ndq : bd ≠ bq := Nat.ne_of_lt (Nat.lt_of_lt_of_le Bd_5.lt lq_6)
  have gr : w.heap.size ≤ br := Nat.le_trans Hw5.size lr_6
  have nar : ba ≠ br := Nat.ne_of_lt (Nat.lt_of_lt_of_le Ba_5.lt lr_6)
  have nbr : bb ≠ br := Nat.ne_of_lt (Nat.lt_of_lt_of_le Bb_5.lt lr_6)
  have ncr : bc ≠ br := Nat.ne_of_lt (Nat.lt_of_lt_of_le Bc_5.lt lr_6)
  have ndr : bd ≠ br := Nat.ne_of_lt (Nat.lt_of_lt_of_le Bd_5.lt lr_6)
  have Ba_6 := Ba_5.keep k6
  have Bb_6 := Bb_5.keep k6
  have Bc_6 := Bc_5.keep k6
  have Bd_6 := Bd_5.keep k6
  have Hw6 := bq_trans Hw5 k6
  clear k6 lp_6 lq_6 lr_6 Ba_5 Bb_5 Bc_5 Bd_5 Hw5
  try simp only [Act.put, List.setIfInBounds_toArray, List.set_cons_zero, List.set_cons_succ]
  go_upto_region 5 with (go_big_may; first
    | (refine wl_load 23 2 _ Try.underlying23 rfl szPt _ rfl rfl _ rfl _ _ Ba_6 rfl ?_)
    | (refine wl_load 23 2 _ Try.underlying23 rfl szPt _ rfl rfl _ rfl _ _ Bb_6 rfl ?_)
    | (refine wl_load 23 2 _ Try.underlying23 rfl szPt _ rfl rfl _ rfl _ _ Bc_6 rfl ?_)
    | (go_at_call 11; (with_reducible refine (H1.out _).mono ?_); rintro e W7 ⟨rfl, k7⟩; have Ba_7 := Ba_6.keep k7; have Bb_7 := Bb_6.keep k7; have Bc_7 := Bc_6.keep k7; have Bd_7 := Bd_6.keep k7; have Bp_7 := Bp_6.keep k7; have Bq_7 := Bq_6.keep k7; have Br_7 := Br_6.keep k7; have Hw7 := bq_trans Hw6 k7; clear k7 Ba_6 Bb_6 Bc_6 Bd_6 Bp_6 Bq_6 Br_6 Hw6)
    | (refine wlg_load 23 2 _ Try.underlying23 rfl szPt _ rfl rfl _ rfl _ _ Bp_7 rfl ?_)
    | (refine wlg_load 23 2 _ Try.underlying23 rfl szPt _ rfl rfl _ rfl _ _ Bq_7 rfl ?_)
    | (refine wlg_load 23 2 _ Try.underlying23 rfl szPt _ rfl rfl _ rfl _ _ Br_7 rfl ?_)
    | (go_at_call 11; (with_reducible refine (H2.out _).mono ?_); rintro e W8 ⟨rfl, k8⟩; have Ba_8 := Ba_7.keep k8; have Bb_8 := Bb_7.keep k8; have Bc_8 := Bc_7.keep k8; have Bd_8 := Bd_7.keep k8; have Bp_8 := Bp_7.keep k8; have Bq_8 := Bq_7.keep k8; have Br_8 := Br_7.keep k8; have Hw8 := bq_trans Hw7 k8; clear k8 Ba_7 Bb_7 Bc_7 Bd_7 Bp_7 Bq_7 Br_7 Hw7))
  refine Dar.wp_region_tail 3 7 74 (fun q w => (∃ b o c, q = .slice (some ⟨b, o, none⟩) n c ∧ Pts w b o L)) (by kernel_rfl) (by kernel_rfl) (by kernel_rfl) (by kernel_rfl) (rows_last n L) (of_decide_eq_true rfl) ?_
  refine Dar.dp_load (by decide) 23 2 _ Try.underlying23 rfl szPt _ rfl (by rfl) _ rfl _ _ (fun w hS => Ba_8.keep hS) rfl ?_
  try simp only [Act.put, List.setIfInBounds_toArray, List.set_cons_zero, List.set_cons_succ]
  refine Dar.dp_load (by decide) 23 2 _ Try.underlying23 rfl szPt _ rfl (by rfl) _ rfl _ _ (fun w hS => Bb_8.keep hS) rfl ?_
  try simp only [Act.put, List.setIfInBounds_toArray, List.set_cons_zero, List.set_cons_succ]
  refine Dar.dp_load (by decide) 23 2 _ Try.underlying23 rfl szPt _ rfl (by rfl) _ rfl _ _ (fun w hS => Bc_8.keep hS) rfl ?_
  try simp only [Act.put, List.setIfInBounds_toArray, List.set_cons_zero, List.set_cons_succ]
  refine Dar.dp_makecall (f := 8) (args := #[.agg #[.int .i64 ax, .int .i64 ay], .agg #[.int .i64 bx, .int .i64 by1], .agg #[.int .i64 cx, .int .i64 cy]]) rfl rfl ?_ (fun w hS => (H3.out w).mono fun e w' ⟨⟨b, o, c, h1, h2⟩, hb⟩ => ⟨_, h1, hb, b, o, c, rfl, h2⟩) ?_
  · (intro w hSw; go_simp)
  try simp only [Act.put, List.setIfInBounds_toArray, List.set_cons_zero, List.set_cons_succ]
  refine Dar.dp_load (by decide) 23 2 _ Try.underlying23 rfl szPt _ rfl (by rfl) _ rfl _ _ (fun w hS => Bp_8.keep hS) rfl ?_
  try simp only [Act.put, List.setIfInBounds_toArray, List.set_cons_zero, List.set_cons_succ]
  refine Dar.dp_load (by decide) 23 2 _ Try.underlying23 rfl szPt _ rfl (by rfl) _ rfl _ _ (fun w hS => Bq_8.keep hS) rfl ?_
  try simp only [Act.put, List.setIfInBounds_toArray, List.set_cons_zero, List.set_cons_succ]
  refine Dar.dp_load (by decide) 23 2 _ Try.underlying23 rfl szPt _ rfl (by rfl) _ rfl _ _ (fun w hS => Br_8.keep hS) rfl ?_
  try simp only [Act.put, List.setIfInBounds_toArray, List.set_cons_zero, List.set_cons_succ]
  refine Dar.dp_nil ?_
  intro W9 q9 k9 hR9
  have Ba_9 := Ba_8.keep k9
  have Bb_9 := Bb_8.keep k9
  have Bc_9 := Bc_8.keep k9
  have Bd_9 := Bd_8.keep k9
  have Bp_9 := Bp_8.keep k9
  have Bq_9 := Bq_8.keep k9
  have Br_9 := Br_8.keep k9
  have Hw9 := bq_trans Hw8 k9
  clear k9 Ba_8 Bb_8 Bc_8 Bd_8 Bp_8 Bq_8 Br_8 Hw8
  obtain ⟨lb, lo, lc, rfl, Pl_0⟩ := hR9
  try simp only [Act.put, List.setIfInBounds_toArray, List.set_cons_zero, List.set_cons_succ]
  go_upto_region 6 with (go_big_may; first
    | (go_at_call 8; (with_reducible refine (H4.out _).mono ?_); rintro e W10 ⟨⟨mb, mo, mc, rfl, Pm_0⟩, k10⟩; have Ba_10 := Ba_9.keep k10; have Bb_10 := Bb_9.keep k10; have Bc_10 := Bc_9.keep k10; have Bd_10 := Bd_9.keep k10; have Bp_10 := Bp_9.keep k10; have Bq_10 := Bq_9.keep k10; have Br_10 := Br_9.keep k10; have Ol_10 := Pl_0.keep k10; have Hw10 := bq_trans Hw9 k10; clear k10 Ba_9 Bb_9 Bc_9 Bd_9 Bp_9 Bq_9 Br_9 Pl_0 Hw9))
  refine Det.wp_region_det (S := fun w' => Below W10.heap.size W10 w') (by kernel_rfl) (by kernel_rfl) (bq_drew (bq_refl _)) ?_
  refine Det.det_take (v := ?_) (by rfl) ?_ ?_
  rotate_left
  · (intro w hSw; go_simp; try with_reducible rfl)
  try simp only [Act.put, List.setIfInBounds_toArray, List.set_cons_zero, List.set_cons_succ]
  refine Det.det_take (v := ?_) (by rfl) ?_ ?_
  rotate_left
  · (intro w hSw; go_simp; try with_reducible rfl)
  try simp only [Act.put, List.setIfInBounds_toArray, List.set_cons_zero, List.set_cons_succ]
  refine Det.det_take (v := ?_) (by rfl) ?_ ?_
  rotate_left
  · (intro w hSw; go_simp; try with_reducible rfl)
  try simp only [Act.put, List.setIfInBounds_toArray, List.set_cons_zero, List.set_cons_succ]
  refine Det.det_take (v := ?_) (by rfl) ?_ ?_
  rotate_left
  · (intro w hSw; go_simp; try with_reducible rfl)
  try simp only [Act.put, List.setIfInBounds_toArray, List.set_cons_zero, List.set_cons_succ]
  refine Det.det_take (v := ?_) (by rfl) ?_ ?_
  rotate_left
  · (intro w hSw; have en : ((n : Int) != (n : Int)) = false := (by simp); go_simp; try with_reducible rfl)
  try simp only [Act.put, List.setIfInBounds_toArray, List.set_cons_zero, List.set_cons_succ]
  refine Det.det_take (v := ?_) (by rfl) ?_ ?_
  rotate_left
  · (intro w hSw; go_simp; try with_reducible rfl)
  try simp only [Act.put, List.setIfInBounds_toArray, List.set_cons_zero, List.set_cons_succ]
  refine Det.det_take (v := ?_) (by rfl) ?_ ?_
  rotate_left
  · (intro w hSw; go_simp; try with_reducible rfl)
  try simp only [Act.put, List.setIfInBounds_toArray, List.set_cons_zero, List.set_cons_succ]
  refine Det.det_take (v := ?_) (by rfl) ?_ ?_
  rotate_left
  · (intro w hSw; go_simp; try with_reducible rfl)
  try simp only [Act.put, List.setIfInBounds_toArray, List.set_cons_zero, List.set_cons_succ]
  refine Det.det_take (v := ?_) (by rfl) ?_ ?_
  rotate_left
  · (intro w hSw; have en : ((n : Int) == 0) = false := (beq_eq_false_iff_ne.2 (by omega)); go_simp; try with_reducible rfl)
  try simp only [Act.put, List.setIfInBounds_toArray, List.set_cons_zero, List.set_cons_succ]
  refine Det.det_take (v := ?_) (by rfl) ?_ ?_
  rotate_left
  · (intro w hSw; go_simp; try with_reducible rfl)
  try simp only [Act.put, List.setIfInBounds_toArray, List.set_cons_zero, List.set_cons_succ]
  refine Det.det_take (v := ?_) (by rfl) ?_ ?_
  rotate_left
  · (intro w hSw; go_simp; try with_reducible rfl)
  try simp only [Act.put, List.setIfInBounds_toArray, List.set_cons_zero, List.set_cons_succ]
  refine Det.det_load 23 2 _ Try.underlying23 rfl szPt _ rfl (by rfl) _ rfl _ _ (fun w hS => Ba_10.keep hS) rfl ?_
  try simp only [Act.put, List.setIfInBounds_toArray, List.set_cons_zero, List.set_cons_succ]
  refine Det.det_load 23 2 _ Try.underlying23 rfl szPt _ rfl (by rfl) _ rfl _ _ (fun w hS => Bb_10.keep hS) rfl ?_
  try simp only [Act.put, List.setIfInBounds_toArray, List.set_cons_zero, List.set_cons_succ]
  refine Det.det_load 23 2 _ Try.underlying23 rfl szPt _ rfl (by rfl) _ rfl _ _ (fun w hS => Bc_10.keep hS) rfl ?_
  try simp only [Act.put, List.setIfInBounds_toArray, List.set_cons_zero, List.set_cons_succ]
  refine Det.det_call (f := 12) (args := #[.agg #[.int .i64 ax, .int .i64 ay], .agg #[.int .i64 bx, .int .i64 by1], .agg #[.int .i64 cx, .int .i64 cy]]) (v := .int .i64 d) (by rfl) ?_ (fun w hS => (H5.out w).mono fun e w' ⟨h1, h2⟩ => ⟨h1, bq_trans hS h2⟩) ?_
  · (intro w hSw; go_simp)
  try simp only [Act.put, List.setIfInBounds_toArray, List.set_cons_zero, List.set_cons_succ]
  refine Det.det_load 23 2 _ Try.underlying23 rfl szPt _ rfl (by rfl) _ rfl _ _ (fun w hS => Bp_10.keep hS) rfl ?_
  try simp only [Act.put, List.setIfInBounds_toArray, List.set_cons_zero, List.set_cons_succ]
  refine Det.det_load 23 2 _ Try.underlying23 rfl szPt _ rfl (by rfl) _ rfl _ _ (fun w hS => Bq_10.keep hS) rfl ?_
  try simp only [Act.put, List.setIfInBounds_toArray, List.set_cons_zero, List.set_cons_succ]
  refine Det.det_load 23 2 _ Try.underlying23 rfl szPt _ rfl (by rfl) _ rfl _ _ (fun w hS => Br_10.keep hS) rfl ?_
  try simp only [Act.put, List.setIfInBounds_toArray, List.set_cons_zero, List.set_cons_succ]
  refine Det.det_call (f := 12) (args := #[.agg #[.int .i64 px, .int .i64 py], .agg #[.int .i64 qx, .int .i64 qy], .agg #[.int .i64 rx, .int .i64 ry]]) (v := .int .i64 d) (by rfl) ?_ (fun w hS => (H6.out w).mono fun e w' ⟨h1, h2⟩ => ⟨h1, bq_trans hS h2⟩) ?_
  · (intro w hSw; go_simp)
  try simp only [Act.put, List.setIfInBounds_toArray, List.set_cons_zero, List.set_cons_succ]
  refine Det.det_take (v := ?_) (by rfl) ?_ ?_
  rotate_left
  · (intro w hSw; have en : (d != d) = false := (by simp); go_simp; try with_reducible rfl)
  try simp only [Act.put, List.setIfInBounds_toArray, List.set_cons_zero, List.set_cons_succ]
  refine Det.det_take (v := ?_) (by rfl) ?_ ?_
  rotate_left
  · (intro w hSw; go_simp; try with_reducible rfl)
  try simp only [Act.put, List.setIfInBounds_toArray, List.set_cons_zero, List.set_cons_succ]
  refine Det.det_nil (fun W11 k11 => ?_)
  have Ba_11 := Ba_10.keep k11
  have Bb_11 := Bb_10.keep k11
  have Bc_11 := Bc_10.keep k11
  have Bd_11 := Bd_10.keep k11
  have Bp_11 := Bp_10.keep k11
  have Bq_11 := Bq_10.keep k11
  have Br_11 := Br_10.keep k11
  have Ol_11 := Ol_10.keep k11
  have Om_11 := Pm_0.keep k11
  have Hw11 := bq_trans Hw10 k11
  clear k11 Ba_10 Bb_10 Bc_10 Bd_10 Bp_10 Bq_10 Br_10 Ol_10 Pm_0 Hw10
  clear H1 H2 H3 H4 H5 H6
  have HB0 := Lib.hid Hw11
  clear Hw11
  go_wp2_with fail
  go_loopw [102] (fun i wr => LRel W11 n i wr) (fun i _ => n - (intOf i).toNat)
  case atStart => exact ⟨0, by omega, rfl, bq_refl _⟩
  case round =>
    obtain ⟨k, hk, rfl, hbel⟩ := hrel
    by_cases hlt : k < n
    · obtain ⟨u, v, hl, hm, HU⟩ := HK.out k hlt
      have RL := rangeAt_keep (Ol_11.get k _ _ hl) hbel
      have RM := rangeAt_keep (Om_11.get k _ _ hm) hbel
      have Rd := Bd_11.keep hbel
      have HB := Lib.hid hbel
      have i1 : (0 : Int) ≤ (k : Int) := by omega
      have i2 : (k : Int) < (n : Int) := by omega
      clear hbel hl hm
      go_upto_region 11 with (fail)
      refine Det.wp_region_det (S := fun w' => Below wr.heap.size wr w') (by kernel_rfl) (by kernel_rfl) (bq_drew (bq_refl _)) ?_
      refine Det.det_take (v := ?_) (by rfl) ?_ ?_
      rotate_left
      · (intro w hSw; go_simp; try with_reducible rfl)
      try simp only [Act.put, List.setIfInBounds_toArray, List.set_cons_zero, List.set_cons_succ]
      refine Det.det_take (v := ?_) (by rfl) ?_ ?_
      rotate_left
      · (intro w hSw; go_simp; try with_reducible rfl)
      try simp only [Act.put, List.setIfInBounds_toArray, List.set_cons_zero, List.set_cons_succ]
      refine Det.det_take (v := ?_) (by rfl) ?_ ?_
      rotate_left
      · (intro w hSw; go_simp; try with_reducible rfl)
      try simp only [Act.put, List.setIfInBounds_toArray, List.set_cons_zero, List.set_cons_succ]
      refine Det.det_take (v := ?_) (by rfl) ?_ ?_
      rotate_left
      · (intro w hSw; go_simp; try with_reducible rfl)
      try simp only [Act.put, List.setIfInBounds_toArray, List.set_cons_zero, List.set_cons_succ]
      refine Det.det_take (v := ?_) (by rfl) ?_ ?_
      rotate_left
      · (intro w hSw; have ccm : w.cell? ⟨mb, mo + k * 2, none⟩ = some (.int .i64 (u + 2 * x)) := rangeAt_keep RM hSw 0 _ rfl; go_simp; try with_reducible rfl)
      try simp only [Act.put, List.setIfInBounds_toArray, List.set_cons_zero, List.set_cons_succ]
      refine Det.det_take (v := ?_) (by rfl) ?_ ?_
      rotate_left
      · (intro w hSw; go_simp; try with_reducible rfl)
      try simp only [Act.put, List.setIfInBounds_toArray, List.set_cons_zero, List.set_cons_succ]
      refine Det.det_take (v := ?_) (by rfl) ?_ ?_
      rotate_left
      · (intro w hSw; go_simp; try with_reducible rfl)
      try simp only [Act.put, List.setIfInBounds_toArray, List.set_cons_zero, List.set_cons_succ]
      refine Det.det_take (v := ?_) (by rfl) ?_ ?_
      rotate_left
      · (intro w hSw; go_simp; try with_reducible rfl)
      try simp only [Act.put, List.setIfInBounds_toArray, List.set_cons_zero, List.set_cons_succ]
      refine Det.det_take (v := ?_) (by rfl) ?_ ?_
      rotate_left
      · (intro w hSw; go_simp; try with_reducible rfl)
      try simp only [Act.put, List.setIfInBounds_toArray, List.set_cons_zero, List.set_cons_succ]
      refine Det.det_take (v := ?_) (by rfl) ?_ ?_
      rotate_left
      · (intro w hSw; have ccl : w.cell? ⟨lb, lo + k * 2, none⟩ = some (.int .i64 u) := rangeAt_keep RL hSw 0 _ rfl; go_simp; try with_reducible rfl)
      try simp only [Act.put, List.setIfInBounds_toArray, List.set_cons_zero, List.set_cons_succ]
      refine Det.det_take (v := ?_) (by rfl) ?_ ?_
      rotate_left
      · (intro w hSw; go_simp; try with_reducible rfl)
      try simp only [Act.put, List.setIfInBounds_toArray, List.set_cons_zero, List.set_cons_succ]
      refine Det.det_take (v := ?_) (by rfl) ?_ ?_
      rotate_left
      · (intro w hSw; have cd : w.cell? ⟨bd, 0, none⟩ = some (.int .i64 (2 * x)) := (Rd.keep hSw).cell 0; go_simp; try with_reducible rfl)
      try simp only [Act.put, List.setIfInBounds_toArray, List.set_cons_zero, List.set_cons_succ]
      refine Det.det_take (v := ?_) (by rfl) ?_ ?_
      rotate_left
      · (intro w hSw; have ew := HU.out.1; go_simp; try with_reducible rfl)
      try simp only [Act.put, List.setIfInBounds_toArray, List.set_cons_zero, List.set_cons_succ]
      refine Det.det_take (v := ?_) (by rfl) ?_ ?_
      rotate_left
      · (intro w hSw; have en : (u + 2 * x != u + 2 * x) = false := (by simp); go_simp; try with_reducible rfl)
      try simp only [Act.put, List.setIfInBounds_toArray, List.set_cons_zero, List.set_cons_succ]
      refine Det.det_take (v := ?_) (by rfl) ?_ ?_
      rotate_left
      · (intro w hSw; go_simp; try with_reducible rfl)
      try simp only [Act.put, List.setIfInBounds_toArray, List.set_cons_zero, List.set_cons_succ]
      refine Det.det_take (v := ?_) (by rfl) ?_ ?_
      rotate_left
      · (intro w hSw; go_simp; try with_reducible rfl)
      try simp only [Act.put, List.setIfInBounds_toArray, List.set_cons_zero, List.set_cons_succ]
      refine Det.det_take (v := ?_) (by rfl) ?_ ?_
      rotate_left
      · (intro w hSw; go_simp; try with_reducible rfl)
      try simp only [Act.put, List.setIfInBounds_toArray, List.set_cons_zero, List.set_cons_succ]
      refine Det.det_take (v := ?_) (by rfl) ?_ ?_
      rotate_left
      · (intro w hSw; go_simp; try with_reducible rfl)
      try simp only [Act.put, List.setIfInBounds_toArray, List.set_cons_zero, List.set_cons_succ]
      refine Det.det_take (v := ?_) (by rfl) ?_ ?_
      rotate_left
      · (intro w hSw; go_simp; try with_reducible rfl)
      try simp only [Act.put, List.setIfInBounds_toArray, List.set_cons_zero, List.set_cons_succ]
      refine Det.det_take (v := ?_) (by rfl) ?_ ?_
      rotate_left
      · (intro w hSw; have ccm : w.cell? ⟨mb, mo + k * 2 + 1, none⟩ = some (.int .i64 (v + 2 * y)) := rangeAt_keep RM hSw 1 _ rfl; go_simp; try with_reducible rfl)
      try simp only [Act.put, List.setIfInBounds_toArray, List.set_cons_zero, List.set_cons_succ]
      refine Det.det_take (v := ?_) (by rfl) ?_ ?_
      rotate_left
      · (intro w hSw; go_simp; try with_reducible rfl)
      try simp only [Act.put, List.setIfInBounds_toArray, List.set_cons_zero, List.set_cons_succ]
      refine Det.det_take (v := ?_) (by rfl) ?_ ?_
      rotate_left
      · (intro w hSw; go_simp; try with_reducible rfl)
      try simp only [Act.put, List.setIfInBounds_toArray, List.set_cons_zero, List.set_cons_succ]
      refine Det.det_take (v := ?_) (by rfl) ?_ ?_
      rotate_left
      · (intro w hSw; go_simp; try with_reducible rfl)
      try simp only [Act.put, List.setIfInBounds_toArray, List.set_cons_zero, List.set_cons_succ]
      refine Det.det_take (v := ?_) (by rfl) ?_ ?_
      rotate_left
      · (intro w hSw; go_simp; try with_reducible rfl)
      try simp only [Act.put, List.setIfInBounds_toArray, List.set_cons_zero, List.set_cons_succ]
      refine Det.det_take (v := ?_) (by rfl) ?_ ?_
      rotate_left
      · (intro w hSw; have ccl : w.cell? ⟨lb, lo + k * 2 + 1, none⟩ = some (.int .i64 v) := rangeAt_keep RL hSw 1 _ rfl; go_simp; try with_reducible rfl)
      try simp only [Act.put, List.setIfInBounds_toArray, List.set_cons_zero, List.set_cons_succ]
      refine Det.det_take (v := ?_) (by rfl) ?_ ?_
      rotate_left
      · (intro w hSw; go_simp; try with_reducible rfl)
      try simp only [Act.put, List.setIfInBounds_toArray, List.set_cons_zero, List.set_cons_succ]
      refine Det.det_take (v := ?_) (by rfl) ?_ ?_
      rotate_left
      · (intro w hSw; have cd : w.cell? ⟨bd, 1, none⟩ = some (.int .i64 (2 * y)) := (Rd.keep hSw).cell 1; go_simp; try with_reducible rfl)
      try simp only [Act.put, List.setIfInBounds_toArray, List.set_cons_zero, List.set_cons_succ]
      refine Det.det_take (v := ?_) (by rfl) ?_ ?_
      rotate_left
      · (intro w hSw; have ew := HU.out.2; go_simp; try with_reducible rfl)
      try simp only [Act.put, List.setIfInBounds_toArray, List.set_cons_zero, List.set_cons_succ]
      refine Det.det_take (v := ?_) (by rfl) ?_ ?_
      rotate_left
      · (intro w hSw; have en : (v + 2 * y != v + 2 * y) = false := (by simp); go_simp; try with_reducible rfl)
      try simp only [Act.put, List.setIfInBounds_toArray, List.set_cons_zero, List.set_cons_succ]
      refine Det.det_take (v := ?_) (by rfl) ?_ ?_
      rotate_left
      · (intro w hSw; go_simp; try with_reducible rfl)
      try simp only [Act.put, List.setIfInBounds_toArray, List.set_cons_zero, List.set_cons_succ]
      refine Det.det_nil (fun W41 k41 => ?_)
      have Bd_41 := Rd.keep k41
      have Hw41 := k41
      clear k41 Rd
      go_wp2_with fail
      go_roundw
      case rel => exact ⟨k + 1, by omega, by go_num, bq_trans HB.out Hw41⟩
      case measure => simp [intOf]; omega
    · have hkn : k = n := by omega
      have HB := Lib.hid hbel
      clear hbel
      subst hkn
      go_wp2_with (first
        | (go_at_call 14; (with_reducible refine (HA.out _).mono ?_); rintro e W99 ⟨rfl, k99⟩))
      go_ret
      exact ⟨rfl, bq_trans (bq_trans HB0.out HB.out) k99⟩
theorem curveShifts_walk (ax ay bx by1 cx cy x y : Int) (w : World) (hx : -32768 ≤ x ∧ x ≤ 32767) (hy : -32768 ≤ y ∧ y ≤ 32767) : Calls Try.prog 7 #[.agg #[.int .i64 ax, .int .i64 ay], .agg #[.int .i64 bx, .int .i64 by1], .agg #[.int .i64 cx, .int .i64 cy], .int .i16 x, .int .i16 y] w fun e w' => e = .returned (.bool true) ∧ Below w.heap.size w w' := by
  have H1 := Lib.hid fun W => right16_any ax ay bx by1 cx cy W
  obtain ⟨px, epx⟩ : ∃ p, IntKind.i64.wrap (ax + 2 * x) = p := ⟨_, rfl⟩
  obtain ⟨py, epy⟩ : ∃ p, IntKind.i64.wrap (ay + 2 * y) = p := ⟨_, rfl⟩
  obtain ⟨qx, eqx⟩ : ∃ p, IntKind.i64.wrap (bx + 2 * x) = p := ⟨_, rfl⟩
  obtain ⟨qy, eqy⟩ : ∃ p, IntKind.i64.wrap (by1 + 2 * y) = p := ⟨_, rfl⟩
  obtain ⟨rx, erx⟩ : ∃ p, IntKind.i64.wrap (cx + 2 * x) = p := ⟨_, rfl⟩
  obtain ⟨ry, ery⟩ : ∃ p, IntKind.i64.wrap (cy + 2 * y) = p := ⟨_, rfl⟩
  have H2 := Lib.hid fun W => right16_any px py qx qy rx ry W
  cases q : allE ax ay bx by1 cx cy with
  | false =>
    rw [q] at H1
    exact shifts16_0 ax ay bx by1 cx cy x y px py qx qy rx ry w hx.1 hx.2 hy.1 hy.2 epx epy eqx eqy erx ery (Lib.hid awake16_any) H1
  | true =>
    rw [q] at H1
    cases q2 : allE px py qx qy rx ry with
    | false =>
      rw [q2] at H2
      exact shifts16_1 ax ay bx by1 cx cy x y px py qx qy rx ry w hx.1 hx.2 hy.1 hy.2 epx epy eqx eqy erx ery (Lib.hid awake16_any) H1 H2
    | true =>
      rw [q2] at H2
      have H5 := Lib.hid fun W => bend16_any ax ay bx by1 cx cy W
      have H6 := Lib.hid fun W => bend16_any px py qx qy rx ry W
      rw [q] at H5
      rw [q2] at H6
      obtain ⟨a1, a2, b1, b2, c1, c2⟩ := allE_bd q
      have s1 := wI (ax + 2 * x) (by omega)
      have s2 := wI (ay + 2 * y) (by omega)
      have s3 := wI (bx + 2 * x) (by omega)
      have s4 := wI (by1 + 2 * y) (by omega)
      have s5 := wI (cx + 2 * x) (by omega)
      have s6 := wI (cy + 2 * y) (by omega)
      have t1 := epx.symm.trans s1
      have t2 := epy.symm.trans s2
      have t3 := eqx.symm.trans s3
      have t4 := eqy.symm.trans s4
      have t5 := erx.symm.trans s5
      have t6 := ery.symm.trans s6
      have eb : bendV px py qx qy rx ry = bendV ax ay bx by1 cx cy := by rw [t1, t2, t3, t4, t5, t6, bendV_shift]
      rw [eb] at H6
      have hp := pie_bd (bendV ax ay bx by1 cx cy)
      obtain ⟨n, hn⟩ : ∃ n, pie (bendV ax ay bx by1 cx cy) = n := ⟨_, rfl⟩
      rw [hn] at hp
      refine shifts16_2 ax ay bx by1 cx cy x y px py qx qy rx ry _ n (flatL ax ay bx by1 cx cy) (flatL px py qx qy rx ry) w hx.1 hx.2 hy.1 hy.2 epx epy eqx eqy erx ery hp.2 hp.1 (Lib.hid awake16_any) H1 H2 (Lib.hid fun W => flat16_pts q n hn W) (Lib.hid fun W => flat16_pts q2 n (by rw [eb]; exact hn) W) H5 H6 (Lib.hid fun k hk => ?_)
      have f1 := flatL_at ax ay bx by1 cx cy k (by omega)
      have f2 := flatL_at px py qx qy rx ry k (by rw [eb]; omega)
      rw [hn] at f1
      rw [eb, hn, t1, t2, t3, t4, t5, t6, ptV_shift _ _ _ _ _ _ (by omega), ptV_shift _ _ _ _ _ _ (by omega), ← t1, ← t2, ← t3, ← t4, ← t5, ← t6] at f2
      have u1 := ptV_bd a1.1 b1.1 c1.1 (i := (k : Int) + 1) (n := (n : Int)) (by omega) (by omega)
      have u2 := ptV_bd a2.1 b2.1 c2.1 (i := (k : Int) + 1) (n := (n : Int)) (by omega) (by omega)
      exact ⟨_, _, f1, f2, Lib.hid ⟨wI _ (by omega), wI _ (by omega)⟩⟩
end Go.Proofs.Ytpeknlablcgchaa
