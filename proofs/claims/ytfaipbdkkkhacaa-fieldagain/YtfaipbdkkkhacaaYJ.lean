import Derived.Test.YtfaipbdkkkhacaaYI
/- Layer 7: FieldSizes, a way of it. -/
namespace Go.Proofs.Ytfaipbdkkkhacaa
open Go.RowKit
set_option linter.unusedVariables false
set_option linter.unusedSimpArgs false
set_option maxRecDepth 100000

theorem q8_00 (k : Nat) (h : k ≤ 100000) : IntKind.i64.wrap ((k : Int).tdiv 8) = ((k / 8 : Nat) : Int) := by
  rw [Int.tdiv_eq_ediv_of_nonneg (by omega), i64_wrap _ (by omega) (by omega)]
  omega
set_option maxHeartbeats 4000000 in
theorem sizes_00 (l r t b x y : Int) (u v : ByteArray) (m n : Nat) (w : World) (hl : I64 l) (hr : I64 r) (ht : I64 t) (hb : I64 b) (hx : I64 x) (hy : I64 y) (hm : m ≤ 64) (hn : n ≤ 64) (z1 : Int) (q1 : (z1 == 0) = false) (z2 : Int) (q2 : (z2 != 0) = true) (em : mxW [l, r, t, b] = m) (en : mxW [x, y] = n)
     
    (A1 : Hid (∀ W, Calls Try.prog 9 #[.agg #[.string ⟨#[]⟩, .int .i64 0], .agg #[.int .i64 l, .int .i64 r, .int .i64 t, .int .i64 b]] W fun e w' => e = .returned (.tuple #[.agg #[.string u, .int .i64 0], .int .i64 z1]) ∧ Below W.heap.size W w'))
    (A2 : Hid (∀ W, Calls Try.prog 10 #[.agg #[.string ⟨#[]⟩, .int .i64 0], .agg #[.int .i64 65536, .int .i64 0, .int .i64 0, .int .i64 65536, .int .i64 x, .int .i64 y]] W fun e w' => e = .returned (.tuple #[.agg #[.string v, .int .i64 0], .int .i64 z2]) ∧ Below W.heap.size W w')) :
    Calls Try.prog 7 #[.agg #[.int .i64 l, .int .i64 r, .int .i64 t, .int .i64 b], .int .i64 x, .int .i64 y] w fun e w' => e = .returned (.bool true) ∧ Below w.heap.size w w' := by
  have HF := Lib.hid (i64_4 hl hr ht hb)
  have HG := Lib.hid (i64_2 hx hy)
  have EM := Lib.hid em
  have EN := Lib.hid en
  
  
  clear hl hr ht hb hx hy em en  
  go_enter Try.func7, Try.ntmps7
  go_wp2_with (first
    | (refine wl_box 25 _ _ rfl rfl (show _ = Value.agg #[.int .i64 l, .int .i64 r, .int .i64 t, .int .i64 b] from rfl) ?_; intro W1 br Br_1 l1 k1; have gr : w.heap.size ≤ br := l1; have Hw1 := k1; clear l1 k1)
    | (refine wl_load 25 4 _ Try.underlying25 rfl size25 _ rfl rfl _ rfl _ _ Br_1 rfl ?_)
    | (go_at_call 9; (with_reducible refine (A1.out _).mono ?_); rintro e W2 ⟨rfl, k2⟩; have Br_2 := Br_1.keep k2; have Hw2 := bq_trans Hw1 k2; clear k2 Br_1 Hw1)
    | (refine wl_alloc 23 _ zero23 rfl rfl ?_; intro W3 bp Bp_3 l3 k3; have gp : w.heap.size ≤ bp := Nat.le_trans Hw2.size l3; have nrp : br ≠ bp := Nat.ne_of_lt (Nat.lt_of_lt_of_le Br_2.lt l3); have Br_3 := Br_2.keep k3; have Hw3 := bq_trans Hw2 k3; clear l3 k3 Br_2 Hw2)
    | (refine wl_store 23 2 size23 _ _ rfl rfl _ rfl _ rfl _ _ Bp_3 rfl rfl (by kernel_rfl) ?_; intro W4 Bp_4 T4; have Br_4 := T4.blk Br_3 nrp; have Hw4 := T4.below Hw3 gp; clear T4 Br_3 Bp_3 Hw3)
    | (refine wl_alloc 27 _ zero27 rfl rfl ?_; intro W5 bm Bm_5 l5 k5; have gm : w.heap.size ≤ bm := Nat.le_trans Hw4.size l5; have nrm : br ≠ bm := Nat.ne_of_lt (Nat.lt_of_lt_of_le Br_4.lt l5); have npm : bp ≠ bm := Nat.ne_of_lt (Nat.lt_of_lt_of_le Bp_4.lt l5); have Br_5 := Br_4.keep k5; have Bp_5 := Bp_4.keep k5; have Hw5 := bq_trans Hw4 k5; clear l5 k5 Br_4 Bp_4 Hw4)
    | (refine wl_store 27 6 size27 _ _ rfl rfl _ rfl _ rfl _ _ Bm_5 rfl rfl (by kernel_rfl) ?_; intro W6 Bm_6 T6; have Br_6 := T6.blk Br_5 nrm; have Bp_6 := T6.blk Bp_5 npm; have Hw6 := T6.below Hw5 gm; clear T6 Br_5 Bp_5 Bm_5 Hw5)
    | (refine wl_load 27 6 _ Try.underlying27 rfl size27 _ rfl rfl _ rfl _ _ Bm_6 rfl ?_)
    | (go_at_call 10; (with_reducible refine (A2.out _).mono ?_); rintro e W7 ⟨rfl, k7⟩; have Br_7 := Br_6.keep k7; have Bp_7 := Bp_6.keep k7; have Bm_7 := Bm_6.keep k7; have Hw7 := bq_trans Hw6 k7; clear k7 Br_6 Bp_6 Bm_6 Hw6)
    | (refine wl_alloc 23 _ zero23 rfl rfl ?_; intro W8 bv Bv_8 l8 k8; have gv : w.heap.size ≤ bv := Nat.le_trans Hw7.size l8; have nrv : br ≠ bv := Nat.ne_of_lt (Nat.lt_of_lt_of_le Br_7.lt l8); have npv : bp ≠ bv := Nat.ne_of_lt (Nat.lt_of_lt_of_le Bp_7.lt l8); have nmv : bm ≠ bv := Nat.ne_of_lt (Nat.lt_of_lt_of_le Bm_7.lt l8); have Br_8 := Br_7.keep k8; have Bp_8 := Bp_7.keep k8; have Bm_8 := Bm_7.keep k8; have Hw8 := bq_trans Hw7 k8; clear l8 k8 Br_7 Bp_7 Bm_7 Hw7)
    | (refine wl_store 23 2 size23 _ _ rfl rfl _ rfl _ rfl _ _ Bv_8 rfl rfl (by kernel_rfl) ?_; intro W9 Bv_9 T9; have Br_9 := T9.blk Br_8 nrv; have Bp_9 := T9.blk Bp_8 npv; have Bm_9 := T9.blk Bm_8 nmv; have Hw9 := T9.below Hw8 gv; clear T9 Br_8 Bp_8 Bm_8 Bv_8 Hw8))
  have HC : Hid (∀ w', Below W9.heap.size W9 w' → w'.cell? ⟨bp, 0, none⟩ = some (.string u) ∧ w'.cell? ⟨bv, 0, none⟩ = some (.string v) ∧ w'.cell? ⟨br, 0, none⟩ = some (.int .i64 l) ∧ w'.cell? ⟨br, 1, none⟩ = some (.int .i64 r) ∧ w'.cell? ⟨br, 2, none⟩ = some (.int .i64 t) ∧ w'.cell? ⟨br, 3, none⟩ = some (.int .i64 b)) := Lib.hid fun w' hw' => ⟨(Bp_9.keep hw').cell 0, (Bv_9.keep hw').cell 0, (Br_9.keep hw').cell 0, (Br_9.keep hw').cell 1, (Br_9.keep hw').cell 2, (Br_9.keep hw').cell 3⟩
  have HW4 : Hid (∀ g W, Below W9.heap.size W9 W → Blk W g #[.int .i64 l, .int .i64 r, .int .i64 t, .int .i64 b] 3 → Calls Try.prog 35 #[.slice (some ⟨g, 0, none⟩) 4 4] W fun e w' => e = .returned (.int .i64 (m : Int)) ∧ Below W9.heap.size W9 w') := Lib.hid fun g W h hB => by
    rw [← EM.out]
    exact (width_ints [l, r, t, b] _ g 0 4 W (by simp) (Blk.ints (zs := [l, r, t, b]) hB HF.out)).mono fun e w' ⟨h1, h2⟩ => ⟨h1, h2 ▸ h⟩
  have HW2 : Hid (∀ g W, Below W9.heap.size W9 W → Blk W g #[.int .i64 x, .int .i64 y] 3 → Calls Try.prog 35 #[.slice (some ⟨g, 0, none⟩) 2 2] W fun e w' => e = .returned (.int .i64 (n : Int)) ∧ Below W9.heap.size W9 w') := Lib.hid fun g W h hB => by
    rw [← EN.out]
    exact (width_ints [x, y] _ g 0 2 W (by simp) (Blk.ints (zs := [x, y]) hB HG.out)).mono fun e w' ⟨h1, h2⟩ => ⟨h1, h2 ▸ h⟩
  have HAw : Hid (∀ W, Below W9.heap.size W9 W → Calls Try.prog 8 #[] W fun e w' => e = .returned (.bool true) ∧ Below W9.heap.size W9 w') := Lib.hid fun W h => (awake_any W).mono fun e w' ⟨h1, h2⟩ => ⟨h1, bq_trans h h2⟩
  have hd0 : Below W9.heap.size W9 W9.drew := bq_drew (bq_refl W9)
  have HB := Lib.hid Hw9
  
  
  have wr1 : IntKind.i64.wrap (4 * (m : Int)) = 4 * (m : Int) := i64_wrap _ (by omega) (by omega)
  have wr2 : IntKind.i64.wrap (5 + 4 * (m : Int)) = 5 + 4 * (m : Int) := i64_wrap _ (by omega) (by omega)
  have wr3 : IntKind.i64.wrap (5 + 4 * (m : Int) + 7) = 12 + 4 * (m : Int) := by rw [i64_wrap _ (by omega) (by omega)]; omega
  have wr4 : IntKind.i64.wrap (2 * (n : Int)) = 2 * (n : Int) := i64_wrap _ (by omega) (by omega)
  have wr5 : IntKind.i64.wrap (7 + 2 * (n : Int)) = 7 + 2 * (n : Int) := i64_wrap _ (by omega) (by omega)
  have wr6 : IntKind.i64.wrap (7 + 2 * (n : Int) + 7) = 14 + 2 * (n : Int) := by rw [i64_wrap _ (by omega) (by omega)]; omega
  clear A1 A2 Br_9 Bp_9 Bm_9 Bv_9 Hw9
  go_quiet (fail)
  have hb8 : Below W9.heap.size W9 (W9.drewN nq) := bq_drewN (bq_refl W9) nq
  generalize W9.drewN nq = w8 at *
  go_wp2_with fail
  have hdq : Below W9.heap.size W9 w8.drew := bq_drew hb8
  refine wp_region_held_drew (S := (fun w' => w'.cell? ⟨bp, 0, none⟩ = some (.string u) ∧ w'.cell? ⟨bv, 0, none⟩ = some (.string v) ∧ w'.cell? ⟨br, 0, none⟩ = some (.int .i64 l) ∧ w'.cell? ⟨br, 1, none⟩ = some (.int .i64 r) ∧ w'.cell? ⟨br, 2, none⟩ = some (.int .i64 t) ∧ w'.cell? ⟨br, 3, none⟩ = some (.int .i64 b))) (by kernel_rfl) ?_ (fun hHeld => ?_)
  · (refine HC.out _ ?_; repeat' (first | (with_reducible refine bq_drew ?_) | (with_reducible refine bq_alloc ?_ _) | (with_reducible exact bq_refl _) | assumption))
  refine hTake (i := 0) (d := some 49) (v := ?_) rfl rfl (by kernel_rfl) (by kernel_rfl) (by kernel_rfl) (fun _ _ _ h => h) (Or.inl ⟨by rfl, ?_⟩) (by assumption) ?_
  rotate_left
  · (intro w hSw; (try dsimp only at hSw); go_simp; try with_reducible rfl)
  try simp only [Act.put, List.setIfInBounds_toArray, List.set_cons_zero, List.set_cons_succ]
  refine hTake (i := 1) (d := some 50) (v := ?_) rfl rfl (by kernel_rfl) (by kernel_rfl) (by kernel_rfl) (fun _ _ _ h => h) (Or.inl ⟨by rfl, ?_⟩) (by assumption) ?_
  rotate_left
  · (intro w hSw; (try dsimp only at hSw); go_simp; try with_reducible rfl)
  try simp only [Act.put, List.setIfInBounds_toArray, List.set_cons_zero, List.set_cons_succ]
  refine hTake (i := 2) (d := some 51) (v := ?_) rfl rfl (by kernel_rfl) (by kernel_rfl) (by kernel_rfl) (fun _ _ _ h => h) (Or.inl ⟨by rfl, ?_⟩) (by assumption) ?_
  rotate_left
  · (intro w hSw; (try dsimp only at hSw); go_simp; try with_reducible rfl)
  try simp only [Act.put, List.setIfInBounds_toArray, List.set_cons_zero, List.set_cons_succ]
  refine hTake (i := 3) (d := some 52) (v := undef) rfl rfl (by kernel_rfl) (by kernel_rfl) (by kernel_rfl) (fun _ _ _ h => h) (Or.inr ⟨by rfl, rfl⟩) (by assumption) ?_
  try simp only [Act.put, List.setIfInBounds_toArray, List.set_cons_zero, List.set_cons_succ]
  refine hTake (i := 4) (d := some 53) (v := undef) rfl rfl (by kernel_rfl) (by kernel_rfl) (by kernel_rfl) (fun _ _ _ h => h) (Or.inr ⟨by rfl, rfl⟩) (by assumption) ?_
  try simp only [Act.put, List.setIfInBounds_toArray, List.set_cons_zero, List.set_cons_succ]
  refine hTake (i := 5) (d := some 54) (v := undef) rfl rfl (by kernel_rfl) (by kernel_rfl) (by kernel_rfl) (fun _ _ _ h => h) (Or.inr ⟨by rfl, rfl⟩) (by assumption) ?_
  try simp only [Act.put, List.setIfInBounds_toArray, List.set_cons_zero, List.set_cons_succ]
  refine hTake (i := 6) (d := some 55) (v := undef) rfl rfl (by kernel_rfl) (by kernel_rfl) (by kernel_rfl) (fun _ _ _ h => h) (Or.inr ⟨by rfl, rfl⟩) (by assumption) ?_
  try simp only [Act.put, List.setIfInBounds_toArray, List.set_cons_zero, List.set_cons_succ]
  refine hTake (i := 7) (d := some 56) (v := undef) rfl rfl (by kernel_rfl) (by kernel_rfl) (by kernel_rfl) (fun _ _ _ h => h) (Or.inr ⟨by rfl, rfl⟩) (by assumption) ?_
  try simp only [Act.put, List.setIfInBounds_toArray, List.set_cons_zero, List.set_cons_succ]
  refine hTake (i := 8) (d := some 57) (v := undef) rfl rfl (by kernel_rfl) (by kernel_rfl) (by kernel_rfl) (fun _ _ _ h => h) (Or.inr ⟨by rfl, rfl⟩) (by assumption) ?_
  try simp only [Act.put, List.setIfInBounds_toArray, List.set_cons_zero, List.set_cons_succ]
  refine hTake (i := 9) (d := some 58) (v := undef) rfl rfl (by kernel_rfl) (by kernel_rfl) (by kernel_rfl) (fun _ _ _ h => h) (Or.inr ⟨by rfl, rfl⟩) (by assumption) ?_
  try simp only [Act.put, List.setIfInBounds_toArray, List.set_cons_zero, List.set_cons_succ]
  refine hTake (i := 10) (d := some 59) (v := undef) rfl rfl (by kernel_rfl) (by kernel_rfl) (by kernel_rfl) (fun _ _ _ h => h) (Or.inr ⟨by rfl, rfl⟩) (by assumption) ?_
  try simp only [Act.put, List.setIfInBounds_toArray, List.set_cons_zero, List.set_cons_succ]
  refine hTake (i := 11) (d := some 60) (v := undef) rfl rfl (by kernel_rfl) (by kernel_rfl) (by kernel_rfl) (fun _ _ _ h => h) (Or.inr ⟨by rfl, rfl⟩) (by assumption) ?_
  try simp only [Act.put, List.setIfInBounds_toArray, List.set_cons_zero, List.set_cons_succ]
  refine hTake (i := 12) (d := some 61) (v := undef) rfl rfl (by kernel_rfl) (by kernel_rfl) (by kernel_rfl) (fun _ _ _ h => h) (Or.inr ⟨by rfl, rfl⟩) (by assumption) ?_
  try simp only [Act.put, List.setIfInBounds_toArray, List.set_cons_zero, List.set_cons_succ]
  refine hTake (i := 13) (d := some 62) (v := undef) rfl rfl (by kernel_rfl) (by kernel_rfl) (by kernel_rfl) (fun _ _ _ h => h) (Or.inr ⟨by rfl, rfl⟩) (by assumption) ?_
  try simp only [Act.put, List.setIfInBounds_toArray, List.set_cons_zero, List.set_cons_succ]
  refine hTake (i := 14) (d := some 63) (v := undef) rfl rfl (by kernel_rfl) (by kernel_rfl) (by kernel_rfl) (fun _ _ _ h => h) (Or.inr ⟨by rfl, rfl⟩) (by assumption) ?_
  try simp only [Act.put, List.setIfInBounds_toArray, List.set_cons_zero, List.set_cons_succ]
  refine hTake (i := 15) (d := some 64) (v := ?_) rfl rfl (by kernel_rfl) (by kernel_rfl) (by kernel_rfl) (fun _ _ _ h => h) (Or.inl ⟨by rfl, ?_⟩) (by assumption) ?_
  rotate_left
  · (intro w hSw; (try dsimp only at hSw); go_simp; try with_reducible rfl)
  try simp only [Act.put, List.setIfInBounds_toArray, List.set_cons_zero, List.set_cons_succ]
  refine hTake (i := 16) (d := some 65) (v := ?_) rfl rfl (by kernel_rfl) (by kernel_rfl) (by kernel_rfl) (fun _ _ _ h => h) (Or.inl ⟨by rfl, ?_⟩) (by assumption) ?_
  rotate_left
  · (intro w hSw; (try dsimp only at hSw); go_simp; try with_reducible rfl)
  try simp only [Act.put, List.setIfInBounds_toArray, List.set_cons_zero, List.set_cons_succ]
  refine wpAnyH_ready (rs := [17]) (by kernel_rfl) (by simp) ?_
  refine AllReadyH.cons (o := _) rfl (fun K hK => ?_) AllReadyH.nil
  go_simp
  refine (HAw.out _ (by first | assumption | exact hdq)).mono ?_; rintro e w9 ⟨rfl, hb9⟩
  refine hK.out _ _ ?_ (fun hHeld => ?_)
  · (refine HC.out _ ?_; repeat' (first | (with_reducible refine bq_drew ?_) | (with_reducible refine bq_alloc ?_ _) | (with_reducible exact bq_refl _) | assumption))
  clear hK K
  try simp only [Act.put, List.setIfInBounds_toArray, List.set_cons_zero, List.set_cons_succ]
  refine hTake (i := 18) (d := some 67) (v := ?_) rfl rfl (by kernel_rfl) (by kernel_rfl) (by kernel_rfl) (fun _ _ _ h => h) (Or.inl ⟨by rfl, ?_⟩) (by assumption) ?_
  rotate_left
  · (intro w hSw; (try dsimp only at hSw); go_simp; try with_reducible rfl)
  try simp only [Act.put, List.setIfInBounds_toArray, List.set_cons_zero, List.set_cons_succ]
  refine hTake (i := 19) (d := some 6) (v := ?_) rfl rfl (by kernel_rfl) (by kernel_rfl) (by kernel_rfl) (fun _ _ _ h => h) (Or.inl ⟨by rfl, ?_⟩) (by assumption) ?_
  rotate_left
  · (intro w hSw; (try dsimp only at hSw); go_simp; try with_reducible rfl)
  try simp only [Act.put, List.setIfInBounds_toArray, List.set_cons_zero, List.set_cons_succ]
  refine wpAnyH_done (by kernel_rfl) ?_ _
  all_goals
    go_wp2
    go_ret
    exact ⟨rfl, bq_trans HB.out hb9⟩
end Go.Proofs.Ytfaipbdkkkhacaa
/- Layer 7: FieldSizes, a way of it. -/
namespace Go.Proofs.Ytfaipbdkkkhacaa
open Go.RowKit
set_option linter.unusedVariables false
set_option linter.unusedSimpArgs false
set_option maxRecDepth 100000

theorem q8_01 (k : Nat) (h : k ≤ 100000) : IntKind.i64.wrap ((k : Int).tdiv 8) = ((k / 8 : Nat) : Int) := by
  rw [Int.tdiv_eq_ediv_of_nonneg (by omega), i64_wrap _ (by omega) (by omega)]
  omega
set_option maxHeartbeats 4000000 in
theorem sizes_01 (l r t b x y : Int) (u v : ByteArray) (m n : Nat) (w : World) (hl : I64 l) (hr : I64 r) (ht : I64 t) (hb : I64 b) (hx : I64 x) (hy : I64 y) (hm : m ≤ 64) (hn : n ≤ 64) (z1 : Int) (q1 : (z1 == 0) = false)  (em : mxW [l, r, t, b] = m) (en : mxW [x, y] = n)
     (hv : v.size = (14 + 2 * n) / 8)
    (A1 : Hid (∀ W, Calls Try.prog 9 #[.agg #[.string ⟨#[]⟩, .int .i64 0], .agg #[.int .i64 l, .int .i64 r, .int .i64 t, .int .i64 b]] W fun e w' => e = .returned (.tuple #[.agg #[.string u, .int .i64 0], .int .i64 z1]) ∧ Below W.heap.size W w'))
    (A2 : Hid (∀ W, Calls Try.prog 10 #[.agg #[.string ⟨#[]⟩, .int .i64 0], .agg #[.int .i64 65536, .int .i64 0, .int .i64 0, .int .i64 65536, .int .i64 x, .int .i64 y]] W fun e w' => e = .returned (.tuple #[.agg #[.string v, .int .i64 0], .int .i64 0]) ∧ Below W.heap.size W w')) :
    Calls Try.prog 7 #[.agg #[.int .i64 l, .int .i64 r, .int .i64 t, .int .i64 b], .int .i64 x, .int .i64 y] w fun e w' => e = .returned (.bool true) ∧ Below w.heap.size w w' := by
  have HF := Lib.hid (i64_4 hl hr ht hb)
  have HG := Lib.hid (i64_2 hx hy)
  have EM := Lib.hid em
  have EN := Lib.hid en
  
  have HV := Lib.hid hv
  clear hl hr ht hb hx hy em en  hv
  go_enter Try.func7, Try.ntmps7
  go_wp2_with (first
    | (refine wl_box 25 _ _ rfl rfl (show _ = Value.agg #[.int .i64 l, .int .i64 r, .int .i64 t, .int .i64 b] from rfl) ?_; intro W1 br Br_1 l1 k1; have gr : w.heap.size ≤ br := l1; have Hw1 := k1; clear l1 k1)
    | (refine wl_load 25 4 _ Try.underlying25 rfl size25 _ rfl rfl _ rfl _ _ Br_1 rfl ?_)
    | (go_at_call 9; (with_reducible refine (A1.out _).mono ?_); rintro e W2 ⟨rfl, k2⟩; have Br_2 := Br_1.keep k2; have Hw2 := bq_trans Hw1 k2; clear k2 Br_1 Hw1)
    | (refine wl_alloc 23 _ zero23 rfl rfl ?_; intro W3 bp Bp_3 l3 k3; have gp : w.heap.size ≤ bp := Nat.le_trans Hw2.size l3; have nrp : br ≠ bp := Nat.ne_of_lt (Nat.lt_of_lt_of_le Br_2.lt l3); have Br_3 := Br_2.keep k3; have Hw3 := bq_trans Hw2 k3; clear l3 k3 Br_2 Hw2)
    | (refine wl_store 23 2 size23 _ _ rfl rfl _ rfl _ rfl _ _ Bp_3 rfl rfl (by kernel_rfl) ?_; intro W4 Bp_4 T4; have Br_4 := T4.blk Br_3 nrp; have Hw4 := T4.below Hw3 gp; clear T4 Br_3 Bp_3 Hw3)
    | (refine wl_alloc 27 _ zero27 rfl rfl ?_; intro W5 bm Bm_5 l5 k5; have gm : w.heap.size ≤ bm := Nat.le_trans Hw4.size l5; have nrm : br ≠ bm := Nat.ne_of_lt (Nat.lt_of_lt_of_le Br_4.lt l5); have npm : bp ≠ bm := Nat.ne_of_lt (Nat.lt_of_lt_of_le Bp_4.lt l5); have Br_5 := Br_4.keep k5; have Bp_5 := Bp_4.keep k5; have Hw5 := bq_trans Hw4 k5; clear l5 k5 Br_4 Bp_4 Hw4)
    | (refine wl_store 27 6 size27 _ _ rfl rfl _ rfl _ rfl _ _ Bm_5 rfl rfl (by kernel_rfl) ?_; intro W6 Bm_6 T6; have Br_6 := T6.blk Br_5 nrm; have Bp_6 := T6.blk Bp_5 npm; have Hw6 := T6.below Hw5 gm; clear T6 Br_5 Bp_5 Bm_5 Hw5)
    | (refine wl_load 27 6 _ Try.underlying27 rfl size27 _ rfl rfl _ rfl _ _ Bm_6 rfl ?_)
    | (go_at_call 10; (with_reducible refine (A2.out _).mono ?_); rintro e W7 ⟨rfl, k7⟩; have Br_7 := Br_6.keep k7; have Bp_7 := Bp_6.keep k7; have Bm_7 := Bm_6.keep k7; have Hw7 := bq_trans Hw6 k7; clear k7 Br_6 Bp_6 Bm_6 Hw6)
    | (refine wl_alloc 23 _ zero23 rfl rfl ?_; intro W8 bv Bv_8 l8 k8; have gv : w.heap.size ≤ bv := Nat.le_trans Hw7.size l8; have nrv : br ≠ bv := Nat.ne_of_lt (Nat.lt_of_lt_of_le Br_7.lt l8); have npv : bp ≠ bv := Nat.ne_of_lt (Nat.lt_of_lt_of_le Bp_7.lt l8); have nmv : bm ≠ bv := Nat.ne_of_lt (Nat.lt_of_lt_of_le Bm_7.lt l8); have Br_8 := Br_7.keep k8; have Bp_8 := Bp_7.keep k8; have Bm_8 := Bm_7.keep k8; have Hw8 := bq_trans Hw7 k8; clear l8 k8 Br_7 Bp_7 Bm_7 Hw7)
    | (refine wl_store 23 2 size23 _ _ rfl rfl _ rfl _ rfl _ _ Bv_8 rfl rfl (by kernel_rfl) ?_; intro W9 Bv_9 T9; have Br_9 := T9.blk Br_8 nrv; have Bp_9 := T9.blk Bp_8 npv; have Bm_9 := T9.blk Bm_8 nmv; have Hw9 := T9.below Hw8 gv; clear T9 Br_8 Bp_8 Bm_8 Bv_8 Hw8))
  have HC : Hid (∀ w', Below W9.heap.size W9 w' → w'.cell? ⟨bp, 0, none⟩ = some (.string u) ∧ w'.cell? ⟨bv, 0, none⟩ = some (.string v) ∧ w'.cell? ⟨br, 0, none⟩ = some (.int .i64 l) ∧ w'.cell? ⟨br, 1, none⟩ = some (.int .i64 r) ∧ w'.cell? ⟨br, 2, none⟩ = some (.int .i64 t) ∧ w'.cell? ⟨br, 3, none⟩ = some (.int .i64 b)) := Lib.hid fun w' hw' => ⟨(Bp_9.keep hw').cell 0, (Bv_9.keep hw').cell 0, (Br_9.keep hw').cell 0, (Br_9.keep hw').cell 1, (Br_9.keep hw').cell 2, (Br_9.keep hw').cell 3⟩
  have HW4 : Hid (∀ g W, Below W9.heap.size W9 W → Blk W g #[.int .i64 l, .int .i64 r, .int .i64 t, .int .i64 b] 3 → Calls Try.prog 35 #[.slice (some ⟨g, 0, none⟩) 4 4] W fun e w' => e = .returned (.int .i64 (m : Int)) ∧ Below W9.heap.size W9 w') := Lib.hid fun g W h hB => by
    rw [← EM.out]
    exact (width_ints [l, r, t, b] _ g 0 4 W (by simp) (Blk.ints (zs := [l, r, t, b]) hB HF.out)).mono fun e w' ⟨h1, h2⟩ => ⟨h1, h2 ▸ h⟩
  have HW2 : Hid (∀ g W, Below W9.heap.size W9 W → Blk W g #[.int .i64 x, .int .i64 y] 3 → Calls Try.prog 35 #[.slice (some ⟨g, 0, none⟩) 2 2] W fun e w' => e = .returned (.int .i64 (n : Int)) ∧ Below W9.heap.size W9 w') := Lib.hid fun g W h hB => by
    rw [← EN.out]
    exact (width_ints [x, y] _ g 0 2 W (by simp) (Blk.ints (zs := [x, y]) hB HG.out)).mono fun e w' ⟨h1, h2⟩ => ⟨h1, h2 ▸ h⟩
  have HAw : Hid (∀ W, Below W9.heap.size W9 W → Calls Try.prog 8 #[] W fun e w' => e = .returned (.bool true) ∧ Below W9.heap.size W9 w') := Lib.hid fun W h => (awake_any W).mono fun e w' ⟨h1, h2⟩ => ⟨h1, bq_trans h h2⟩
  have hd0 : Below W9.heap.size W9 W9.drew := bq_drew (bq_refl W9)
  have HB := Lib.hid Hw9
  
  have c2 : ((v.size : Int) == IntKind.i64.wrap ((14 + 2 * (n : Int)).tdiv 8)) = true := by rw [HV.out, show (14 + 2 * (n : Int)) = ((14 + 2 * n : Nat) : Int) by omega, q8_01 _ (by omega)]; simp
  have wr1 : IntKind.i64.wrap (4 * (m : Int)) = 4 * (m : Int) := i64_wrap _ (by omega) (by omega)
  have wr2 : IntKind.i64.wrap (5 + 4 * (m : Int)) = 5 + 4 * (m : Int) := i64_wrap _ (by omega) (by omega)
  have wr3 : IntKind.i64.wrap (5 + 4 * (m : Int) + 7) = 12 + 4 * (m : Int) := by rw [i64_wrap _ (by omega) (by omega)]; omega
  have wr4 : IntKind.i64.wrap (2 * (n : Int)) = 2 * (n : Int) := i64_wrap _ (by omega) (by omega)
  have wr5 : IntKind.i64.wrap (7 + 2 * (n : Int)) = 7 + 2 * (n : Int) := i64_wrap _ (by omega) (by omega)
  have wr6 : IntKind.i64.wrap (7 + 2 * (n : Int) + 7) = 14 + 2 * (n : Int) := by rw [i64_wrap _ (by omega) (by omega)]; omega
  clear A1 A2 Br_9 Bp_9 Bm_9 Bv_9 Hw9
  go_quiet (fail)
  have hb8 : Below W9.heap.size W9 (W9.drewN nq) := bq_drewN (bq_refl W9) nq
  generalize W9.drewN nq = w8 at *
  go_wp2_with fail
  go_region_held3 (fun w' => w'.cell? ⟨bp, 0, none⟩ = some (.string u) ∧ w'.cell? ⟨bv, 0, none⟩ = some (.string v) ∧ w'.cell? ⟨br, 0, none⟩ = some (.int .i64 l) ∧ w'.cell? ⟨br, 1, none⟩ = some (.int .i64 r) ∧ w'.cell? ⟨br, 2, none⟩ = some (.int .i64 t) ∧ w'.cell? ⟨br, 3, none⟩ = some (.int .i64 b))
    ((refine HC.out _ ?_; repeat' (first | (with_reducible refine bq_drew ?_) | (with_reducible refine bq_alloc ?_ _) | (with_reducible exact bq_refl _) | assumption)))
    (first
      | (go_at_call 35; refine (HW2.out _ _ (by first | assumption | exact bq_drew (bq_alloc (bq_refl _) _) | exact bq_drew (bq_alloc (by assumption) _) | exact bq_drew (bq_alloc (bq_drew (bq_refl _)) _)) (Blk.drew (blk_new _ _ _))).mono ?_; rintro e w7 ⟨rfl, hb7⟩)
      | (go_at_call 8; refine (HAw.out _ (by first | assumption | exact bq_refl _ | exact bq_drew (bq_refl _) | exact bq_drew (by assumption))).mono ?_; rintro e w9 ⟨rfl, hb9⟩))
  all_goals
    go_wp2
    go_ret
    exact ⟨rfl, bq_trans HB.out hb9⟩
end Go.Proofs.Ytfaipbdkkkhacaa
/- Layer 7: FieldSizes, a way of it. -/
namespace Go.Proofs.Ytfaipbdkkkhacaa
open Go.RowKit
set_option linter.unusedVariables false
set_option linter.unusedSimpArgs false
set_option maxRecDepth 100000

theorem q8_10 (k : Nat) (h : k ≤ 100000) : IntKind.i64.wrap ((k : Int).tdiv 8) = ((k / 8 : Nat) : Int) := by
  rw [Int.tdiv_eq_ediv_of_nonneg (by omega), i64_wrap _ (by omega) (by omega)]
  omega
set_option maxHeartbeats 4000000 in
theorem sizes_10 (l r t b x y : Int) (u v : ByteArray) (m n : Nat) (w : World) (hl : I64 l) (hr : I64 r) (ht : I64 t) (hb : I64 b) (hx : I64 x) (hy : I64 y) (hm : m ≤ 64) (hn : n ≤ 64)  (z2 : Int) (q2 : (z2 != 0) = true) (em : mxW [l, r, t, b] = m) (en : mxW [x, y] = n)
    (hu : u.size = (12 + 4 * m) / 8) 
    (A1 : Hid (∀ W, Calls Try.prog 9 #[.agg #[.string ⟨#[]⟩, .int .i64 0], .agg #[.int .i64 l, .int .i64 r, .int .i64 t, .int .i64 b]] W fun e w' => e = .returned (.tuple #[.agg #[.string u, .int .i64 0], .int .i64 0]) ∧ Below W.heap.size W w'))
    (A2 : Hid (∀ W, Calls Try.prog 10 #[.agg #[.string ⟨#[]⟩, .int .i64 0], .agg #[.int .i64 65536, .int .i64 0, .int .i64 0, .int .i64 65536, .int .i64 x, .int .i64 y]] W fun e w' => e = .returned (.tuple #[.agg #[.string v, .int .i64 0], .int .i64 z2]) ∧ Below W.heap.size W w')) :
    Calls Try.prog 7 #[.agg #[.int .i64 l, .int .i64 r, .int .i64 t, .int .i64 b], .int .i64 x, .int .i64 y] w fun e w' => e = .returned (.bool true) ∧ Below w.heap.size w w' := by
  have HF := Lib.hid (i64_4 hl hr ht hb)
  have HG := Lib.hid (i64_2 hx hy)
  have EM := Lib.hid em
  have EN := Lib.hid en
  have HU := Lib.hid hu
  
  clear hl hr ht hb hx hy em en hu 
  go_enter Try.func7, Try.ntmps7
  go_wp2_with (first
    | (refine wl_box 25 _ _ rfl rfl (show _ = Value.agg #[.int .i64 l, .int .i64 r, .int .i64 t, .int .i64 b] from rfl) ?_; intro W1 br Br_1 l1 k1; have gr : w.heap.size ≤ br := l1; have Hw1 := k1; clear l1 k1)
    | (refine wl_load 25 4 _ Try.underlying25 rfl size25 _ rfl rfl _ rfl _ _ Br_1 rfl ?_)
    | (go_at_call 9; (with_reducible refine (A1.out _).mono ?_); rintro e W2 ⟨rfl, k2⟩; have Br_2 := Br_1.keep k2; have Hw2 := bq_trans Hw1 k2; clear k2 Br_1 Hw1)
    | (refine wl_alloc 23 _ zero23 rfl rfl ?_; intro W3 bp Bp_3 l3 k3; have gp : w.heap.size ≤ bp := Nat.le_trans Hw2.size l3; have nrp : br ≠ bp := Nat.ne_of_lt (Nat.lt_of_lt_of_le Br_2.lt l3); have Br_3 := Br_2.keep k3; have Hw3 := bq_trans Hw2 k3; clear l3 k3 Br_2 Hw2)
    | (refine wl_store 23 2 size23 _ _ rfl rfl _ rfl _ rfl _ _ Bp_3 rfl rfl (by kernel_rfl) ?_; intro W4 Bp_4 T4; have Br_4 := T4.blk Br_3 nrp; have Hw4 := T4.below Hw3 gp; clear T4 Br_3 Bp_3 Hw3)
    | (refine wl_alloc 27 _ zero27 rfl rfl ?_; intro W5 bm Bm_5 l5 k5; have gm : w.heap.size ≤ bm := Nat.le_trans Hw4.size l5; have nrm : br ≠ bm := Nat.ne_of_lt (Nat.lt_of_lt_of_le Br_4.lt l5); have npm : bp ≠ bm := Nat.ne_of_lt (Nat.lt_of_lt_of_le Bp_4.lt l5); have Br_5 := Br_4.keep k5; have Bp_5 := Bp_4.keep k5; have Hw5 := bq_trans Hw4 k5; clear l5 k5 Br_4 Bp_4 Hw4)
    | (refine wl_store 27 6 size27 _ _ rfl rfl _ rfl _ rfl _ _ Bm_5 rfl rfl (by kernel_rfl) ?_; intro W6 Bm_6 T6; have Br_6 := T6.blk Br_5 nrm; have Bp_6 := T6.blk Bp_5 npm; have Hw6 := T6.below Hw5 gm; clear T6 Br_5 Bp_5 Bm_5 Hw5)
    | (refine wl_load 27 6 _ Try.underlying27 rfl size27 _ rfl rfl _ rfl _ _ Bm_6 rfl ?_)
    | (go_at_call 10; (with_reducible refine (A2.out _).mono ?_); rintro e W7 ⟨rfl, k7⟩; have Br_7 := Br_6.keep k7; have Bp_7 := Bp_6.keep k7; have Bm_7 := Bm_6.keep k7; have Hw7 := bq_trans Hw6 k7; clear k7 Br_6 Bp_6 Bm_6 Hw6)
    | (refine wl_alloc 23 _ zero23 rfl rfl ?_; intro W8 bv Bv_8 l8 k8; have gv : w.heap.size ≤ bv := Nat.le_trans Hw7.size l8; have nrv : br ≠ bv := Nat.ne_of_lt (Nat.lt_of_lt_of_le Br_7.lt l8); have npv : bp ≠ bv := Nat.ne_of_lt (Nat.lt_of_lt_of_le Bp_7.lt l8); have nmv : bm ≠ bv := Nat.ne_of_lt (Nat.lt_of_lt_of_le Bm_7.lt l8); have Br_8 := Br_7.keep k8; have Bp_8 := Bp_7.keep k8; have Bm_8 := Bm_7.keep k8; have Hw8 := bq_trans Hw7 k8; clear l8 k8 Br_7 Bp_7 Bm_7 Hw7)
    | (refine wl_store 23 2 size23 _ _ rfl rfl _ rfl _ rfl _ _ Bv_8 rfl rfl (by kernel_rfl) ?_; intro W9 Bv_9 T9; have Br_9 := T9.blk Br_8 nrv; have Bp_9 := T9.blk Bp_8 npv; have Bm_9 := T9.blk Bm_8 nmv; have Hw9 := T9.below Hw8 gv; clear T9 Br_8 Bp_8 Bm_8 Bv_8 Hw8))
  have HC : Hid (∀ w', Below W9.heap.size W9 w' → w'.cell? ⟨bp, 0, none⟩ = some (.string u) ∧ w'.cell? ⟨bv, 0, none⟩ = some (.string v) ∧ w'.cell? ⟨br, 0, none⟩ = some (.int .i64 l) ∧ w'.cell? ⟨br, 1, none⟩ = some (.int .i64 r) ∧ w'.cell? ⟨br, 2, none⟩ = some (.int .i64 t) ∧ w'.cell? ⟨br, 3, none⟩ = some (.int .i64 b)) := Lib.hid fun w' hw' => ⟨(Bp_9.keep hw').cell 0, (Bv_9.keep hw').cell 0, (Br_9.keep hw').cell 0, (Br_9.keep hw').cell 1, (Br_9.keep hw').cell 2, (Br_9.keep hw').cell 3⟩
  have HW4 : Hid (∀ g W, Below W9.heap.size W9 W → Blk W g #[.int .i64 l, .int .i64 r, .int .i64 t, .int .i64 b] 3 → Calls Try.prog 35 #[.slice (some ⟨g, 0, none⟩) 4 4] W fun e w' => e = .returned (.int .i64 (m : Int)) ∧ Below W9.heap.size W9 w') := Lib.hid fun g W h hB => by
    rw [← EM.out]
    exact (width_ints [l, r, t, b] _ g 0 4 W (by simp) (Blk.ints (zs := [l, r, t, b]) hB HF.out)).mono fun e w' ⟨h1, h2⟩ => ⟨h1, h2 ▸ h⟩
  have HW2 : Hid (∀ g W, Below W9.heap.size W9 W → Blk W g #[.int .i64 x, .int .i64 y] 3 → Calls Try.prog 35 #[.slice (some ⟨g, 0, none⟩) 2 2] W fun e w' => e = .returned (.int .i64 (n : Int)) ∧ Below W9.heap.size W9 w') := Lib.hid fun g W h hB => by
    rw [← EN.out]
    exact (width_ints [x, y] _ g 0 2 W (by simp) (Blk.ints (zs := [x, y]) hB HG.out)).mono fun e w' ⟨h1, h2⟩ => ⟨h1, h2 ▸ h⟩
  have HAw : Hid (∀ W, Below W9.heap.size W9 W → Calls Try.prog 8 #[] W fun e w' => e = .returned (.bool true) ∧ Below W9.heap.size W9 w') := Lib.hid fun W h => (awake_any W).mono fun e w' ⟨h1, h2⟩ => ⟨h1, bq_trans h h2⟩
  have hd0 : Below W9.heap.size W9 W9.drew := bq_drew (bq_refl W9)
  have HB := Lib.hid Hw9
  have c1 : ((u.size : Int) != IntKind.i64.wrap ((12 + 4 * (m : Int)).tdiv 8)) = false := by rw [HU.out, show (12 + 4 * (m : Int)) = ((12 + 4 * m : Nat) : Int) by omega, q8_10 _ (by omega)]; simp
  
  have wr1 : IntKind.i64.wrap (4 * (m : Int)) = 4 * (m : Int) := i64_wrap _ (by omega) (by omega)
  have wr2 : IntKind.i64.wrap (5 + 4 * (m : Int)) = 5 + 4 * (m : Int) := i64_wrap _ (by omega) (by omega)
  have wr3 : IntKind.i64.wrap (5 + 4 * (m : Int) + 7) = 12 + 4 * (m : Int) := by rw [i64_wrap _ (by omega) (by omega)]; omega
  have wr4 : IntKind.i64.wrap (2 * (n : Int)) = 2 * (n : Int) := i64_wrap _ (by omega) (by omega)
  have wr5 : IntKind.i64.wrap (7 + 2 * (n : Int)) = 7 + 2 * (n : Int) := i64_wrap _ (by omega) (by omega)
  have wr6 : IntKind.i64.wrap (7 + 2 * (n : Int) + 7) = 14 + 2 * (n : Int) := by rw [i64_wrap _ (by omega) (by omega)]; omega
  clear A1 A2 Br_9 Bp_9 Bm_9 Bv_9 Hw9
  go_region_held3 (fun w' => w'.cell? ⟨bp, 0, none⟩ = some (.string u) ∧ w'.cell? ⟨bv, 0, none⟩ = some (.string v) ∧ w'.cell? ⟨br, 0, none⟩ = some (.int .i64 l) ∧ w'.cell? ⟨br, 1, none⟩ = some (.int .i64 r) ∧ w'.cell? ⟨br, 2, none⟩ = some (.int .i64 t) ∧ w'.cell? ⟨br, 3, none⟩ = some (.int .i64 b))
    ((refine HC.out _ ?_; repeat' (first | (with_reducible refine bq_drew ?_) | (with_reducible refine bq_alloc ?_ _) | (with_reducible exact bq_refl _) | assumption)))
    (first
      | (go_at_call 35; refine (HW4.out _ _ (by first | assumption | exact bq_drew (bq_alloc (bq_refl _) _) | exact bq_drew (bq_alloc (by assumption) _) | exact bq_drew (bq_alloc (bq_drew (bq_refl _)) _)) (Blk.drew (blk_new _ _ _))).mono ?_; rintro e w8 ⟨rfl, hb8⟩))
  go_wp2_with fail
  have hdq : Below W9.heap.size W9 w8.drew := bq_drew hb8
  refine wp_region_held_drew (S := (fun w' => w'.cell? ⟨bp, 0, none⟩ = some (.string u) ∧ w'.cell? ⟨bv, 0, none⟩ = some (.string v) ∧ w'.cell? ⟨br, 0, none⟩ = some (.int .i64 l) ∧ w'.cell? ⟨br, 1, none⟩ = some (.int .i64 r) ∧ w'.cell? ⟨br, 2, none⟩ = some (.int .i64 t) ∧ w'.cell? ⟨br, 3, none⟩ = some (.int .i64 b))) (by kernel_rfl) ?_ (fun hHeld => ?_)
  · (refine HC.out _ ?_; repeat' (first | (with_reducible refine bq_drew ?_) | (with_reducible refine bq_alloc ?_ _) | (with_reducible exact bq_refl _) | assumption))
  refine hTake (i := 0) (d := some 49) (v := ?_) rfl rfl (by kernel_rfl) (by kernel_rfl) (by kernel_rfl) (fun _ _ _ h => h) (Or.inl ⟨by rfl, ?_⟩) (by assumption) ?_
  rotate_left
  · (intro w hSw; (try dsimp only at hSw); go_simp; try with_reducible rfl)
  try simp only [Act.put, List.setIfInBounds_toArray, List.set_cons_zero, List.set_cons_succ]
  refine hTake (i := 1) (d := some 50) (v := ?_) rfl rfl (by kernel_rfl) (by kernel_rfl) (by kernel_rfl) (fun _ _ _ h => h) (Or.inl ⟨by rfl, ?_⟩) (by assumption) ?_
  rotate_left
  · (intro w hSw; (try dsimp only at hSw); go_simp; try with_reducible rfl)
  try simp only [Act.put, List.setIfInBounds_toArray, List.set_cons_zero, List.set_cons_succ]
  refine hTake (i := 2) (d := some 51) (v := ?_) rfl rfl (by kernel_rfl) (by kernel_rfl) (by kernel_rfl) (fun _ _ _ h => h) (Or.inl ⟨by rfl, ?_⟩) (by assumption) ?_
  rotate_left
  · (intro w hSw; (try dsimp only at hSw); go_simp; try with_reducible rfl)
  try simp only [Act.put, List.setIfInBounds_toArray, List.set_cons_zero, List.set_cons_succ]
  refine hTake (i := 3) (d := some 52) (v := undef) rfl rfl (by kernel_rfl) (by kernel_rfl) (by kernel_rfl) (fun _ _ _ h => h) (Or.inr ⟨by rfl, rfl⟩) (by assumption) ?_
  try simp only [Act.put, List.setIfInBounds_toArray, List.set_cons_zero, List.set_cons_succ]
  refine hTake (i := 4) (d := some 53) (v := undef) rfl rfl (by kernel_rfl) (by kernel_rfl) (by kernel_rfl) (fun _ _ _ h => h) (Or.inr ⟨by rfl, rfl⟩) (by assumption) ?_
  try simp only [Act.put, List.setIfInBounds_toArray, List.set_cons_zero, List.set_cons_succ]
  refine hTake (i := 5) (d := some 54) (v := undef) rfl rfl (by kernel_rfl) (by kernel_rfl) (by kernel_rfl) (fun _ _ _ h => h) (Or.inr ⟨by rfl, rfl⟩) (by assumption) ?_
  try simp only [Act.put, List.setIfInBounds_toArray, List.set_cons_zero, List.set_cons_succ]
  refine hTake (i := 6) (d := some 55) (v := undef) rfl rfl (by kernel_rfl) (by kernel_rfl) (by kernel_rfl) (fun _ _ _ h => h) (Or.inr ⟨by rfl, rfl⟩) (by assumption) ?_
  try simp only [Act.put, List.setIfInBounds_toArray, List.set_cons_zero, List.set_cons_succ]
  refine hTake (i := 7) (d := some 56) (v := undef) rfl rfl (by kernel_rfl) (by kernel_rfl) (by kernel_rfl) (fun _ _ _ h => h) (Or.inr ⟨by rfl, rfl⟩) (by assumption) ?_
  try simp only [Act.put, List.setIfInBounds_toArray, List.set_cons_zero, List.set_cons_succ]
  refine hTake (i := 8) (d := some 57) (v := undef) rfl rfl (by kernel_rfl) (by kernel_rfl) (by kernel_rfl) (fun _ _ _ h => h) (Or.inr ⟨by rfl, rfl⟩) (by assumption) ?_
  try simp only [Act.put, List.setIfInBounds_toArray, List.set_cons_zero, List.set_cons_succ]
  refine hTake (i := 9) (d := some 58) (v := undef) rfl rfl (by kernel_rfl) (by kernel_rfl) (by kernel_rfl) (fun _ _ _ h => h) (Or.inr ⟨by rfl, rfl⟩) (by assumption) ?_
  try simp only [Act.put, List.setIfInBounds_toArray, List.set_cons_zero, List.set_cons_succ]
  refine hTake (i := 10) (d := some 59) (v := undef) rfl rfl (by kernel_rfl) (by kernel_rfl) (by kernel_rfl) (fun _ _ _ h => h) (Or.inr ⟨by rfl, rfl⟩) (by assumption) ?_
  try simp only [Act.put, List.setIfInBounds_toArray, List.set_cons_zero, List.set_cons_succ]
  refine hTake (i := 11) (d := some 60) (v := undef) rfl rfl (by kernel_rfl) (by kernel_rfl) (by kernel_rfl) (fun _ _ _ h => h) (Or.inr ⟨by rfl, rfl⟩) (by assumption) ?_
  try simp only [Act.put, List.setIfInBounds_toArray, List.set_cons_zero, List.set_cons_succ]
  refine hTake (i := 12) (d := some 61) (v := undef) rfl rfl (by kernel_rfl) (by kernel_rfl) (by kernel_rfl) (fun _ _ _ h => h) (Or.inr ⟨by rfl, rfl⟩) (by assumption) ?_
  try simp only [Act.put, List.setIfInBounds_toArray, List.set_cons_zero, List.set_cons_succ]
  refine hTake (i := 13) (d := some 62) (v := undef) rfl rfl (by kernel_rfl) (by kernel_rfl) (by kernel_rfl) (fun _ _ _ h => h) (Or.inr ⟨by rfl, rfl⟩) (by assumption) ?_
  try simp only [Act.put, List.setIfInBounds_toArray, List.set_cons_zero, List.set_cons_succ]
  refine hTake (i := 14) (d := some 63) (v := undef) rfl rfl (by kernel_rfl) (by kernel_rfl) (by kernel_rfl) (fun _ _ _ h => h) (Or.inr ⟨by rfl, rfl⟩) (by assumption) ?_
  try simp only [Act.put, List.setIfInBounds_toArray, List.set_cons_zero, List.set_cons_succ]
  refine hTake (i := 15) (d := some 64) (v := ?_) rfl rfl (by kernel_rfl) (by kernel_rfl) (by kernel_rfl) (fun _ _ _ h => h) (Or.inl ⟨by rfl, ?_⟩) (by assumption) ?_
  rotate_left
  · (intro w hSw; (try dsimp only at hSw); go_simp; try with_reducible rfl)
  try simp only [Act.put, List.setIfInBounds_toArray, List.set_cons_zero, List.set_cons_succ]
  refine hTake (i := 16) (d := some 65) (v := ?_) rfl rfl (by kernel_rfl) (by kernel_rfl) (by kernel_rfl) (fun _ _ _ h => h) (Or.inl ⟨by rfl, ?_⟩) (by assumption) ?_
  rotate_left
  · (intro w hSw; (try dsimp only at hSw); go_simp; try with_reducible rfl)
  try simp only [Act.put, List.setIfInBounds_toArray, List.set_cons_zero, List.set_cons_succ]
  refine wpAnyH_ready (rs := [17]) (by kernel_rfl) (by simp) ?_
  refine AllReadyH.cons (o := _) rfl (fun K hK => ?_) AllReadyH.nil
  go_simp
  refine (HAw.out _ (by first | assumption | exact hdq)).mono ?_; rintro e w9 ⟨rfl, hb9⟩
  refine hK.out _ _ ?_ (fun hHeld => ?_)
  · (refine HC.out _ ?_; repeat' (first | (with_reducible refine bq_drew ?_) | (with_reducible refine bq_alloc ?_ _) | (with_reducible exact bq_refl _) | assumption))
  clear hK K
  try simp only [Act.put, List.setIfInBounds_toArray, List.set_cons_zero, List.set_cons_succ]
  refine hTake (i := 18) (d := some 67) (v := ?_) rfl rfl (by kernel_rfl) (by kernel_rfl) (by kernel_rfl) (fun _ _ _ h => h) (Or.inl ⟨by rfl, ?_⟩) (by assumption) ?_
  rotate_left
  · (intro w hSw; (try dsimp only at hSw); go_simp; try with_reducible rfl)
  try simp only [Act.put, List.setIfInBounds_toArray, List.set_cons_zero, List.set_cons_succ]
  refine hTake (i := 19) (d := some 6) (v := ?_) rfl rfl (by kernel_rfl) (by kernel_rfl) (by kernel_rfl) (fun _ _ _ h => h) (Or.inl ⟨by rfl, ?_⟩) (by assumption) ?_
  rotate_left
  · (intro w hSw; (try dsimp only at hSw); go_simp; try with_reducible rfl)
  try simp only [Act.put, List.setIfInBounds_toArray, List.set_cons_zero, List.set_cons_succ]
  refine wpAnyH_done (by kernel_rfl) ?_ _
  all_goals
    go_wp2
    go_ret
    exact ⟨rfl, bq_trans HB.out hb9⟩
end Go.Proofs.Ytfaipbdkkkhacaa
/- Layer 7: FieldSizes, a way of it. -/
namespace Go.Proofs.Ytfaipbdkkkhacaa
open Go.RowKit
set_option linter.unusedVariables false
set_option linter.unusedSimpArgs false
set_option maxRecDepth 100000

theorem q8_11 (k : Nat) (h : k ≤ 100000) : IntKind.i64.wrap ((k : Int).tdiv 8) = ((k / 8 : Nat) : Int) := by
  rw [Int.tdiv_eq_ediv_of_nonneg (by omega), i64_wrap _ (by omega) (by omega)]
  omega
set_option maxHeartbeats 4000000 in
theorem sizes_11 (l r t b x y : Int) (u v : ByteArray) (m n : Nat) (w : World) (hl : I64 l) (hr : I64 r) (ht : I64 t) (hb : I64 b) (hx : I64 x) (hy : I64 y) (hm : m ≤ 64) (hn : n ≤ 64)   (em : mxW [l, r, t, b] = m) (en : mxW [x, y] = n)
    (hu : u.size = (12 + 4 * m) / 8) (hv : v.size = (14 + 2 * n) / 8)
    (A1 : Hid (∀ W, Calls Try.prog 9 #[.agg #[.string ⟨#[]⟩, .int .i64 0], .agg #[.int .i64 l, .int .i64 r, .int .i64 t, .int .i64 b]] W fun e w' => e = .returned (.tuple #[.agg #[.string u, .int .i64 0], .int .i64 0]) ∧ Below W.heap.size W w'))
    (A2 : Hid (∀ W, Calls Try.prog 10 #[.agg #[.string ⟨#[]⟩, .int .i64 0], .agg #[.int .i64 65536, .int .i64 0, .int .i64 0, .int .i64 65536, .int .i64 x, .int .i64 y]] W fun e w' => e = .returned (.tuple #[.agg #[.string v, .int .i64 0], .int .i64 0]) ∧ Below W.heap.size W w')) :
    Calls Try.prog 7 #[.agg #[.int .i64 l, .int .i64 r, .int .i64 t, .int .i64 b], .int .i64 x, .int .i64 y] w fun e w' => e = .returned (.bool true) ∧ Below w.heap.size w w' := by
  have HF := Lib.hid (i64_4 hl hr ht hb)
  have HG := Lib.hid (i64_2 hx hy)
  have EM := Lib.hid em
  have EN := Lib.hid en
  have HU := Lib.hid hu
  have HV := Lib.hid hv
  clear hl hr ht hb hx hy em en hu hv
  go_enter Try.func7, Try.ntmps7
  go_wp2_with (first
    | (refine wl_box 25 _ _ rfl rfl (show _ = Value.agg #[.int .i64 l, .int .i64 r, .int .i64 t, .int .i64 b] from rfl) ?_; intro W1 br Br_1 l1 k1; have gr : w.heap.size ≤ br := l1; have Hw1 := k1; clear l1 k1)
    | (refine wl_load 25 4 _ Try.underlying25 rfl size25 _ rfl rfl _ rfl _ _ Br_1 rfl ?_)
    | (go_at_call 9; (with_reducible refine (A1.out _).mono ?_); rintro e W2 ⟨rfl, k2⟩; have Br_2 := Br_1.keep k2; have Hw2 := bq_trans Hw1 k2; clear k2 Br_1 Hw1)
    | (refine wl_alloc 23 _ zero23 rfl rfl ?_; intro W3 bp Bp_3 l3 k3; have gp : w.heap.size ≤ bp := Nat.le_trans Hw2.size l3; have nrp : br ≠ bp := Nat.ne_of_lt (Nat.lt_of_lt_of_le Br_2.lt l3); have Br_3 := Br_2.keep k3; have Hw3 := bq_trans Hw2 k3; clear l3 k3 Br_2 Hw2)
    | (refine wl_store 23 2 size23 _ _ rfl rfl _ rfl _ rfl _ _ Bp_3 rfl rfl (by kernel_rfl) ?_; intro W4 Bp_4 T4; have Br_4 := T4.blk Br_3 nrp; have Hw4 := T4.below Hw3 gp; clear T4 Br_3 Bp_3 Hw3)
    | (refine wl_alloc 27 _ zero27 rfl rfl ?_; intro W5 bm Bm_5 l5 k5; have gm : w.heap.size ≤ bm := Nat.le_trans Hw4.size l5; have nrm : br ≠ bm := Nat.ne_of_lt (Nat.lt_of_lt_of_le Br_4.lt l5); have npm : bp ≠ bm := Nat.ne_of_lt (Nat.lt_of_lt_of_le Bp_4.lt l5); have Br_5 := Br_4.keep k5; have Bp_5 := Bp_4.keep k5; have Hw5 := bq_trans Hw4 k5; clear l5 k5 Br_4 Bp_4 Hw4)
    | (refine wl_store 27 6 size27 _ _ rfl rfl _ rfl _ rfl _ _ Bm_5 rfl rfl (by kernel_rfl) ?_; intro W6 Bm_6 T6; have Br_6 := T6.blk Br_5 nrm; have Bp_6 := T6.blk Bp_5 npm; have Hw6 := T6.below Hw5 gm; clear T6 Br_5 Bp_5 Bm_5 Hw5)
    | (refine wl_load 27 6 _ Try.underlying27 rfl size27 _ rfl rfl _ rfl _ _ Bm_6 rfl ?_)
    | (go_at_call 10; (with_reducible refine (A2.out _).mono ?_); rintro e W7 ⟨rfl, k7⟩; have Br_7 := Br_6.keep k7; have Bp_7 := Bp_6.keep k7; have Bm_7 := Bm_6.keep k7; have Hw7 := bq_trans Hw6 k7; clear k7 Br_6 Bp_6 Bm_6 Hw6)
    | (refine wl_alloc 23 _ zero23 rfl rfl ?_; intro W8 bv Bv_8 l8 k8; have gv : w.heap.size ≤ bv := Nat.le_trans Hw7.size l8; have nrv : br ≠ bv := Nat.ne_of_lt (Nat.lt_of_lt_of_le Br_7.lt l8); have npv : bp ≠ bv := Nat.ne_of_lt (Nat.lt_of_lt_of_le Bp_7.lt l8); have nmv : bm ≠ bv := Nat.ne_of_lt (Nat.lt_of_lt_of_le Bm_7.lt l8); have Br_8 := Br_7.keep k8; have Bp_8 := Bp_7.keep k8; have Bm_8 := Bm_7.keep k8; have Hw8 := bq_trans Hw7 k8; clear l8 k8 Br_7 Bp_7 Bm_7 Hw7)
    | (refine wl_store 23 2 size23 _ _ rfl rfl _ rfl _ rfl _ _ Bv_8 rfl rfl (by kernel_rfl) ?_; intro W9 Bv_9 T9; have Br_9 := T9.blk Br_8 nrv; have Bp_9 := T9.blk Bp_8 npv; have Bm_9 := T9.blk Bm_8 nmv; have Hw9 := T9.below Hw8 gv; clear T9 Br_8 Bp_8 Bm_8 Bv_8 Hw8))
  have HC : Hid (∀ w', Below W9.heap.size W9 w' → w'.cell? ⟨bp, 0, none⟩ = some (.string u) ∧ w'.cell? ⟨bv, 0, none⟩ = some (.string v) ∧ w'.cell? ⟨br, 0, none⟩ = some (.int .i64 l) ∧ w'.cell? ⟨br, 1, none⟩ = some (.int .i64 r) ∧ w'.cell? ⟨br, 2, none⟩ = some (.int .i64 t) ∧ w'.cell? ⟨br, 3, none⟩ = some (.int .i64 b)) := Lib.hid fun w' hw' => ⟨(Bp_9.keep hw').cell 0, (Bv_9.keep hw').cell 0, (Br_9.keep hw').cell 0, (Br_9.keep hw').cell 1, (Br_9.keep hw').cell 2, (Br_9.keep hw').cell 3⟩
  have HW4 : Hid (∀ g W, Below W9.heap.size W9 W → Blk W g #[.int .i64 l, .int .i64 r, .int .i64 t, .int .i64 b] 3 → Calls Try.prog 35 #[.slice (some ⟨g, 0, none⟩) 4 4] W fun e w' => e = .returned (.int .i64 (m : Int)) ∧ Below W9.heap.size W9 w') := Lib.hid fun g W h hB => by
    rw [← EM.out]
    exact (width_ints [l, r, t, b] _ g 0 4 W (by simp) (Blk.ints (zs := [l, r, t, b]) hB HF.out)).mono fun e w' ⟨h1, h2⟩ => ⟨h1, h2 ▸ h⟩
  have HW2 : Hid (∀ g W, Below W9.heap.size W9 W → Blk W g #[.int .i64 x, .int .i64 y] 3 → Calls Try.prog 35 #[.slice (some ⟨g, 0, none⟩) 2 2] W fun e w' => e = .returned (.int .i64 (n : Int)) ∧ Below W9.heap.size W9 w') := Lib.hid fun g W h hB => by
    rw [← EN.out]
    exact (width_ints [x, y] _ g 0 2 W (by simp) (Blk.ints (zs := [x, y]) hB HG.out)).mono fun e w' ⟨h1, h2⟩ => ⟨h1, h2 ▸ h⟩
  have HAw : Hid (∀ W, Below W9.heap.size W9 W → Calls Try.prog 8 #[] W fun e w' => e = .returned (.bool true) ∧ Below W9.heap.size W9 w') := Lib.hid fun W h => (awake_any W).mono fun e w' ⟨h1, h2⟩ => ⟨h1, bq_trans h h2⟩
  have hd0 : Below W9.heap.size W9 W9.drew := bq_drew (bq_refl W9)
  have HB := Lib.hid Hw9
  have c1 : ((u.size : Int) != IntKind.i64.wrap ((12 + 4 * (m : Int)).tdiv 8)) = false := by rw [HU.out, show (12 + 4 * (m : Int)) = ((12 + 4 * m : Nat) : Int) by omega, q8_11 _ (by omega)]; simp
  have c2 : ((v.size : Int) == IntKind.i64.wrap ((14 + 2 * (n : Int)).tdiv 8)) = true := by rw [HV.out, show (14 + 2 * (n : Int)) = ((14 + 2 * n : Nat) : Int) by omega, q8_11 _ (by omega)]; simp
  have wr1 : IntKind.i64.wrap (4 * (m : Int)) = 4 * (m : Int) := i64_wrap _ (by omega) (by omega)
  have wr2 : IntKind.i64.wrap (5 + 4 * (m : Int)) = 5 + 4 * (m : Int) := i64_wrap _ (by omega) (by omega)
  have wr3 : IntKind.i64.wrap (5 + 4 * (m : Int) + 7) = 12 + 4 * (m : Int) := by rw [i64_wrap _ (by omega) (by omega)]; omega
  have wr4 : IntKind.i64.wrap (2 * (n : Int)) = 2 * (n : Int) := i64_wrap _ (by omega) (by omega)
  have wr5 : IntKind.i64.wrap (7 + 2 * (n : Int)) = 7 + 2 * (n : Int) := i64_wrap _ (by omega) (by omega)
  have wr6 : IntKind.i64.wrap (7 + 2 * (n : Int) + 7) = 14 + 2 * (n : Int) := by rw [i64_wrap _ (by omega) (by omega)]; omega
  clear A1 A2 Br_9 Bp_9 Bm_9 Bv_9 Hw9
  go_region_held3 (fun w' => w'.cell? ⟨bp, 0, none⟩ = some (.string u) ∧ w'.cell? ⟨bv, 0, none⟩ = some (.string v) ∧ w'.cell? ⟨br, 0, none⟩ = some (.int .i64 l) ∧ w'.cell? ⟨br, 1, none⟩ = some (.int .i64 r) ∧ w'.cell? ⟨br, 2, none⟩ = some (.int .i64 t) ∧ w'.cell? ⟨br, 3, none⟩ = some (.int .i64 b))
    ((refine HC.out _ ?_; repeat' (first | (with_reducible refine bq_drew ?_) | (with_reducible refine bq_alloc ?_ _) | (with_reducible exact bq_refl _) | assumption)))
    (first
      | (go_at_call 35; refine (HW4.out _ _ (by first | assumption | exact bq_drew (bq_alloc (bq_refl _) _) | exact bq_drew (bq_alloc (by assumption) _) | exact bq_drew (bq_alloc (bq_drew (bq_refl _)) _)) (Blk.drew (blk_new _ _ _))).mono ?_; rintro e w8 ⟨rfl, hb8⟩))
  go_wp2_with fail
  go_region_held3 (fun w' => w'.cell? ⟨bp, 0, none⟩ = some (.string u) ∧ w'.cell? ⟨bv, 0, none⟩ = some (.string v) ∧ w'.cell? ⟨br, 0, none⟩ = some (.int .i64 l) ∧ w'.cell? ⟨br, 1, none⟩ = some (.int .i64 r) ∧ w'.cell? ⟨br, 2, none⟩ = some (.int .i64 t) ∧ w'.cell? ⟨br, 3, none⟩ = some (.int .i64 b))
    ((refine HC.out _ ?_; repeat' (first | (with_reducible refine bq_drew ?_) | (with_reducible refine bq_alloc ?_ _) | (with_reducible exact bq_refl _) | assumption)))
    (first
      | (go_at_call 35; refine (HW2.out _ _ (by first | assumption | exact bq_drew (bq_alloc (bq_refl _) _) | exact bq_drew (bq_alloc (by assumption) _) | exact bq_drew (bq_alloc (bq_drew (bq_refl _)) _)) (Blk.drew (blk_new _ _ _))).mono ?_; rintro e w7 ⟨rfl, hb7⟩)
      | (go_at_call 8; refine (HAw.out _ (by first | assumption | exact bq_refl _ | exact bq_drew (bq_refl _) | exact bq_drew (by assumption))).mono ?_; rintro e w9 ⟨rfl, hb9⟩))
  all_goals
    go_wp2
    go_ret
    exact ⟨rfl, bq_trans HB.out hb9⟩
end Go.Proofs.Ytfaipbdkkkhacaa
/- Layer 7: the walk of FieldSizes. -/
namespace Go.Proofs.Ytfaipbdkkkhacaa
open Go.RowKit
set_option linter.unusedVariables false

theorem nil_app (s : ByteArray) : (⟨#[]⟩ : ByteArray) ++ s = s := by
  apply ByteArray.ext
  rw [ByteArray.data_append]
  simp
theorem mxW_64 (l : List Int) (h : ∀ v ∈ l, -9223372036854775808 ≤ v ∧ v ≤ 9223372036854775807) : mxW l ≤ 64 := F.mxW_le fun v hv => wd_le v (h v hv).1 (h v hv).2
theorem matF_same (x y : Int) : F.len (matF 65536 0 0 65536 x y) = 7 + 2 * mxW [x, y] := by
  have e : mF4 65536 0 0 65536 = [(0, 1), (0, 1)] := by decide +kernel
  unfold matF
  rw [F.len_app, e, nums2_len]
  show 2 + (5 + 2 * mxW [x, y]) = _
  omega
theorem fieldSizes_walk (l r t b x y : Int) (w : World) (hl : I64 l) (hr : I64 r) (ht : I64 t) (hb : I64 b) (hx : I64 x) (hy : I64 y) :
    Calls Try.prog 7 #[.agg #[.int .i64 l, .int .i64 r, .int .i64 t, .int .i64 b], .int .i64 x, .int .i64 y] w fun e w' => e = .returned (.bool true) ∧ Below w.heap.size w w' := by
  have m1 := mxW_64 _ (i64_4 hl hr ht hb)
  have m2 := mxW_64 _ (i64_2 hx hy)
  have f0 : I64 0 := by unfold I64; omega
  have f1 : I64 65536 := by unfold I64; omega
  have R1 : rectOk l r t b = true → (bs (F.bys (rectF l r t b))).size = (12 + 4 * mxW [l, r, t, b]) / 8 := fun _ => by rw [bs_size, F.bys_len, rectF_len]; omega
  have R2 : matOk 65536 0 0 65536 x y = true → (bs (F.bys (matF 65536 0 0 65536 x y))).size = (14 + 2 * mxW [x, y]) / 8 := fun _ => by rw [bs_size, F.bys_len, matF_same]; omega
  have A1 : rectOk l r t b = true → Hid (∀ W, Calls Try.prog 9 #[.agg #[.string ⟨#[]⟩, .int .i64 0], .agg #[.int .i64 l, .int .i64 r, .int .i64 t, .int .i64 b]] W fun e w' => e = .returned (.tuple #[.agg #[.string (bs (F.bys (rectF l r t b))), .int .i64 0], .int .i64 0]) ∧ Below W.heap.size W w') := fun h => Lib.hid fun W => by
    have := putrect_ok ⟨#[]⟩ 0 l r t b W (by decide) h
    rw [nil_app] at this
    exact this
  have A2 : matOk 65536 0 0 65536 x y = true → Hid (∀ W, Calls Try.prog 10 #[.agg #[.string ⟨#[]⟩, .int .i64 0], .agg #[.int .i64 65536, .int .i64 0, .int .i64 0, .int .i64 65536, .int .i64 x, .int .i64 y]] W fun e w' => e = .returned (.tuple #[.agg #[.string (bs (F.bys (matF 65536 0 0 65536 x y))), .int .i64 0], .int .i64 0]) ∧ Below W.heap.size W w') := fun h => Lib.hid fun W => by
    have := putmatrix_ok ⟨#[]⟩ 0 65536 0 0 65536 x y W (by decide) h
    rw [nil_app] at this
    exact this
  have q1 : ((1 : Int) == 0) = false := rfl
  have q2 : ((1 : Int) != 0) = true := rfl
  cases h1 : rectOk l r t b <;> cases h2 : matOk 65536 0 0 65536 x y
  · exact sizes_00 l r t b x y _ _ _ _ w hl hr ht hb hx hy m1 m2 1 q1 1 q2 rfl rfl (Lib.hid fun W => putrect_bad ⟨#[]⟩ 0 l r t b W hl hr ht hb h1) (Lib.hid fun W => putmatrix_bad ⟨#[]⟩ 0 65536 0 0 65536 x y W f1 f0 f0 f1 hx hy h2)
  · exact sizes_01 l r t b x y _ _ _ _ w hl hr ht hb hx hy m1 m2 1 q1 rfl rfl (R2 h2) (Lib.hid fun W => putrect_bad ⟨#[]⟩ 0 l r t b W hl hr ht hb h1) (A2 h2)
  · exact sizes_10 l r t b x y _ _ _ _ w hl hr ht hb hx hy m1 m2 1 q2 rfl rfl (R1 h1) (A1 h1) (Lib.hid fun W => putmatrix_bad ⟨#[]⟩ 0 65536 0 0 65536 x y W f1 f0 f0 f1 hx hy h2)
  · exact sizes_11 l r t b x y _ _ _ _ w hl hr ht hb hx hy m1 m2 rfl rfl (R1 h1) (R2 h2) (A1 h1) (A2 h2)
end Go.Proofs.Ytfaipbdkkkhacaa
