import Derived.Test.YtgopaajmbifbaaaZK4
namespace Go.Proofs.Ytgopaajmbifbaaa
open Go.RowKit
set_option linter.unusedVariables false
set_option linter.unusedSimpArgs false
set_option maxRecDepth 100000
set_option maxHeartbeats 1000000 in
theorem down_up (ax ay bx by1 l r : Int) (w : World) (h : by1 < ay) : Calls Try.prog 29 #[.agg #[.int .i64 ax, .int .i64 ay, .int .i64 bx, .int .i64 by1, .int .i64 l, .int .i64 r]] w fun e w' => e = .returned (.agg #[.int .i64 bx, .int .i64 by1, .int .i64 ax, .int .i64 ay, .int .i64 r, .int .i64 l]) ∧ Below w.heap.size w w' := by
  go_enter Try.func29, Try.ntmps29
  go_upto_region 1 with (go_big_may; first
    | (refine wl_box 27 _ _ rfl rfl (show _ = Value.agg #[.int .i64 ax, .int .i64 ay, .int .i64 bx, .int .i64 by1, .int .i64 l, .int .i64 r] from rfl) ?_; intro W1 bp Bp_1 l1 k1; have gp : w.heap.size ≤ bp := l1; have Hw1 := k1; clear l1 k1)
    | (refine wl_alloc 27 _ zeSg rfl rfl ?_; intro W2 bo Bo_2 l2 k2; have go : w.heap.size ≤ bo := Nat.le_trans Hw1.size l2; have npo : bp ≠ bo := Nat.ne_of_lt (Nat.lt_of_lt_of_le Bp_1.lt l2); have Bp_2 := Bp_1.keep k2; have Hw2 := bq_trans Hw1 k2; clear l2 k2 Bp_1 Hw1))
  have c1 : W2.cell? ⟨bp, 1, none⟩ = some (.int .i64 ay) := Bp_2.cell 1
  have c3 : W2.cell? ⟨bp, 3, none⟩ = some (.int .i64 by1) := Bp_2.cell 3
  have c4 : W2.cell? ⟨bp, 4, none⟩ = some (.int .i64 l) := Bp_2.cell 4
  have c5 : W2.cell? ⟨bp, 5, none⟩ = some (.int .i64 r) := Bp_2.cell 5
  go_wp2_with (first
    | (refine wlg_mid17 25 _ Try.underlying25 rfl _ rfl (by rfl) bp 2 rfl (.int .i64 bx) (.int .i64 by1) szPt _ _ Bp_2 rfl rfl ?_)
    | (refine wlg_mid17 25 _ Try.underlying25 rfl _ rfl (by rfl) bp 0 rfl (.int .i64 ax) (.int .i64 ay) szPt _ _ Bp_2 rfl rfl ?_)
    | (refine wlg_build 27 [(0, .agg #[.int .i64 bx, .int .i64 by1]), (1, .agg #[.int .i64 ax, .int .i64 ay]), (2, .int .i64 r), (3, .int .i64 l)] #[.int .i64 bx, .int .i64 by1, .int .i64 ax, .int .i64 ay, .int .i64 r, .int .i64 l] (by kernel_rfl) _ rfl rfl rfl ?_)
    | (refine wl_store 27 6 szSg _ _ rfl rfl _ rfl #[.int .i64 bx, .int .i64 by1, .int .i64 ax, .int .i64 ay, .int .i64 r, .int .i64 l] rfl _ _ Bo_2 rfl rfl (by kernel_rfl) ?_; intro W3 Bo_3 T3; have Bp_3 := T3.blk Bp_2 npo; have Hw3 := T3.below Hw2 go; clear T3 Bp_2 c1 c3 c4 c5 Bo_2 Hw2))
  exact post_cell Try.underlying27 rfl szSg Try.results29 Bo_3 rfl rfl rfl ⟨rfl, Hw3⟩
set_option maxHeartbeats 1000000 in
theorem down_no (ax ay bx by1 l r : Int) (w : World) (h : ay ≤ by1) : Calls Try.prog 29 #[.agg #[.int .i64 ax, .int .i64 ay, .int .i64 bx, .int .i64 by1, .int .i64 l, .int .i64 r]] w fun e w' => e = .returned (.agg #[.int .i64 ax, .int .i64 ay, .int .i64 bx, .int .i64 by1, .int .i64 l, .int .i64 r]) ∧ Below w.heap.size w w' := by
  go_enter Try.func29, Try.ntmps29
  go_upto_region 1 with (go_big_may; first
    | (refine wl_box 27 _ _ rfl rfl (show _ = Value.agg #[.int .i64 ax, .int .i64 ay, .int .i64 bx, .int .i64 by1, .int .i64 l, .int .i64 r] from rfl) ?_; intro W1 bp Bp_1 l1 k1; have gp : w.heap.size ≤ bp := l1; have Hw1 := k1; clear l1 k1)
    | (refine wl_alloc 27 _ zeSg rfl rfl ?_; intro W2 bo Bo_2 l2 k2; have go : w.heap.size ≤ bo := Nat.le_trans Hw1.size l2; have npo : bp ≠ bo := Nat.ne_of_lt (Nat.lt_of_lt_of_le Bp_1.lt l2); have Bp_2 := Bp_1.keep k2; have Hw2 := bq_trans Hw1 k2; clear l2 k2 Bp_1 Hw1))
  have c1 : W2.cell? ⟨bp, 1, none⟩ = some (.int .i64 ay) := Bp_2.cell 1
  have c3 : W2.cell? ⟨bp, 3, none⟩ = some (.int .i64 by1) := Bp_2.cell 3
  go_wp2_with (first
    | (refine wl_load 27 6 _ Try.underlying27 rfl szSg _ rfl rfl _ rfl _ _ Bp_2 rfl ?_)
    | (refine wl_store 27 6 szSg _ _ rfl rfl _ rfl #[.int .i64 ax, .int .i64 ay, .int .i64 bx, .int .i64 by1, .int .i64 l, .int .i64 r] rfl _ _ Bo_2 rfl rfl (by kernel_rfl) ?_; intro W3 Bo_3 T3; have Bp_3 := T3.blk Bp_2 npo; have Hw3 := T3.below Hw2 go; clear T3 Bp_2 c1 c3 Bo_2 Hw2))
  exact post_cell Try.underlying27 rfl szSg Try.results29 Bo_3 rfl rfl rfl ⟨rfl, Hw3⟩
theorem down_any (s : Sg) (w : World) : Calls Try.prog 29 #[.agg #[.int .i64 s.ax, .int .i64 s.ay, .int .i64 s.bx, .int .i64 s.by1, .int .i64 s.l, .int .i64 s.r]] w fun e w' => e = .returned (.agg #[.int .i64 ((dnS s).ax), .int .i64 ((dnS s).ay), .int .i64 ((dnS s).bx), .int .i64 ((dnS s).by1), .int .i64 ((dnS s).l), .int .i64 ((dnS s).r)]) ∧ Below w.heap.size w w' := by
  unfold dnS
  split
  · rename_i h; exact down_up s.ax s.ay s.bx s.by1 s.l s.r w h
  · rename_i h; exact down_no s.ax s.ay s.bx s.by1 s.l s.r w (by omega)
set_option maxHeartbeats 1000000 in
theorem crs_core (ax ay bx by1 l r y : Int) (q : Bool) (w : World) (hq : y ≤ ay ∧ q = false ∨ ay < y ∧ by1 ≤ y ∧ q = false ∨ ay < y ∧ y < by1 ∧ q = true) :
    Calls Try.prog 35 #[.agg #[.int .i64 ax, .int .i64 ay, .int .i64 bx, .int .i64 by1, .int .i64 l, .int .i64 r], .int .i64 y] w fun e w' => e = .returned (.bool q) ∧ Below w.heap.size w w' := by
  rcases hq with ⟨h1, rfl⟩ | ⟨h1, h2, rfl⟩ | ⟨h1, h2, rfl⟩
  all_goals
    go_enter Try.func35, Try.ntmps35
    go_upto_region 1 with (go_big_may; first
      | (refine wl_box 27 _ _ rfl rfl (show _ = Value.agg #[.int .i64 ax, .int .i64 ay, .int .i64 bx, .int .i64 by1, .int .i64 l, .int .i64 r] from rfl) ?_; intro W1 bp Bp_1 l1 k1; have gp : w.heap.size ≤ bp := l1; have Hw1 := k1; clear l1 k1))
    have c1 : W1.cell? ⟨bp, 1, none⟩ = some (.int .i64 ay) := Bp_1.cell 1
    have c3 : W1.cell? ⟨bp, 3, none⟩ = some (.int .i64 by1) := Bp_1.cell 3
    go_wp2_with fail
    go_ret
    exact ⟨by first | rfl | exact ret_bool (by simp; try omega), Hw1⟩
theorem crs_any (s : Sg) (y : Int) (w : World) : Calls Try.prog 35 #[.agg #[.int .i64 s.ax, .int .i64 s.ay, .int .i64 s.bx, .int .i64 s.by1, .int .i64 s.l, .int .i64 s.r], .int .i64 y] w fun e w' => e = .returned (.bool (crsS s y)) ∧ Below w.heap.size w w' := by
  refine crs_core s.ax s.ay s.bx s.by1 s.l s.r y _ w ?_
  by_cases h1 : y ≤ s.ay
  · exact Or.inl ⟨h1, by simp [crsS]; omega⟩
  · by_cases h2 : s.by1 ≤ y
    · exact Or.inr (Or.inl ⟨by omega, h2, by simp [crsS]; omega⟩)
    · exact Or.inr (Or.inr ⟨by omega, by omega, by simp [crsS]; omega⟩)
set_option maxHeartbeats 1000000 in
theorem lft_core (ax ay bx by1 l r x y m : Int) (w : World) (ax0 : -16777216 ≤ ax) (ax1 : ax ≤ 16777216) (ay0 : -16777216 ≤ ay) (ay1 : ay ≤ 16777216) (bx0 : -16777216 ≤ bx) (bx1 : bx ≤ 16777216) (by10 : -16777216 ≤ by1) (by11 : by1 ≤ 16777216) (x0 : -16777216 ≤ x) (x1 : x ≤ 16777216) (y0 : -16777216 ≤ y) (y1 : y ≤ 16777216) (HC : Hid (∀ W, Calls Try.prog 40 #[.int .i64 (y - ay), .int .i64 (bx - ax), .int .i64 (x - ax), .int .i64 (by1 - ay)] W fun e w' => e = .returned (.int .i64 m) ∧ Below W.heap.size W w')) :
    Calls Try.prog 36 #[.agg #[.int .i64 ax, .int .i64 ay, .int .i64 bx, .int .i64 by1, .int .i64 l, .int .i64 r], .int .i64 x, .int .i64 y] w fun e w' => e = .returned (.bool (decide (m ≤ 0))) ∧ Below w.heap.size w w' := by
  go_enter Try.func36, Try.ntmps36
  go_upto_region 1 with (go_big_may; first
    | (refine wl_box 27 _ _ rfl rfl (show _ = Value.agg #[.int .i64 ax, .int .i64 ay, .int .i64 bx, .int .i64 by1, .int .i64 l, .int .i64 r] from rfl) ?_; intro W1 bp Bp_1 l1 k1; have gp : w.heap.size ≤ bp := l1; have Hw1 := k1; clear l1 k1))
  have c0 : W1.cell? ⟨bp, 0, none⟩ = some (.int .i64 ax) := Bp_1.cell 0
  have c1 : W1.cell? ⟨bp, 1, none⟩ = some (.int .i64 ay) := Bp_1.cell 1
  have c2 : W1.cell? ⟨bp, 2, none⟩ = some (.int .i64 bx) := Bp_1.cell 2
  have c3 : W1.cell? ⟨bp, 3, none⟩ = some (.int .i64 by1) := Bp_1.cell 3
  go_wp2_with (first
    | (go_at_call 40; (with_reducible refine (HC.out _).mono ?_); rintro e W2 ⟨rfl, k2⟩; have Bp_2 := Bp_1.keep k2; have Hw2 := bq_trans Hw1 k2; clear k2 Bp_1 c0 c1 c2 c3 Hw1))
  go_ret
  exact ⟨rfl, Hw2⟩
theorem lft_any (s : Sg) (x y : Int) (w : World) (hr : rgtS s = true) (hx : smpB x = true) (hy : smpB y = true) :
    Calls Try.prog 36 #[.agg #[.int .i64 s.ax, .int .i64 s.ay, .int .i64 s.bx, .int .i64 s.by1, .int .i64 s.l, .int .i64 s.r], .int .i64 x, .int .i64 y] w fun e w' => e = .returned (.bool (lftS s x y)) ∧ Below w.heap.size w w' := by
  obtain ⟨⟨a1, a2⟩, ⟨b1, b2⟩, _⟩ := rgtS_bd hr
  have hx := smpB_bd hx
  have hy := smpB_bd hy
  have h := lft_core s.ax s.ay s.bx s.by1 s.l s.r x y (cmp4 (y - s.ay) (s.bx - s.ax) (x - s.ax) (s.by1 - s.ay)) w (by omega) (by omega) (by omega) (by omega) (by omega) (by omega) (by omega) (by omega) (by omega) (by omega) (by omega) (by omega)
    (Lib.hid fun W => compare_any (y - s.ay) (s.bx - s.ax) (x - s.ax) (s.by1 - s.ay) W (by omega) (by omega) (by omega) (by omega) (by omega) (by omega) (by omega) (by omega))
  rw [show decide (cmp4 (y - s.ay) (s.bx - s.ax) (x - s.ax) (s.by1 - s.ay) ≤ 0) = lftS s x y by
    unfold cmp4 lftS
    rw [Bool.eq_iff_iff, decide_eq_true_eq, decide_eq_true_eq]
    split
    · omega
    · split <;> omega] at h
  exact h
set_option maxHeartbeats 1000000 in
theorem winds_a (ax ay bx by1 l r st x y : Int) (w : World) (H1 : Hid (∀ W, Calls Try.prog 35 #[.agg #[.int .i64 ax, .int .i64 ay, .int .i64 bx, .int .i64 by1, .int .i64 l, .int .i64 r], .int .i64 y] W fun e w' => e = .returned (.bool false) ∧ Below W.heap.size W w')) : Calls Try.prog 28 #[.agg #[.int .i64 ax, .int .i64 ay, .int .i64 bx, .int .i64 by1, .int .i64 l, .int .i64 r], .int .i64 st, .int .i64 x, .int .i64 y] w fun e w' => e = .returned (.int .i64 0) ∧ Below w.heap.size w w' := by
  go_enter Try.func28, Try.ntmps28
  go_upto_region 2 with (go_big_may; first
    | (refine wl_box 27 _ _ rfl rfl (show _ = Value.agg #[.int .i64 ax, .int .i64 ay, .int .i64 bx, .int .i64 by1, .int .i64 l, .int .i64 r] from rfl) ?_; intro W1 bp Bp_1 l1 k1; have gp : w.heap.size ≤ bp := l1; have Hw1 := k1; clear l1 k1))
  go_wp2_with (first
    | (refine wl_load 27 6 _ Try.underlying27 rfl szSg _ rfl rfl _ rfl _ _ Bp_1 rfl ?_)
    | (go_at_call 35; (with_reducible refine (H1.out _).mono ?_); rintro e W2 ⟨rfl, k2⟩; have Bp_2 := Bp_1.keep k2; have Hw2 := bq_trans Hw1 k2; clear k2 Bp_1 Hw1))
  go_ret
  exact ⟨rfl, Hw2⟩
set_option maxHeartbeats 1000000 in
theorem winds_b (ax ay bx by1 l r st x y : Int) (w : World) (H1 : Hid (∀ W, Calls Try.prog 35 #[.agg #[.int .i64 ax, .int .i64 ay, .int .i64 bx, .int .i64 by1, .int .i64 l, .int .i64 r], .int .i64 y] W fun e w' => e = .returned (.bool true) ∧ Below W.heap.size W w')) (H2 : Hid (∀ W, Calls Try.prog 36 #[.agg #[.int .i64 ax, .int .i64 ay, .int .i64 bx, .int .i64 by1, .int .i64 l, .int .i64 r], .int .i64 x, .int .i64 y] W fun e w' => e = .returned (.bool false) ∧ Below W.heap.size W w')) : Calls Try.prog 28 #[.agg #[.int .i64 ax, .int .i64 ay, .int .i64 bx, .int .i64 by1, .int .i64 l, .int .i64 r], .int .i64 st, .int .i64 x, .int .i64 y] w fun e w' => e = .returned (.int .i64 0) ∧ Below w.heap.size w w' := by
  go_enter Try.func28, Try.ntmps28
  go_upto_region 2 with (go_big_may; first
    | (refine wl_box 27 _ _ rfl rfl (show _ = Value.agg #[.int .i64 ax, .int .i64 ay, .int .i64 bx, .int .i64 by1, .int .i64 l, .int .i64 r] from rfl) ?_; intro W1 bp Bp_1 l1 k1; have gp : w.heap.size ≤ bp := l1; have Hw1 := k1; clear l1 k1))
  go_wp2_with (first
    | (refine wl_load 27 6 _ Try.underlying27 rfl szSg _ rfl rfl _ rfl _ _ Bp_1 rfl ?_)
    | (go_at_call 35; (with_reducible refine (H1.out _).mono ?_); rintro e W2 ⟨rfl, k2⟩; have Bp_2 := Bp_1.keep k2; have Hw2 := bq_trans Hw1 k2; clear k2 Bp_1 Hw1)
    | (refine wlg_load 27 6 _ Try.underlying27 rfl szSg _ rfl rfl _ rfl _ _ Bp_2 rfl ?_)
    | (go_at_call 36; (with_reducible refine (H2.out _).mono ?_); rintro e W3 ⟨rfl, k3⟩; have Bp_3 := Bp_2.keep k3; have Hw3 := bq_trans Hw2 k3; clear k3 Bp_2 Hw2))
  go_ret
  exact ⟨rfl, Hw3⟩
set_option maxHeartbeats 1000000 in
theorem winds_c (ax ay bx by1 l r st x y v : Int) (q1 q2 : Bool) (w : World) (h1 : (l == st) = q1) (h2 : (r == st) = q2) (hv : v = (if q1 then 1 else 0) + (if q2 then -1 else 0)) (H1 : Hid (∀ W, Calls Try.prog 35 #[.agg #[.int .i64 ax, .int .i64 ay, .int .i64 bx, .int .i64 by1, .int .i64 l, .int .i64 r], .int .i64 y] W fun e w' => e = .returned (.bool true) ∧ Below W.heap.size W w')) (H2 : Hid (∀ W, Calls Try.prog 36 #[.agg #[.int .i64 ax, .int .i64 ay, .int .i64 bx, .int .i64 by1, .int .i64 l, .int .i64 r], .int .i64 x, .int .i64 y] W fun e w' => e = .returned (.bool true) ∧ Below W.heap.size W w')) : Calls Try.prog 28 #[.agg #[.int .i64 ax, .int .i64 ay, .int .i64 bx, .int .i64 by1, .int .i64 l, .int .i64 r], .int .i64 st, .int .i64 x, .int .i64 y] w fun e w' => e = .returned (.int .i64 v) ∧ Below w.heap.size w w' := by
  cases q1 <;> cases q2 <;> subst hv
  all_goals
    go_enter Try.func28, Try.ntmps28
    go_upto_region 2 with (go_big_may; first
      | (refine wl_box 27 _ _ rfl rfl (show _ = Value.agg #[.int .i64 ax, .int .i64 ay, .int .i64 bx, .int .i64 by1, .int .i64 l, .int .i64 r] from rfl) ?_; intro W1 bp Bp_1 l1 k1; have gp : w.heap.size ≤ bp := l1; have Hw1 := k1; clear l1 k1))
    go_upto_region 4 with (go_big_may; first
      | (refine wl_load 27 6 _ Try.underlying27 rfl szSg _ rfl rfl _ rfl _ _ Bp_1 rfl ?_)
      | (go_at_call 35; (with_reducible refine (H1.out _).mono ?_); rintro e W2 ⟨rfl, k2⟩; have Bp_2 := Bp_1.keep k2; have Hw2 := bq_trans Hw1 k2; clear k2 Bp_1 Hw1)
      | (refine wlg_load 27 6 _ Try.underlying27 rfl szSg _ rfl rfl _ rfl _ _ Bp_2 rfl ?_)
      | (go_at_call 36; (with_reducible refine (H2.out _).mono ?_); rintro e W3 ⟨rfl, k3⟩; have Bp_3 := Bp_2.keep k3; have Hw3 := bq_trans Hw2 k3; clear k3 Bp_2 Hw2))
    have c4 : W3.cell? ⟨bp, 4, none⟩ = some (.int .i64 l) := Bp_3.cell 4
    have c5 : W3.cell? ⟨bp, 5, none⟩ = some (.int .i64 r) := Bp_3.cell 5
    go_wp2_with fail
    go_ret
    exact ⟨rfl, Hw3⟩
theorem winds_any (s : Sg) (st x y : Int) (w : World) (hr : rgtS s = true) (hx : smpB x = true) (hy : smpB y = true) :
    Calls Try.prog 28 #[.agg #[.int .i64 s.ax, .int .i64 s.ay, .int .i64 s.bx, .int .i64 s.by1, .int .i64 s.l, .int .i64 s.r], .int .i64 st, .int .i64 x, .int .i64 y] w fun e w' => e = .returned (.int .i64 (wndS s st x y)) ∧ Below w.heap.size w w' := by
  have H1 := Lib.hid fun W => crs_any s y W
  have H2 := Lib.hid fun W => lft_any s x y W hr hx hy
  unfold wndS
  cases q : crsS s y with
  | false => rw [q] at H1; exact winds_a s.ax s.ay s.bx s.by1 s.l s.r st x y w H1
  | true =>
    rw [q] at H1
    cases q2 : lftS s x y with
    | false => rw [q2] at H2; exact winds_b s.ax s.ay s.bx s.by1 s.l s.r st x y w H1 H2
    | true =>
      rw [q2] at H2
      refine winds_c s.ax s.ay s.bx s.by1 s.l s.r st x y _ _ _ w rfl rfl ?_ H1 H2
      simp [sd]
set_option maxHeartbeats 1000000 in
theorem side_0 (ax ay bx by1 l r x y : Int) (d e f p1 p2 p3 : Int) (ed : by1 - ay = d) (ee : bx - ax = e) (ef : y - ay = f) (e1 : wrap64 (ax * d) = p1) (e2 : wrap64 (e * f) = p2) (e3 : wrap64 (x * d) = p3) (g0 : -9223372036854775808 ≤ p1 + p2) (g1 : p1 + p2 ≤ 9223372036854775807) (w : World) (ax0 : -16777216 ≤ ax) (ax1 : ax ≤ 16777216) (ay0 : -16777216 ≤ ay) (ay1 : ay ≤ 16777216) (bx0 : -16777216 ≤ bx) (bx1 : bx ≤ 16777216) (by10 : -16777216 ≤ by1) (by11 : by1 ≤ 16777216) (x0 : -16777216 ≤ x) (x1 : x ≤ 16777216) (y0 : -16777216 ≤ y) (y1 : y ≤ 16777216) (h1 : ay < y) (h2 : y < by1) (h3 : p1 + p2 ≤ p3) : Calls Try.prog 26 #[.agg #[.int .i64 ax, .int .i64 ay, .int .i64 bx, .int .i64 by1, .int .i64 l, .int .i64 r], .int .i64 x, .int .i64 y] w fun e w' => e = .returned (.int .i64 (1)) ∧ Below w.heap.size w w' := by
  go_enter Try.func26, Try.ntmps26
  go_upto_region 1 with (go_big_may; first
    | (refine wl_box 30 _ _ rfl rfl (show _ = Value.agg #[.int .i64 ax, .int .i64 ay, .int .i64 bx, .int .i64 by1, .int .i64 l, .int .i64 r] from rfl) ?_; intro W1 bp Bp_1 l1 k1; have gp : w.heap.size ≤ bp := l1; have Hw1 := k1; clear l1 k1))
  have c0 : W1.cell? ⟨bp, 0, none⟩ = some (.int .i64 ax) := Bp_1.cell 0
  have c1 : W1.cell? ⟨bp, 1, none⟩ = some (.int .i64 ay) := Bp_1.cell 1
  have c2 : W1.cell? ⟨bp, 2, none⟩ = some (.int .i64 bx) := Bp_1.cell 2
  have c3 : W1.cell? ⟨bp, 3, none⟩ = some (.int .i64 by1) := Bp_1.cell 3
  go_wp2_with fail
  go_ret
  exact ⟨rfl, Hw1⟩
set_option maxHeartbeats 1000000 in
theorem side_1 (ax ay bx by1 l r x y : Int) (d e f p1 p2 p3 : Int) (ed : by1 - ay = d) (ee : bx - ax = e) (ef : y - ay = f) (e1 : wrap64 (ax * d) = p1) (e2 : wrap64 (e * f) = p2) (e3 : wrap64 (x * d) = p3) (g0 : -9223372036854775808 ≤ p1 + p2) (g1 : p1 + p2 ≤ 9223372036854775807) (w : World) (ax0 : -16777216 ≤ ax) (ax1 : ax ≤ 16777216) (ay0 : -16777216 ≤ ay) (ay1 : ay ≤ 16777216) (bx0 : -16777216 ≤ bx) (bx1 : bx ≤ 16777216) (by10 : -16777216 ≤ by1) (by11 : by1 ≤ 16777216) (x0 : -16777216 ≤ x) (x1 : x ≤ 16777216) (y0 : -16777216 ≤ y) (y1 : y ≤ 16777216) (h1 : ay < y) (h2 : y < by1) (h3 : p3 < p1 + p2) : Calls Try.prog 26 #[.agg #[.int .i64 ax, .int .i64 ay, .int .i64 bx, .int .i64 by1, .int .i64 l, .int .i64 r], .int .i64 x, .int .i64 y] w fun e w' => e = .returned (.int .i64 (0)) ∧ Below w.heap.size w w' := by
  go_enter Try.func26, Try.ntmps26
  go_upto_region 1 with (go_big_may; first
    | (refine wl_box 30 _ _ rfl rfl (show _ = Value.agg #[.int .i64 ax, .int .i64 ay, .int .i64 bx, .int .i64 by1, .int .i64 l, .int .i64 r] from rfl) ?_; intro W1 bp Bp_1 l1 k1; have gp : w.heap.size ≤ bp := l1; have Hw1 := k1; clear l1 k1))
  have c0 : W1.cell? ⟨bp, 0, none⟩ = some (.int .i64 ax) := Bp_1.cell 0
  have c1 : W1.cell? ⟨bp, 1, none⟩ = some (.int .i64 ay) := Bp_1.cell 1
  have c2 : W1.cell? ⟨bp, 2, none⟩ = some (.int .i64 bx) := Bp_1.cell 2
  have c3 : W1.cell? ⟨bp, 3, none⟩ = some (.int .i64 by1) := Bp_1.cell 3
  go_wp2_with fail
  go_ret
  exact ⟨rfl, Hw1⟩
set_option maxHeartbeats 1000000 in
theorem side_2 (ax ay bx by1 l r x y : Int)  (w : World) (ax0 : -16777216 ≤ ax) (ax1 : ax ≤ 16777216) (ay0 : -16777216 ≤ ay) (ay1 : ay ≤ 16777216) (bx0 : -16777216 ≤ bx) (bx1 : bx ≤ 16777216) (by10 : -16777216 ≤ by1) (by11 : by1 ≤ 16777216) (x0 : -16777216 ≤ x) (x1 : x ≤ 16777216) (y0 : -16777216 ≤ y) (y1 : y ≤ 16777216) (h1 : y ≤ ay) (h2 : y ≤ by1) : Calls Try.prog 26 #[.agg #[.int .i64 ax, .int .i64 ay, .int .i64 bx, .int .i64 by1, .int .i64 l, .int .i64 r], .int .i64 x, .int .i64 y] w fun e w' => e = .returned (.int .i64 (0)) ∧ Below w.heap.size w w' := by
  go_enter Try.func26, Try.ntmps26
  go_upto_region 1 with (go_big_may; first
    | (refine wl_box 30 _ _ rfl rfl (show _ = Value.agg #[.int .i64 ax, .int .i64 ay, .int .i64 bx, .int .i64 by1, .int .i64 l, .int .i64 r] from rfl) ?_; intro W1 bp Bp_1 l1 k1; have gp : w.heap.size ≤ bp := l1; have Hw1 := k1; clear l1 k1))
  have c0 : W1.cell? ⟨bp, 0, none⟩ = some (.int .i64 ax) := Bp_1.cell 0
  have c1 : W1.cell? ⟨bp, 1, none⟩ = some (.int .i64 ay) := Bp_1.cell 1
  have c2 : W1.cell? ⟨bp, 2, none⟩ = some (.int .i64 bx) := Bp_1.cell 2
  have c3 : W1.cell? ⟨bp, 3, none⟩ = some (.int .i64 by1) := Bp_1.cell 3
  go_wp2_with fail
  go_ret
  exact ⟨rfl, Hw1⟩
set_option maxHeartbeats 1000000 in
theorem side_3 (ax ay bx by1 l r x y : Int)  (w : World) (ax0 : -16777216 ≤ ax) (ax1 : ax ≤ 16777216) (ay0 : -16777216 ≤ ay) (ay1 : ay ≤ 16777216) (bx0 : -16777216 ≤ bx) (bx1 : bx ≤ 16777216) (by10 : -16777216 ≤ by1) (by11 : by1 ≤ 16777216) (x0 : -16777216 ≤ x) (x1 : x ≤ 16777216) (y0 : -16777216 ≤ y) (y1 : y ≤ 16777216) (h1 : y ≤ ay) (h2 : by1 < y) (h3 : ay ≤ y) : Calls Try.prog 26 #[.agg #[.int .i64 ax, .int .i64 ay, .int .i64 bx, .int .i64 by1, .int .i64 l, .int .i64 r], .int .i64 x, .int .i64 y] w fun e w' => e = .returned (.int .i64 (0)) ∧ Below w.heap.size w w' := by
  go_enter Try.func26, Try.ntmps26
  go_upto_region 1 with (go_big_may; first
    | (refine wl_box 30 _ _ rfl rfl (show _ = Value.agg #[.int .i64 ax, .int .i64 ay, .int .i64 bx, .int .i64 by1, .int .i64 l, .int .i64 r] from rfl) ?_; intro W1 bp Bp_1 l1 k1; have gp : w.heap.size ≤ bp := l1; have Hw1 := k1; clear l1 k1))
  have c0 : W1.cell? ⟨bp, 0, none⟩ = some (.int .i64 ax) := Bp_1.cell 0
  have c1 : W1.cell? ⟨bp, 1, none⟩ = some (.int .i64 ay) := Bp_1.cell 1
  have c2 : W1.cell? ⟨bp, 2, none⟩ = some (.int .i64 bx) := Bp_1.cell 2
  have c3 : W1.cell? ⟨bp, 3, none⟩ = some (.int .i64 by1) := Bp_1.cell 3
  go_wp2_with fail
  go_ret
  exact ⟨rfl, Hw1⟩
set_option maxHeartbeats 1000000 in
theorem side_4 (ax ay bx by1 l r x y : Int) (d e f p1 p2 p3 : Int) (ed : ay - by1 = d) (ee : ax - bx = e) (ef : y - by1 = f) (e1 : wrap64 (bx * d) = p1) (e2 : wrap64 (e * f) = p2) (e3 : wrap64 (x * d) = p3) (g0 : -9223372036854775808 ≤ p1 + p2) (g1 : p1 + p2 ≤ 9223372036854775807) (w : World) (ax0 : -16777216 ≤ ax) (ax1 : ax ≤ 16777216) (ay0 : -16777216 ≤ ay) (ay1 : ay ≤ 16777216) (bx0 : -16777216 ≤ bx) (bx1 : bx ≤ 16777216) (by10 : -16777216 ≤ by1) (by11 : by1 ≤ 16777216) (x0 : -16777216 ≤ x) (x1 : x ≤ 16777216) (y0 : -16777216 ≤ y) (y1 : y ≤ 16777216) (h1 : y ≤ ay) (h2 : by1 < y) (h3 : y < ay) (h4 : p1 + p2 ≤ p3) : Calls Try.prog 26 #[.agg #[.int .i64 ax, .int .i64 ay, .int .i64 bx, .int .i64 by1, .int .i64 l, .int .i64 r], .int .i64 x, .int .i64 y] w fun e w' => e = .returned (.int .i64 (-1)) ∧ Below w.heap.size w w' := by
  go_enter Try.func26, Try.ntmps26
  go_upto_region 1 with (go_big_may; first
    | (refine wl_box 30 _ _ rfl rfl (show _ = Value.agg #[.int .i64 ax, .int .i64 ay, .int .i64 bx, .int .i64 by1, .int .i64 l, .int .i64 r] from rfl) ?_; intro W1 bp Bp_1 l1 k1; have gp : w.heap.size ≤ bp := l1; have Hw1 := k1; clear l1 k1))
  have c0 : W1.cell? ⟨bp, 0, none⟩ = some (.int .i64 ax) := Bp_1.cell 0
  have c1 : W1.cell? ⟨bp, 1, none⟩ = some (.int .i64 ay) := Bp_1.cell 1
  have c2 : W1.cell? ⟨bp, 2, none⟩ = some (.int .i64 bx) := Bp_1.cell 2
  have c3 : W1.cell? ⟨bp, 3, none⟩ = some (.int .i64 by1) := Bp_1.cell 3
  go_wp2_with fail
  go_ret
  exact ⟨rfl, Hw1⟩
set_option maxHeartbeats 1000000 in
theorem side_5 (ax ay bx by1 l r x y : Int) (d e f p1 p2 p3 : Int) (ed : ay - by1 = d) (ee : ax - bx = e) (ef : y - by1 = f) (e1 : wrap64 (bx * d) = p1) (e2 : wrap64 (e * f) = p2) (e3 : wrap64 (x * d) = p3) (g0 : -9223372036854775808 ≤ p1 + p2) (g1 : p1 + p2 ≤ 9223372036854775807) (w : World) (ax0 : -16777216 ≤ ax) (ax1 : ax ≤ 16777216) (ay0 : -16777216 ≤ ay) (ay1 : ay ≤ 16777216) (bx0 : -16777216 ≤ bx) (bx1 : bx ≤ 16777216) (by10 : -16777216 ≤ by1) (by11 : by1 ≤ 16777216) (x0 : -16777216 ≤ x) (x1 : x ≤ 16777216) (y0 : -16777216 ≤ y) (y1 : y ≤ 16777216) (h1 : y ≤ ay) (h2 : by1 < y) (h3 : y < ay) (h4 : p3 < p1 + p2) : Calls Try.prog 26 #[.agg #[.int .i64 ax, .int .i64 ay, .int .i64 bx, .int .i64 by1, .int .i64 l, .int .i64 r], .int .i64 x, .int .i64 y] w fun e w' => e = .returned (.int .i64 (0)) ∧ Below w.heap.size w w' := by
  go_enter Try.func26, Try.ntmps26
  go_upto_region 1 with (go_big_may; first
    | (refine wl_box 30 _ _ rfl rfl (show _ = Value.agg #[.int .i64 ax, .int .i64 ay, .int .i64 bx, .int .i64 by1, .int .i64 l, .int .i64 r] from rfl) ?_; intro W1 bp Bp_1 l1 k1; have gp : w.heap.size ≤ bp := l1; have Hw1 := k1; clear l1 k1))
  have c0 : W1.cell? ⟨bp, 0, none⟩ = some (.int .i64 ax) := Bp_1.cell 0
  have c1 : W1.cell? ⟨bp, 1, none⟩ = some (.int .i64 ay) := Bp_1.cell 1
  have c2 : W1.cell? ⟨bp, 2, none⟩ = some (.int .i64 bx) := Bp_1.cell 2
  have c3 : W1.cell? ⟨bp, 3, none⟩ = some (.int .i64 by1) := Bp_1.cell 3
  go_wp2_with fail
  go_ret
  exact ⟨rfl, Hw1⟩
set_option maxHeartbeats 1000000 in
theorem side_6 (ax ay bx by1 l r x y : Int)  (w : World) (ax0 : -16777216 ≤ ax) (ax1 : ax ≤ 16777216) (ay0 : -16777216 ≤ ay) (ay1 : ay ≤ 16777216) (bx0 : -16777216 ≤ bx) (bx1 : bx ≤ 16777216) (by10 : -16777216 ≤ by1) (by11 : by1 ≤ 16777216) (x0 : -16777216 ≤ x) (x1 : x ≤ 16777216) (y0 : -16777216 ≤ y) (y1 : y ≤ 16777216) (h1 : ay < y) (h2 : by1 ≤ y) (h3 : by1 < y) : Calls Try.prog 26 #[.agg #[.int .i64 ax, .int .i64 ay, .int .i64 bx, .int .i64 by1, .int .i64 l, .int .i64 r], .int .i64 x, .int .i64 y] w fun e w' => e = .returned (.int .i64 (0)) ∧ Below w.heap.size w w' := by
  go_enter Try.func26, Try.ntmps26
  go_upto_region 1 with (go_big_may; first
    | (refine wl_box 30 _ _ rfl rfl (show _ = Value.agg #[.int .i64 ax, .int .i64 ay, .int .i64 bx, .int .i64 by1, .int .i64 l, .int .i64 r] from rfl) ?_; intro W1 bp Bp_1 l1 k1; have gp : w.heap.size ≤ bp := l1; have Hw1 := k1; clear l1 k1))
  have c0 : W1.cell? ⟨bp, 0, none⟩ = some (.int .i64 ax) := Bp_1.cell 0
  have c1 : W1.cell? ⟨bp, 1, none⟩ = some (.int .i64 ay) := Bp_1.cell 1
  have c2 : W1.cell? ⟨bp, 2, none⟩ = some (.int .i64 bx) := Bp_1.cell 2
  have c3 : W1.cell? ⟨bp, 3, none⟩ = some (.int .i64 by1) := Bp_1.cell 3
  go_wp2_with fail
  go_ret
  exact ⟨rfl, Hw1⟩
set_option maxHeartbeats 1000000 in
theorem side_7 (ax ay bx by1 l r x y : Int)  (w : World) (ax0 : -16777216 ≤ ax) (ax1 : ax ≤ 16777216) (ay0 : -16777216 ≤ ay) (ay1 : ay ≤ 16777216) (bx0 : -16777216 ≤ bx) (bx1 : bx ≤ 16777216) (by10 : -16777216 ≤ by1) (by11 : by1 ≤ 16777216) (x0 : -16777216 ≤ x) (x1 : x ≤ 16777216) (y0 : -16777216 ≤ y) (y1 : y ≤ 16777216) (h1 : ay < y) (h2 : by1 ≤ y) (h3 : y ≤ by1) : Calls Try.prog 26 #[.agg #[.int .i64 ax, .int .i64 ay, .int .i64 bx, .int .i64 by1, .int .i64 l, .int .i64 r], .int .i64 x, .int .i64 y] w fun e w' => e = .returned (.int .i64 (0)) ∧ Below w.heap.size w w' := by
  go_enter Try.func26, Try.ntmps26
  go_upto_region 1 with (go_big_may; first
    | (refine wl_box 30 _ _ rfl rfl (show _ = Value.agg #[.int .i64 ax, .int .i64 ay, .int .i64 bx, .int .i64 by1, .int .i64 l, .int .i64 r] from rfl) ?_; intro W1 bp Bp_1 l1 k1; have gp : w.heap.size ≤ bp := l1; have Hw1 := k1; clear l1 k1))
  have c0 : W1.cell? ⟨bp, 0, none⟩ = some (.int .i64 ax) := Bp_1.cell 0
  have c1 : W1.cell? ⟨bp, 1, none⟩ = some (.int .i64 ay) := Bp_1.cell 1
  have c2 : W1.cell? ⟨bp, 2, none⟩ = some (.int .i64 bx) := Bp_1.cell 2
  have c3 : W1.cell? ⟨bp, 3, none⟩ = some (.int .i64 by1) := Bp_1.cell 3
  go_wp2_with fail
  go_ret
  exact ⟨rfl, Hw1⟩
theorem crs_no {s : Sg} {y : Int} (h : y ≤ s.ay ∨ s.by1 ≤ y) : crsS s y = false := by
  simp only [crsS, Bool.and_eq_false_iff, decide_eq_false_iff_not]; omega
theorem crs_yes {s : Sg} {y : Int} (h : s.ay < y ∧ y < s.by1) : crsS s y = true := by
  simp only [crsS, Bool.and_eq_true, decide_eq_true_eq]; omega
theorem side_any (s : Sg) (x y : Int) (w : World) (hr : rgtS s = true) (hx : smpB x = true) (hy : smpB y = true) :
    Calls Try.prog 26 #[.agg #[.int .i64 s.ax, .int .i64 s.ay, .int .i64 s.bx, .int .i64 s.by1, .int .i64 s.l, .int .i64 s.r], .int .i64 x, .int .i64 y] w fun e w' => e = .returned (.int .i64 (sideV s x y)) ∧ Below w.heap.size w w' := by
  obtain ⟨⟨a1, a2⟩, ⟨b1, b2⟩, _⟩ := rgtS_bd hr
  have hx := smpB_bd hx
  have hy := smpB_bd hy
  by_cases h1 : s.ay < y
  · by_cases h2 : y < s.by1
    · have m1 := mul_bd 16777216 33554432 a1.1 (show -33554432 ≤ s.by1 - s.ay ∧ s.by1 - s.ay ≤ 33554432 by omega)
      have m2 := mul_bd 33554432 33554432 (show -33554432 ≤ s.bx - s.ax ∧ s.bx - s.ax ≤ 33554432 by omega) (show -33554432 ≤ y - s.ay ∧ y - s.ay ≤ 33554432 by omega)
      have m3 := mul_bd 16777216 33554432 (show -16777216 ≤ x ∧ x ≤ 16777216 by omega) (show -33554432 ≤ s.by1 - s.ay ∧ s.by1 - s.ay ≤ 33554432 by omega)
      have e : (x - s.ax) * (s.by1 - s.ay) = x * (s.by1 - s.ay) - s.ax * (s.by1 - s.ay) := Int.sub_mul _ _ _
      have e2 : (y - s.ay) * (s.bx - s.ax) = (s.bx - s.ax) * (y - s.ay) := Int.mul_comm _ _
      have hc : crsS s y = true := crs_yes (by omega)
      by_cases h3 : s.ax * (s.by1 - s.ay) + (s.bx - s.ax) * (y - s.ay) ≤ x * (s.by1 - s.ay)
      · have hl : lftS s x y = true := by unfold lftS; rw [decide_eq_true_eq, e, e2]; omega
        rw [show sideV s x y = 1 by unfold sideV; rw [hc, hl]; rfl]
        exact side_0 s.ax s.ay s.bx s.by1 s.l s.r x y _ _ _ _ _ _ rfl rfl rfl (w64 _ (by omega)) (w64 _ (by omega)) (w64 _ (by omega)) (by omega) (by omega) w (by omega) (by omega) (by omega) (by omega) (by omega) (by omega) (by omega) (by omega) (by omega) (by omega) (by omega) (by omega) h1 h2 h3
      · have hl : lftS s x y = false := by unfold lftS; rw [decide_eq_false_iff_not, e, e2]; omega
        rw [show sideV s x y = 0 by unfold sideV; rw [hc, hl]; rfl]
        exact side_1 s.ax s.ay s.bx s.by1 s.l s.r x y _ _ _ _ _ _ rfl rfl rfl (w64 _ (by omega)) (w64 _ (by omega)) (w64 _ (by omega)) (by omega) (by omega) w (by omega) (by omega) (by omega) (by omega) (by omega) (by omega) (by omega) (by omega) (by omega) (by omega) (by omega) (by omega) h1 h2 (by omega)
    · rw [show sideV s x y = 0 by unfold sideV; rw [show crsS s y = false from crs_no (by omega), show crsS (trnS s) y = false from crs_no (by simp only [trnS]; omega)]; rfl]
      by_cases h3 : s.by1 < y
      · exact side_6 s.ax s.ay s.bx s.by1 s.l s.r x y w (by omega) (by omega) (by omega) (by omega) (by omega) (by omega) (by omega) (by omega) (by omega) (by omega) (by omega) (by omega) h1 (by omega) h3
      · exact side_7 s.ax s.ay s.bx s.by1 s.l s.r x y w (by omega) (by omega) (by omega) (by omega) (by omega) (by omega) (by omega) (by omega) (by omega) (by omega) (by omega) (by omega) h1 (by omega) (by omega)
  · have hc : crsS s y = false := crs_no (by omega)
    by_cases h2 : s.by1 < y
    · by_cases h3 : y < s.ay
      · have m1 := mul_bd 16777216 33554432 b1.1 (show -33554432 ≤ s.ay - s.by1 ∧ s.ay - s.by1 ≤ 33554432 by omega)
        have m2 := mul_bd 33554432 33554432 (show -33554432 ≤ s.ax - s.bx ∧ s.ax - s.bx ≤ 33554432 by omega) (show -33554432 ≤ y - s.by1 ∧ y - s.by1 ≤ 33554432 by omega)
        have m3 := mul_bd 16777216 33554432 (show -16777216 ≤ x ∧ x ≤ 16777216 by omega) (show -33554432 ≤ s.ay - s.by1 ∧ s.ay - s.by1 ≤ 33554432 by omega)
        have e : (x - s.bx) * (s.ay - s.by1) = x * (s.ay - s.by1) - s.bx * (s.ay - s.by1) := Int.sub_mul _ _ _
        have e2 : (y - s.by1) * (s.ax - s.bx) = (s.ax - s.bx) * (y - s.by1) := Int.mul_comm _ _
        have hc2 : crsS (trnS s) y = true := crs_yes (by simp only [trnS]; omega)
        by_cases h4 : s.bx * (s.ay - s.by1) + (s.ax - s.bx) * (y - s.by1) ≤ x * (s.ay - s.by1)
        · have hl : lftS (trnS s) x y = true := by unfold lftS trnS; simp only; rw [decide_eq_true_eq, e, e2]; omega
          rw [show sideV s x y = -1 by unfold sideV; rw [hc, hc2, hl]; rfl]
          exact side_4 s.ax s.ay s.bx s.by1 s.l s.r x y _ _ _ _ _ _ rfl rfl rfl (w64 _ (by omega)) (w64 _ (by omega)) (w64 _ (by omega)) (by omega) (by omega) w (by omega) (by omega) (by omega) (by omega) (by omega) (by omega) (by omega) (by omega) (by omega) (by omega) (by omega) (by omega) (by omega) h2 h3 h4
        · have hl : lftS (trnS s) x y = false := by unfold lftS trnS; simp only; rw [decide_eq_false_iff_not, e, e2]; omega
          rw [show sideV s x y = 0 by unfold sideV; rw [hc, hc2, hl]; rfl]
          exact side_5 s.ax s.ay s.bx s.by1 s.l s.r x y _ _ _ _ _ _ rfl rfl rfl (w64 _ (by omega)) (w64 _ (by omega)) (w64 _ (by omega)) (by omega) (by omega) w (by omega) (by omega) (by omega) (by omega) (by omega) (by omega) (by omega) (by omega) (by omega) (by omega) (by omega) (by omega) (by omega) h2 h3 (by omega)
      · rw [show sideV s x y = 0 by unfold sideV; rw [hc, show crsS (trnS s) y = false from crs_no (by simp only [trnS]; omega)]; rfl]
        exact side_3 s.ax s.ay s.bx s.by1 s.l s.r x y w (by omega) (by omega) (by omega) (by omega) (by omega) (by omega) (by omega) (by omega) (by omega) (by omega) (by omega) (by omega) (by omega) h2 (by omega)
    · rw [show sideV s x y = 0 by unfold sideV; rw [hc, show crsS (trnS s) y = false from crs_no (by simp only [trnS]; omega)]; rfl]
      exact side_2 s.ax s.ay s.bx s.by1 s.l s.r x y w (by omega) (by omega) (by omega) (by omega) (by omega) (by omega) (by omega) (by omega) (by omega) (by omega) (by omega) (by omega) (by omega) (by omega)
end Go.Proofs.Ytgopaajmbifbaaa
