import Derived.Test.YtpeknlablcgchaaO3
import Derived.Laws.StructEq
/- Layer 16: rows of points; a fixed answer; the walks of CurveFlats and CurveStraight. -/
namespace Go.Proofs.Ytpeknlablcgchaa
open Go.RowKit
set_option linter.unusedVariables false
set_option linter.unusedSimpArgs false
set_option maxRecDepth 100000

theorem eqPt (x y : Int) (w : World) : (Op.equalIn 10000 23 (.agg #[.int .i64 x, .int .i64 y]) (.agg #[.int .i64 x, .int .i64 y])).run Try.prog w = .ok true w := by
  go_simp
/-- points in memory -/
structure Pts (w : World) (b o : Nat) (L : List (Int × Int)) : Prop where
  lt : b < w.heap.size
  get : ∀ (i : Nat) (x y : Int), L[i]? = some (x, y) → w.rangeAt b (o + i * 2) [.int .i64 x, .int .i64 y]
theorem Pts.keep {w w' : World} {b o : Nat} {L : List (Int × Int)} (h : Pts w b o L) (hb : Below w.heap.size w w') : Pts w' b o L :=
  ⟨Nat.lt_of_lt_of_le h.lt hb.size, fun i x y hi => rangeAt_keep (h.get i x y hi) hb⟩
theorem OwnC.pts {w : World} {B : Nat} {v : Value} {L : List (Int × Int)} (h : OwnC w B 23 2 v (L.map ptC)) (h0 : 0 < L.length) :
    ∃ b o c, v = .slice (some ⟨b, o, none⟩) L.length c ∧ Pts w b o L := by
  have hs : Sl w 2 (fun _ cs p => cs = ptC p) v L := h.sl (by simp) fun i h1 h2 => by simp
  obtain ⟨a, c, b, o, rfl, _, hx⟩ := hs.get
  obtain ⟨rfl, hb, _⟩ := hx 0 h0
  refine ⟨b, o, c, rfl, hb, fun i x y hi => ?_⟩
  obtain ⟨hi1, hi2⟩ := List.getElem?_eq_some_iff.1 hi
  obtain ⟨_, _, cs, _, hcs, hr⟩ := hx i hi1
  rw [hi2] at hcs
  rw [hcs] at hr
  exact hr
theorem flat16_pts {ax ay bx by1 cx cy : Int} (q : allE ax ay bx by1 cx cy = true) (n : Nat) (hn : pie (bendV ax ay bx by1 cx cy) = n) (w : World) : Calls Try.prog 8 #[.agg #[.int .i64 ax, .int .i64 ay], .agg #[.int .i64 bx, .int .i64 by1], .agg #[.int .i64 cx, .int .i64 cy]] w fun e w' => (∃ b o c, e = .returned (.slice (some ⟨b, o, none⟩) n c) ∧ Pts w' b o (flatL ax ay bx by1 cx cy)) ∧ Below w.heap.size w w' :=
  (flat16_any ax ay bx by1 cx cy w).mono fun e w' ⟨⟨v, h1, h2⟩, hb⟩ => ⟨by
    rw [flatP_yes q] at h2
    obtain ⟨b, o, c, rfl, hp⟩ := h2.pts (by rw [flatL_len]; exact (pie_bd _).1)
    rw [flatL_len, hn] at h1
    exact ⟨b, o, c, h1, hp⟩, hb⟩
theorem rflat16_pts {ax ay bx by1 cx cy : Int} (q : allE ax ay bx by1 cx cy = true) (n : Nat) (hn : pie (bendV ax ay bx by1 cx cy) = n) (w : World) : Calls Try.prog 15 #[.agg #[.int .i64 ax, .int .i64 ay], .agg #[.int .i64 bx, .int .i64 by1], .agg #[.int .i64 cx, .int .i64 cy]] w fun e w' => (∃ b o c, e = .returned (.slice (some ⟨b, o, none⟩) n c) ∧ Pts w' b o (flatL ax ay bx by1 cx cy)) ∧ Below w.heap.size w w' :=
  (rflat16_any ax ay bx by1 cx cy w q).mono fun e w' ⟨⟨v, h1, h2⟩, hb⟩ => ⟨by
    rw [flatP_yes q] at h2
    obtain ⟨b, o, c, rfl, hp⟩ := h2.pts (by rw [flatL_len]; exact (pie_bd _).1)
    rw [flatL_len, hn] at h1
    exact ⟨b, o, c, h1, hp⟩, hb⟩
theorem flat16_nil {ax ay bx by1 cx cy : Int} (q : allE ax ay bx by1 cx cy = false) (w : World) : Calls Try.prog 8 #[.agg #[.int .i64 ax, .int .i64 ay], .agg #[.int .i64 bx, .int .i64 by1], .agg #[.int .i64 cx, .int .i64 cy]] w fun e w' => (∃ a c, e = .returned (.slice a 0 c)) ∧ Below w.heap.size w w' :=
  (flat16_any ax ay bx by1 cx cy w).mono fun e w' ⟨⟨v, h1, h2⟩, hb⟩ => ⟨by
    rw [flatP_no q] at h2
    obtain ⟨a, c, rfl⟩ := h2.slice
    exact ⟨a, c, h1⟩, hb⟩
theorem flatL_aw : flatL 0 0 32 0 64 64 = [(16, 4), (32, 16), (48, 36), (64, 64)] := by decide
theorem awF (W : World) : Calls Try.prog 8 #[.agg #[.int .i64 0, .int .i64 0], .agg #[.int .i64 32, .int .i64 0], .agg #[.int .i64 64, .int .i64 64]] W fun e w' => (∃ b o c, e = .returned (.slice (some ⟨b, o, none⟩) 4 c) ∧ w'.cell? ⟨b, o, none⟩ = some (.int .i64 16) ∧ w'.cell? ⟨b, o + 1, none⟩ = some (.int .i64 4) ∧ w'.cell? ⟨b, o + 6, none⟩ = some (.int .i64 64) ∧ w'.cell? ⟨b, o + 6 + 1, none⟩ = some (.int .i64 64)) ∧ Below W.heap.size W w' :=
  (flat16_pts (show allE 0 0 32 0 64 64 = true by decide) 4 (by decide) W).mono fun e w' ⟨⟨b, o, c, h1, h2⟩, hb⟩ => ⟨⟨b, o, c, h1, by
    rw [flatL_aw] at h2
    have r0 := h2.get 0 16 4 rfl
    have r3 := h2.get 3 64 64 rfl
    exact ⟨r0 0 _ rfl, r0 1 _ rfl, r3 0 _ rfl, r3 1 _ rfl⟩⟩, hb⟩
theorem awB (W : World) : Calls Try.prog 12 #[.agg #[.int .i64 0, .int .i64 0], .agg #[.int .i64 32, .int .i64 0], .agg #[.int .i64 64, .int .i64 64]] W fun e w' => e = .returned (.int .i64 64) ∧ Below W.heap.size W w' := by
  have h := bend16_any 0 0 32 0 64 64 W
  rw [show (if allE 0 0 32 0 64 64 then bendV 0 0 32 0 64 64 else 0) = (64 : Int) by decide] at h
  exact h
set_option maxHeartbeats 1000000 in
theorem awake16_any (w : World) : Calls Try.prog 14 #[] w fun e w' => e = .returned (.bool true) ∧ Below w.heap.size w w' := by
  have q1 := fun W => eqPt 16 4 W
  have q2 := fun W => eqPt 64 64 W
  go_enter Try.func14, Try.ntmps14
  go_wp2_with (first
    | (go_at_call 8; (with_reducible refine (awF _).mono ?_); rintro e W1 ⟨⟨b, o, c, rfl, c0, c1, c2, c3⟩, k1⟩)
    | (go_at_call 12; (with_reducible refine (awB _).mono ?_); rintro e W2 ⟨rfl, k2⟩; have Hw2 := bq_trans k1 k2; clear k1 k2))
  go_ret
  exact ⟨rfl, Hw2⟩
set_option maxHeartbeats 2000000 in
theorem flats16_no (ax ay bx by1 cx cy : Int) (e1 : Bool) (w : World) (HA : Hid (∀ W, Calls Try.prog 14 #[] W fun e w' => e = .returned (.bool true) ∧ Below W.heap.size W w')) (H1 : Hid (∀ W, Calls Try.prog 8 #[.agg #[.int .i64 ax, .int .i64 ay], .agg #[.int .i64 bx, .int .i64 by1], .agg #[.int .i64 cx, .int .i64 cy]] W fun e w' => (∃ a c, e = .returned (.slice a 0 c)) ∧ Below W.heap.size W w')) (H2 : Hid (∀ W, Calls Try.prog 9 #[.agg #[.int .i64 ax, .int .i64 ay]] W fun e w' => e = .returned (.bool e1) ∧ Below W.heap.size W w')) (H3 : Hid (∀ W, Calls Try.prog 10 #[.agg #[.int .i64 ax, .int .i64 ay]] W fun e w' => e = .returned (.bool e1) ∧ Below W.heap.size W w')) (H4 : Hid (∀ W, Calls Try.prog 11 #[.agg #[.int .i64 ax, .int .i64 ay], .agg #[.int .i64 bx, .int .i64 by1], .agg #[.int .i64 cx, .int .i64 cy]] W fun e w' => e = .returned (.bool false) ∧ Below W.heap.size W w')) (H5 : Hid (∀ W, Calls Try.prog 12 #[.agg #[.int .i64 ax, .int .i64 ay], .agg #[.int .i64 bx, .int .i64 by1], .agg #[.int .i64 cx, .int .i64 cy]] W fun e w' => e = .returned (.int .i64 0) ∧ Below W.heap.size W w')) (H6 : Hid (∀ W, Calls Try.prog 13 #[.agg #[.int .i64 ax, .int .i64 ay], .agg #[.int .i64 bx, .int .i64 by1], .agg #[.int .i64 cx, .int .i64 cy]] W fun e w' => e = .returned (.int .i64 0) ∧ Below W.heap.size W w')) :
    Calls Try.prog 3 #[.agg #[.int .i64 ax, .int .i64 ay], .agg #[.int .i64 bx, .int .i64 by1], .agg #[.int .i64 cx, .int .i64 cy]] w fun e w' => e = .returned (.bool true) ∧ Below w.heap.size w w' := by
  go_enter Try.func3, Try.ntmps3
  go_upto_region 1 with (go_big_may; first
    | (refine wl_box 23 _ _ rfl rfl (show _ = Value.agg #[.int .i64 ax, .int .i64 ay] from rfl) ?_; intro W1 ba Ba_1 l1 k1; have ga : w.heap.size ≤ ba := l1; have Hw1 := k1; clear l1 k1)
    | (refine wl_box 23 _ _ rfl rfl (show _ = Value.agg #[.int .i64 bx, .int .i64 by1] from rfl) ?_; intro W2 bb Bb_2 l2 k2; have gb : w.heap.size ≤ bb := Nat.le_trans Hw1.size l2; have nab : ba ≠ bb := Nat.ne_of_lt (Nat.lt_of_lt_of_le Ba_1.lt l2); have Ba_2 := Ba_1.keep k2; have Hw2 := bq_trans Hw1 k2; clear l2 k2 Ba_1 Hw1)
    | (refine wl_box 23 _ _ rfl rfl (show _ = Value.agg #[.int .i64 cx, .int .i64 cy] from rfl) ?_; intro W3 bc Bc_3 l3 k3; have gc : w.heap.size ≤ bc := Nat.le_trans Hw2.size l3; have nac : ba ≠ bc := Nat.ne_of_lt (Nat.lt_of_lt_of_le Ba_2.lt l3); have nbc : bb ≠ bc := Nat.ne_of_lt (Nat.lt_of_lt_of_le Bb_2.lt l3); have Ba_3 := Ba_2.keep k3; have Bb_3 := Bb_2.keep k3; have Hw3 := bq_trans Hw2 k3; clear l3 k3 Ba_2 Bb_2 Hw2))
  go_upto_region 2 with (go_big_may; first
    | (refine wl_load 23 2 _ Try.underlying23 rfl szPt _ rfl rfl _ rfl _ _ Ba_3 rfl ?_)
    | (refine wl_load 23 2 _ Try.underlying23 rfl szPt _ rfl rfl _ rfl _ _ Bb_3 rfl ?_)
    | (refine wl_load 23 2 _ Try.underlying23 rfl szPt _ rfl rfl _ rfl _ _ Bc_3 rfl ?_)
    | (go_at_call 8; (with_reducible refine (H1.out _).mono ?_); rintro e W4 ⟨⟨la, lc, rfl⟩, k4⟩; have Ba_4 := Ba_3.keep k4; have Bb_4 := Bb_3.keep k4; have Bc_4 := Bc_3.keep k4; have Hw4 := bq_trans Hw3 k4; clear k4 Ba_3 Bb_3 Bc_3 Hw3))
  refine Det.wp_region_det (S := fun w' => Below W4.heap.size W4 w') (by kernel_rfl) (by kernel_rfl) (bq_drew (bq_refl _)) ?_
  refine Det.det_load 23 2 _ Try.underlying23 rfl szPt _ rfl (by rfl) _ rfl _ _ (fun w hS => Ba_4.keep hS) rfl ?_
  try simp only [Act.put, List.setIfInBounds_toArray, List.set_cons_zero, List.set_cons_succ]
  refine Det.det_call (f := 9) (args := #[.agg #[.int .i64 ax, .int .i64 ay]]) (v := .bool e1) (by rfl) ?_ (fun w hS => (H2.out w).mono fun e w' ⟨h1, h2⟩ => ⟨h1, bq_trans hS h2⟩) ?_
  · (intro w hSw; go_simp)
  try simp only [Act.put, List.setIfInBounds_toArray, List.set_cons_zero, List.set_cons_succ]
  refine Det.det_load 23 2 _ Try.underlying23 rfl szPt _ rfl (by rfl) _ rfl _ _ (fun w hS => Ba_4.keep hS) rfl ?_
  try simp only [Act.put, List.setIfInBounds_toArray, List.set_cons_zero, List.set_cons_succ]
  refine Det.det_call (f := 10) (args := #[.agg #[.int .i64 ax, .int .i64 ay]]) (v := .bool e1) (by rfl) ?_ (fun w hS => (H3.out w).mono fun e w' ⟨h1, h2⟩ => ⟨h1, bq_trans hS h2⟩) ?_
  · (intro w hSw; go_simp)
  try simp only [Act.put, List.setIfInBounds_toArray, List.set_cons_zero, List.set_cons_succ]
  refine Det.det_take (v := ?_) (by rfl) ?_ ?_
  rotate_left
  · (intro w hSw; have en : (e1 != e1) = false := (by cases e1 <;> rfl); go_simp; try with_reducible rfl)
  try simp only [Act.put, List.setIfInBounds_toArray, List.set_cons_zero, List.set_cons_succ]
  refine Det.det_nil (fun W5 k5 => ?_)
  have Ba_5 := Ba_4.keep k5
  have Bb_5 := Bb_4.keep k5
  have Bc_5 := Bc_4.keep k5
  have Hw5 := bq_trans Hw4 k5
  clear k5 Ba_4 Bb_4 Bc_4 Hw4
  go_upto_region 5 with (go_big_may; first
    | (refine wl_load 23 2 _ Try.underlying23 rfl szPt _ rfl rfl _ rfl _ _ Ba_5 rfl ?_)
    | (refine wl_load 23 2 _ Try.underlying23 rfl szPt _ rfl rfl _ rfl _ _ Bb_5 rfl ?_)
    | (refine wl_load 23 2 _ Try.underlying23 rfl szPt _ rfl rfl _ rfl _ _ Bc_5 rfl ?_)
    | (go_at_call 11; (with_reducible refine (H4.out _).mono ?_); rintro e W6 ⟨rfl, k6⟩; have Ba_6 := Ba_5.keep k6; have Bb_6 := Bb_5.keep k6; have Bc_6 := Bc_5.keep k6; have Hw6 := bq_trans Hw5 k6; clear k6 Ba_5 Bb_5 Bc_5 Hw5))
  refine Det.wp_region_text (S := fun w' => Below W6.heap.size W6 w') (bq_refl _) ?_
  refine Det.det_take (v := ?_) (by rfl) ?_ ?_
  rotate_left
  · (intro w hSw; go_simp; try with_reducible rfl)
  try simp only [Act.put, List.setIfInBounds_toArray, List.set_cons_zero, List.set_cons_succ]
  refine Det.det_take (v := ?_) (by rfl) ?_ ?_
  rotate_left
  · (intro w hSw; go_simp; try with_reducible rfl)
  try simp only [Act.put, List.setIfInBounds_toArray, List.set_cons_zero, List.set_cons_succ]
  refine Det.det_take (v := ?_) (by rfl) ?_ ?_
  rotate_left
  · (intro w hSw; go_simp; try with_reducible rfl)
  try simp only [Act.put, List.setIfInBounds_toArray, List.set_cons_zero, List.set_cons_succ]
  refine Det.det_take (v := ?_) (by rfl) ?_ ?_
  rotate_left
  · (intro w hSw; go_simp; try with_reducible rfl)
  try simp only [Act.put, List.setIfInBounds_toArray, List.set_cons_zero, List.set_cons_succ]
  refine Det.det_load 23 2 _ Try.underlying23 rfl szPt _ rfl (by rfl) _ rfl _ _ (fun w hS => Ba_6.keep hS) rfl ?_
  try simp only [Act.put, List.setIfInBounds_toArray, List.set_cons_zero, List.set_cons_succ]
  refine Det.det_load 23 2 _ Try.underlying23 rfl szPt _ rfl (by rfl) _ rfl _ _ (fun w hS => Bb_6.keep hS) rfl ?_
  try simp only [Act.put, List.setIfInBounds_toArray, List.set_cons_zero, List.set_cons_succ]
  refine Det.det_load 23 2 _ Try.underlying23 rfl szPt _ rfl (by rfl) _ rfl _ _ (fun w hS => Bc_6.keep hS) rfl ?_
  try simp only [Act.put, List.setIfInBounds_toArray, List.set_cons_zero, List.set_cons_succ]
  refine Det.det_call (f := 12) (args := #[.agg #[.int .i64 ax, .int .i64 ay], .agg #[.int .i64 bx, .int .i64 by1], .agg #[.int .i64 cx, .int .i64 cy]]) (v := .int .i64 0) (by rfl) ?_ (fun w hS => (H5.out w).mono fun e w' ⟨h1, h2⟩ => ⟨h1, bq_trans hS h2⟩) ?_
  · (intro w hSw; go_simp)
  try simp only [Act.put, List.setIfInBounds_toArray, List.set_cons_zero, List.set_cons_succ]
  refine Det.det_take (v := ?_) (by rfl) ?_ ?_
  rotate_left
  · (intro w hSw; go_simp; try with_reducible rfl)
  try simp only [Act.put, List.setIfInBounds_toArray, List.set_cons_zero, List.set_cons_succ]
  refine Det.det_take (v := ?_) (by rfl) ?_ ?_
  rotate_left
  · (intro w hSw; go_simp; try with_reducible rfl)
  try simp only [Act.put, List.setIfInBounds_toArray, List.set_cons_zero, List.set_cons_succ]
  refine Det.det_take (v := ?_) (by rfl) ?_ ?_
  rotate_left
  · (intro w hSw; go_simp; try with_reducible rfl)
  try simp only [Act.put, List.setIfInBounds_toArray, List.set_cons_zero, List.set_cons_succ]
  refine Det.det_load 23 2 _ Try.underlying23 rfl szPt _ rfl (by rfl) _ rfl _ _ (fun w hS => Ba_6.keep hS) rfl ?_
  try simp only [Act.put, List.setIfInBounds_toArray, List.set_cons_zero, List.set_cons_succ]
  refine Det.det_load 23 2 _ Try.underlying23 rfl szPt _ rfl (by rfl) _ rfl _ _ (fun w hS => Bb_6.keep hS) rfl ?_
  try simp only [Act.put, List.setIfInBounds_toArray, List.set_cons_zero, List.set_cons_succ]
  refine Det.det_load 23 2 _ Try.underlying23 rfl szPt _ rfl (by rfl) _ rfl _ _ (fun w hS => Bc_6.keep hS) rfl ?_
  try simp only [Act.put, List.setIfInBounds_toArray, List.set_cons_zero, List.set_cons_succ]
  refine Det.det_call (f := 13) (args := #[.agg #[.int .i64 ax, .int .i64 ay], .agg #[.int .i64 bx, .int .i64 by1], .agg #[.int .i64 cx, .int .i64 cy]]) (v := .int .i64 0) (by rfl) ?_ (fun w hS => (H6.out w).mono fun e w' ⟨h1, h2⟩ => ⟨h1, bq_trans hS h2⟩) ?_
  · (intro w hSw; go_simp)
  try simp only [Act.put, List.setIfInBounds_toArray, List.set_cons_zero, List.set_cons_succ]
  refine Det.det_take (v := ?_) (by rfl) ?_ ?_
  rotate_left
  · (intro w hSw; go_simp; try with_reducible rfl)
  try simp only [Act.put, List.setIfInBounds_toArray, List.set_cons_zero, List.set_cons_succ]
  refine Det.det_take (v := ?_) (by rfl) ?_ ?_
  rotate_left
  · (intro w hSw; go_simp; try with_reducible rfl)
  try simp only [Act.put, List.setIfInBounds_toArray, List.set_cons_zero, List.set_cons_succ]
  refine Det.det_take (v := ?_) (by rfl) ?_ ?_
  rotate_left
  · (intro w hSw; go_simp; try with_reducible rfl)
  try simp only [Act.put, List.setIfInBounds_toArray, List.set_cons_zero, List.set_cons_succ]
  refine Det.det_call (f := 14) (args := #[]) (v := .bool true) (by rfl) ?_ (fun w hS => (HA.out w).mono fun e w' ⟨h1, h2⟩ => ⟨h1, bq_trans hS h2⟩) ?_
  · (intro w hSw; go_simp)
  try simp only [Act.put, List.setIfInBounds_toArray, List.set_cons_zero, List.set_cons_succ]
  refine Det.det_take (v := ?_) (by rfl) ?_ ?_
  rotate_left
  · (intro w hSw; go_simp; try with_reducible rfl)
  try simp only [Act.put, List.setIfInBounds_toArray, List.set_cons_zero, List.set_cons_succ]
  refine Det.det_take (v := ?_) (by rfl) ?_ ?_
  rotate_left
  · (intro w hSw; go_simp; try with_reducible rfl)
  try simp only [Act.put, List.setIfInBounds_toArray, List.set_cons_zero, List.set_cons_succ]
  refine Det.det_nil (fun W7 k7 => ?_)
  have Ba_7 := Ba_6.keep k7
  have Bb_7 := Bb_6.keep k7
  have Bc_7 := Bc_6.keep k7
  have Hw7 := bq_trans Hw6 k7
  clear k7 Ba_6 Bb_6 Bc_6 Hw6
  go_wp2_with fail
  go_ret
  exact ⟨rfl, Hw7⟩
/-- a loop over rows -/
def LRel (w : World) (n : Nat) (i : Value) (wr : World) : Prop := ∃ k : Nat, k ≤ n ∧ i = .int .i64 (k : Int) ∧ Below w.heap.size w wr
set_option maxHeartbeats 4000000 in
theorem flats16_yes (ax ay bx by1 cx cy d : Int) (e1 : Bool) (n : Nat) (L : List (Int × Int)) (w : World) (hn : n ≤ 32) (HL : Hid (∀ k, k < n → ∃ x y, L[k]? = some (x, y))) (HA : Hid (∀ W, Calls Try.prog 14 #[] W fun e w' => e = .returned (.bool true) ∧ Below W.heap.size W w')) (H1 : Hid (∀ W, Calls Try.prog 8 #[.agg #[.int .i64 ax, .int .i64 ay], .agg #[.int .i64 bx, .int .i64 by1], .agg #[.int .i64 cx, .int .i64 cy]] W fun e w' => (∃ b o c, e = .returned (.slice (some ⟨b, o, none⟩) n c) ∧ Pts w' b o (L)) ∧ Below W.heap.size W w')) (H2 : Hid (∀ W, Calls Try.prog 9 #[.agg #[.int .i64 ax, .int .i64 ay]] W fun e w' => e = .returned (.bool e1) ∧ Below W.heap.size W w')) (H3 : Hid (∀ W, Calls Try.prog 10 #[.agg #[.int .i64 ax, .int .i64 ay]] W fun e w' => e = .returned (.bool e1) ∧ Below W.heap.size W w')) (H4 : Hid (∀ W, Calls Try.prog 11 #[.agg #[.int .i64 ax, .int .i64 ay], .agg #[.int .i64 bx, .int .i64 by1], .agg #[.int .i64 cx, .int .i64 cy]] W fun e w' => e = .returned (.bool true) ∧ Below W.heap.size W w')) (H5 : Hid (∀ W, Calls Try.prog 12 #[.agg #[.int .i64 ax, .int .i64 ay], .agg #[.int .i64 bx, .int .i64 by1], .agg #[.int .i64 cx, .int .i64 cy]] W fun e w' => e = .returned (.int .i64 d) ∧ Below W.heap.size W w')) (H6 : Hid (∀ W, Calls Try.prog 13 #[.agg #[.int .i64 ax, .int .i64 ay], .agg #[.int .i64 bx, .int .i64 by1], .agg #[.int .i64 cx, .int .i64 cy]] W fun e w' => e = .returned (.int .i64 (n : Int)) ∧ Below W.heap.size W w'))
    (H7 : Hid (∀ W, Calls Try.prog 15 #[.agg #[.int .i64 ax, .int .i64 ay], .agg #[.int .i64 bx, .int .i64 by1], .agg #[.int .i64 cx, .int .i64 cy]] W fun e w' => (∃ b o c, e = .returned (.slice (some ⟨b, o, none⟩) n c) ∧ Pts w' b o (L)) ∧ Below W.heap.size W w')) (H8 : Hid (∀ W, Calls Try.prog 16 #[.agg #[.int .i64 ax, .int .i64 ay], .agg #[.int .i64 bx, .int .i64 by1], .agg #[.int .i64 cx, .int .i64 cy]] W fun e w' => e = .returned (.int .i64 d) ∧ Below W.heap.size W w')) (H9 : Hid (∀ W, Calls Try.prog 17 #[.agg #[.int .i64 ax, .int .i64 ay], .agg #[.int .i64 bx, .int .i64 by1], .agg #[.int .i64 cx, .int .i64 cy]] W fun e w' => e = .returned (.int .i64 (n : Int)) ∧ Below W.heap.size W w')) :
    Calls Try.prog 3 #[.agg #[.int .i64 ax, .int .i64 ay], .agg #[.int .i64 bx, .int .i64 by1], .agg #[.int .i64 cx, .int .i64 cy]] w fun e w' => e = .returned (.bool true) ∧ Below w.heap.size w w' := by
  have hn2 : (n : Int) ≤ 32 := by omega
  clear hn
  go_enter Try.func3, Try.ntmps3
  go_upto_region 1 with (go_big_may; first
    | (refine wl_box 23 _ _ rfl rfl (show _ = Value.agg #[.int .i64 ax, .int .i64 ay] from rfl) ?_; intro W1 ba Ba_1 l1 k1; have ga : w.heap.size ≤ ba := l1; have Hw1 := k1; clear l1 k1)
    | (refine wl_box 23 _ _ rfl rfl (show _ = Value.agg #[.int .i64 bx, .int .i64 by1] from rfl) ?_; intro W2 bb Bb_2 l2 k2; have gb : w.heap.size ≤ bb := Nat.le_trans Hw1.size l2; have nab : ba ≠ bb := Nat.ne_of_lt (Nat.lt_of_lt_of_le Ba_1.lt l2); have Ba_2 := Ba_1.keep k2; have Hw2 := bq_trans Hw1 k2; clear l2 k2 Ba_1 Hw1)
    | (refine wl_box 23 _ _ rfl rfl (show _ = Value.agg #[.int .i64 cx, .int .i64 cy] from rfl) ?_; intro W3 bc Bc_3 l3 k3; have gc : w.heap.size ≤ bc := Nat.le_trans Hw2.size l3; have nac : ba ≠ bc := Nat.ne_of_lt (Nat.lt_of_lt_of_le Ba_2.lt l3); have nbc : bb ≠ bc := Nat.ne_of_lt (Nat.lt_of_lt_of_le Bb_2.lt l3); have Ba_3 := Ba_2.keep k3; have Bb_3 := Bb_2.keep k3; have Hw3 := bq_trans Hw2 k3; clear l3 k3 Ba_2 Bb_2 Hw2))
  go_upto_region 2 with (go_big_may; first
    | (refine wl_load 23 2 _ Try.underlying23 rfl szPt _ rfl rfl _ rfl _ _ Ba_3 rfl ?_)
    | (refine wl_load 23 2 _ Try.underlying23 rfl szPt _ rfl rfl _ rfl _ _ Bb_3 rfl ?_)
    | (refine wl_load 23 2 _ Try.underlying23 rfl szPt _ rfl rfl _ rfl _ _ Bc_3 rfl ?_)
    | (go_at_call 8; (with_reducible refine (H1.out _).mono ?_); rintro e W4 ⟨⟨lb, lo, lc, rfl, Pl_0⟩, k4⟩; have Ba_4 := Ba_3.keep k4; have Bb_4 := Bb_3.keep k4; have Bc_4 := Bc_3.keep k4; have Hw4 := bq_trans Hw3 k4; clear k4 Ba_3 Bb_3 Bc_3 Hw3))
  refine Det.wp_region_det (S := fun w' => Below W4.heap.size W4 w') (by kernel_rfl) (by kernel_rfl) (bq_drew (bq_refl _)) ?_
  refine Det.det_load 23 2 _ Try.underlying23 rfl szPt _ rfl (by rfl) _ rfl _ _ (fun w hS => Ba_4.keep hS) rfl ?_
  try simp only [Act.put, List.setIfInBounds_toArray, List.set_cons_zero, List.set_cons_succ]
  refine Det.det_call (f := 9) (args := #[.agg #[.int .i64 ax, .int .i64 ay]]) (v := .bool e1) (by rfl) ?_ (fun w hS => (H2.out w).mono fun e w' ⟨h1, h2⟩ => ⟨h1, bq_trans hS h2⟩) ?_
  · (intro w hSw; go_simp)
  try simp only [Act.put, List.setIfInBounds_toArray, List.set_cons_zero, List.set_cons_succ]
  refine Det.det_load 23 2 _ Try.underlying23 rfl szPt _ rfl (by rfl) _ rfl _ _ (fun w hS => Ba_4.keep hS) rfl ?_
  try simp only [Act.put, List.setIfInBounds_toArray, List.set_cons_zero, List.set_cons_succ]
  refine Det.det_call (f := 10) (args := #[.agg #[.int .i64 ax, .int .i64 ay]]) (v := .bool e1) (by rfl) ?_ (fun w hS => (H3.out w).mono fun e w' ⟨h1, h2⟩ => ⟨h1, bq_trans hS h2⟩) ?_
  · (intro w hSw; go_simp)
  try simp only [Act.put, List.setIfInBounds_toArray, List.set_cons_zero, List.set_cons_succ]
  refine Det.det_take (v := ?_) (by rfl) ?_ ?_
  rotate_left
  · (intro w hSw; have en : (e1 != e1) = false := (by cases e1 <;> rfl); go_simp; try with_reducible rfl)
  try simp only [Act.put, List.setIfInBounds_toArray, List.set_cons_zero, List.set_cons_succ]
  refine Det.det_nil (fun W5 k5 => ?_)
  have Ba_5 := Ba_4.keep k5
  have Bb_5 := Bb_4.keep k5
  have Bc_5 := Bc_4.keep k5
  have Ol_5 := Pl_0.keep k5
  have Hw5 := bq_trans Hw4 k5
  clear k5 Ba_4 Bb_4 Bc_4 Pl_0 Hw4
  go_upto_region 6 with (go_big_may; first
    | (refine wl_load 23 2 _ Try.underlying23 rfl szPt _ rfl rfl _ rfl _ _ Ba_5 rfl ?_)
    | (refine wl_load 23 2 _ Try.underlying23 rfl szPt _ rfl rfl _ rfl _ _ Bb_5 rfl ?_)
    | (refine wl_load 23 2 _ Try.underlying23 rfl szPt _ rfl rfl _ rfl _ _ Bc_5 rfl ?_)
    | (go_at_call 11; (with_reducible refine (H4.out _).mono ?_); rintro e W6 ⟨rfl, k6⟩; have Ba_6 := Ba_5.keep k6; have Bb_6 := Bb_5.keep k6; have Bc_6 := Bc_5.keep k6; have Ol_6 := Ol_5.keep k6; have Hw6 := bq_trans Hw5 k6; clear k6 Ba_5 Bb_5 Bc_5 Ol_5 Hw5))
  go_upto_region 7 with (go_big_may; first
    | (refine wl_load 23 2 _ Try.underlying23 rfl szPt _ rfl rfl _ rfl _ _ Ba_6 rfl ?_)
    | (refine wl_load 23 2 _ Try.underlying23 rfl szPt _ rfl rfl _ rfl _ _ Bb_6 rfl ?_)
    | (refine wl_load 23 2 _ Try.underlying23 rfl szPt _ rfl rfl _ rfl _ _ Bc_6 rfl ?_)
    | (go_at_call 15; (with_reducible refine (H7.out _).mono ?_); rintro e W7 ⟨⟨mb, mo, mc, rfl, Pm_0⟩, k7⟩; have Ba_7 := Ba_6.keep k7; have Bb_7 := Bb_6.keep k7; have Bc_7 := Bc_6.keep k7; have Ol_7 := Ol_6.keep k7; have Hw7 := bq_trans Hw6 k7; clear k7 Ba_6 Bb_6 Bc_6 Ol_6 Hw6))
  refine Det.wp_region_det (S := fun w' => Below W7.heap.size W7 w') (by kernel_rfl) (by kernel_rfl) (bq_drew (bq_refl _)) ?_
  refine Det.det_take (v := ?_) (by rfl) ?_ ?_
  rotate_left
  · (intro w hSw; go_simp; try with_reducible rfl)
  try simp only [Act.put, List.setIfInBounds_toArray, List.set_cons_zero, List.set_cons_succ]
  refine Det.det_take (v := ?_) (by rfl) ?_ ?_
  rotate_left
  · (intro w hSw; go_simp; try with_reducible rfl)
  try simp only [Act.put, List.setIfInBounds_toArray, List.set_cons_zero, List.set_cons_succ]
  refine Det.det_take (v := ?_) (by rfl) ?_ ?_
  rotate_left
  · (intro w hSw; go_simp; try with_reducible rfl)
  try simp only [Act.put, List.setIfInBounds_toArray, List.set_cons_zero, List.set_cons_succ]
  refine Det.det_take (v := ?_) (by rfl) ?_ ?_
  rotate_left
  · (intro w hSw; go_simp; try with_reducible rfl)
  try simp only [Act.put, List.setIfInBounds_toArray, List.set_cons_zero, List.set_cons_succ]
  refine Det.det_take (v := ?_) (by rfl) ?_ ?_
  rotate_left
  · (intro w hSw; have en : ((n : Int) != (n : Int)) = false := (by simp); go_simp; try with_reducible rfl)
  try simp only [Act.put, List.setIfInBounds_toArray, List.set_cons_zero, List.set_cons_succ]
  refine Det.det_take (v := ?_) (by rfl) ?_ ?_
  rotate_left
  · (intro w hSw; go_simp; try with_reducible rfl)
  try simp only [Act.put, List.setIfInBounds_toArray, List.set_cons_zero, List.set_cons_succ]
  refine Det.det_load 23 2 _ Try.underlying23 rfl szPt _ rfl (by rfl) _ rfl _ _ (fun w hS => Ba_7.keep hS) rfl ?_
  try simp only [Act.put, List.setIfInBounds_toArray, List.set_cons_zero, List.set_cons_succ]
  refine Det.det_load 23 2 _ Try.underlying23 rfl szPt _ rfl (by rfl) _ rfl _ _ (fun w hS => Bb_7.keep hS) rfl ?_
  try simp only [Act.put, List.setIfInBounds_toArray, List.set_cons_zero, List.set_cons_succ]
  refine Det.det_load 23 2 _ Try.underlying23 rfl szPt _ rfl (by rfl) _ rfl _ _ (fun w hS => Bc_7.keep hS) rfl ?_
  try simp only [Act.put, List.setIfInBounds_toArray, List.set_cons_zero, List.set_cons_succ]
  refine Det.det_call (f := 12) (args := #[.agg #[.int .i64 ax, .int .i64 ay], .agg #[.int .i64 bx, .int .i64 by1], .agg #[.int .i64 cx, .int .i64 cy]]) (v := .int .i64 d) (by rfl) ?_ (fun w hS => (H5.out w).mono fun e w' ⟨h1, h2⟩ => ⟨h1, bq_trans hS h2⟩) ?_
  · (intro w hSw; go_simp)
  try simp only [Act.put, List.setIfInBounds_toArray, List.set_cons_zero, List.set_cons_succ]
  refine Det.det_load 23 2 _ Try.underlying23 rfl szPt _ rfl (by rfl) _ rfl _ _ (fun w hS => Ba_7.keep hS) rfl ?_
  try simp only [Act.put, List.setIfInBounds_toArray, List.set_cons_zero, List.set_cons_succ]
  refine Det.det_load 23 2 _ Try.underlying23 rfl szPt _ rfl (by rfl) _ rfl _ _ (fun w hS => Bb_7.keep hS) rfl ?_
  try simp only [Act.put, List.setIfInBounds_toArray, List.set_cons_zero, List.set_cons_succ]
  refine Det.det_load 23 2 _ Try.underlying23 rfl szPt _ rfl (by rfl) _ rfl _ _ (fun w hS => Bc_7.keep hS) rfl ?_
  try simp only [Act.put, List.setIfInBounds_toArray, List.set_cons_zero, List.set_cons_succ]
  refine Det.det_call (f := 16) (args := #[.agg #[.int .i64 ax, .int .i64 ay], .agg #[.int .i64 bx, .int .i64 by1], .agg #[.int .i64 cx, .int .i64 cy]]) (v := .int .i64 d) (by rfl) ?_ (fun w hS => (H8.out w).mono fun e w' ⟨h1, h2⟩ => ⟨h1, bq_trans hS h2⟩) ?_
  · (intro w hSw; go_simp)
  try simp only [Act.put, List.setIfInBounds_toArray, List.set_cons_zero, List.set_cons_succ]
  refine Det.det_take (v := ?_) (by rfl) ?_ ?_
  rotate_left
  · (intro w hSw; have en : (d != d) = false := (by simp); go_simp; try with_reducible rfl)
  try simp only [Act.put, List.setIfInBounds_toArray, List.set_cons_zero, List.set_cons_succ]
  refine Det.det_take (v := ?_) (by rfl) ?_ ?_
  rotate_left
  · (intro w hSw; go_simp; try with_reducible rfl)
  try simp only [Act.put, List.setIfInBounds_toArray, List.set_cons_zero, List.set_cons_succ]
  refine Det.det_take (v := ?_) (by rfl) ?_ ?_
  rotate_left
  · (intro w hSw; go_simp; try with_reducible rfl)
  try simp only [Act.put, List.setIfInBounds_toArray, List.set_cons_zero, List.set_cons_succ]
  refine Det.det_load 23 2 _ Try.underlying23 rfl szPt _ rfl (by rfl) _ rfl _ _ (fun w hS => Ba_7.keep hS) rfl ?_
  try simp only [Act.put, List.setIfInBounds_toArray, List.set_cons_zero, List.set_cons_succ]
  refine Det.det_load 23 2 _ Try.underlying23 rfl szPt _ rfl (by rfl) _ rfl _ _ (fun w hS => Bb_7.keep hS) rfl ?_
  try simp only [Act.put, List.setIfInBounds_toArray, List.set_cons_zero, List.set_cons_succ]
  refine Det.det_load 23 2 _ Try.underlying23 rfl szPt _ rfl (by rfl) _ rfl _ _ (fun w hS => Bc_7.keep hS) rfl ?_
  try simp only [Act.put, List.setIfInBounds_toArray, List.set_cons_zero, List.set_cons_succ]
  refine Det.det_call (f := 13) (args := #[.agg #[.int .i64 ax, .int .i64 ay], .agg #[.int .i64 bx, .int .i64 by1], .agg #[.int .i64 cx, .int .i64 cy]]) (v := .int .i64 (n : Int)) (by rfl) ?_ (fun w hS => (H6.out w).mono fun e w' ⟨h1, h2⟩ => ⟨h1, bq_trans hS h2⟩) ?_
  · (intro w hSw; go_simp)
  try simp only [Act.put, List.setIfInBounds_toArray, List.set_cons_zero, List.set_cons_succ]
  refine Det.det_load 23 2 _ Try.underlying23 rfl szPt _ rfl (by rfl) _ rfl _ _ (fun w hS => Ba_7.keep hS) rfl ?_
  try simp only [Act.put, List.setIfInBounds_toArray, List.set_cons_zero, List.set_cons_succ]
  refine Det.det_load 23 2 _ Try.underlying23 rfl szPt _ rfl (by rfl) _ rfl _ _ (fun w hS => Bb_7.keep hS) rfl ?_
  try simp only [Act.put, List.setIfInBounds_toArray, List.set_cons_zero, List.set_cons_succ]
  refine Det.det_load 23 2 _ Try.underlying23 rfl szPt _ rfl (by rfl) _ rfl _ _ (fun w hS => Bc_7.keep hS) rfl ?_
  try simp only [Act.put, List.setIfInBounds_toArray, List.set_cons_zero, List.set_cons_succ]
  refine Det.det_call (f := 17) (args := #[.agg #[.int .i64 ax, .int .i64 ay], .agg #[.int .i64 bx, .int .i64 by1], .agg #[.int .i64 cx, .int .i64 cy]]) (v := .int .i64 (n : Int)) (by rfl) ?_ (fun w hS => (H9.out w).mono fun e w' ⟨h1, h2⟩ => ⟨h1, bq_trans hS h2⟩) ?_
  · (intro w hSw; go_simp)
  try simp only [Act.put, List.setIfInBounds_toArray, List.set_cons_zero, List.set_cons_succ]
  refine Det.det_take (v := ?_) (by rfl) ?_ ?_
  rotate_left
  · (intro w hSw; have en : ((n : Int) != (n : Int)) = false := (by simp); go_simp; try with_reducible rfl)
  try simp only [Act.put, List.setIfInBounds_toArray, List.set_cons_zero, List.set_cons_succ]
  refine Det.det_take (v := ?_) (by rfl) ?_ ?_
  rotate_left
  · (intro w hSw; go_simp; try with_reducible rfl)
  try simp only [Act.put, List.setIfInBounds_toArray, List.set_cons_zero, List.set_cons_succ]
  refine Det.det_nil (fun W8 k8 => ?_)
  have Ba_8 := Ba_7.keep k8
  have Bb_8 := Bb_7.keep k8
  have Bc_8 := Bc_7.keep k8
  have Ol_8 := Ol_7.keep k8
  have Om_8 := Pm_0.keep k8
  have Hw8 := bq_trans Hw7 k8
  clear k8 Ba_7 Bb_7 Bc_7 Ol_7 Pm_0 Hw7
  clear H1 H2 H3 H4 H5 H6 H7 H8 H9 Ba_8 Bb_8 Bc_8
  have HB0 := Lib.hid Hw8
  clear Hw8
  go_wp2_with fail
  go_loopw [77] (fun i wr => LRel W8 n i wr) (fun i _ => n - (intOf i).toNat)
  case atStart => exact ⟨0, by omega, rfl, bq_refl _⟩
  case round =>
    obtain ⟨k, hk, rfl, hbel⟩ := hrel
    by_cases hlt : k < n
    · obtain ⟨x, y, hxy⟩ := HL.out k hlt
      have RL := rangeAt_keep (Ol_8.get k x y hxy) hbel
      have RM := rangeAt_keep (Om_8.get k x y hxy) hbel
      have HB := Lib.hid hbel
      have i1 : (0 : Int) ≤ (k : Int) := by omega
      have i2 : (k : Int) < (n : Int) := by omega
      clear hbel hxy
      go_upto_region 12 with (fail)
      refine Det.wp_region_det (S := fun w' => Below wr.heap.size wr w') (by kernel_rfl) (by kernel_rfl) (bq_drew (bq_refl _)) ?_
      refine Det.det_take (v := ?_) (by rfl) ?_ ?_
      rotate_left
      · (intro w hSw; go_simp; try with_reducible rfl)
      try simp only [Act.put, List.setIfInBounds_toArray, List.set_cons_zero, List.set_cons_succ]
      refine Det.det_take (v := ?_) (by rfl) ?_ ?_
      rotate_left
      · (intro w hSw; go_simp; try with_reducible rfl)
      try simp only [Act.put, List.setIfInBounds_toArray, List.set_cons_zero, List.set_cons_succ]
      refine Det.det_take (v := ?_) (by rfl) ?_ ?_
      rotate_left
      · (intro w hSw; go_simp; try with_reducible rfl)
      try simp only [Act.put, List.setIfInBounds_toArray, List.set_cons_zero, List.set_cons_succ]
      refine Det.det_mid 23 _ rfl (by rfl) _ _ rfl ([.int .i64 x, .int .i64 y]) _ (fun w hS => rangeAt_keep RL hS) Try.underlying23 rfl szPt ?_
      try simp only [Act.put, List.setIfInBounds_toArray, List.set_cons_zero, List.set_cons_succ]
      refine Det.det_take (v := ?_) (by rfl) ?_ ?_
      rotate_left
      · (intro w hSw; go_simp; try with_reducible rfl)
      try simp only [Act.put, List.setIfInBounds_toArray, List.set_cons_zero, List.set_cons_succ]
      refine Det.det_take (v := ?_) (by rfl) ?_ ?_
      rotate_left
      · (intro w hSw; go_simp; try with_reducible rfl)
      try simp only [Act.put, List.setIfInBounds_toArray, List.set_cons_zero, List.set_cons_succ]
      refine Det.det_take (v := ?_) (by rfl) ?_ ?_
      rotate_left
      · (intro w hSw; go_simp; try with_reducible rfl)
      try simp only [Act.put, List.setIfInBounds_toArray, List.set_cons_zero, List.set_cons_succ]
      refine Det.det_mid 23 _ rfl (by rfl) _ _ rfl ([.int .i64 x, .int .i64 y]) _ (fun w hS => rangeAt_keep RM hS) Try.underlying23 rfl szPt ?_
      try simp only [Act.put, List.setIfInBounds_toArray, List.set_cons_zero, List.set_cons_succ]
      refine Det.det_take (v := ?_) (by rfl) ?_ ?_
      rotate_left
      · (intro w hSw; have q := eqPt x y w; go_simp; try with_reducible rfl)
      try simp only [Act.put, List.setIfInBounds_toArray, List.set_cons_zero, List.set_cons_succ]
      refine Det.det_nil (fun W31 k31 => ?_)
      have Hw31 := k31
      clear k31 
      go_wp2_with fail
      go_roundw
      case rel => exact ⟨k + 1, by omega, by go_num, bq_trans HB.out Hw31⟩
      case measure => simp [intOf]; omega
    · have hkn : k = n := by omega
      have HB := Lib.hid hbel
      clear hbel
      subst hkn
      go_wp2_with (first
        | (go_at_call 14; (with_reducible refine (HA.out _).mono ?_); rintro e W99 ⟨rfl, k99⟩))
      go_ret
      exact ⟨rfl, bq_trans (bq_trans HB0.out HB.out) k99⟩
theorem flatL_some {ax ay bx by1 cx cy : Int} (n : Nat) (hn : pie (bendV ax ay bx by1 cx cy) = n) : ∀ k, k < n → ∃ x y, (flatL ax ay bx by1 cx cy)[k]? = some (x, y) := fun k hk => ⟨_, _, flatL_at ax ay bx by1 cx cy k (by omega)⟩
theorem curveFlats_walk (ax ay bx by1 cx cy : Int) (w : World) : Calls Try.prog 3 #[.agg #[.int .i64 ax, .int .i64 ay], .agg #[.int .i64 bx, .int .i64 by1], .agg #[.int .i64 cx, .int .i64 cy]] w fun e w' => e = .returned (.bool true) ∧ Below w.heap.size w w' := by
  have H2 := Lib.hid fun W => even16_any ax ay W
  have H3 := Lib.hid fun W => reven16_any ax ay W
  have H4 := Lib.hid fun W => right16_any ax ay bx by1 cx cy W
  have H5 := Lib.hid fun W => bend16_any ax ay bx by1 cx cy W
  have H6 := Lib.hid fun W => pieces16_any ax ay bx by1 cx cy W
  cases q : allE ax ay bx by1 cx cy with
  | false =>
    rw [q] at H4 H5 H6
    exact flats16_no ax ay bx by1 cx cy _ w (Lib.hid awake16_any) (Lib.hid fun W => flat16_nil q W) H2 H3 H4 H5 H6
  | true =>
    rw [q] at H4 H5 H6
    exact flats16_yes ax ay bx by1 cx cy _ _ (pie (bendV ax ay bx by1 cx cy)) (flatL ax ay bx by1 cx cy) w (pie_bd _).2 (Lib.hid (flatL_some _ rfl)) (Lib.hid awake16_any) (Lib.hid fun W => flat16_pts q _ rfl W) H2 H3 H4 H5 H6 (Lib.hid fun W => rflat16_pts q _ rfl W) (Lib.hid fun W => rbend16_any ax ay bx by1 cx cy W q) (Lib.hid fun W => rpieces16_any ax ay bx by1 cx cy W q)
set_option maxHeartbeats 2000000 in
theorem straight16_0 (ax ay bx by1 cx cy mx my n d : Int) (w : World) (HA : Hid (∀ W, Calls Try.prog 14 #[] W fun e w' => e = .returned (.bool true) ∧ Below W.heap.size W w')) (H1 : Hid (∀ W, Calls Try.prog 11 #[.agg #[.int .i64 ax, .int .i64 ay], .agg #[.int .i64 bx, .int .i64 by1], .agg #[.int .i64 cx, .int .i64 cy]] W fun e w' => e = .returned (.bool false) ∧ Below W.heap.size W w')) :
    Calls Try.prog 6 #[.agg #[.int .i64 ax, .int .i64 ay], .agg #[.int .i64 cx, .int .i64 cy], .agg #[.int .i64 bx, .int .i64 by1]] w fun e w' => e = .returned (.bool true) ∧ Below w.heap.size w w' := by
  go_enter Try.func6, Try.ntmps6
  go_upto_region 1 with (go_big_may; first
    | (refine wl_box 23 _ _ rfl rfl (show _ = Value.agg #[.int .i64 ax, .int .i64 ay] from rfl) ?_; intro W1 ba Ba_1 l1 k1; have ga : w.heap.size ≤ ba := l1; have Hw1 := k1; clear l1 k1)
    | (refine wl_box 23 _ _ rfl rfl (show _ = Value.agg #[.int .i64 cx, .int .i64 cy] from rfl) ?_; intro W2 bc Bc_2 l2 k2; have gc : w.heap.size ≤ bc := Nat.le_trans Hw1.size l2; have nac : ba ≠ bc := Nat.ne_of_lt (Nat.lt_of_lt_of_le Ba_1.lt l2); have Ba_2 := Ba_1.keep k2; have Hw2 := bq_trans Hw1 k2; clear l2 k2 Ba_1 Hw1)
    | (refine wl_box 23 _ _ rfl rfl (show _ = Value.agg #[.int .i64 bx, .int .i64 by1] from rfl) ?_; intro W3 bb Bb_3 l3 k3; have gb : w.heap.size ≤ bb := Nat.le_trans Hw2.size l3; have nab : ba ≠ bb := Nat.ne_of_lt (Nat.lt_of_lt_of_le Ba_2.lt l3); have ncb : bc ≠ bb := Nat.ne_of_lt (Nat.lt_of_lt_of_le Bc_2.lt l3); have Ba_3 := Ba_2.keep k3; have Bc_3 := Bc_2.keep k3; have Hw3 := bq_trans Hw2 k3; clear l3 k3 Ba_2 Bc_2 Hw2))
  go_wp2_with (first
    | (refine wl_load 23 2 _ Try.underlying23 rfl szPt _ rfl rfl _ rfl _ _ Ba_3 rfl ?_)
    | (refine wl_load 23 2 _ Try.underlying23 rfl szPt _ rfl rfl _ rfl _ _ Bb_3 rfl ?_)
    | (refine wl_load 23 2 _ Try.underlying23 rfl szPt _ rfl rfl _ rfl _ _ Bc_3 rfl ?_)
    | (go_at_call 11; (with_reducible refine (H1.out _).mono ?_); rintro e W4 ⟨rfl, k4⟩; have Ba_4 := Ba_3.keep k4; have Bc_4 := Bc_3.keep k4; have Bb_4 := Bb_3.keep k4; have Hw4 := bq_trans Hw3 k4; clear k4 Ba_3 Bc_3 Bb_3 Hw3)
    | (go_at_call 14; (with_reducible refine (HA.out _).mono ?_); rintro e W5 ⟨rfl, k5⟩; have Ba_5 := Ba_4.keep k5; have Bc_5 := Bc_4.keep k5; have Bb_5 := Bb_4.keep k5; have Hw5 := bq_trans Hw4 k5; clear k5 Ba_4 Bc_4 Bb_4 Hw4))
  go_ret
  exact ⟨rfl, Hw5⟩
set_option maxHeartbeats 2000000 in
theorem straight16_1 (ax ay bx by1 cx cy mx my n d : Int) (w : World) (HA : Hid (∀ W, Calls Try.prog 14 #[] W fun e w' => e = .returned (.bool true) ∧ Below W.heap.size W w')) (H1 : Hid (∀ W, Calls Try.prog 11 #[.agg #[.int .i64 ax, .int .i64 ay], .agg #[.int .i64 bx, .int .i64 by1], .agg #[.int .i64 cx, .int .i64 cy]] W fun e w' => e = .returned (.bool true) ∧ Below W.heap.size W w')) (H2 : Hid (∀ W, Calls Try.prog 13 #[.agg #[.int .i64 ax, .int .i64 ay], .agg #[.int .i64 bx, .int .i64 by1], .agg #[.int .i64 cx, .int .i64 cy]] W fun e w' => e = .returned (.int .i64 n) ∧ Below W.heap.size W w')) (H3 : Hid (∀ W, Calls Try.prog 13 #[.agg #[.int .i64 cx, .int .i64 cy], .agg #[.int .i64 bx, .int .i64 by1], .agg #[.int .i64 ax, .int .i64 ay]] W fun e w' => e = .returned (.int .i64 n) ∧ Below W.heap.size W w')) (H4 : Hid (∀ W, Calls Try.prog 12 #[.agg #[.int .i64 ax, .int .i64 ay], .agg #[.int .i64 bx, .int .i64 by1], .agg #[.int .i64 cx, .int .i64 cy]] W fun e w' => e = .returned (.int .i64 d) ∧ Below W.heap.size W w')) (H5 : Hid (∀ W, Calls Try.prog 12 #[.agg #[.int .i64 cx, .int .i64 cy], .agg #[.int .i64 bx, .int .i64 by1], .agg #[.int .i64 ax, .int .i64 ay]] W fun e w' => e = .returned (.int .i64 d) ∧ Below W.heap.size W w')) (ex : (ax + cx).tdiv 2 = mx) (ey : (ay + cy).tdiv 2 = my) (hmx0 : -16777216 ≤ mx) (hmx1 : mx ≤ 16777216) (hmy0 : -16777216 ≤ my) (hmy1 : my ≤ 16777216) (hax0 : -16777216 ≤ ax) (hax1 : ax ≤ 16777216) (hay0 : -16777216 ≤ ay) (hay1 : ay ≤ 16777216) (hcx0 : -16777216 ≤ cx) (hcx1 : cx ≤ 16777216) (hcy0 : -16777216 ≤ cy) (hcy1 : cy ≤ 16777216) (H6 : Hid (∀ W, Calls Try.prog 10 #[.agg #[.int .i64 mx, .int .i64 my]] W fun e w' => e = .returned (.bool false) ∧ Below W.heap.size W w')) :
    Calls Try.prog 6 #[.agg #[.int .i64 ax, .int .i64 ay], .agg #[.int .i64 cx, .int .i64 cy], .agg #[.int .i64 bx, .int .i64 by1]] w fun e w' => e = .returned (.bool true) ∧ Below w.heap.size w w' := by
  go_enter Try.func6, Try.ntmps6
  go_upto_region 1 with (go_big_may; first
    | (refine wl_box 23 _ _ rfl rfl (show _ = Value.agg #[.int .i64 ax, .int .i64 ay] from rfl) ?_; intro W1 ba Ba_1 l1 k1; have ga : w.heap.size ≤ ba := l1; have Hw1 := k1; clear l1 k1)
    | (refine wl_box 23 _ _ rfl rfl (show _ = Value.agg #[.int .i64 cx, .int .i64 cy] from rfl) ?_; intro W2 bc Bc_2 l2 k2; have gc : w.heap.size ≤ bc := Nat.le_trans Hw1.size l2; have nac : ba ≠ bc := Nat.ne_of_lt (Nat.lt_of_lt_of_le Ba_1.lt l2); have Ba_2 := Ba_1.keep k2; have Hw2 := bq_trans Hw1 k2; clear l2 k2 Ba_1 Hw1)
    | (refine wl_box 23 _ _ rfl rfl (show _ = Value.agg #[.int .i64 bx, .int .i64 by1] from rfl) ?_; intro W3 bb Bb_3 l3 k3; have gb : w.heap.size ≤ bb := Nat.le_trans Hw2.size l3; have nab : ba ≠ bb := Nat.ne_of_lt (Nat.lt_of_lt_of_le Ba_2.lt l3); have ncb : bc ≠ bb := Nat.ne_of_lt (Nat.lt_of_lt_of_le Bc_2.lt l3); have Ba_3 := Ba_2.keep k3; have Bc_3 := Bc_2.keep k3; have Hw3 := bq_trans Hw2 k3; clear l3 k3 Ba_2 Bc_2 Hw2))
  go_upto_region 3 with (go_big_may; first
    | (refine wl_load 23 2 _ Try.underlying23 rfl szPt _ rfl rfl _ rfl _ _ Ba_3 rfl ?_)
    | (refine wl_load 23 2 _ Try.underlying23 rfl szPt _ rfl rfl _ rfl _ _ Bb_3 rfl ?_)
    | (refine wl_load 23 2 _ Try.underlying23 rfl szPt _ rfl rfl _ rfl _ _ Bc_3 rfl ?_)
    | (go_at_call 11; (with_reducible refine (H1.out _).mono ?_); rintro e W4 ⟨rfl, k4⟩; have Ba_4 := Ba_3.keep k4; have Bc_4 := Bc_3.keep k4; have Bb_4 := Bb_3.keep k4; have Hw4 := bq_trans Hw3 k4; clear k4 Ba_3 Bc_3 Bb_3 Hw3; have ca_0_4 : W4.cell? ⟨ba, 0, none⟩ = some (.int .i64 ax) := Ba_4.cell 0; have ca_1_4 : W4.cell? ⟨ba, 1, none⟩ = some (.int .i64 ay) := Ba_4.cell 1; have cc_0_4 : W4.cell? ⟨bc, 0, none⟩ = some (.int .i64 cx) := Bc_4.cell 0; have cc_1_4 : W4.cell? ⟨bc, 1, none⟩ = some (.int .i64 cy) := Bc_4.cell 1))
  go_upto_region 4 with (go_big_may; first
    | (refine wl_alloc 23 _ zePt rfl rfl ?_; intro W5 bm Bm_5 l5 k5; have gm : w.heap.size ≤ bm := Nat.le_trans Hw4.size l5; have nam : ba ≠ bm := Nat.ne_of_lt (Nat.lt_of_lt_of_le Ba_4.lt l5); have ncm : bc ≠ bm := Nat.ne_of_lt (Nat.lt_of_lt_of_le Bc_4.lt l5); have nbm : bb ≠ bm := Nat.ne_of_lt (Nat.lt_of_lt_of_le Bb_4.lt l5); have Ba_5 := Ba_4.keep k5; have Bc_5 := Bc_4.keep k5; have Bb_5 := Bb_4.keep k5; have Hw5 := bq_trans Hw4 k5; clear l5 k5 Ba_4 Bc_4 Bb_4 ca_0_4 ca_1_4 cc_0_4 cc_1_4 Hw4)
    | (refine wl_store 23 2 szPt _ _ rfl rfl _ rfl #[.int .i64 mx, .int .i64 my] rfl _ _ Bm_5 rfl rfl (by kernel_rfl) ?_; intro W6 Bm_6 T6; have Ba_6 := T6.blk Ba_5 nam; have Bc_6 := T6.blk Bc_5 ncm; have Bb_6 := T6.blk Bb_5 nbm; have Hw6 := T6.below Hw5 gm; clear T6 Ba_5 Bc_5 Bb_5 Bm_5 Hw5))
  refine Det.wp_region_det (S := fun w' => Below W6.heap.size W6 w') (by kernel_rfl) (by kernel_rfl) (bq_drew (bq_refl _)) ?_
  refine Det.det_load 23 2 _ Try.underlying23 rfl szPt _ rfl (by rfl) _ rfl _ _ (fun w hS => Ba_6.keep hS) rfl ?_
  try simp only [Act.put, List.setIfInBounds_toArray, List.set_cons_zero, List.set_cons_succ]
  refine Det.det_load 23 2 _ Try.underlying23 rfl szPt _ rfl (by rfl) _ rfl _ _ (fun w hS => Bb_6.keep hS) rfl ?_
  try simp only [Act.put, List.setIfInBounds_toArray, List.set_cons_zero, List.set_cons_succ]
  refine Det.det_load 23 2 _ Try.underlying23 rfl szPt _ rfl (by rfl) _ rfl _ _ (fun w hS => Bc_6.keep hS) rfl ?_
  try simp only [Act.put, List.setIfInBounds_toArray, List.set_cons_zero, List.set_cons_succ]
  refine Det.det_call (f := 13) (args := #[.agg #[.int .i64 ax, .int .i64 ay], .agg #[.int .i64 bx, .int .i64 by1], .agg #[.int .i64 cx, .int .i64 cy]]) (v := .int .i64 n) (by rfl) ?_ (fun w hS => (H2.out w).mono fun e w' ⟨h1, h2⟩ => ⟨h1, bq_trans hS h2⟩) ?_
  · (intro w hSw; go_simp)
  try simp only [Act.put, List.setIfInBounds_toArray, List.set_cons_zero, List.set_cons_succ]
  refine Det.det_load 23 2 _ Try.underlying23 rfl szPt _ rfl (by rfl) _ rfl _ _ (fun w hS => Bc_6.keep hS) rfl ?_
  try simp only [Act.put, List.setIfInBounds_toArray, List.set_cons_zero, List.set_cons_succ]
  refine Det.det_load 23 2 _ Try.underlying23 rfl szPt _ rfl (by rfl) _ rfl _ _ (fun w hS => Bb_6.keep hS) rfl ?_
  try simp only [Act.put, List.setIfInBounds_toArray, List.set_cons_zero, List.set_cons_succ]
  refine Det.det_load 23 2 _ Try.underlying23 rfl szPt _ rfl (by rfl) _ rfl _ _ (fun w hS => Ba_6.keep hS) rfl ?_
  try simp only [Act.put, List.setIfInBounds_toArray, List.set_cons_zero, List.set_cons_succ]
  refine Det.det_call (f := 13) (args := #[.agg #[.int .i64 cx, .int .i64 cy], .agg #[.int .i64 bx, .int .i64 by1], .agg #[.int .i64 ax, .int .i64 ay]]) (v := .int .i64 n) (by rfl) ?_ (fun w hS => (H3.out w).mono fun e w' ⟨h1, h2⟩ => ⟨h1, bq_trans hS h2⟩) ?_
  · (intro w hSw; go_simp)
  try simp only [Act.put, List.setIfInBounds_toArray, List.set_cons_zero, List.set_cons_succ]
  refine Det.det_take (v := ?_) (by rfl) ?_ ?_
  rotate_left
  · (intro w hSw; have en : (n != n) = false := (by simp); go_simp; try with_reducible rfl)
  try simp only [Act.put, List.setIfInBounds_toArray, List.set_cons_zero, List.set_cons_succ]
  refine Det.det_take (v := ?_) (by rfl) ?_ ?_
  rotate_left
  · (intro w hSw; go_simp; try with_reducible rfl)
  try simp only [Act.put, List.setIfInBounds_toArray, List.set_cons_zero, List.set_cons_succ]
  refine Det.det_load 23 2 _ Try.underlying23 rfl szPt _ rfl (by rfl) _ rfl _ _ (fun w hS => Ba_6.keep hS) rfl ?_
  try simp only [Act.put, List.setIfInBounds_toArray, List.set_cons_zero, List.set_cons_succ]
  refine Det.det_load 23 2 _ Try.underlying23 rfl szPt _ rfl (by rfl) _ rfl _ _ (fun w hS => Bb_6.keep hS) rfl ?_
  try simp only [Act.put, List.setIfInBounds_toArray, List.set_cons_zero, List.set_cons_succ]
  refine Det.det_load 23 2 _ Try.underlying23 rfl szPt _ rfl (by rfl) _ rfl _ _ (fun w hS => Bc_6.keep hS) rfl ?_
  try simp only [Act.put, List.setIfInBounds_toArray, List.set_cons_zero, List.set_cons_succ]
  refine Det.det_call (f := 12) (args := #[.agg #[.int .i64 ax, .int .i64 ay], .agg #[.int .i64 bx, .int .i64 by1], .agg #[.int .i64 cx, .int .i64 cy]]) (v := .int .i64 d) (by rfl) ?_ (fun w hS => (H4.out w).mono fun e w' ⟨h1, h2⟩ => ⟨h1, bq_trans hS h2⟩) ?_
  · (intro w hSw; go_simp)
  try simp only [Act.put, List.setIfInBounds_toArray, List.set_cons_zero, List.set_cons_succ]
  refine Det.det_load 23 2 _ Try.underlying23 rfl szPt _ rfl (by rfl) _ rfl _ _ (fun w hS => Bc_6.keep hS) rfl ?_
  try simp only [Act.put, List.setIfInBounds_toArray, List.set_cons_zero, List.set_cons_succ]
  refine Det.det_load 23 2 _ Try.underlying23 rfl szPt _ rfl (by rfl) _ rfl _ _ (fun w hS => Bb_6.keep hS) rfl ?_
  try simp only [Act.put, List.setIfInBounds_toArray, List.set_cons_zero, List.set_cons_succ]
  refine Det.det_load 23 2 _ Try.underlying23 rfl szPt _ rfl (by rfl) _ rfl _ _ (fun w hS => Ba_6.keep hS) rfl ?_
  try simp only [Act.put, List.setIfInBounds_toArray, List.set_cons_zero, List.set_cons_succ]
  refine Det.det_call (f := 12) (args := #[.agg #[.int .i64 cx, .int .i64 cy], .agg #[.int .i64 bx, .int .i64 by1], .agg #[.int .i64 ax, .int .i64 ay]]) (v := .int .i64 d) (by rfl) ?_ (fun w hS => (H5.out w).mono fun e w' ⟨h1, h2⟩ => ⟨h1, bq_trans hS h2⟩) ?_
  · (intro w hSw; go_simp)
  try simp only [Act.put, List.setIfInBounds_toArray, List.set_cons_zero, List.set_cons_succ]
  refine Det.det_take (v := ?_) (by rfl) ?_ ?_
  rotate_left
  · (intro w hSw; have en : (d != d) = false := (by simp); go_simp; try with_reducible rfl)
  try simp only [Act.put, List.setIfInBounds_toArray, List.set_cons_zero, List.set_cons_succ]
  refine Det.det_take (v := ?_) (by rfl) ?_ ?_
  rotate_left
  · (intro w hSw; go_simp; try with_reducible rfl)
  try simp only [Act.put, List.setIfInBounds_toArray, List.set_cons_zero, List.set_cons_succ]
  refine Det.det_nil (fun W7 k7 => ?_)
  have Ba_7 := Ba_6.keep k7
  have Bc_7 := Bc_6.keep k7
  have Bb_7 := Bb_6.keep k7
  have Bm_7 := Bm_6.keep k7
  have Hw7 := bq_trans Hw6 k7
  clear k7 Ba_6 Bc_6 Bb_6 Bm_6 Hw6
  go_wp2_with (first
    | (refine wl_load 23 2 _ Try.underlying23 rfl szPt _ rfl rfl _ rfl _ _ Bm_7 rfl ?_)
    | (go_at_call 10; (with_reducible refine (H6.out _).mono ?_); rintro e W8 ⟨rfl, k8⟩; have Ba_8 := Ba_7.keep k8; have Bc_8 := Bc_7.keep k8; have Bb_8 := Bb_7.keep k8; have Bm_8 := Bm_7.keep k8; have Hw8 := bq_trans Hw7 k8; clear k8 Ba_7 Bc_7 Bb_7 Bm_7 Hw7)
    | (go_at_call 14; (with_reducible refine (HA.out _).mono ?_); rintro e W9 ⟨rfl, k9⟩; have Ba_9 := Ba_8.keep k9; have Bc_9 := Bc_8.keep k9; have Bb_9 := Bb_8.keep k9; have Bm_9 := Bm_8.keep k9; have Hw9 := bq_trans Hw8 k9; clear k9 Ba_8 Bc_8 Bb_8 Bm_8 Hw8))
  go_ret
  exact ⟨rfl, Hw9⟩
set_option maxHeartbeats 2000000 in
theorem straight16_2 (ax ay bx by1 cx cy mx my n d : Int) (w : World) (HA : Hid (∀ W, Calls Try.prog 14 #[] W fun e w' => e = .returned (.bool true) ∧ Below W.heap.size W w')) (H1 : Hid (∀ W, Calls Try.prog 11 #[.agg #[.int .i64 ax, .int .i64 ay], .agg #[.int .i64 bx, .int .i64 by1], .agg #[.int .i64 cx, .int .i64 cy]] W fun e w' => e = .returned (.bool true) ∧ Below W.heap.size W w')) (H2 : Hid (∀ W, Calls Try.prog 13 #[.agg #[.int .i64 ax, .int .i64 ay], .agg #[.int .i64 bx, .int .i64 by1], .agg #[.int .i64 cx, .int .i64 cy]] W fun e w' => e = .returned (.int .i64 n) ∧ Below W.heap.size W w')) (H3 : Hid (∀ W, Calls Try.prog 13 #[.agg #[.int .i64 cx, .int .i64 cy], .agg #[.int .i64 bx, .int .i64 by1], .agg #[.int .i64 ax, .int .i64 ay]] W fun e w' => e = .returned (.int .i64 n) ∧ Below W.heap.size W w')) (H4 : Hid (∀ W, Calls Try.prog 12 #[.agg #[.int .i64 ax, .int .i64 ay], .agg #[.int .i64 bx, .int .i64 by1], .agg #[.int .i64 cx, .int .i64 cy]] W fun e w' => e = .returned (.int .i64 d) ∧ Below W.heap.size W w')) (H5 : Hid (∀ W, Calls Try.prog 12 #[.agg #[.int .i64 cx, .int .i64 cy], .agg #[.int .i64 bx, .int .i64 by1], .agg #[.int .i64 ax, .int .i64 ay]] W fun e w' => e = .returned (.int .i64 d) ∧ Below W.heap.size W w')) (ex : (ax + cx).tdiv 2 = mx) (ey : (ay + cy).tdiv 2 = my) (hmx0 : -16777216 ≤ mx) (hmx1 : mx ≤ 16777216) (hmy0 : -16777216 ≤ my) (hmy1 : my ≤ 16777216) (hax0 : -16777216 ≤ ax) (hax1 : ax ≤ 16777216) (hay0 : -16777216 ≤ ay) (hay1 : ay ≤ 16777216) (hcx0 : -16777216 ≤ cx) (hcx1 : cx ≤ 16777216) (hcy0 : -16777216 ≤ cy) (hcy1 : cy ≤ 16777216) (H6 : Hid (∀ W, Calls Try.prog 10 #[.agg #[.int .i64 mx, .int .i64 my]] W fun e w' => e = .returned (.bool true) ∧ Below W.heap.size W w')) (H7 : Hid (∀ W, Calls Try.prog 8 #[.agg #[.int .i64 ax, .int .i64 ay], .agg #[.int .i64 mx, .int .i64 my], .agg #[.int .i64 cx, .int .i64 cy]] W fun e w' => (∃ b o c, e = .returned (.slice (some ⟨b, o, none⟩) 1 c) ∧ Pts w' b o ([(cx, cy)])) ∧ Below W.heap.size W w')) (H8 : Hid (∀ W, Calls Try.prog 12 #[.agg #[.int .i64 ax, .int .i64 ay], .agg #[.int .i64 mx, .int .i64 my], .agg #[.int .i64 cx, .int .i64 cy]] W fun e w' => e = .returned (.int .i64 0) ∧ Below W.heap.size W w')) :
    Calls Try.prog 6 #[.agg #[.int .i64 ax, .int .i64 ay], .agg #[.int .i64 cx, .int .i64 cy], .agg #[.int .i64 bx, .int .i64 by1]] w fun e w' => e = .returned (.bool true) ∧ Below w.heap.size w w' := by
  go_enter Try.func6, Try.ntmps6
  go_upto_region 1 with (go_big_may; first
    | (refine wl_box 23 _ _ rfl rfl (show _ = Value.agg #[.int .i64 ax, .int .i64 ay] from rfl) ?_; intro W1 ba Ba_1 l1 k1; have ga : w.heap.size ≤ ba := l1; have Hw1 := k1; clear l1 k1)
    | (refine wl_box 23 _ _ rfl rfl (show _ = Value.agg #[.int .i64 cx, .int .i64 cy] from rfl) ?_; intro W2 bc Bc_2 l2 k2; have gc : w.heap.size ≤ bc := Nat.le_trans Hw1.size l2; have nac : ba ≠ bc := Nat.ne_of_lt (Nat.lt_of_lt_of_le Ba_1.lt l2); have Ba_2 := Ba_1.keep k2; have Hw2 := bq_trans Hw1 k2; clear l2 k2 Ba_1 Hw1)
    | (refine wl_box 23 _ _ rfl rfl (show _ = Value.agg #[.int .i64 bx, .int .i64 by1] from rfl) ?_; intro W3 bb Bb_3 l3 k3; have gb : w.heap.size ≤ bb := Nat.le_trans Hw2.size l3; have nab : ba ≠ bb := Nat.ne_of_lt (Nat.lt_of_lt_of_le Ba_2.lt l3); have ncb : bc ≠ bb := Nat.ne_of_lt (Nat.lt_of_lt_of_le Bc_2.lt l3); have Ba_3 := Ba_2.keep k3; have Bc_3 := Bc_2.keep k3; have Hw3 := bq_trans Hw2 k3; clear l3 k3 Ba_2 Bc_2 Hw2))
  go_upto_region 3 with (go_big_may; first
    | (refine wl_load 23 2 _ Try.underlying23 rfl szPt _ rfl rfl _ rfl _ _ Ba_3 rfl ?_)
    | (refine wl_load 23 2 _ Try.underlying23 rfl szPt _ rfl rfl _ rfl _ _ Bb_3 rfl ?_)
    | (refine wl_load 23 2 _ Try.underlying23 rfl szPt _ rfl rfl _ rfl _ _ Bc_3 rfl ?_)
    | (go_at_call 11; (with_reducible refine (H1.out _).mono ?_); rintro e W4 ⟨rfl, k4⟩; have Ba_4 := Ba_3.keep k4; have Bc_4 := Bc_3.keep k4; have Bb_4 := Bb_3.keep k4; have Hw4 := bq_trans Hw3 k4; clear k4 Ba_3 Bc_3 Bb_3 Hw3; have ca_0_4 : W4.cell? ⟨ba, 0, none⟩ = some (.int .i64 ax) := Ba_4.cell 0; have ca_1_4 : W4.cell? ⟨ba, 1, none⟩ = some (.int .i64 ay) := Ba_4.cell 1; have cc_0_4 : W4.cell? ⟨bc, 0, none⟩ = some (.int .i64 cx) := Bc_4.cell 0; have cc_1_4 : W4.cell? ⟨bc, 1, none⟩ = some (.int .i64 cy) := Bc_4.cell 1))
  go_upto_region 4 with (go_big_may; first
    | (refine wl_alloc 23 _ zePt rfl rfl ?_; intro W5 bm Bm_5 l5 k5; have gm : w.heap.size ≤ bm := Nat.le_trans Hw4.size l5; have nam : ba ≠ bm := Nat.ne_of_lt (Nat.lt_of_lt_of_le Ba_4.lt l5); have ncm : bc ≠ bm := Nat.ne_of_lt (Nat.lt_of_lt_of_le Bc_4.lt l5); have nbm : bb ≠ bm := Nat.ne_of_lt (Nat.lt_of_lt_of_le Bb_4.lt l5); have Ba_5 := Ba_4.keep k5; have Bc_5 := Bc_4.keep k5; have Bb_5 := Bb_4.keep k5; have Hw5 := bq_trans Hw4 k5; clear l5 k5 Ba_4 Bc_4 Bb_4 ca_0_4 ca_1_4 cc_0_4 cc_1_4 Hw4)
    | (refine wl_store 23 2 szPt _ _ rfl rfl _ rfl #[.int .i64 mx, .int .i64 my] rfl _ _ Bm_5 rfl rfl (by kernel_rfl) ?_; intro W6 Bm_6 T6; have Ba_6 := T6.blk Ba_5 nam; have Bc_6 := T6.blk Bc_5 ncm; have Bb_6 := T6.blk Bb_5 nbm; have Hw6 := T6.below Hw5 gm; clear T6 Ba_5 Bc_5 Bb_5 Bm_5 Hw5))
  refine Det.wp_region_det (S := fun w' => Below W6.heap.size W6 w') (by kernel_rfl) (by kernel_rfl) (bq_drew (bq_refl _)) ?_
  refine Det.det_load 23 2 _ Try.underlying23 rfl szPt _ rfl (by rfl) _ rfl _ _ (fun w hS => Ba_6.keep hS) rfl ?_
  try simp only [Act.put, List.setIfInBounds_toArray, List.set_cons_zero, List.set_cons_succ]
  refine Det.det_load 23 2 _ Try.underlying23 rfl szPt _ rfl (by rfl) _ rfl _ _ (fun w hS => Bb_6.keep hS) rfl ?_
  try simp only [Act.put, List.setIfInBounds_toArray, List.set_cons_zero, List.set_cons_succ]
  refine Det.det_load 23 2 _ Try.underlying23 rfl szPt _ rfl (by rfl) _ rfl _ _ (fun w hS => Bc_6.keep hS) rfl ?_
  try simp only [Act.put, List.setIfInBounds_toArray, List.set_cons_zero, List.set_cons_succ]
  refine Det.det_call (f := 13) (args := #[.agg #[.int .i64 ax, .int .i64 ay], .agg #[.int .i64 bx, .int .i64 by1], .agg #[.int .i64 cx, .int .i64 cy]]) (v := .int .i64 n) (by rfl) ?_ (fun w hS => (H2.out w).mono fun e w' ⟨h1, h2⟩ => ⟨h1, bq_trans hS h2⟩) ?_
  · (intro w hSw; go_simp)
  try simp only [Act.put, List.setIfInBounds_toArray, List.set_cons_zero, List.set_cons_succ]
  refine Det.det_load 23 2 _ Try.underlying23 rfl szPt _ rfl (by rfl) _ rfl _ _ (fun w hS => Bc_6.keep hS) rfl ?_
  try simp only [Act.put, List.setIfInBounds_toArray, List.set_cons_zero, List.set_cons_succ]
  refine Det.det_load 23 2 _ Try.underlying23 rfl szPt _ rfl (by rfl) _ rfl _ _ (fun w hS => Bb_6.keep hS) rfl ?_
  try simp only [Act.put, List.setIfInBounds_toArray, List.set_cons_zero, List.set_cons_succ]
  refine Det.det_load 23 2 _ Try.underlying23 rfl szPt _ rfl (by rfl) _ rfl _ _ (fun w hS => Ba_6.keep hS) rfl ?_
  try simp only [Act.put, List.setIfInBounds_toArray, List.set_cons_zero, List.set_cons_succ]
  refine Det.det_call (f := 13) (args := #[.agg #[.int .i64 cx, .int .i64 cy], .agg #[.int .i64 bx, .int .i64 by1], .agg #[.int .i64 ax, .int .i64 ay]]) (v := .int .i64 n) (by rfl) ?_ (fun w hS => (H3.out w).mono fun e w' ⟨h1, h2⟩ => ⟨h1, bq_trans hS h2⟩) ?_
  · (intro w hSw; go_simp)
  try simp only [Act.put, List.setIfInBounds_toArray, List.set_cons_zero, List.set_cons_succ]
  refine Det.det_take (v := ?_) (by rfl) ?_ ?_
  rotate_left
  · (intro w hSw; have en : (n != n) = false := (by simp); go_simp; try with_reducible rfl)
  try simp only [Act.put, List.setIfInBounds_toArray, List.set_cons_zero, List.set_cons_succ]
  refine Det.det_take (v := ?_) (by rfl) ?_ ?_
  rotate_left
  · (intro w hSw; go_simp; try with_reducible rfl)
  try simp only [Act.put, List.setIfInBounds_toArray, List.set_cons_zero, List.set_cons_succ]
  refine Det.det_load 23 2 _ Try.underlying23 rfl szPt _ rfl (by rfl) _ rfl _ _ (fun w hS => Ba_6.keep hS) rfl ?_
  try simp only [Act.put, List.setIfInBounds_toArray, List.set_cons_zero, List.set_cons_succ]
  refine Det.det_load 23 2 _ Try.underlying23 rfl szPt _ rfl (by rfl) _ rfl _ _ (fun w hS => Bb_6.keep hS) rfl ?_
  try simp only [Act.put, List.setIfInBounds_toArray, List.set_cons_zero, List.set_cons_succ]
  refine Det.det_load 23 2 _ Try.underlying23 rfl szPt _ rfl (by rfl) _ rfl _ _ (fun w hS => Bc_6.keep hS) rfl ?_
  try simp only [Act.put, List.setIfInBounds_toArray, List.set_cons_zero, List.set_cons_succ]
  refine Det.det_call (f := 12) (args := #[.agg #[.int .i64 ax, .int .i64 ay], .agg #[.int .i64 bx, .int .i64 by1], .agg #[.int .i64 cx, .int .i64 cy]]) (v := .int .i64 d) (by rfl) ?_ (fun w hS => (H4.out w).mono fun e w' ⟨h1, h2⟩ => ⟨h1, bq_trans hS h2⟩) ?_
  · (intro w hSw; go_simp)
  try simp only [Act.put, List.setIfInBounds_toArray, List.set_cons_zero, List.set_cons_succ]
  refine Det.det_load 23 2 _ Try.underlying23 rfl szPt _ rfl (by rfl) _ rfl _ _ (fun w hS => Bc_6.keep hS) rfl ?_
  try simp only [Act.put, List.setIfInBounds_toArray, List.set_cons_zero, List.set_cons_succ]
  refine Det.det_load 23 2 _ Try.underlying23 rfl szPt _ rfl (by rfl) _ rfl _ _ (fun w hS => Bb_6.keep hS) rfl ?_
  try simp only [Act.put, List.setIfInBounds_toArray, List.set_cons_zero, List.set_cons_succ]
  refine Det.det_load 23 2 _ Try.underlying23 rfl szPt _ rfl (by rfl) _ rfl _ _ (fun w hS => Ba_6.keep hS) rfl ?_
  try simp only [Act.put, List.setIfInBounds_toArray, List.set_cons_zero, List.set_cons_succ]
  refine Det.det_call (f := 12) (args := #[.agg #[.int .i64 cx, .int .i64 cy], .agg #[.int .i64 bx, .int .i64 by1], .agg #[.int .i64 ax, .int .i64 ay]]) (v := .int .i64 d) (by rfl) ?_ (fun w hS => (H5.out w).mono fun e w' ⟨h1, h2⟩ => ⟨h1, bq_trans hS h2⟩) ?_
  · (intro w hSw; go_simp)
  try simp only [Act.put, List.setIfInBounds_toArray, List.set_cons_zero, List.set_cons_succ]
  refine Det.det_take (v := ?_) (by rfl) ?_ ?_
  rotate_left
  · (intro w hSw; have en : (d != d) = false := (by simp); go_simp; try with_reducible rfl)
  try simp only [Act.put, List.setIfInBounds_toArray, List.set_cons_zero, List.set_cons_succ]
  refine Det.det_take (v := ?_) (by rfl) ?_ ?_
  rotate_left
  · (intro w hSw; go_simp; try with_reducible rfl)
  try simp only [Act.put, List.setIfInBounds_toArray, List.set_cons_zero, List.set_cons_succ]
  refine Det.det_nil (fun W7 k7 => ?_)
  have Ba_7 := Ba_6.keep k7
  have Bc_7 := Bc_6.keep k7
  have Bb_7 := Bb_6.keep k7
  have Bm_7 := Bm_6.keep k7
  have Hw7 := bq_trans Hw6 k7
  clear k7 Ba_6 Bc_6 Bb_6 Bm_6 Hw6
  go_upto_region 8 with (go_big_may; first
    | (refine wl_load 23 2 _ Try.underlying23 rfl szPt _ rfl rfl _ rfl _ _ Bm_7 rfl ?_)
    | (go_at_call 10; (with_reducible refine (H6.out _).mono ?_); rintro e W8 ⟨rfl, k8⟩; have Ba_8 := Ba_7.keep k8; have Bc_8 := Bc_7.keep k8; have Bb_8 := Bb_7.keep k8; have Bm_8 := Bm_7.keep k8; have Hw8 := bq_trans Hw7 k8; clear k8 Ba_7 Bc_7 Bb_7 Bm_7 Hw7))
  go_upto_region 9 with (go_big_may; first
    | (refine wl_load 23 2 _ Try.underlying23 rfl szPt _ rfl rfl _ rfl _ _ Ba_8 rfl ?_)
    | (refine wl_load 23 2 _ Try.underlying23 rfl szPt _ rfl rfl _ rfl _ _ Bm_8 rfl ?_)
    | (refine wl_load 23 2 _ Try.underlying23 rfl szPt _ rfl rfl _ rfl _ _ Bc_8 rfl ?_)
    | (go_at_call 8; (with_reducible refine (H7.out _).mono ?_); rintro e W9 ⟨⟨lb, lo, lc, rfl, Pl_0⟩, k9⟩; have Ba_9 := Ba_8.keep k9; have Bc_9 := Bc_8.keep k9; have Bb_9 := Bb_8.keep k9; have Bm_9 := Bm_8.keep k9; have Hw9 := bq_trans Hw8 k9; clear k9 Ba_8 Bc_8 Bb_8 Bm_8 Hw8))
  have RL := Pl_0.get 0 cx cy rfl
  refine Det.wp_region_det (S := fun w' => Below W9.heap.size W9 w') (by kernel_rfl) (by kernel_rfl) (bq_drew (bq_refl _)) ?_
  refine Det.det_take (v := ?_) (by rfl) ?_ ?_
  rotate_left
  · (intro w hSw; go_simp; try with_reducible rfl)
  try simp only [Act.put, List.setIfInBounds_toArray, List.set_cons_zero, List.set_cons_succ]
  refine Det.det_take (v := ?_) (by rfl) ?_ ?_
  rotate_left
  · (intro w hSw; go_simp; try with_reducible rfl)
  try simp only [Act.put, List.setIfInBounds_toArray, List.set_cons_zero, List.set_cons_succ]
  refine Det.det_take (v := ?_) (by rfl) ?_ ?_
  rotate_left
  · (intro w hSw; go_simp; try with_reducible rfl)
  try simp only [Act.put, List.setIfInBounds_toArray, List.set_cons_zero, List.set_cons_succ]
  refine Det.det_take (v := ?_) (by rfl) ?_ ?_
  rotate_left
  · (intro w hSw; go_simp; try with_reducible rfl)
  try simp only [Act.put, List.setIfInBounds_toArray, List.set_cons_zero, List.set_cons_succ]
  refine Det.det_take (v := ?_) (by rfl) ?_ ?_
  rotate_left
  · (intro w hSw; go_simp; try with_reducible rfl)
  try simp only [Act.put, List.setIfInBounds_toArray, List.set_cons_zero, List.set_cons_succ]
  refine Det.det_take (v := ?_) (by rfl) ?_ ?_
  rotate_left
  · (intro w hSw; go_simp; try with_reducible rfl)
  try simp only [Act.put, List.setIfInBounds_toArray, List.set_cons_zero, List.set_cons_succ]
  refine Det.det_mid 23 _ rfl (by rfl) _ _ rfl ([.int .i64 cx, .int .i64 cy]) _ (fun w hS => rangeAt_keep RL hS) Try.underlying23 rfl szPt ?_
  try simp only [Act.put, List.setIfInBounds_toArray, List.set_cons_zero, List.set_cons_succ]
  refine Det.det_load 23 2 _ Try.underlying23 rfl szPt _ rfl (by rfl) _ rfl _ _ (fun w hS => Bc_9.keep hS) rfl ?_
  try simp only [Act.put, List.setIfInBounds_toArray, List.set_cons_zero, List.set_cons_succ]
  refine Det.det_take (v := ?_) (by rfl) ?_ ?_
  rotate_left
  · (intro w hSw; have q := eqPt cx cy w; go_simp; try with_reducible rfl)
  try simp only [Act.put, List.setIfInBounds_toArray, List.set_cons_zero, List.set_cons_succ]
  refine Det.det_take (v := ?_) (by rfl) ?_ ?_
  rotate_left
  · (intro w hSw; go_simp; try with_reducible rfl)
  try simp only [Act.put, List.setIfInBounds_toArray, List.set_cons_zero, List.set_cons_succ]
  refine Det.det_take (v := ?_) (by rfl) ?_ ?_
  rotate_left
  · (intro w hSw; go_simp; try with_reducible rfl)
  try simp only [Act.put, List.setIfInBounds_toArray, List.set_cons_zero, List.set_cons_succ]
  refine Det.det_load 23 2 _ Try.underlying23 rfl szPt _ rfl (by rfl) _ rfl _ _ (fun w hS => Ba_9.keep hS) rfl ?_
  try simp only [Act.put, List.setIfInBounds_toArray, List.set_cons_zero, List.set_cons_succ]
  refine Det.det_load 23 2 _ Try.underlying23 rfl szPt _ rfl (by rfl) _ rfl _ _ (fun w hS => Bm_9.keep hS) rfl ?_
  try simp only [Act.put, List.setIfInBounds_toArray, List.set_cons_zero, List.set_cons_succ]
  refine Det.det_load 23 2 _ Try.underlying23 rfl szPt _ rfl (by rfl) _ rfl _ _ (fun w hS => Bc_9.keep hS) rfl ?_
  try simp only [Act.put, List.setIfInBounds_toArray, List.set_cons_zero, List.set_cons_succ]
  refine Det.det_call (f := 12) (args := #[.agg #[.int .i64 ax, .int .i64 ay], .agg #[.int .i64 mx, .int .i64 my], .agg #[.int .i64 cx, .int .i64 cy]]) (v := .int .i64 0) (by rfl) ?_ (fun w hS => (H8.out w).mono fun e w' ⟨h1, h2⟩ => ⟨h1, bq_trans hS h2⟩) ?_
  · (intro w hSw; go_simp)
  try simp only [Act.put, List.setIfInBounds_toArray, List.set_cons_zero, List.set_cons_succ]
  refine Det.det_take (v := ?_) (by rfl) ?_ ?_
  rotate_left
  · (intro w hSw; go_simp; try with_reducible rfl)
  try simp only [Act.put, List.setIfInBounds_toArray, List.set_cons_zero, List.set_cons_succ]
  refine Det.det_take (v := ?_) (by rfl) ?_ ?_
  rotate_left
  · (intro w hSw; go_simp; try with_reducible rfl)
  try simp only [Act.put, List.setIfInBounds_toArray, List.set_cons_zero, List.set_cons_succ]
  refine Det.det_take (v := ?_) (by rfl) ?_ ?_
  rotate_left
  · (intro w hSw; go_simp; try with_reducible rfl)
  try simp only [Act.put, List.setIfInBounds_toArray, List.set_cons_zero, List.set_cons_succ]
  refine Det.det_call (f := 14) (args := #[]) (v := .bool true) (by rfl) ?_ (fun w hS => (HA.out w).mono fun e w' ⟨h1, h2⟩ => ⟨h1, bq_trans hS h2⟩) ?_
  · (intro w hSw; go_simp)
  try simp only [Act.put, List.setIfInBounds_toArray, List.set_cons_zero, List.set_cons_succ]
  refine Det.det_take (v := ?_) (by rfl) ?_ ?_
  rotate_left
  · (intro w hSw; go_simp; try with_reducible rfl)
  try simp only [Act.put, List.setIfInBounds_toArray, List.set_cons_zero, List.set_cons_succ]
  refine Det.det_take (v := ?_) (by rfl) ?_ ?_
  rotate_left
  · (intro w hSw; go_simp; try with_reducible rfl)
  try simp only [Act.put, List.setIfInBounds_toArray, List.set_cons_zero, List.set_cons_succ]
  refine Det.det_nil (fun W10 k10 => ?_)
  have Ba_10 := Ba_9.keep k10
  have Bc_10 := Bc_9.keep k10
  have Bb_10 := Bb_9.keep k10
  have Bm_10 := Bm_9.keep k10
  have Ol_10 := Pl_0.keep k10
  have Hw10 := bq_trans Hw9 k10
  clear k10 Ba_9 Bc_9 Bb_9 Bm_9 Pl_0 Hw9
  go_wp2_with fail
  go_ret
  exact ⟨rfl, Hw10⟩
theorem allE_swap (ax ay bx by1 cx cy : Int) : allE cx cy bx by1 ax ay = allE ax ay bx by1 cx cy := by
  unfold allE
  cases evP ax ay <;> cases evP bx by1 <;> cases evP cx cy <;> rfl
theorem half_sum {a c : Int} (ha : In24 a) (hc : In24 c) (h : a % 2 = 0) (h2 : c % 2 = 0) : 2 * (a + c).tdiv 2 = a + c ∧ In24 ((a + c).tdiv 2) := by
  have h3 := Int.mul_tdiv_cancel' (show (2 : Int) ∣ a + c by omega)
  omega
theorem curveStraight_walk (ax ay cx cy bx by1 : Int) (w : World) : Calls Try.prog 6 #[.agg #[.int .i64 ax, .int .i64 ay], .agg #[.int .i64 cx, .int .i64 cy], .agg #[.int .i64 bx, .int .i64 by1]] w fun e w' => e = .returned (.bool true) ∧ Below w.heap.size w w' := by
  have H1 := Lib.hid fun W => right16_any ax ay bx by1 cx cy W
  have H2 := Lib.hid fun W => pieces16_any ax ay bx by1 cx cy W
  have H3 := Lib.hid fun W => pieces16_any cx cy bx by1 ax ay W
  have H4 := Lib.hid fun W => bend16_any ax ay bx by1 cx cy W
  have H5 := Lib.hid fun W => bend16_any cx cy bx by1 ax ay W
  rw [allE_swap, ← bendV_swap] at H3 H5
  cases q : allE ax ay bx by1 cx cy with
  | false =>
    rw [q] at H1
    exact straight16_0 ax ay bx by1 cx cy 0 0 0 0 w (Lib.hid awake16_any) H1
  | true =>
    rw [q] at H1
    obtain ⟨a1, a2, b1, b2, c1, c2⟩ := allE_bd q
    obtain ⟨m1, m2⟩ := half_sum a1.1 c1.1 a1.2 c1.2
    obtain ⟨m3, m4⟩ := half_sum a2.1 c2.1 a2.2 c2.2
    have H6 := Lib.hid fun W => reven16_any ((ax + cx).tdiv 2) ((ay + cy).tdiv 2) W
    cases q2 : evP ((ax + cx).tdiv 2) ((ay + cy).tdiv 2) with
    | false =>
      rw [q2] at H6
      exact straight16_1 ax ay bx by1 cx cy _ _ _ _ w (Lib.hid awake16_any) H1 H2 H3 H4 H5 rfl rfl m2.1 m2.2 m4.1 m4.2 a1.1.1 a1.1.2 a2.1.1 a2.1.2 c1.1.1 c1.1.2 c2.1.1 c2.1.2 H6
    | true =>
      rw [q2] at H6
      have qm : allE ax ay ((ax + cx).tdiv 2) ((ay + cy).tdiv 2) cx cy = true := by
        unfold allE at q ⊢
        rw [Bool.and_eq_true, Bool.and_eq_true] at q
        rw [q.1.1, q2, q.2]; rfl
      have eb : bendV ax ay ((ax + cx).tdiv 2) ((ay + cy).tdiv 2) cx cy = 0 := by unfold bendV bnd; omega
      have ep : pie (bendV ax ay ((ax + cx).tdiv 2) ((ay + cy).tdiv 2) cx cy) = 1 := by rw [eb]; rfl
      have el : flatL ax ay ((ax + cx).tdiv 2) ((ay + cy).tdiv 2) cx cy = [(cx, cy)] := by
        unfold flatL
        rw [ep]
        show [(ptV ax ((ax + cx).tdiv 2) cx ((0 : Nat) + 1 : Int) 1, ptV ay ((ay + cy).tdiv 2) cy ((0 : Nat) + 1 : Int) 1)] = _
        rw [show ((0 : Nat) + 1 : Int) = 1 from rfl, ptV_last (by decide) c1.2, ptV_last (by decide) c2.2]
      have H7 := Lib.hid fun W => el ▸ flat16_pts qm 1 ep W
      have H8 := Lib.hid fun W => bend16_any ax ay ((ax + cx).tdiv 2) ((ay + cy).tdiv 2) cx cy W
      rw [qm, eb] at H8
      exact straight16_2 ax ay bx by1 cx cy _ _ _ _ w (Lib.hid awake16_any) H1 H2 H3 H4 H5 rfl rfl m2.1 m2.2 m4.1 m4.2 a1.1.1 a1.1.2 a2.1.1 a2.1.2 c1.1.1 c1.1.2 c2.1.1 c2.1.2 H6 H7 H8
end Go.Proofs.Ytpeknlablcgchaa
