import Derived.Test.YtpeknlablcgchaaO0
import Derived.Test.YtpeknlablcgchaaA2
import Derived.Test.YtpeknlablcgchaaF2
import Derived.Test.YtpeknlablcgchaaFm
import Derived.Test.YtpeknlablcgchaaDl
/- Layer 16: the program's small functions. -/
namespace Go.Proofs.Ytpeknlablcgchaa
open Go.RowKit
set_option linter.unusedVariables false
set_option linter.unusedSimpArgs false
set_option maxRecDepth 100000

theorem szPt : (Try.prog.info? 23).map (·.size) = some 2 := by kernel_rfl
theorem zePt (w : World) : (zeroValue 23).run Try.prog w = .ok (.agg #[.int .i64 0, .int .i64 0]) w := Try.zeroValue23 w
theorem w64 (x : Int) (h : (-9223372036854775808 ≤ x ∧ x ≤ 9223372036854775807)) : wrap64 x = x := by unfold wrap64; omega
theorem wI (x : Int) (h : (-9223372036854775808 ≤ x ∧ x ≤ 9223372036854775807)) : IntKind.i64.wrap x = x := by rw [IntKind.wrap_i64]; omega
theorem wE (x : Int) : IntKind.i64.wrap x = wrap64 x := by rw [IntKind.wrap_i64]; unfold wrap64; omega
theorem run_min2 {P : Program} (w : World) (ts : Array TypeId) (t : TypeId) (k k1 : IntKind) (x y : Int) : (Builtin.min_ ts t #[.int k x, .int k1 y]).run P w = .ok (.int k (min x y)) w := by
  have e : (if y < x then y else x) = min x y := by
    rw [Int.min_def]
    split <;> split <;> omega
  simp [Builtin.min_, Builtin.min2, e]
theorem run_max2 {P : Program} (w : World) (ts : Array TypeId) (t : TypeId) (k k1 : IntKind) (x y : Int) : (Builtin.max_ ts t #[.int k x, .int k1 y]).run P w = .ok (.int k (max x y)) w := by
  have e : (if x < y then y else x) = max x y := by
    rw [Int.max_def]
    split <;> split <;> omega
  simp [Builtin.max_, Builtin.max2, e]
/-- a point's cells -/
def ptC (p : Int × Int) : List Value := [.int .i64 p.1, .int .i64 p.2]
theorem flatL_snoc (ax ay bx by1 cx cy : Int) (i : Nat) (h : i < pie (bendV ax ay bx by1 cx cy)) : ((flatL ax ay bx by1 cx cy).take (i + 1)).map ptC = ((flatL ax ay bx by1 cx cy).take i).map ptC ++ [[.int .i64 (ptV ax bx cx ((i : Int) + 1) (pie (bendV ax ay bx by1 cx cy) : Int)), .int .i64 (ptV ay by1 cy ((i : Int) + 1) (pie (bendV ax ay bx by1 cx cy) : Int))]] := by
  have hl : i < (flatL ax ay bx by1 cx cy).length := by rw [flatL_len]; exact h
  have he := flatL_at ax ay bx by1 cx cy i h
  rw [List.getElem?_eq_getElem hl] at he
  rw [List.take_succ_eq_append_getElem hl, List.map_append, Option.some.inj he]
  rfl
set_option maxHeartbeats 1000000 in
theorem evenPart_core (x r : Int) (q : Bool) (w : World) (hr : x.tmod 2 = r) (hq : x < -16777216 ∧ q = false ∨ -16777216 ≤ x ∧ 16777216 < x ∧ q = false ∨ -16777216 ≤ x ∧ x ≤ 16777216 ∧ q = (r == 0)) :
    Calls Try.prog 21 #[.int .i64 x] w fun e w' => e = .returned (.bool q) ∧ w = w' := by
  rcases hq with ⟨h1, rfl⟩ | ⟨h1, h2, rfl⟩ | ⟨h1, h2, h3⟩
  · go_enter Try.func21, Try.ntmps21
    go_wp2_with fail
    go_ret
    exact ⟨by first | rfl | exact ret_bool (by simp; try omega), rfl⟩
  · go_enter Try.func21, Try.ntmps21
    go_wp2_with fail
    go_ret
    exact ⟨by first | rfl | exact ret_bool (by simp; try omega), rfl⟩
  · have H3 := Lib.hid h3
    clear h3
    go_enter Try.func21, Try.ntmps21
    go_wp2_with fail
    go_ret
    exact ⟨ret_bool H3.out.symm, rfl⟩
theorem evenPart_any (x : Int) (w : World) : Calls Try.prog 21 #[.int .i64 x] w fun e w' => e = .returned (.bool (evB x)) ∧ Below w.heap.size w w' := by
  refine (evenPart_core x _ (evB x) w rfl ?_).mono fun e w' ⟨h1, h2⟩ => ⟨h1, h2 ▸ bq_refl w⟩
  by_cases h1 : x < -16777216
  · exact Or.inl ⟨h1, by simp [evB]; omega⟩
  · by_cases h2 : 16777216 < x
    · exact Or.inr (Or.inl ⟨by omega, h2, by simp [evB]; omega⟩)
    · refine Or.inr (Or.inr ⟨by omega, by omega, ?_⟩)
      have e : (x.tmod 2 = 0) ↔ x % 2 = 0 := by
        rcases (show 0 ≤ x ∨ x < 0 by omega) with h | h
        · rw [Int.tmod_eq_emod_of_nonneg h]
        · have h2 := Int.neg_tmod (-x) 2
          rw [Int.neg_neg, Int.tmod_eq_emod_of_nonneg (show 0 ≤ -x by omega)] at h2
          omega
      rw [Bool.eq_iff_iff]
      simp [evB]
      omega
set_option maxHeartbeats 1000000 in
theorem even16_core (x y : Int) (q1 q2 : Bool) (w : World) (H1 : Hid (∀ W, Calls Try.prog 21 #[.int .i64 x] W fun e w' => e = .returned (.bool q1) ∧ Below W.heap.size W w')) (H2 : Hid (∀ W, Calls Try.prog 21 #[.int .i64 y] W fun e w' => e = .returned (.bool q2) ∧ Below W.heap.size W w')) :
    Calls Try.prog 9 #[.agg #[.int .i64 x, .int .i64 y]] w fun e w' => e = .returned (.bool (q1 && q2)) ∧ Below w.heap.size w w' := by
  cases q1
  · go_enter Try.func9, Try.ntmps9
    go_upto_region 1 with (go_big_may; first
      | (refine wl_box 23 _ _ rfl rfl (show _ = Value.agg #[.int .i64 x, .int .i64 y] from rfl) ?_; intro W1 bp Bp_1 l1 k1; have gp : w.heap.size ≤ bp := l1; have Hw1 := k1; clear l1 k1; have cp_0_1 : W1.cell? ⟨bp, 0, none⟩ = some (.int .i64 x) := Bp_1.cell 0; have cp_1_1 : W1.cell? ⟨bp, 1, none⟩ = some (.int .i64 y) := Bp_1.cell 1))
    go_wp2_with (first
      | (go_at_call 21; (with_reducible refine (H1.out _).mono ?_); rintro e W2 ⟨rfl, k2⟩; have Bp_2 := Bp_1.keep k2; have Hw2 := bq_trans Hw1 k2; clear k2 Bp_1 cp_0_1 cp_1_1 Hw1))
    go_ret
    exact ⟨rfl, Hw2⟩
  · go_enter Try.func9, Try.ntmps9
    go_upto_region 1 with (go_big_may; first
      | (refine wl_box 23 _ _ rfl rfl (show _ = Value.agg #[.int .i64 x, .int .i64 y] from rfl) ?_; intro W1 bp Bp_1 l1 k1; have gp : w.heap.size ≤ bp := l1; have Hw1 := k1; clear l1 k1; have cp_0_1 : W1.cell? ⟨bp, 0, none⟩ = some (.int .i64 x) := Bp_1.cell 0; have cp_1_1 : W1.cell? ⟨bp, 1, none⟩ = some (.int .i64 y) := Bp_1.cell 1))
    go_wp2_with (first
      | (go_at_call 21; (with_reducible refine (H1.out _).mono ?_); rintro e W2 ⟨rfl, k2⟩; have Bp_2 := Bp_1.keep k2; have Hw2 := bq_trans Hw1 k2; clear k2 Bp_1 cp_0_1 cp_1_1 Hw1; have cp_1_2 : W2.cell? ⟨bp, 1, none⟩ = some (.int .i64 y) := Bp_2.cell 1)
      | (go_at_call 21; (with_reducible refine (H2.out _).mono ?_); rintro e W3 ⟨rfl, k3⟩; have Bp_3 := Bp_2.keep k3; have Hw3 := bq_trans Hw2 k3; clear k3 Bp_2 cp_1_2 Hw2))
    go_ret
    exact ⟨by rw [Bool.true_and]; rfl, Hw3⟩
theorem even16_any (x y : Int) (w : World) : Calls Try.prog 9 #[.agg #[.int .i64 x, .int .i64 y]] w fun e w' => e = .returned (.bool (evP x y)) ∧ Below w.heap.size w w' :=
  even16_core x y _ _ w (Lib.hid (evenPart_any x)) (Lib.hid (evenPart_any y))
set_option maxHeartbeats 1000000 in
theorem are16_core (ax ay bx by1 cx cy : Int) (q1 q2 q3 : Bool) (w : World) (H1 : Hid (∀ W, Calls Try.prog 9 #[.agg #[.int .i64 ax, .int .i64 ay]] W fun e w' => e = .returned (.bool q1) ∧ Below W.heap.size W w')) (H2 : Hid (∀ W, Calls Try.prog 9 #[.agg #[.int .i64 bx, .int .i64 by1]] W fun e w' => e = .returned (.bool q2) ∧ Below W.heap.size W w')) (H3 : Hid (∀ W, Calls Try.prog 9 #[.agg #[.int .i64 cx, .int .i64 cy]] W fun e w' => e = .returned (.bool q3) ∧ Below W.heap.size W w')) :
    Calls Try.prog 22 #[.agg #[.int .i64 ax, .int .i64 ay], .agg #[.int .i64 bx, .int .i64 by1], .agg #[.int .i64 cx, .int .i64 cy]] w fun e w' => e = .returned (.bool (q1 && q2 && q3)) ∧ Below w.heap.size w w' := by
  cases q1
  · skip
    go_enter Try.func22, Try.ntmps22
    go_upto_region 1 with (go_big_may; first
      | (refine wl_box 23 _ _ rfl rfl (show _ = Value.agg #[.int .i64 ax, .int .i64 ay] from rfl) ?_; intro W1 ba Ba_1 l1 k1; have ga : w.heap.size ≤ ba := l1; have Hw1 := k1; clear l1 k1)
      | (refine wl_box 23 _ _ rfl rfl (show _ = Value.agg #[.int .i64 bx, .int .i64 by1] from rfl) ?_; intro W2 bb Bb_2 l2 k2; have gb : w.heap.size ≤ bb := Nat.le_trans Hw1.size l2; have nab : ba ≠ bb := Nat.ne_of_lt (Nat.lt_of_lt_of_le Ba_1.lt l2); have Ba_2 := Ba_1.keep k2; have Hw2 := bq_trans Hw1 k2; clear l2 k2 Ba_1 Hw1)
      | (refine wl_box 23 _ _ rfl rfl (show _ = Value.agg #[.int .i64 cx, .int .i64 cy] from rfl) ?_; intro W3 bc Bc_3 l3 k3; have gc : w.heap.size ≤ bc := Nat.le_trans Hw2.size l3; have nac : ba ≠ bc := Nat.ne_of_lt (Nat.lt_of_lt_of_le Ba_2.lt l3); have nbc : bb ≠ bc := Nat.ne_of_lt (Nat.lt_of_lt_of_le Bb_2.lt l3); have Ba_3 := Ba_2.keep k3; have Bb_3 := Bb_2.keep k3; have Hw3 := bq_trans Hw2 k3; clear l3 k3 Ba_2 Bb_2 Hw2))
    go_wp2_with (first
      | (refine wl_load 23 2 _ Try.underlying23 rfl szPt _ rfl rfl _ rfl _ _ Ba_3 rfl ?_)
      | (go_at_call 9; (with_reducible refine (H1.out _).mono ?_); rintro e W4 ⟨rfl, k4⟩; have Ba_4 := Ba_3.keep k4; have Bb_4 := Bb_3.keep k4; have Bc_4 := Bc_3.keep k4; have Hw4 := bq_trans Hw3 k4; clear k4 Ba_3 Bb_3 Bc_3 Hw3))
    go_ret
    exact ⟨rfl, Hw4⟩
  cases q2
  · skip
    go_enter Try.func22, Try.ntmps22
    go_upto_region 1 with (go_big_may; first
      | (refine wl_box 23 _ _ rfl rfl (show _ = Value.agg #[.int .i64 ax, .int .i64 ay] from rfl) ?_; intro W1 ba Ba_1 l1 k1; have ga : w.heap.size ≤ ba := l1; have Hw1 := k1; clear l1 k1)
      | (refine wl_box 23 _ _ rfl rfl (show _ = Value.agg #[.int .i64 bx, .int .i64 by1] from rfl) ?_; intro W2 bb Bb_2 l2 k2; have gb : w.heap.size ≤ bb := Nat.le_trans Hw1.size l2; have nab : ba ≠ bb := Nat.ne_of_lt (Nat.lt_of_lt_of_le Ba_1.lt l2); have Ba_2 := Ba_1.keep k2; have Hw2 := bq_trans Hw1 k2; clear l2 k2 Ba_1 Hw1)
      | (refine wl_box 23 _ _ rfl rfl (show _ = Value.agg #[.int .i64 cx, .int .i64 cy] from rfl) ?_; intro W3 bc Bc_3 l3 k3; have gc : w.heap.size ≤ bc := Nat.le_trans Hw2.size l3; have nac : ba ≠ bc := Nat.ne_of_lt (Nat.lt_of_lt_of_le Ba_2.lt l3); have nbc : bb ≠ bc := Nat.ne_of_lt (Nat.lt_of_lt_of_le Bb_2.lt l3); have Ba_3 := Ba_2.keep k3; have Bb_3 := Bb_2.keep k3; have Hw3 := bq_trans Hw2 k3; clear l3 k3 Ba_2 Bb_2 Hw2))
    go_wp2_with (first
      | (refine wl_load 23 2 _ Try.underlying23 rfl szPt _ rfl rfl _ rfl _ _ Ba_3 rfl ?_)
      | (go_at_call 9; (with_reducible refine (H1.out _).mono ?_); rintro e W4 ⟨rfl, k4⟩; have Ba_4 := Ba_3.keep k4; have Bb_4 := Bb_3.keep k4; have Bc_4 := Bc_3.keep k4; have Hw4 := bq_trans Hw3 k4; clear k4 Ba_3 Bb_3 Bc_3 Hw3)
      | (refine wlg_load 23 2 _ Try.underlying23 rfl szPt _ rfl rfl _ rfl _ _ Bb_4 rfl ?_)
      | (go_at_call 9; (with_reducible refine (H2.out _).mono ?_); rintro e W5 ⟨rfl, k5⟩; have Ba_5 := Ba_4.keep k5; have Bb_5 := Bb_4.keep k5; have Bc_5 := Bc_4.keep k5; have Hw5 := bq_trans Hw4 k5; clear k5 Ba_4 Bb_4 Bc_4 Hw4))
    go_ret
    exact ⟨rfl, Hw5⟩
  · skip
    go_enter Try.func22, Try.ntmps22
    go_upto_region 1 with (go_big_may; first
      | (refine wl_box 23 _ _ rfl rfl (show _ = Value.agg #[.int .i64 ax, .int .i64 ay] from rfl) ?_; intro W1 ba Ba_1 l1 k1; have ga : w.heap.size ≤ ba := l1; have Hw1 := k1; clear l1 k1)
      | (refine wl_box 23 _ _ rfl rfl (show _ = Value.agg #[.int .i64 bx, .int .i64 by1] from rfl) ?_; intro W2 bb Bb_2 l2 k2; have gb : w.heap.size ≤ bb := Nat.le_trans Hw1.size l2; have nab : ba ≠ bb := Nat.ne_of_lt (Nat.lt_of_lt_of_le Ba_1.lt l2); have Ba_2 := Ba_1.keep k2; have Hw2 := bq_trans Hw1 k2; clear l2 k2 Ba_1 Hw1)
      | (refine wl_box 23 _ _ rfl rfl (show _ = Value.agg #[.int .i64 cx, .int .i64 cy] from rfl) ?_; intro W3 bc Bc_3 l3 k3; have gc : w.heap.size ≤ bc := Nat.le_trans Hw2.size l3; have nac : ba ≠ bc := Nat.ne_of_lt (Nat.lt_of_lt_of_le Ba_2.lt l3); have nbc : bb ≠ bc := Nat.ne_of_lt (Nat.lt_of_lt_of_le Bb_2.lt l3); have Ba_3 := Ba_2.keep k3; have Bb_3 := Bb_2.keep k3; have Hw3 := bq_trans Hw2 k3; clear l3 k3 Ba_2 Bb_2 Hw2))
    go_wp2_with (first
      | (refine wl_load 23 2 _ Try.underlying23 rfl szPt _ rfl rfl _ rfl _ _ Ba_3 rfl ?_)
      | (go_at_call 9; (with_reducible refine (H1.out _).mono ?_); rintro e W4 ⟨rfl, k4⟩; have Ba_4 := Ba_3.keep k4; have Bb_4 := Bb_3.keep k4; have Bc_4 := Bc_3.keep k4; have Hw4 := bq_trans Hw3 k4; clear k4 Ba_3 Bb_3 Bc_3 Hw3)
      | (refine wlg_load 23 2 _ Try.underlying23 rfl szPt _ rfl rfl _ rfl _ _ Bb_4 rfl ?_)
      | (go_at_call 9; (with_reducible refine (H2.out _).mono ?_); rintro e W5 ⟨rfl, k5⟩; have Ba_5 := Ba_4.keep k5; have Bb_5 := Bb_4.keep k5; have Bc_5 := Bc_4.keep k5; have Hw5 := bq_trans Hw4 k5; clear k5 Ba_4 Bb_4 Bc_4 Hw4)
      | (refine wlg_load 23 2 _ Try.underlying23 rfl szPt _ rfl rfl _ rfl _ _ Bc_5 rfl ?_)
      | (go_at_call 9; (with_reducible refine (H3.out _).mono ?_); rintro e W6 ⟨rfl, k6⟩; have Ba_6 := Ba_5.keep k6; have Bb_6 := Bb_5.keep k6; have Bc_6 := Bc_5.keep k6; have Hw6 := bq_trans Hw5 k6; clear k6 Ba_5 Bb_5 Bc_5 Hw5))
    go_ret
    exact ⟨by cases q3 <;> rfl, Hw6⟩
theorem are16_any (ax ay bx by1 cx cy : Int) (w : World) : Calls Try.prog 22 #[.agg #[.int .i64 ax, .int .i64 ay], .agg #[.int .i64 bx, .int .i64 by1], .agg #[.int .i64 cx, .int .i64 cy]] w fun e w' => e = .returned (.bool (evP ax ay && evP bx by1 && evP cx cy)) ∧ Below w.heap.size w w' :=
  are16_core ax ay bx by1 cx cy _ _ _ w (Lib.hid (even16_any ax ay)) (Lib.hid (even16_any bx by1)) (Lib.hid (even16_any cx cy))
theorem bendPart_core (a b c t m : Int) (w : World) (ha : -16777216 ≤ a) (ha1 : a ≤ 16777216) (hb : -16777216 ≤ b) (hb1 : b ≤ 16777216) (hc : -16777216 ≤ c) (hc1 : c ≤ 16777216)
    (hmx : ∀ (w : World) (ts : Array TypeId) (t : TypeId), (Builtin.max_ ts t #[.int .i64 (a - 2 * b + c), .int .i64 (-(a - 2 * b + c))]).run Try.prog w = .ok (.int .i64 m) w) :
    Calls Try.prog 23 #[.int .i64 a, .int .i64 b, .int .i64 c] w fun e w' => e = .returned (.int .i64 m) ∧ w = w' := by
  go_enter Try.func23, Try.ntmps23
  go_wp2_with fail
  go_ret
  exact ⟨rfl, rfl⟩
theorem bendPart_any (a b c : Int) (w : World) (ha : -16777216 ≤ a ∧ a ≤ 16777216) (hb : -16777216 ≤ b ∧ b ≤ 16777216) (hc : -16777216 ≤ c ∧ c ≤ 16777216) :
    Calls Try.prog 23 #[.int .i64 a, .int .i64 b, .int .i64 c] w fun e w' => e = .returned (.int .i64 (bnd a b c)) ∧ Below w.heap.size w w' :=
  (bendPart_core a b c 0 (bnd a b c) w ha.1 ha.2 hb.1 hb.2 hc.1 hc.2 (fun w ts t => run_max2 w ts t _ _ _ _)).mono fun e w' ⟨h1, h2⟩ => ⟨h1, h2 ▸ bq_refl w⟩
set_option maxHeartbeats 1000000 in
theorem bend16_no (ax ay bx by1 cx cy : Int) (w : World) (H0 : Hid (∀ W, Calls Try.prog 22 #[.agg #[.int .i64 ax, .int .i64 ay], .agg #[.int .i64 bx, .int .i64 by1], .agg #[.int .i64 cx, .int .i64 cy]] W fun e w' => e = .returned (.bool false) ∧ Below W.heap.size W w')) : Calls Try.prog 12 #[.agg #[.int .i64 ax, .int .i64 ay], .agg #[.int .i64 bx, .int .i64 by1], .agg #[.int .i64 cx, .int .i64 cy]] w fun e w' => e = .returned (.int .i64 0) ∧ Below w.heap.size w w' := by
  go_enter Try.func12, Try.ntmps12
  go_upto_region 1 with (go_big_may; first
    | (refine wl_box 23 _ _ rfl rfl (show _ = Value.agg #[.int .i64 ax, .int .i64 ay] from rfl) ?_; intro W1 ba Ba_1 l1 k1; have ga : w.heap.size ≤ ba := l1; have Hw1 := k1; clear l1 k1)
    | (refine wl_box 23 _ _ rfl rfl (show _ = Value.agg #[.int .i64 bx, .int .i64 by1] from rfl) ?_; intro W2 bb Bb_2 l2 k2; have gb : w.heap.size ≤ bb := Nat.le_trans Hw1.size l2; have nab : ba ≠ bb := Nat.ne_of_lt (Nat.lt_of_lt_of_le Ba_1.lt l2); have Ba_2 := Ba_1.keep k2; have Hw2 := bq_trans Hw1 k2; clear l2 k2 Ba_1 Hw1)
    | (refine wl_box 23 _ _ rfl rfl (show _ = Value.agg #[.int .i64 cx, .int .i64 cy] from rfl) ?_; intro W3 bc Bc_3 l3 k3; have gc : w.heap.size ≤ bc := Nat.le_trans Hw2.size l3; have nac : ba ≠ bc := Nat.ne_of_lt (Nat.lt_of_lt_of_le Ba_2.lt l3); have nbc : bb ≠ bc := Nat.ne_of_lt (Nat.lt_of_lt_of_le Bb_2.lt l3); have Ba_3 := Ba_2.keep k3; have Bb_3 := Bb_2.keep k3; have Hw3 := bq_trans Hw2 k3; clear l3 k3 Ba_2 Bb_2 Hw2))
  go_wp2_with (first
    | (refine wl_load 23 2 _ Try.underlying23 rfl szPt _ rfl rfl _ rfl _ _ Ba_3 rfl ?_)
    | (refine wl_load 23 2 _ Try.underlying23 rfl szPt _ rfl rfl _ rfl _ _ Bb_3 rfl ?_)
    | (refine wl_load 23 2 _ Try.underlying23 rfl szPt _ rfl rfl _ rfl _ _ Bc_3 rfl ?_)
    | (go_at_call 22; (with_reducible refine (H0.out _).mono ?_); rintro e W4 ⟨rfl, k4⟩; have Ba_4 := Ba_3.keep k4; have Bb_4 := Bb_3.keep k4; have Bc_4 := Bc_3.keep k4; have Hw4 := bq_trans Hw3 k4; clear k4 Ba_3 Bb_3 Bc_3 Hw3))
  go_ret
  exact ⟨rfl, Hw4⟩
set_option maxHeartbeats 1000000 in
theorem bend16_yes (ax ay bx by1 cx cy p q m : Int) (w : World) (H0 : Hid (∀ W, Calls Try.prog 22 #[.agg #[.int .i64 ax, .int .i64 ay], .agg #[.int .i64 bx, .int .i64 by1], .agg #[.int .i64 cx, .int .i64 cy]] W fun e w' => e = .returned (.bool true) ∧ Below W.heap.size W w')) (H1 : Hid (∀ W, Calls Try.prog 23 #[.int .i64 ax, .int .i64 bx, .int .i64 cx] W fun e w' => e = .returned (.int .i64 p) ∧ Below W.heap.size W w')) (H2 : Hid (∀ W, Calls Try.prog 23 #[.int .i64 ay, .int .i64 by1, .int .i64 cy] W fun e w' => e = .returned (.int .i64 q) ∧ Below W.heap.size W w'))
    (hmx : ∀ (w : World) (ts : Array TypeId) (t : TypeId), (Builtin.max_ ts t #[.int .i64 p, .int .i64 q]).run Try.prog w = .ok (.int .i64 m) w) : Calls Try.prog 12 #[.agg #[.int .i64 ax, .int .i64 ay], .agg #[.int .i64 bx, .int .i64 by1], .agg #[.int .i64 cx, .int .i64 cy]] w fun e w' => e = .returned (.int .i64 m) ∧ Below w.heap.size w w' := by
  go_enter Try.func12, Try.ntmps12
  go_upto_region 1 with (go_big_may; first
    | (refine wl_box 23 _ _ rfl rfl (show _ = Value.agg #[.int .i64 ax, .int .i64 ay] from rfl) ?_; intro W1 ba Ba_1 l1 k1; have ga : w.heap.size ≤ ba := l1; have Hw1 := k1; clear l1 k1)
    | (refine wl_box 23 _ _ rfl rfl (show _ = Value.agg #[.int .i64 bx, .int .i64 by1] from rfl) ?_; intro W2 bb Bb_2 l2 k2; have gb : w.heap.size ≤ bb := Nat.le_trans Hw1.size l2; have nab : ba ≠ bb := Nat.ne_of_lt (Nat.lt_of_lt_of_le Ba_1.lt l2); have Ba_2 := Ba_1.keep k2; have Hw2 := bq_trans Hw1 k2; clear l2 k2 Ba_1 Hw1)
    | (refine wl_box 23 _ _ rfl rfl (show _ = Value.agg #[.int .i64 cx, .int .i64 cy] from rfl) ?_; intro W3 bc Bc_3 l3 k3; have gc : w.heap.size ≤ bc := Nat.le_trans Hw2.size l3; have nac : ba ≠ bc := Nat.ne_of_lt (Nat.lt_of_lt_of_le Ba_2.lt l3); have nbc : bb ≠ bc := Nat.ne_of_lt (Nat.lt_of_lt_of_le Bb_2.lt l3); have Ba_3 := Ba_2.keep k3; have Bb_3 := Bb_2.keep k3; have Hw3 := bq_trans Hw2 k3; clear l3 k3 Ba_2 Bb_2 Hw2))
  go_upto_region 3 with (go_big_may; first
    | (refine wl_load 23 2 _ Try.underlying23 rfl szPt _ rfl rfl _ rfl _ _ Ba_3 rfl ?_)
    | (refine wl_load 23 2 _ Try.underlying23 rfl szPt _ rfl rfl _ rfl _ _ Bb_3 rfl ?_)
    | (refine wl_load 23 2 _ Try.underlying23 rfl szPt _ rfl rfl _ rfl _ _ Bc_3 rfl ?_)
    | (go_at_call 22; (with_reducible refine (H0.out _).mono ?_); rintro e W4 ⟨rfl, k4⟩; have Ba_4 := Ba_3.keep k4; have Bb_4 := Bb_3.keep k4; have Bc_4 := Bc_3.keep k4; have Hw4 := bq_trans Hw3 k4; clear k4 Ba_3 Bb_3 Bc_3 Hw3))
  refine Det.wp_region_det (S := fun w' => Below W4.heap.size W4 w') (by kernel_rfl) (by kernel_rfl) (bq_drew (bq_refl _)) ?_
  refine Det.det_take (v := ?_) (by rfl) ?_ ?_
  rotate_left
  · (intro w hSw; go_simp; try with_reducible rfl)
  try simp only [Act.put, List.setIfInBounds_toArray, List.set_cons_zero, List.set_cons_succ]
  refine Det.det_take (v := ?_) (by rfl) ?_ ?_
  rotate_left
  · (intro w hSw; have cc : w.cell? ⟨ba, 0, none⟩ = some (.int .i64 ax) := (Ba_4.keep hSw).cell 0; go_simp; try with_reducible rfl)
  try simp only [Act.put, List.setIfInBounds_toArray, List.set_cons_zero, List.set_cons_succ]
  refine Det.det_take (v := ?_) (by rfl) ?_ ?_
  rotate_left
  · (intro w hSw; go_simp; try with_reducible rfl)
  try simp only [Act.put, List.setIfInBounds_toArray, List.set_cons_zero, List.set_cons_succ]
  refine Det.det_take (v := ?_) (by rfl) ?_ ?_
  rotate_left
  · (intro w hSw; have cc : w.cell? ⟨bb, 0, none⟩ = some (.int .i64 bx) := (Bb_4.keep hSw).cell 0; go_simp; try with_reducible rfl)
  try simp only [Act.put, List.setIfInBounds_toArray, List.set_cons_zero, List.set_cons_succ]
  refine Det.det_take (v := ?_) (by rfl) ?_ ?_
  rotate_left
  · (intro w hSw; go_simp; try with_reducible rfl)
  try simp only [Act.put, List.setIfInBounds_toArray, List.set_cons_zero, List.set_cons_succ]
  refine Det.det_take (v := ?_) (by rfl) ?_ ?_
  rotate_left
  · (intro w hSw; have cc : w.cell? ⟨bc, 0, none⟩ = some (.int .i64 cx) := (Bc_4.keep hSw).cell 0; go_simp; try with_reducible rfl)
  try simp only [Act.put, List.setIfInBounds_toArray, List.set_cons_zero, List.set_cons_succ]
  refine Det.det_call (f := 23) (args := #[.int .i64 ax, .int .i64 bx, .int .i64 cx]) (v := .int .i64 p) (by rfl) ?_ (fun w hS => (H1.out w).mono fun e w' ⟨h1, h2⟩ => ⟨h1, bq_trans hS h2⟩) ?_
  · (intro w hSw; go_simp)
  try simp only [Act.put, List.setIfInBounds_toArray, List.set_cons_zero, List.set_cons_succ]
  refine Det.det_take (v := ?_) (by rfl) ?_ ?_
  rotate_left
  · (intro w hSw; go_simp; try with_reducible rfl)
  try simp only [Act.put, List.setIfInBounds_toArray, List.set_cons_zero, List.set_cons_succ]
  refine Det.det_take (v := ?_) (by rfl) ?_ ?_
  rotate_left
  · (intro w hSw; have cc : w.cell? ⟨ba, 1, none⟩ = some (.int .i64 ay) := (Ba_4.keep hSw).cell 1; go_simp; try with_reducible rfl)
  try simp only [Act.put, List.setIfInBounds_toArray, List.set_cons_zero, List.set_cons_succ]
  refine Det.det_take (v := ?_) (by rfl) ?_ ?_
  rotate_left
  · (intro w hSw; go_simp; try with_reducible rfl)
  try simp only [Act.put, List.setIfInBounds_toArray, List.set_cons_zero, List.set_cons_succ]
  refine Det.det_take (v := ?_) (by rfl) ?_ ?_
  rotate_left
  · (intro w hSw; have cc : w.cell? ⟨bb, 1, none⟩ = some (.int .i64 by1) := (Bb_4.keep hSw).cell 1; go_simp; try with_reducible rfl)
  try simp only [Act.put, List.setIfInBounds_toArray, List.set_cons_zero, List.set_cons_succ]
  refine Det.det_take (v := ?_) (by rfl) ?_ ?_
  rotate_left
  · (intro w hSw; go_simp; try with_reducible rfl)
  try simp only [Act.put, List.setIfInBounds_toArray, List.set_cons_zero, List.set_cons_succ]
  refine Det.det_take (v := ?_) (by rfl) ?_ ?_
  rotate_left
  · (intro w hSw; have cc : w.cell? ⟨bc, 1, none⟩ = some (.int .i64 cy) := (Bc_4.keep hSw).cell 1; go_simp; try with_reducible rfl)
  try simp only [Act.put, List.setIfInBounds_toArray, List.set_cons_zero, List.set_cons_succ]
  refine Det.det_call (f := 23) (args := #[.int .i64 ay, .int .i64 by1, .int .i64 cy]) (v := .int .i64 q) (by rfl) ?_ (fun w hS => (H2.out w).mono fun e w' ⟨h1, h2⟩ => ⟨h1, bq_trans hS h2⟩) ?_
  · (intro w hSw; go_simp)
  try simp only [Act.put, List.setIfInBounds_toArray, List.set_cons_zero, List.set_cons_succ]
  refine Det.det_take (v := ?_) (by rfl) ?_ ?_
  rotate_left
  · (intro w hSw; go_simp; try with_reducible rfl)
  try simp only [Act.put, List.setIfInBounds_toArray, List.set_cons_zero, List.set_cons_succ]
  refine Det.det_take (v := ?_) (by rfl) ?_ ?_
  rotate_left
  · (intro w hSw; go_simp; try with_reducible rfl)
  try simp only [Act.put, List.setIfInBounds_toArray, List.set_cons_zero, List.set_cons_succ]
  refine Det.det_nil (fun W5 k5 => ?_)
  have Ba_5 := Ba_4.keep k5
  have Bb_5 := Bb_4.keep k5
  have Bc_5 := Bc_4.keep k5
  have Hw5 := bq_trans Hw4 k5
  clear k5 Ba_4 Bb_4 Bc_4 Hw4
  go_wp2_with fail
  go_ret
  exact ⟨rfl, Hw5⟩
/-- all three may be a curve's -/
def allE (ax ay bx by1 cx cy : Int) : Bool := evP ax ay && evP bx by1 && evP cx cy
abbrev In24 (x : Int) : Prop := -16777216 ≤ x ∧ x ≤ 16777216
theorem allE_bd {ax ay bx by1 cx cy : Int} (h : allE ax ay bx by1 cx cy = true) : (In24 ax ∧ ax % 2 = 0) ∧ (In24 ay ∧ ay % 2 = 0) ∧ (In24 bx ∧ bx % 2 = 0) ∧ (In24 by1 ∧ by1 % 2 = 0) ∧ (In24 cx ∧ cx % 2 = 0) ∧ (In24 cy ∧ cy % 2 = 0) := by
  unfold allE at h
  rw [Bool.and_eq_true, Bool.and_eq_true] at h
  obtain ⟨⟨h1, h2⟩, h3⟩ := h
  have a := evP_bd h1
  have b := evP_bd h2
  have c := evP_bd h3
  exact ⟨a.1, a.2, b.1, b.2, c.1, c.2⟩
theorem bend16_any (ax ay bx by1 cx cy : Int) (w : World) : Calls Try.prog 12 #[.agg #[.int .i64 ax, .int .i64 ay], .agg #[.int .i64 bx, .int .i64 by1], .agg #[.int .i64 cx, .int .i64 cy]] w fun e w' => e = .returned (.int .i64 (if allE ax ay bx by1 cx cy then bendV ax ay bx by1 cx cy else 0)) ∧ Below w.heap.size w w' := by
  have H0 := Lib.hid fun W => are16_any ax ay bx by1 cx cy W
  cases q : allE ax ay bx by1 cx cy with
  | false => exact bend16_no ax ay bx by1 cx cy w (Lib.hid fun W => (show (evP ax ay && evP bx by1 && evP cx cy) = false from q) ▸ H0.out W)
  | true =>
    obtain ⟨a1, a2, b1, b2, c1, c2⟩ := allE_bd q
    exact bend16_yes ax ay bx by1 cx cy _ _ _ w (Lib.hid fun W => (show (evP ax ay && evP bx by1 && evP cx cy) = true from q) ▸ H0.out W) (Lib.hid fun W => bendPart_any ax bx cx W a1.1 b1.1 c1.1) (Lib.hid fun W => bendPart_any ay by1 cy W a2.1 b2.1 c2.1) (fun w ts t => run_max2 w ts t _ _ _ _)
theorem bendV_bd {ax ay bx by1 cx cy : Int} (h : allE ax ay bx by1 cx cy = true) : 0 ≤ bendV ax ay bx by1 cx cy ∧ bendV ax ay bx by1 cx cy ≤ 67108864 := by
  obtain ⟨a1, a2, b1, b2, c1, c2⟩ := allE_bd h
  have h1 := bnd_bd a1.1 b1.1 c1.1
  have h2 := bnd_bd a2.1 b2.1 c2.1
  unfold bendV
  omega
theorem pie_is (d : Int) : (d ≤ 8 → pie d = 1) ∧ (8 < d → d ≤ 32 → pie d = 2) ∧ (32 < d → d ≤ 128 → pie d = 4) ∧ (128 < d → d ≤ 512 → pie d = 8) ∧ (512 < d → d ≤ 2048 → pie d = 16) ∧ (2048 < d → pie d = 32) := by
  unfold pie
  repeat' split
  all_goals (refine ⟨?_, ?_, ?_, ?_, ?_, ?_⟩ <;> intros <;> first | rfl | omega)
set_option maxHeartbeats 1000000 in
theorem enough16_any (d : Int) (w : World) : Calls Try.prog 24 #[.int .i64 d] w fun e w' => e = .returned (.int .i64 (pie d : Int)) ∧ w = w' := by
  have HP := Lib.hid (pie_is d)
  go_enter Try.func24, Try.ntmps24
  go_wp2_with fail
  go_loop [3] (fun n => (n = .int .i64 1) ∨ (n = .int .i64 2 ∧ 8 < d) ∨ (n = .int .i64 4 ∧ 32 < d) ∨ (n = .int .i64 8 ∧ 128 < d) ∨ (n = .int .i64 16 ∧ 512 < d) ∨ (n = .int .i64 32 ∧ 2048 < d)) (fun n => 32 - (intOf n).toNat)
  case atStart => exact Or.inl rfl
  case round =>
    rcases hrel with rfl | ⟨rfl, hd⟩ | ⟨rfl, hd⟩ | ⟨rfl, hd⟩ | ⟨rfl, hd⟩ | ⟨rfl, hd⟩
    · by_cases hc : 8 < d
      · go_wp2_with fail
        go_round
        case rel => exact Or.inr (Or.inl ⟨rfl, hc⟩)
        case measure => simp [intOf]
      · have HR : Hid (pie d = 1) := Lib.hid (by have h := HP.out; omega)
        go_wp2_with fail
        go_ret
        exact ⟨ret_int (by rw [HR.out]; rfl), rfl⟩
    · by_cases hc : 32 < d
      · go_wp2_with fail
        go_round
        case rel => exact Or.inr (Or.inr (Or.inl ⟨rfl, hc⟩))
        case measure => simp [intOf]
      · have HR : Hid (pie d = 2) := Lib.hid (by have h := HP.out; omega)
        go_wp2_with fail
        go_ret
        exact ⟨ret_int (by rw [HR.out]; rfl), rfl⟩
    · by_cases hc : 128 < d
      · go_wp2_with fail
        go_round
        case rel => exact Or.inr (Or.inr (Or.inr (Or.inl ⟨rfl, hc⟩)))
        case measure => simp [intOf]
      · have HR : Hid (pie d = 4) := Lib.hid (by have h := HP.out; omega)
        go_wp2_with fail
        go_ret
        exact ⟨ret_int (by rw [HR.out]; rfl), rfl⟩
    · by_cases hc : 512 < d
      · go_wp2_with fail
        go_round
        case rel => exact Or.inr (Or.inr (Or.inr (Or.inr (Or.inl ⟨rfl, hc⟩))))
        case measure => simp [intOf]
      · have HR : Hid (pie d = 8) := Lib.hid (by have h := HP.out; omega)
        go_wp2_with fail
        go_ret
        exact ⟨ret_int (by rw [HR.out]; rfl), rfl⟩
    · by_cases hc : 2048 < d
      · go_wp2_with fail
        go_round
        case rel => exact Or.inr (Or.inr (Or.inr (Or.inr (Or.inr (⟨rfl, hc⟩)))))
        case measure => simp [intOf]
      · have HR : Hid (pie d = 16) := Lib.hid (by have h := HP.out; omega)
        go_wp2_with fail
        go_ret
        exact ⟨ret_int (by rw [HR.out]; rfl), rfl⟩
    · have HR : Hid (pie d = 32) := Lib.hid (by have h := HP.out; omega)
      go_wp2_with fail
      go_ret
      exact ⟨ret_int (by rw [HR.out]; rfl), rfl⟩
set_option maxHeartbeats 1000000 in
theorem pieces16_no (ax ay bx by1 cx cy : Int) (w : World) (H0 : Hid (∀ W, Calls Try.prog 22 #[.agg #[.int .i64 ax, .int .i64 ay], .agg #[.int .i64 bx, .int .i64 by1], .agg #[.int .i64 cx, .int .i64 cy]] W fun e w' => e = .returned (.bool false) ∧ Below W.heap.size W w')) : Calls Try.prog 13 #[.agg #[.int .i64 ax, .int .i64 ay], .agg #[.int .i64 bx, .int .i64 by1], .agg #[.int .i64 cx, .int .i64 cy]] w fun e w' => e = .returned (.int .i64 0) ∧ Below w.heap.size w w' := by
  go_enter Try.func13, Try.ntmps13
  go_upto_region 1 with (go_big_may; first
    | (refine wl_box 23 _ _ rfl rfl (show _ = Value.agg #[.int .i64 ax, .int .i64 ay] from rfl) ?_; intro W1 ba Ba_1 l1 k1; have ga : w.heap.size ≤ ba := l1; have Hw1 := k1; clear l1 k1)
    | (refine wl_box 23 _ _ rfl rfl (show _ = Value.agg #[.int .i64 bx, .int .i64 by1] from rfl) ?_; intro W2 bb Bb_2 l2 k2; have gb : w.heap.size ≤ bb := Nat.le_trans Hw1.size l2; have nab : ba ≠ bb := Nat.ne_of_lt (Nat.lt_of_lt_of_le Ba_1.lt l2); have Ba_2 := Ba_1.keep k2; have Hw2 := bq_trans Hw1 k2; clear l2 k2 Ba_1 Hw1)
    | (refine wl_box 23 _ _ rfl rfl (show _ = Value.agg #[.int .i64 cx, .int .i64 cy] from rfl) ?_; intro W3 bc Bc_3 l3 k3; have gc : w.heap.size ≤ bc := Nat.le_trans Hw2.size l3; have nac : ba ≠ bc := Nat.ne_of_lt (Nat.lt_of_lt_of_le Ba_2.lt l3); have nbc : bb ≠ bc := Nat.ne_of_lt (Nat.lt_of_lt_of_le Bb_2.lt l3); have Ba_3 := Ba_2.keep k3; have Bb_3 := Bb_2.keep k3; have Hw3 := bq_trans Hw2 k3; clear l3 k3 Ba_2 Bb_2 Hw2))
  go_wp2_with (first
    | (refine wl_load 23 2 _ Try.underlying23 rfl szPt _ rfl rfl _ rfl _ _ Ba_3 rfl ?_)
    | (refine wl_load 23 2 _ Try.underlying23 rfl szPt _ rfl rfl _ rfl _ _ Bb_3 rfl ?_)
    | (refine wl_load 23 2 _ Try.underlying23 rfl szPt _ rfl rfl _ rfl _ _ Bc_3 rfl ?_)
    | (go_at_call 22; (with_reducible refine (H0.out _).mono ?_); rintro e W4 ⟨rfl, k4⟩; have Ba_4 := Ba_3.keep k4; have Bb_4 := Bb_3.keep k4; have Bc_4 := Bc_3.keep k4; have Hw4 := bq_trans Hw3 k4; clear k4 Ba_3 Bb_3 Bc_3 Hw3))
  go_ret
  exact ⟨rfl, Hw4⟩
set_option maxHeartbeats 1000000 in
theorem pieces16_yes (ax ay bx by1 cx cy d n : Int) (w : World) (H0 : Hid (∀ W, Calls Try.prog 22 #[.agg #[.int .i64 ax, .int .i64 ay], .agg #[.int .i64 bx, .int .i64 by1], .agg #[.int .i64 cx, .int .i64 cy]] W fun e w' => e = .returned (.bool true) ∧ Below W.heap.size W w')) (H1 : Hid (∀ W, Calls Try.prog 12 #[.agg #[.int .i64 ax, .int .i64 ay], .agg #[.int .i64 bx, .int .i64 by1], .agg #[.int .i64 cx, .int .i64 cy]] W fun e w' => e = .returned (.int .i64 d) ∧ Below W.heap.size W w')) (H2 : Hid (∀ W, Calls Try.prog 24 #[.int .i64 d] W fun e w' => e = .returned (.int .i64 n) ∧ Below W.heap.size W w')) : Calls Try.prog 13 #[.agg #[.int .i64 ax, .int .i64 ay], .agg #[.int .i64 bx, .int .i64 by1], .agg #[.int .i64 cx, .int .i64 cy]] w fun e w' => e = .returned (.int .i64 n) ∧ Below w.heap.size w w' := by
  go_enter Try.func13, Try.ntmps13
  go_upto_region 1 with (go_big_may; first
    | (refine wl_box 23 _ _ rfl rfl (show _ = Value.agg #[.int .i64 ax, .int .i64 ay] from rfl) ?_; intro W1 ba Ba_1 l1 k1; have ga : w.heap.size ≤ ba := l1; have Hw1 := k1; clear l1 k1)
    | (refine wl_box 23 _ _ rfl rfl (show _ = Value.agg #[.int .i64 bx, .int .i64 by1] from rfl) ?_; intro W2 bb Bb_2 l2 k2; have gb : w.heap.size ≤ bb := Nat.le_trans Hw1.size l2; have nab : ba ≠ bb := Nat.ne_of_lt (Nat.lt_of_lt_of_le Ba_1.lt l2); have Ba_2 := Ba_1.keep k2; have Hw2 := bq_trans Hw1 k2; clear l2 k2 Ba_1 Hw1)
    | (refine wl_box 23 _ _ rfl rfl (show _ = Value.agg #[.int .i64 cx, .int .i64 cy] from rfl) ?_; intro W3 bc Bc_3 l3 k3; have gc : w.heap.size ≤ bc := Nat.le_trans Hw2.size l3; have nac : ba ≠ bc := Nat.ne_of_lt (Nat.lt_of_lt_of_le Ba_2.lt l3); have nbc : bb ≠ bc := Nat.ne_of_lt (Nat.lt_of_lt_of_le Bb_2.lt l3); have Ba_3 := Ba_2.keep k3; have Bb_3 := Bb_2.keep k3; have Hw3 := bq_trans Hw2 k3; clear l3 k3 Ba_2 Bb_2 Hw2))
  go_upto_region 3 with (go_big_may; first
    | (refine wl_load 23 2 _ Try.underlying23 rfl szPt _ rfl rfl _ rfl _ _ Ba_3 rfl ?_)
    | (refine wl_load 23 2 _ Try.underlying23 rfl szPt _ rfl rfl _ rfl _ _ Bb_3 rfl ?_)
    | (refine wl_load 23 2 _ Try.underlying23 rfl szPt _ rfl rfl _ rfl _ _ Bc_3 rfl ?_)
    | (go_at_call 22; (with_reducible refine (H0.out _).mono ?_); rintro e W4 ⟨rfl, k4⟩; have Ba_4 := Ba_3.keep k4; have Bb_4 := Bb_3.keep k4; have Bc_4 := Bc_3.keep k4; have Hw4 := bq_trans Hw3 k4; clear k4 Ba_3 Bb_3 Bc_3 Hw3))
  go_wp2_with (first
    | (refine wl_load 23 2 _ Try.underlying23 rfl szPt _ rfl rfl _ rfl _ _ Ba_4 rfl ?_)
    | (refine wl_load 23 2 _ Try.underlying23 rfl szPt _ rfl rfl _ rfl _ _ Bb_4 rfl ?_)
    | (refine wl_load 23 2 _ Try.underlying23 rfl szPt _ rfl rfl _ rfl _ _ Bc_4 rfl ?_)
    | (go_at_call 12; (with_reducible refine (H1.out _).mono ?_); rintro e W5 ⟨rfl, k5⟩; have Ba_5 := Ba_4.keep k5; have Bb_5 := Bb_4.keep k5; have Bc_5 := Bc_4.keep k5; have Hw5 := bq_trans Hw4 k5; clear k5 Ba_4 Bb_4 Bc_4 Hw4)
    | (go_at_call 24; (with_reducible refine (H2.out _).mono ?_); rintro e W6 ⟨rfl, k6⟩; have Ba_6 := Ba_5.keep k6; have Bb_6 := Bb_5.keep k6; have Bc_6 := Bc_5.keep k6; have Hw6 := bq_trans Hw5 k6; clear k6 Ba_5 Bb_5 Bc_5 Hw5))
  go_ret
  exact ⟨rfl, Hw6⟩
theorem pieces16_any (ax ay bx by1 cx cy : Int) (w : World) : Calls Try.prog 13 #[.agg #[.int .i64 ax, .int .i64 ay], .agg #[.int .i64 bx, .int .i64 by1], .agg #[.int .i64 cx, .int .i64 cy]] w fun e w' => e = .returned (.int .i64 (if allE ax ay bx by1 cx cy then (pie (bendV ax ay bx by1 cx cy) : Int) else 0)) ∧ Below w.heap.size w w' := by
  have H0 := Lib.hid fun W => are16_any ax ay bx by1 cx cy W
  have H1 := Lib.hid fun W => bend16_any ax ay bx by1 cx cy W
  cases q : allE ax ay bx by1 cx cy with
  | false => exact pieces16_no ax ay bx by1 cx cy w (Lib.hid fun W => (show (evP ax ay && evP bx by1 && evP cx cy) = false from q) ▸ H0.out W)
  | true =>
    rw [q] at H1
    exact pieces16_yes ax ay bx by1 cx cy _ _ w (Lib.hid fun W => (show (evP ax ay && evP bx by1 && evP cx cy) = true from q) ▸ H0.out W) H1 (Lib.hid fun W => (enough16_any _ W).mono fun e w' ⟨h1, h2⟩ => ⟨h1, h2 ▸ bq_refl W⟩)
set_option maxHeartbeats 1000000 in
theorem partAt_core (a b c i n l p1 p2 q1 q2 r1 r2 s u : Int) (w : World) (hl : n - i = l) (hb0 : -16777216 ≤ b) (hb1 : b ≤ 16777216) (hn0 : 0 ≤ n) (hn1 : n ≤ 32) (hi0 : 0 ≤ i) (hi1 : i ≤ n)
    (e1 : wrap64 (a * l) = p1) (e2 : wrap64 (p1 * l) = p2) (e3 : wrap64 (2 * b * i) = q1) (e4 : wrap64 (q1 * l) = q2) (e5 : wrap64 (c * i) = r1) (e6 : wrap64 (r1 * i) = r2) (e7 : wrap64 (2 * n * n) = s) (h1 : (-9223372036854775808 ≤ p2 + q2 ∧ p2 + q2 ≤ 9223372036854775807)) (h2 : (-9223372036854775808 ≤ p2 + q2 + r2 ∧ p2 + q2 + r2 ≤ 9223372036854775807)) (u0 : -4611686018427387904 ≤ u) (u1 : u ≤ 4611686018427387903)
    (H : Hid (∀ W, Calls Try.prog 26 #[.int .i64 (p2 + q2 + r2), .int .i64 s] W fun e w' => e = .returned (.tuple #[.int .i64 u, .bool true]) ∧ Below W.heap.size W w')) :
    Calls Try.prog 20 #[.int .i64 a, .int .i64 b, .int .i64 c, .int .i64 i, .int .i64 n] w fun e w' => e = .returned (.int .i64 (2 * u)) ∧ Below w.heap.size w w' := by
  obtain ⟨h1, h1b⟩ := h1
  obtain ⟨h2, h2b⟩ := h2
  go_enter Try.func20, Try.ntmps20
  go_wp2_with (go_at_call 26; (with_reducible refine (H.out _).mono ?_); rintro e w' ⟨rfl, k1⟩)
  go_ret
  exact ⟨rfl, k1⟩
theorem rnd_pt (m s : Int) (hs : 0 < s) : M1.rnd m (2 * s) = (m + s) / (2 * s) := by
  unfold M1.rnd
  rw [fdiv_pos _ _ (by omega), show 2 * m + 2 * s = 2 * (m + s) by omega, Int.mul_ediv_mul_of_pos _ _ (by decide)]
theorem ptV_bd {a b c i n : Int} (ha : In24 a) (hb : In24 b) (hc : In24 c) (hi : 0 ≤ i ∧ i ≤ n) (hn : 0 < n) : -16777216 ≤ ptV a b c i n ∧ ptV a b c i n ≤ 16777216 :=
  ptV_in ha hb hc hi hn (by decide) (by decide)
theorem partAt_any (a b c i n : Int) (w : World) (ha : In24 a) (hb : In24 b) (hc : In24 c) (hi : 0 ≤ i ∧ i ≤ n) (hn : 0 < n ∧ n ≤ 32) :
    Calls Try.prog 20 #[.int .i64 a, .int .i64 b, .int .i64 c, .int .i64 i, .int .i64 n] w fun e w' => e = .returned (.int .i64 (ptV a b c i n)) ∧ Below w.heap.size w w' := by
  have hb2 := ptV_bd ha hb hc hi hn.1
  have m1 := mul_bd 16777216 32 ha (show -32 ≤ n - i ∧ n - i ≤ 32 by omega)
  have m2 := mul_bd 536870912 32 (a := a * (n - i)) (by omega) (show -32 ≤ n - i ∧ n - i ≤ 32 by omega)
  have m3 := mul_bd 33554432 32 (show -33554432 ≤ 2 * b ∧ 2 * b ≤ 33554432 by omega) (show -32 ≤ i ∧ i ≤ 32 by omega)
  have m4 := mul_bd 1073741824 32 (a := 2 * b * i) (by omega) (show -32 ≤ n - i ∧ n - i ≤ 32 by omega)
  have m5 := mul_bd 16777216 32 hc (show -32 ≤ i ∧ i ≤ 32 by omega)
  have m6 := mul_bd 536870912 32 (a := c * i) (by omega) (show -32 ≤ i ∧ i ≤ 32 by omega)
  have m7 := mul_bd 64 32 (show -64 ≤ 2 * n ∧ 2 * n ≤ 64 by omega) (show -32 ≤ n ∧ n ≤ 32 by omega)
  have hs := sq_pos hn.1
  have e7 : 2 * n * n = 2 * (n * n) := Int.mul_assoc ..
  have hu : ptV a b c i n = 2 * ((num a b c i n + n * n) / (2 * (n * n))) := rfl
  rw [hu] at hb2 ⊢
  refine partAt_core a b c i n (n - i) _ _ _ _ _ _ _ _ w rfl hb.1 hb.2 (by omega) hn.2 hi.1 hi.2 (w64 _ (by omega)) (w64 _ (by omega)) (w64 _ (by omega)) (w64 _ (by omega)) (w64 _ (by omega)) (w64 _ (by omega)) (w64 _ (by omega)) (by omega) (by omega) (by omega) (by omega) (Lib.hid fun W => ?_)
  have h := round_yes (num a b c i n) (2 * n * n) W (by unfold num; omega) (by unfold num; omega) (by omega) (by omega) (by omega) (by omega)
  rw [e7, rnd_pt _ _ hs] at h
  rw [e7]
  exact h.mono fun e w' ⟨h1, m, h2⟩ => ⟨h1, h2 ▸ bq_drewN (bq_refl _) m⟩
end Go.Proofs.Ytpeknlablcgchaa
