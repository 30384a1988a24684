import Derived.Test.YthcejmbjagpjcabN0
import Derived.Test.YthcejmbjagpjcabA2
import Derived.Test.YthcejmbjagpjcabF2
import Derived.Test.YthcejmbjagpjcabFm
import Derived.Test.YthcejmbjagpjcabDl
/- Layer 14: the program's small functions. -/
namespace Go.Proofs.Ythcejmbjagpjcab
open Go.RowKit
set_option linter.unusedVariables false
set_option linter.unusedSimpArgs false
set_option maxRecDepth 100000

theorem szMt : (Try.prog.info? 25).map (·.size) = some 6 := by kernel_rfl
theorem zeMt (w : World) : (zeroValue 25).run Try.prog w = .ok (.agg #[.int .i64 0, .int .i64 0, .int .i64 0, .int .i64 0, .int .i64 0, .int .i64 0]) w := Try.zeroValue25 w
theorem szPt : (Try.prog.info? 31).map (·.size) = some 2 := by kernel_rfl
theorem zePt (w : World) : (zeroValue 31).run Try.prog w = .ok (.agg #[.int .i64 0, .int .i64 0]) w := Try.zeroValue31 w
theorem szI : (Try.prog.info? 3).map (·.size) = some 1 := by kernel_rfl
theorem w64 (x : Int) (h : (-9223372036854775808 ≤ x ∧ x ≤ 9223372036854775807)) : wrap64 x = x := by unfold wrap64; omega
theorem wI (x : Int) (h : (-9223372036854775808 ≤ x ∧ x ≤ 9223372036854775807)) : IntKind.i64.wrap x = x := by rw [IntKind.wrap_i64]; omega
theorem run_min2 {P : Program} (w : World) (ts : Array TypeId) (t : TypeId) (k k1 : IntKind) (x y : Int) : (Builtin.min_ ts t #[.int k x, .int k1 y]).run P w = .ok (.int k (min x y)) w := by
  have e : (if y < x then y else x) = min x y := by
    rw [Int.min_def]
    split <;> split <;> omega
  simp [Builtin.min_, Builtin.min2, e]
theorem run_max2 {P : Program} (w : World) (ts : Array TypeId) (t : TypeId) (k k1 : IntKind) (x y : Int) : (Builtin.max_ ts t #[.int k x, .int k1 y]).run P w = .ok (.int k (max x y)) w := by
  have e : (if x < y then y else x) = max x y := by
    rw [Int.max_def]
    split <;> split <;> omega
  simp [Builtin.max_, Builtin.max2, e]
theorem floor14_any (a b : Int) (w : World) (a0 : -9223372036854775808 < a) (a1 : a ≤ 9223372036854775807) (b0 : (-9223372036854775808 ≤ b ∧ b ≤ 9223372036854775807)) (hb : b ≠ 0) :
    Calls Try.prog 17 #[.int .i64 a, .int .i64 b] w fun e w' => e = .returned (.int .i64 (a.fdiv b)) ∧ Below w.heap.size w w' := by
  have C := Lib.hid fun W => floor_yes a b W (by omega) a1 b0.1 b0.2 (by omega) (Or.inl a0)
  clear a0 a1 b0 hb
  generalize a.fdiv b = x at *
  go_enter Try.func17, Try.ntmps17
  go_wp2_with (go_at_call 21; refine (C.out _).mono ?_; rintro e w' ⟨rfl, n, rfl⟩)
  go_ret
  exact ⟨rfl, bq_drewN (bq_refl _) _⟩
set_option maxHeartbeats 1000000 in
theorem floors14_core (x y d p q : Int) (w : World)
    (H1 : Hid (∀ W, Calls Try.prog 17 #[.int .i64 x, .int .i64 d] W fun e w' => e = .returned (.int .i64 p) ∧ Below W.heap.size W w'))
    (H2 : Hid (∀ W, Calls Try.prog 17 #[.int .i64 y, .int .i64 d] W fun e w' => e = .returned (.int .i64 q) ∧ Below W.heap.size W w')) :
    Calls Try.prog 9 #[.agg #[.int .i64 x, .int .i64 y], .int .i64 d] w fun e w' => e = .returned (.tuple #[.int .i64 p, .int .i64 q]) ∧ Below w.heap.size w w' := by
  go_enter Try.func9, Try.ntmps9
  go_upto_region 1 with (go_big_may; first
    | (refine wl_box 31 _ _ rfl rfl (show _ = Value.agg #[.int .i64 x, .int .i64 y] from rfl) ?_; intro W1 bp Bp_1 l1 k1; have gp : w.heap.size ≤ bp := l1; have Hw1 := k1; clear l1 k1))
  refine Det.wp_region_det (S := fun w' => Below W1.heap.size W1 w') (by kernel_rfl) (by kernel_rfl) (bq_drew (bq_refl _)) ?_
  refine Det.det_take (v := ?_) (by rfl) ?_ ?_
  rotate_left
  · (intro w hSw; go_simp; try with_reducible rfl)
  try simp only [Act.put, List.setIfInBounds_toArray, List.set_cons_zero, List.set_cons_succ]
  refine Det.det_take (v := ?_) (by rfl) ?_ ?_
  rotate_left
  · (intro w hSw; have cc0 : w.cell? ⟨bp, 0, none⟩ = some (.int .i64 x) := (Bp_1.keep hSw).cell 0; go_simp; try with_reducible rfl)
  try simp only [Act.put, List.setIfInBounds_toArray, List.set_cons_zero, List.set_cons_succ]
  refine Det.det_take (v := ?_) (by rfl) ?_ ?_
  rotate_left
  · (intro w hSw; go_simp; try with_reducible rfl)
  try simp only [Act.put, List.setIfInBounds_toArray, List.set_cons_zero, List.set_cons_succ]
  refine Det.det_call (f := 17) (args := #[.int .i64 x, .int .i64 d]) (v := .int .i64 p) (by rfl) ?_ (fun w hS => (H1.out w).mono fun e w' ⟨h1, h2⟩ => ⟨h1, bq_trans hS h2⟩) ?_
  · (intro w hSw; go_simp)
  try simp only [Act.put, List.setIfInBounds_toArray, List.set_cons_zero, List.set_cons_succ]
  refine Det.det_take (v := ?_) (by rfl) ?_ ?_
  rotate_left
  · (intro w hSw; go_simp; try with_reducible rfl)
  try simp only [Act.put, List.setIfInBounds_toArray, List.set_cons_zero, List.set_cons_succ]
  refine Det.det_take (v := ?_) (by rfl) ?_ ?_
  rotate_left
  · (intro w hSw; have cc1 : w.cell? ⟨bp, 1, none⟩ = some (.int .i64 y) := (Bp_1.keep hSw).cell 1; go_simp; try with_reducible rfl)
  try simp only [Act.put, List.setIfInBounds_toArray, List.set_cons_zero, List.set_cons_succ]
  refine Det.det_take (v := ?_) (by rfl) ?_ ?_
  rotate_left
  · (intro w hSw; go_simp; try with_reducible rfl)
  try simp only [Act.put, List.setIfInBounds_toArray, List.set_cons_zero, List.set_cons_succ]
  refine Det.det_call (f := 17) (args := #[.int .i64 y, .int .i64 d]) (v := .int .i64 q) (by rfl) ?_ (fun w hS => (H2.out w).mono fun e w' ⟨h1, h2⟩ => ⟨h1, bq_trans hS h2⟩) ?_
  · (intro w hSw; go_simp)
  try simp only [Act.put, List.setIfInBounds_toArray, List.set_cons_zero, List.set_cons_succ]
  refine Det.det_take (v := ?_) (by rfl) ?_ ?_
  rotate_left
  · (intro w hSw; go_simp; try with_reducible rfl)
  try simp only [Act.put, List.setIfInBounds_toArray, List.set_cons_zero, List.set_cons_succ]
  refine Det.det_take (v := ?_) (by rfl) ?_ ?_
  rotate_left
  · (intro w hSw; go_simp; try with_reducible rfl)
  try simp only [Act.put, List.setIfInBounds_toArray, List.set_cons_zero, List.set_cons_succ]
  refine Det.det_nil (fun W2 k2 => ?_)
  have Bp_2 := Bp_1.keep k2
  have Hw2 := bq_trans Hw1 k2
  clear k2 Bp_1 Hw1
  go_wp2_with fail
  go_ret2
  exact ⟨rfl, Hw2⟩
theorem floors14_any (x y d : Int) (w : World) (hx : -9223372036854775808 < x ∧ x ≤ 9223372036854775807) (hy : -9223372036854775808 < y ∧ y ≤ 9223372036854775807) (hd : (-9223372036854775808 ≤ d ∧ d ≤ 9223372036854775807)) (h0 : d ≠ 0) :
    Calls Try.prog 9 #[.agg #[.int .i64 x, .int .i64 y], .int .i64 d] w fun e w' => e = .returned (.tuple #[.int .i64 (x.fdiv d), .int .i64 (y.fdiv d)]) ∧ Below w.heap.size w w' :=
  floors14_core x y d _ _ w (Lib.hid fun W => floor14_any x d W hx.1 hx.2 hd h0) (Lib.hid fun W => floor14_any y d W hy.1 hy.2 hd h0)
set_option maxHeartbeats 1000000 in
theorem turn14_core (A B C D X Y x y p q r s : Int) (w : World) (e1 : wrap64 (A * x) = p) (e2 : wrap64 (C * y) = q) (e3 : wrap64 (B * x) = r) (e4 : wrap64 (D * y) = s) (h1 : (-9223372036854775808 ≤ p + q ∧ p + q ≤ 9223372036854775807)) (h2 : (-9223372036854775808 ≤ r + s ∧ r + s ≤ 9223372036854775807)) :
    Calls Try.prog 10 #[.agg #[.int .i64 A, .int .i64 B, .int .i64 C, .int .i64 D, .int .i64 X, .int .i64 Y], .int .i64 x, .int .i64 y] w fun e w' => e = .returned (.agg #[.int .i64 (p + q), .int .i64 (r + s)]) ∧ Below w.heap.size w w' := by
  obtain ⟨h1, h1b⟩ := h1
  obtain ⟨h2, h2b⟩ := h2
  go_enter Try.func10, Try.ntmps10
  go_upto_region 1 with (go_big_may; first
    | (refine wl_box 25 _ _ rfl rfl (show _ = Value.agg #[.int .i64 A, .int .i64 B, .int .i64 C, .int .i64 D, .int .i64 X, .int .i64 Y] from rfl) ?_; intro W1 bm Bm_1 l1 k1; have gm : w.heap.size ≤ bm := l1; have Hw1 := k1; clear l1 k1; have cm_0_1 : W1.cell? ⟨bm, 0, none⟩ = some (.int .i64 A) := Bm_1.cell 0; have cm_1_1 : W1.cell? ⟨bm, 1, none⟩ = some (.int .i64 B) := Bm_1.cell 1; have cm_2_1 : W1.cell? ⟨bm, 2, none⟩ = some (.int .i64 C) := Bm_1.cell 2; have cm_3_1 : W1.cell? ⟨bm, 3, none⟩ = some (.int .i64 D) := Bm_1.cell 3)
    | (refine wl_alloc 31 _ zePt rfl rfl ?_; intro W2 bo Bo_2 l2 k2; have go : w.heap.size ≤ bo := Nat.le_trans Hw1.size l2; have nmo : bm ≠ bo := Nat.ne_of_lt (Nat.lt_of_lt_of_le Bm_1.lt l2); have Bm_2 := Bm_1.keep k2; have Hw2 := bq_trans Hw1 k2; clear l2 k2 Bm_1 cm_0_1 cm_1_1 cm_2_1 cm_3_1 Hw1; have cm_0_2 : W2.cell? ⟨bm, 0, none⟩ = some (.int .i64 A) := Bm_2.cell 0; have cm_1_2 : W2.cell? ⟨bm, 1, none⟩ = some (.int .i64 B) := Bm_2.cell 1; have cm_2_2 : W2.cell? ⟨bm, 2, none⟩ = some (.int .i64 C) := Bm_2.cell 2; have cm_3_2 : W2.cell? ⟨bm, 3, none⟩ = some (.int .i64 D) := Bm_2.cell 3))
  go_wp2_with (first
    | (refine wl_store 31 2 szPt _ _ rfl rfl _ rfl #[.int .i64 (p + q), .int .i64 (r + s)] rfl _ _ Bo_2 rfl rfl (by kernel_rfl) ?_; intro W3 Bo_3 T3; have Bm_3 := T3.blk Bm_2 nmo; have Hw3 := T3.below Hw2 go; clear T3 Bm_2 cm_0_2 cm_1_2 cm_2_2 cm_3_2 Bo_2 Hw2))
  exact post_cell Try.underlying31 rfl szPt Try.results10 Bo_3 rfl rfl rfl ⟨rfl, Hw3⟩
theorem turn14_any (A B C D X Y x y : Int) (w : World) (hA : -4194304 ≤ A ∧ A ≤ 4194304) (hB : -4194304 ≤ B ∧ B ≤ 4194304) (hC : -4194304 ≤ C ∧ C ≤ 4194304) (hD : -4194304 ≤ D ∧ D ≤ 4194304) (hx : -549755813888 ≤ x ∧ x ≤ 549755813888) (hy : -549755813888 ≤ y ∧ y ≤ 549755813888) :
    Calls Try.prog 10 #[.agg #[.int .i64 A, .int .i64 B, .int .i64 C, .int .i64 D, .int .i64 X, .int .i64 Y], .int .i64 x, .int .i64 y] w fun e w' => e = .returned (.agg #[.int .i64 (A * x + C * y), .int .i64 (B * x + D * y)]) ∧ Below w.heap.size w w' := by
  have b1 := mul_bd _ _ hA hx
  have b2 := mul_bd _ _ hC hy
  have b3 := mul_bd _ _ hB hx
  have b4 := mul_bd _ _ hD hy
  exact turn14_core A B C D X Y x y _ _ _ _ w (w64 _ (by omega)) (w64 _ (by omega)) (w64 _ (by omega)) (w64 _ (by omega)) (by omega) (by omega)
set_option maxHeartbeats 1000000 in
theorem size14_core (A B C D X Y p q : Int) (w : World) (e1 : wrap64 (A * D) = p) (e2 : wrap64 (B * C) = q) (h1 : (-9223372036854775808 ≤ p - q ∧ p - q ≤ 9223372036854775807)) :
    Calls Try.prog 19 #[.agg #[.int .i64 A, .int .i64 B, .int .i64 C, .int .i64 D, .int .i64 X, .int .i64 Y]] w fun e w' => e = .returned (.int .i64 (p - q)) ∧ Below w.heap.size w w' := by
  obtain ⟨h1, h1b⟩ := h1
  go_enter Try.func19, Try.ntmps19
  go_upto_region 1 with (go_big_may; first
    | (refine wl_box 25 _ _ rfl rfl (show _ = Value.agg #[.int .i64 A, .int .i64 B, .int .i64 C, .int .i64 D, .int .i64 X, .int .i64 Y] from rfl) ?_; intro W1 bm Bm_1 l1 k1; have gm : w.heap.size ≤ bm := l1; have Hw1 := k1; clear l1 k1; have cm_0_1 : W1.cell? ⟨bm, 0, none⟩ = some (.int .i64 A) := Bm_1.cell 0; have cm_1_1 : W1.cell? ⟨bm, 1, none⟩ = some (.int .i64 B) := Bm_1.cell 1; have cm_2_1 : W1.cell? ⟨bm, 2, none⟩ = some (.int .i64 C) := Bm_1.cell 2; have cm_3_1 : W1.cell? ⟨bm, 3, none⟩ = some (.int .i64 D) := Bm_1.cell 3))
  go_wp2_with fail
  go_ret
  exact ⟨rfl, Hw1⟩
theorem size14_any (A B C D X Y : Int) (w : World) (hA : -4194304 ≤ A ∧ A ≤ 4194304) (hB : -4194304 ≤ B ∧ B ≤ 4194304) (hC : -4194304 ≤ C ∧ C ≤ 4194304) (hD : -4194304 ≤ D ∧ D ≤ 4194304) :
    Calls Try.prog 19 #[.agg #[.int .i64 A, .int .i64 B, .int .i64 C, .int .i64 D, .int .i64 X, .int .i64 Y]] w fun e w' => e = .returned (.int .i64 (A * D - B * C)) ∧ Below w.heap.size w w' := by
  have b1 := mul_bd _ _ hA hD
  have b2 := mul_bd _ _ hB hC
  exact size14_core A B C D X Y _ _ w (w64 _ (by omega)) (w64 _ (by omega)) (by omega)
/-- a point not beyond so much -/
def ptOk (m x y : Int) : Bool := nr m x && nr m y
set_option maxHeartbeats 1000000 in
theorem near14_core (x y m mn mx : Int) (q : Bool) (w : World) (m0 : 0 ≤ m) (m1 : m ≤ 2000000000) (hmn : ∀ (w : World) (ts : Array TypeId) (t : TypeId), (Builtin.min_ ts t #[.int .i64 x, .int .i64 y]).run Try.prog w = .ok (.int .i64 mn) w) (hmx : ∀ (w : World) (ts : Array TypeId) (t : TypeId), (Builtin.max_ ts t #[.int .i64 x, .int .i64 y]).run Try.prog w = .ok (.int .i64 mx) w)
    (hq : mn < -m ∧ q = false ∨ -m ≤ mn ∧ m < mx ∧ q = false ∨ -m ≤ mn ∧ mx ≤ m ∧ q = true) :
    Calls Try.prog 11 #[.agg #[.int .i64 x, .int .i64 y], .int .i64 m] w fun e w' => e = .returned (.bool q) ∧ Below w.heap.size w w' := by
  rcases hq with ⟨h1, rfl⟩ | ⟨h1, h2, rfl⟩ | ⟨h1, h2, rfl⟩
  all_goals
    go_enter Try.func11, Try.ntmps11
    go_upto_region 1 with (go_big_may; first
      | (refine wl_box 31 _ _ rfl rfl (show _ = Value.agg #[.int .i64 x, .int .i64 y] from rfl) ?_; intro W1 bp Bp_1 l1 k1; have gp : w.heap.size ≤ bp := l1; have Hw1 := k1; clear l1 k1; have cp_0_1 : W1.cell? ⟨bp, 0, none⟩ = some (.int .i64 x) := Bp_1.cell 0; have cp_1_1 : W1.cell? ⟨bp, 1, none⟩ = some (.int .i64 y) := Bp_1.cell 1))
    go_wp2_with fail
    go_ret
    exact ⟨by first | rfl | exact ret_bool (by simp; try omega), Hw1⟩
theorem near14_any (x y m : Int) (w : World) (m0 : 0 ≤ m) (m1 : m ≤ 2000000000) :
    Calls Try.prog 11 #[.agg #[.int .i64 x, .int .i64 y], .int .i64 m] w fun e w' => e = .returned (.bool (ptOk m x y)) ∧ Below w.heap.size w w' := by
  refine near14_core x y m _ _ _ w m0 m1 (fun w ts t => run_min2 w ts t _ _ _ _) (fun w ts t => run_max2 w ts t _ _ _ _) ?_
  have HR : ptOk m x y = (decide (-m ≤ min x y) && decide (max x y ≤ m)) := by rw [Bool.eq_iff_iff]; simp [ptOk, nr]; omega
  rw [HR]
  generalize min x y = mn
  generalize max x y = mx
  by_cases h1 : -m ≤ mn
  · by_cases h2 : mx ≤ m
    · exact Or.inr (Or.inr ⟨h1, h2, by simp [h1, h2]⟩)
    · exact Or.inr (Or.inl ⟨h1, by omega, by simp [h2]⟩)
  · exact Or.inl ⟨by omega, by simp [h1]⟩
set_option maxHeartbeats 1000000 in
theorem onGrid14_core (t u : Int) (w : World) (t0 : -576460752303423488 ≤ t) (t1 : t ≤ 576460752303423488) (u0 : -28147497671066 ≤ u) (u1 : u ≤ 28147497671066)
    (H : Hid (∀ W, Calls Try.prog 22 #[.int .i64 (t * 8), .int .i64 327680] W fun e w' => e = .returned (.tuple #[.int .i64 u, .bool true]) ∧ ∃ n, w' = W.drewN n)) :
    Calls Try.prog 18 #[.int .i64 t] w fun e w' => e = .returned (.int .i64 (2 * u)) ∧ Below w.heap.size w w' := by
  go_enter Try.func18, Try.ntmps18
  go_wp2_with (go_at_call 22; refine (H.out _).mono ?_; rintro e w' ⟨rfl, n, rfl⟩)
  go_ret
  exact ⟨rfl, bq_drewN (bq_refl _) _⟩
theorem onGrid14_any (t : Int) (w : World) (t0 : -576460752303423488 ≤ t) (t1 : t ≤ 576460752303423488) :
    Calls Try.prog 18 #[.int .i64 t] w fun e w' => e = .returned (.int .i64 (gridV t)) ∧ Below w.heap.size w w' := by
  rw [← grid_rnd]
  have h1 := grid_bd t ⟨t0, t1⟩
  rw [← grid_rnd] at h1
  exact onGrid14_core t _ w t0 t1 (by omega) (by omega) (Lib.hid fun W => round_yes (t * 8) 327680 W (by omega) (by omega) (by omega) (by omega) (by omega) (by omega))
end Go.Proofs.Ythcejmbjagpjcab
