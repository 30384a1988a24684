import Derived.Test.YthcejmbjagpjcaaN0
import Derived.Test.YthcejmbjagpjcaaA2
import Derived.Test.YthcejmbjagpjcaaF2
import Derived.Test.YthcejmbjagpjcaaFm
import Derived.Test.YthcejmbjagpjcaaDl
/- Layer 14: the program's small functions. -/
namespace Go.Proofs.Ythcejmbjagpjcaa
open Go.RowKit
set_option linter.unusedVariables false
set_option linter.unusedSimpArgs false
set_option maxRecDepth 100000

theorem szMt : (Try.prog.info? 23).map (·.size) = some 6 := by kernel_rfl
theorem zeMt (w : World) : (zeroValue 23).run Try.prog w = .ok (.agg #[.int .i64 0, .int .i64 0, .int .i64 0, .int .i64 0, .int .i64 0, .int .i64 0]) w := Try.zeroValue23 w
theorem szPt : (Try.prog.info? 37).map (·.size) = some 2 := by kernel_rfl
theorem zePt (w : World) : (zeroValue 37).run Try.prog w = .ok (.agg #[.int .i64 0, .int .i64 0]) w := Try.zeroValue37 w
theorem szI : (Try.prog.info? 3).map (·.size) = some 1 := by kernel_rfl
theorem w64 (x : Int) (h : (-9223372036854775808 ≤ x ∧ x ≤ 9223372036854775807)) : wrap64 x = x := by unfold wrap64; omega
theorem wI (x : Int) (h : (-9223372036854775808 ≤ x ∧ x ≤ 9223372036854775807)) : IntKind.i64.wrap x = x := by rw [IntKind.wrap_i64]; omega
theorem run_min2 {P : Program} (w : World) (ts : Array TypeId) (t : TypeId) (k k1 : IntKind) (x y : Int) : (Builtin.min_ ts t #[.int k x, .int k1 y]).run P w = .ok (.int k (min x y)) w := by
  have e : (if y < x then y else x) = min x y := by
    rw [Int.min_def]
    split <;> split <;> omega
  simp [Builtin.min_, Builtin.min2, e]
theorem run_max2 {P : Program} (w : World) (ts : Array TypeId) (t : TypeId) (k k1 : IntKind) (x y : Int) : (Builtin.max_ ts t #[.int k x, .int k1 y]).run P w = .ok (.int k (max x y)) w := by
  have e : (if x < y then y else x) = max x y := by
    rw [Int.max_def]
    split <;> split <;> omega
  simp [Builtin.max_, Builtin.max2, e]
theorem floor14_any (a b : Int) (w : World) (a0 : -9223372036854775808 < a) (a1 : a ≤ 9223372036854775807) (b0 : (-9223372036854775808 ≤ b ∧ b ≤ 9223372036854775807)) (hb : b ≠ 0) :
    Calls Try.prog 47 #[.int .i64 a, .int .i64 b] w fun e w' => e = .returned (.int .i64 (a.fdiv b)) ∧ Below w.heap.size w w' := by
  have C := Lib.hid fun W => floor_yes a b W (by omega) a1 b0.1 b0.2 (by omega) (Or.inl a0)
  clear a0 a1 b0 hb
  generalize a.fdiv b = x at *
  go_enter Try.func47, Try.ntmps47
  go_wp2_with (go_at_call 49; refine (C.out _).mono ?_; rintro e w' ⟨rfl, n, rfl⟩)
  go_ret
  exact ⟨rfl, bq_drewN (bq_refl _) _⟩
set_option maxHeartbeats 1000000 in
theorem floors14_core (x y d p q : Int) (w : World)
    (H1 : Hid (∀ W, Calls Try.prog 47 #[.int .i64 x, .int .i64 d] W fun e w' => e = .returned (.int .i64 p) ∧ Below W.heap.size W w'))
    (H2 : Hid (∀ W, Calls Try.prog 47 #[.int .i64 y, .int .i64 d] W fun e w' => e = .returned (.int .i64 q) ∧ Below W.heap.size W w')) :
    Calls Try.prog 30 #[.agg #[.int .i64 x, .int .i64 y], .int .i64 d] w fun e w' => e = .returned (.tuple #[.int .i64 p, .int .i64 q]) ∧ Below w.heap.size w w' := by
  go_enter Try.func30, Try.ntmps30
  go_upto_region 1 with (go_big_may; first
    | (refine wl_box 37 _ _ rfl rfl (show _ = Value.agg #[.int .i64 x, .int .i64 y] from rfl) ?_; intro W1 bp Bp_1 l1 k1; have gp : w.heap.size ≤ bp := l1; have Hw1 := k1; clear l1 k1))
  refine Det.wp_region_det (S := fun w' => Below W1.heap.size W1 w') (by kernel_rfl) (by kernel_rfl) (bq_drew (bq_refl _)) ?_
  refine Det.det_take (v := ?_) (by rfl) ?_ ?_
  rotate_left
  · (intro w hSw; go_simp; try with_reducible rfl)
  try simp only [Act.put, List.setIfInBounds_toArray, List.set_cons_zero, List.set_cons_succ]
  refine Det.det_take (v := ?_) (by rfl) ?_ ?_
  rotate_left
  · (intro w hSw; have cc0 : w.cell? ⟨bp, 0, none⟩ = some (.int .i64 x) := (Bp_1.keep hSw).cell 0; go_simp; try with_reducible rfl)
  try simp only [Act.put, List.setIfInBounds_toArray, List.set_cons_zero, List.set_cons_succ]
  refine Det.det_take (v := ?_) (by rfl) ?_ ?_
  rotate_left
  · (intro w hSw; go_simp; try with_reducible rfl)
  try simp only [Act.put, List.setIfInBounds_toArray, List.set_cons_zero, List.set_cons_succ]
  refine Det.det_call (f := 47) (args := #[.int .i64 x, .int .i64 d]) (v := .int .i64 p) (by rfl) ?_ (fun w hS => (H1.out w).mono fun e w' ⟨h1, h2⟩ => ⟨h1, bq_trans hS h2⟩) ?_
  · (intro w hSw; go_simp)
  try simp only [Act.put, List.setIfInBounds_toArray, List.set_cons_zero, List.set_cons_succ]
  refine Det.det_take (v := ?_) (by rfl) ?_ ?_
  rotate_left
  · (intro w hSw; go_simp; try with_reducible rfl)
  try simp only [Act.put, List.setIfInBounds_toArray, List.set_cons_zero, List.set_cons_succ]
  refine Det.det_take (v := ?_) (by rfl) ?_ ?_
  rotate_left
  · (intro w hSw; have cc1 : w.cell? ⟨bp, 1, none⟩ = some (.int .i64 y) := (Bp_1.keep hSw).cell 1; go_simp; try with_reducible rfl)
  try simp only [Act.put, List.setIfInBounds_toArray, List.set_cons_zero, List.set_cons_succ]
  refine Det.det_take (v := ?_) (by rfl) ?_ ?_
  rotate_left
  · (intro w hSw; go_simp; try with_reducible rfl)
  try simp only [Act.put, List.setIfInBounds_toArray, List.set_cons_zero, List.set_cons_succ]
  refine Det.det_call (f := 47) (args := #[.int .i64 y, .int .i64 d]) (v := .int .i64 q) (by rfl) ?_ (fun w hS => (H2.out w).mono fun e w' ⟨h1, h2⟩ => ⟨h1, bq_trans hS h2⟩) ?_
  · (intro w hSw; go_simp)
  try simp only [Act.put, List.setIfInBounds_toArray, List.set_cons_zero, List.set_cons_succ]
  refine Det.det_take (v := ?_) (by rfl) ?_ ?_
  rotate_left
  · (intro w hSw; go_simp; try with_reducible rfl)
  try simp only [Act.put, List.setIfInBounds_toArray, List.set_cons_zero, List.set_cons_succ]
  refine Det.det_take (v := ?_) (by rfl) ?_ ?_
  rotate_left
  · (intro w hSw; go_simp; try with_reducible rfl)
  try simp only [Act.put, List.setIfInBounds_toArray, List.set_cons_zero, List.set_cons_succ]
  refine Det.det_nil (fun W2 k2 => ?_)
  have Bp_2 := Bp_1.keep k2
  have Hw2 := bq_trans Hw1 k2
  clear k2 Bp_1 Hw1
  go_wp2_with fail
  go_ret2
  exact ⟨rfl, Hw2⟩
theorem floors14_any (x y d : Int) (w : World) (hx : -9223372036854775808 < x ∧ x ≤ 9223372036854775807) (hy : -9223372036854775808 < y ∧ y ≤ 9223372036854775807) (hd : (-9223372036854775808 ≤ d ∧ d ≤ 9223372036854775807)) (h0 : d ≠ 0) :
    Calls Try.prog 30 #[.agg #[.int .i64 x, .int .i64 y], .int .i64 d] w fun e w' => e = .returned (.tuple #[.int .i64 (x.fdiv d), .int .i64 (y.fdiv d)]) ∧ Below w.heap.size w w' :=
  floors14_core x y d _ _ w (Lib.hid fun W => floor14_any x d W hx.1 hx.2 hd h0) (Lib.hid fun W => floor14_any y d W hy.1 hy.2 hd h0)
set_option maxHeartbeats 1000000 in
theorem turn14_core (A B C D X Y x y p q r s : Int) (w : World) (e1 : wrap64 (A * x) = p) (e2 : wrap64 (C * y) = q) (e3 : wrap64 (B * x) = r) (e4 : wrap64 (D * y) = s) (h1 : (-9223372036854775808 ≤ p + q ∧ p + q ≤ 9223372036854775807)) (h2 : (-9223372036854775808 ≤ r + s ∧ r + s ≤ 9223372036854775807)) :
    Calls Try.prog 31 #[.agg #[.int .i64 A, .int .i64 B, .int .i64 C, .int .i64 D, .int .i64 X, .int .i64 Y], .int .i64 x, .int .i64 y] w fun e w' => e = .returned (.agg #[.int .i64 (p + q), .int .i64 (r + s)]) ∧ Below w.heap.size w w' := by
  obtain ⟨h1, h1b⟩ := h1
  obtain ⟨h2, h2b⟩ := h2
  go_enter Try.func31, Try.ntmps31
  go_upto_region 1 with (go_big_may; first
    | (refine wl_box 23 _ _ rfl rfl (show _ = Value.agg #[.int .i64 A, .int .i64 B, .int .i64 C, .int .i64 D, .int .i64 X, .int .i64 Y] from rfl) ?_; intro W1 bm Bm_1 l1 k1; have gm : w.heap.size ≤ bm := l1; have Hw1 := k1; clear l1 k1; have cm_0_1 : W1.cell? ⟨bm, 0, none⟩ = some (.int .i64 A) := Bm_1.cell 0; have cm_1_1 : W1.cell? ⟨bm, 1, none⟩ = some (.int .i64 B) := Bm_1.cell 1; have cm_2_1 : W1.cell? ⟨bm, 2, none⟩ = some (.int .i64 C) := Bm_1.cell 2; have cm_3_1 : W1.cell? ⟨bm, 3, none⟩ = some (.int .i64 D) := Bm_1.cell 3)
    | (refine wl_alloc 37 _ zePt rfl rfl ?_; intro W2 bo Bo_2 l2 k2; have go : w.heap.size ≤ bo := Nat.le_trans Hw1.size l2; have nmo : bm ≠ bo := Nat.ne_of_lt (Nat.lt_of_lt_of_le Bm_1.lt l2); have Bm_2 := Bm_1.keep k2; have Hw2 := bq_trans Hw1 k2; clear l2 k2 Bm_1 cm_0_1 cm_1_1 cm_2_1 cm_3_1 Hw1; have cm_0_2 : W2.cell? ⟨bm, 0, none⟩ = some (.int .i64 A) := Bm_2.cell 0; have cm_1_2 : W2.cell? ⟨bm, 1, none⟩ = some (.int .i64 B) := Bm_2.cell 1; have cm_2_2 : W2.cell? ⟨bm, 2, none⟩ = some (.int .i64 C) := Bm_2.cell 2; have cm_3_2 : W2.cell? ⟨bm, 3, none⟩ = some (.int .i64 D) := Bm_2.cell 3))
  go_wp2_with (first
    | (refine wl_store 37 2 szPt _ _ rfl rfl _ rfl #[.int .i64 (p + q), .int .i64 (r + s)] rfl _ _ Bo_2 rfl rfl (by kernel_rfl) ?_; intro W3 Bo_3 T3; have Bm_3 := T3.blk Bm_2 nmo; have Hw3 := T3.below Hw2 go; clear T3 Bm_2 cm_0_2 cm_1_2 cm_2_2 cm_3_2 Bo_2 Hw2))
  exact post_cell Try.underlying37 rfl szPt Try.results31 Bo_3 rfl rfl rfl ⟨rfl, Hw3⟩
theorem turn14_any (A B C D X Y x y : Int) (w : World) (hA : -4194304 ≤ A ∧ A ≤ 4194304) (hB : -4194304 ≤ B ∧ B ≤ 4194304) (hC : -4194304 ≤ C ∧ C ≤ 4194304) (hD : -4194304 ≤ D ∧ D ≤ 4194304) (hx : -549755813888 ≤ x ∧ x ≤ 549755813888) (hy : -549755813888 ≤ y ∧ y ≤ 549755813888) :
    Calls Try.prog 31 #[.agg #[.int .i64 A, .int .i64 B, .int .i64 C, .int .i64 D, .int .i64 X, .int .i64 Y], .int .i64 x, .int .i64 y] w fun e w' => e = .returned (.agg #[.int .i64 (A * x + C * y), .int .i64 (B * x + D * y)]) ∧ Below w.heap.size w w' := by
  have b1 := mul_bd _ _ hA hx
  have b2 := mul_bd _ _ hC hy
  have b3 := mul_bd _ _ hB hx
  have b4 := mul_bd _ _ hD hy
  exact turn14_core A B C D X Y x y _ _ _ _ w (w64 _ (by omega)) (w64 _ (by omega)) (w64 _ (by omega)) (w64 _ (by omega)) (by omega) (by omega)
set_option maxHeartbeats 1000000 in
theorem size14_core (A B C D X Y p q : Int) (w : World) (e1 : wrap64 (A * D) = p) (e2 : wrap64 (B * C) = q) (h1 : (-9223372036854775808 ≤ p - q ∧ p - q ≤ 9223372036854775807)) :
    Calls Try.prog 41 #[.agg #[.int .i64 A, .int .i64 B, .int .i64 C, .int .i64 D, .int .i64 X, .int .i64 Y]] w fun e w' => e = .returned (.int .i64 (p - q)) ∧ Below w.heap.size w w' := by
  obtain ⟨h1, h1b⟩ := h1
  go_enter Try.func41, Try.ntmps41
  go_upto_region 1 with (go_big_may; first
    | (refine wl_box 23 _ _ rfl rfl (show _ = Value.agg #[.int .i64 A, .int .i64 B, .int .i64 C, .int .i64 D, .int .i64 X, .int .i64 Y] from rfl) ?_; intro W1 bm Bm_1 l1 k1; have gm : w.heap.size ≤ bm := l1; have Hw1 := k1; clear l1 k1; have cm_0_1 : W1.cell? ⟨bm, 0, none⟩ = some (.int .i64 A) := Bm_1.cell 0; have cm_1_1 : W1.cell? ⟨bm, 1, none⟩ = some (.int .i64 B) := Bm_1.cell 1; have cm_2_1 : W1.cell? ⟨bm, 2, none⟩ = some (.int .i64 C) := Bm_1.cell 2; have cm_3_1 : W1.cell? ⟨bm, 3, none⟩ = some (.int .i64 D) := Bm_1.cell 3))
  go_wp2_with fail
  go_ret
  exact ⟨rfl, Hw1⟩
theorem size14_any (A B C D X Y : Int) (w : World) (hA : -4194304 ≤ A ∧ A ≤ 4194304) (hB : -4194304 ≤ B ∧ B ≤ 4194304) (hC : -4194304 ≤ C ∧ C ≤ 4194304) (hD : -4194304 ≤ D ∧ D ≤ 4194304) :
    Calls Try.prog 41 #[.agg #[.int .i64 A, .int .i64 B, .int .i64 C, .int .i64 D, .int .i64 X, .int .i64 Y]] w fun e w' => e = .returned (.int .i64 (A * D - B * C)) ∧ Below w.heap.size w w' := by
  have b1 := mul_bd _ _ hA hD
  have b2 := mul_bd _ _ hB hC
  exact size14_core A B C D X Y _ _ w (w64 _ (by omega)) (w64 _ (by omega)) (by omega)
/-- a point not beyond so much -/
def ptOk (m x y : Int) : Bool := nr m x && nr m y
set_option maxHeartbeats 1000000 in
theorem near14_core (x y m mn mx : Int) (q : Bool) (w : World) (m0 : 0 ≤ m) (m1 : m ≤ 2000000000) (hmn : ∀ (w : World) (ts : Array TypeId) (t : TypeId), (Builtin.min_ ts t #[.int .i64 x, .int .i64 y]).run Try.prog w = .ok (.int .i64 mn) w) (hmx : ∀ (w : World) (ts : Array TypeId) (t : TypeId), (Builtin.max_ ts t #[.int .i64 x, .int .i64 y]).run Try.prog w = .ok (.int .i64 mx) w)
    (hq : mn < -m ∧ q = false ∨ -m ≤ mn ∧ m < mx ∧ q = false ∨ -m ≤ mn ∧ mx ≤ m ∧ q = true) :
    Calls Try.prog 38 #[.agg #[.int .i64 x, .int .i64 y], .int .i64 m] w fun e w' => e = .returned (.bool q) ∧ Below w.heap.size w w' := by
  rcases hq with ⟨h1, rfl⟩ | ⟨h1, h2, rfl⟩ | ⟨h1, h2, rfl⟩
  all_goals
    go_enter Try.func38, Try.ntmps38
    go_upto_region 1 with (go_big_may; first
      | (refine wl_box 37 _ _ rfl rfl (show _ = Value.agg #[.int .i64 x, .int .i64 y] from rfl) ?_; intro W1 bp Bp_1 l1 k1; have gp : w.heap.size ≤ bp := l1; have Hw1 := k1; clear l1 k1; have cp_0_1 : W1.cell? ⟨bp, 0, none⟩ = some (.int .i64 x) := Bp_1.cell 0; have cp_1_1 : W1.cell? ⟨bp, 1, none⟩ = some (.int .i64 y) := Bp_1.cell 1))
    go_wp2_with fail
    go_ret
    exact ⟨by first | rfl | exact ret_bool (by simp; try omega), Hw1⟩
theorem near14_any (x y m : Int) (w : World) (m0 : 0 ≤ m) (m1 : m ≤ 2000000000) :
    Calls Try.prog 38 #[.agg #[.int .i64 x, .int .i64 y], .int .i64 m] w fun e w' => e = .returned (.bool (ptOk m x y)) ∧ Below w.heap.size w w' := by
  refine near14_core x y m _ _ _ w m0 m1 (fun w ts t => run_min2 w ts t _ _ _ _) (fun w ts t => run_max2 w ts t _ _ _ _) ?_
  have HR : ptOk m x y = (decide (-m ≤ min x y) && decide (max x y ≤ m)) := by rw [Bool.eq_iff_iff]; simp [ptOk, nr]; omega
  rw [HR]
  generalize min x y = mn
  generalize max x y = mx
  by_cases h1 : -m ≤ mn
  · by_cases h2 : mx ≤ m
    · exact Or.inr (Or.inr ⟨h1, h2, by simp [h1, h2]⟩)
    · exact Or.inr (Or.inl ⟨h1, by omega, by simp [h2]⟩)
  · exact Or.inl ⟨by omega, by simp [h1]⟩
set_option maxHeartbeats 1000000 in
theorem onGrid14_core (t u : Int) (w : World) (t0 : -576460752303423488 ≤ t) (t1 : t ≤ 576460752303423488) (u0 : -28147497671066 ≤ u) (u1 : u ≤ 28147497671066)
    (H : Hid (∀ W, Calls Try.prog 48 #[.int .i64 (t * 8), .int .i64 327680] W fun e w' => e = .returned (.tuple #[.int .i64 u, .bool true]) ∧ ∃ n, w' = W.drewN n)) :
    Calls Try.prog 39 #[.int .i64 t] w fun e w' => e = .returned (.int .i64 (2 * u)) ∧ Below w.heap.size w w' := by
  go_enter Try.func39, Try.ntmps39
  go_wp2_with (go_at_call 48; refine (H.out _).mono ?_; rintro e w' ⟨rfl, n, rfl⟩)
  go_ret
  exact ⟨rfl, bq_drewN (bq_refl _) _⟩
theorem onGrid14_any (t : Int) (w : World) (t0 : -576460752303423488 ≤ t) (t1 : t ≤ 576460752303423488) :
    Calls Try.prog 39 #[.int .i64 t] w fun e w' => e = .returned (.int .i64 (gridV t)) ∧ Below w.heap.size w w' := by
  rw [← grid_rnd]
  have h1 := grid_bd t ⟨t0, t1⟩
  rw [← grid_rnd] at h1
  exact onGrid14_core t _ w t0 t1 (by omega) (by omega) (Lib.hid fun W => round_yes (t * 8) 327680 W (by omega) (by omega) (by omega) (by omega) (by omega) (by omega))
set_option maxHeartbeats 1000000 in
theorem times14_core (v m p f : Int) (w : World) (e1 : wrap64 (v * m) = p)
    (H : Hid (∀ W, Calls Try.prog 47 #[.int .i64 p, .int .i64 256] W fun e w' => e = .returned (.int .i64 f) ∧ Below W.heap.size W w')) :
    Calls Try.prog 35 #[.int .i64 v, .int .i64 m] w fun e w' => e = .returned (.int .i64 f) ∧ Below w.heap.size w w' := by
  go_enter Try.func35, Try.ntmps35
  go_wp2_with (go_at_call 47; (with_reducible refine (H.out _).mono ?_); rintro e w' ⟨rfl, k1⟩)
  go_ret
  exact ⟨rfl, k1⟩
theorem times14_any (v m : Int) (w : World) (hv : -512 ≤ v ∧ v ≤ 512) (hm : -512 ≤ m ∧ m ≤ 512) :
    Calls Try.prog 35 #[.int .i64 v, .int .i64 m] w fun e w' => e = .returned (.int .i64 (mulF v m)) ∧ Below w.heap.size w w' := by
  have b1 := mul_bd _ _ hv hm
  refine times14_core v m _ _ w (w64 _ (by omega)) (Lib.hid fun W => ?_)
  have h1 := floor14_any (v * m) 256 W (by omega) (by omega) (by omega) (by omega)
  rw [fdiv_pos _ _ (by decide)] at h1
  exact h1
set_option maxHeartbeats 1000000 in
theorem within14_core (lo v hi mx mn : Int) (w : World) (hmx : ∀ (w : World) (ts : Array TypeId) (t : TypeId), (Builtin.max_ ts t #[.int .i64 v, .int .i64 lo]).run Try.prog w = .ok (.int .i64 mx) w)
    (hmn : ∀ (w : World) (ts : Array TypeId) (t : TypeId), (Builtin.min_ ts t #[.int .i64 mx, .int .i64 hi]).run Try.prog w = .ok (.int .i64 mn) w) :
    Calls Try.prog 34 #[.int .i64 lo, .int .i64 v, .int .i64 hi] w fun e w' => e = .returned (.int .i64 mn) ∧ w = w' := by
  go_enter Try.func34, Try.ntmps34
  go_wp2_with fail
  go_ret
  exact ⟨rfl, rfl⟩
theorem within14_any (lo v hi : Int) (w : World) (h : lo ≤ hi) :
    Calls Try.prog 34 #[.int .i64 lo, .int .i64 v, .int .i64 hi] w fun e w' => e = .returned (.int .i64 (clp lo hi v)) ∧ Below w.heap.size w w' := by
  rw [← clp_min lo hi v h]
  exact (within14_core lo v hi _ _ w (fun w ts t => run_max2 w ts t _ _ _ _) (fun w ts t => run_min2 w ts t _ _ _ _)).mono fun e w' ⟨h1, h2⟩ => ⟨h1, h2 ▸ bq_refl w⟩
set_option maxHeartbeats 1000000 in
theorem part14_core0 (m0 m1 m2 m3 d0 d1 d2 d3 v f r : Int) (w : World) (h1 : (-9223372036854775808 ≤ f + d0 ∧ f + d0 ≤ 9223372036854775807))
    (H1 : Hid (∀ W, Calls Try.prog 35 #[.int .i64 v, .int .i64 m0] W fun e w' => e = .returned (.int .i64 f) ∧ Below W.heap.size W w'))
    (H2 : Hid (∀ W, Calls Try.prog 34 #[.int .i64 0, .int .i64 (f + d0), .int .i64 255] W fun e w' => e = .returned (.int .i64 r) ∧ Below W.heap.size W w')) :
    Calls Try.prog 45 #[.agg #[.int .i64 m0, .int .i64 m1, .int .i64 m2, .int .i64 m3, .int .i64 d0, .int .i64 d1, .int .i64 d2, .int .i64 d3], .int .i64 0, .int .i64 v] w fun e w' => e = .returned (.int .i64 r) ∧ Below w.heap.size w w' := by
  obtain ⟨h1, h1b⟩ := h1
  go_enter Try.func45, Try.ntmps45
  go_upto_region 1 with (go_big_may; first
    | (refine wl_box 26 _ _ rfl rfl (show _ = Value.agg #[.int .i64 m0, .int .i64 m1, .int .i64 m2, .int .i64 m3, .int .i64 d0, .int .i64 d1, .int .i64 d2, .int .i64 d3] from rfl) ?_; intro W1 bc Bc_1 l1 k1; have gc : w.heap.size ≤ bc := l1; have Hw1 := k1; clear l1 k1))
  refine Det.wp_region_det (S := fun w' => Below W1.heap.size W1 w') (by kernel_rfl) (by kernel_rfl) (bq_drew (bq_refl _)) ?_
  refine Det.det_take (v := ?_) (by rfl) ?_ ?_
  rotate_left
  · (intro w hSw; go_simp; try with_reducible rfl)
  try simp only [Act.put, List.setIfInBounds_toArray, List.set_cons_zero, List.set_cons_succ]
  refine Det.det_take (v := ?_) (by rfl) ?_ ?_
  rotate_left
  · (intro w hSw; go_simp; try with_reducible rfl)
  try simp only [Act.put, List.setIfInBounds_toArray, List.set_cons_zero, List.set_cons_succ]
  refine Det.det_take (v := ?_) (by rfl) ?_ ?_
  rotate_left
  · (intro w hSw; go_simp; try with_reducible rfl)
  try simp only [Act.put, List.setIfInBounds_toArray, List.set_cons_zero, List.set_cons_succ]
  refine Det.det_take (v := ?_) (by rfl) ?_ ?_
  rotate_left
  · (intro w hSw; go_simp; try with_reducible rfl)
  try simp only [Act.put, List.setIfInBounds_toArray, List.set_cons_zero, List.set_cons_succ]
  refine Det.det_take (v := ?_) (by rfl) ?_ ?_
  rotate_left
  · (intro w hSw; have cc0 : w.cell? ⟨bc, 0, none⟩ = some (.int .i64 m0) := (Bc_1.keep hSw).cell 0; go_simp; try with_reducible rfl)
  try simp only [Act.put, List.setIfInBounds_toArray, List.set_cons_zero, List.set_cons_succ]
  refine Det.det_call (f := 35) (args := #[.int .i64 v, .int .i64 m0]) (v := .int .i64 f) (by rfl) ?_ (fun w hS => (H1.out w).mono fun e w' ⟨h1, h2⟩ => ⟨h1, bq_trans hS h2⟩) ?_
  · (intro w hSw; go_simp)
  try simp only [Act.put, List.setIfInBounds_toArray, List.set_cons_zero, List.set_cons_succ]
  refine Det.det_take (v := ?_) (by rfl) ?_ ?_
  rotate_left
  · (intro w hSw; go_simp; try with_reducible rfl)
  try simp only [Act.put, List.setIfInBounds_toArray, List.set_cons_zero, List.set_cons_succ]
  refine Det.det_take (v := ?_) (by rfl) ?_ ?_
  rotate_left
  · (intro w hSw; go_simp; try with_reducible rfl)
  try simp only [Act.put, List.setIfInBounds_toArray, List.set_cons_zero, List.set_cons_succ]
  refine Det.det_take (v := ?_) (by rfl) ?_ ?_
  rotate_left
  · (intro w hSw; go_simp; try with_reducible rfl)
  try simp only [Act.put, List.setIfInBounds_toArray, List.set_cons_zero, List.set_cons_succ]
  refine Det.det_take (v := ?_) (by rfl) ?_ ?_
  rotate_left
  · (intro w hSw; have cc4 : w.cell? ⟨bc, 4, none⟩ = some (.int .i64 d0) := (Bc_1.keep hSw).cell 4; go_simp; try with_reducible rfl)
  try simp only [Act.put, List.setIfInBounds_toArray, List.set_cons_zero, List.set_cons_succ]
  refine Det.det_take (v := ?_) (by rfl) ?_ ?_
  rotate_left
  · (intro w hSw; have ew : IntKind.i64.wrap (f + d0) = f + d0 := wI _ ⟨h1, h1b⟩; go_simp; try with_reducible rfl)
  try simp only [Act.put, List.setIfInBounds_toArray, List.set_cons_zero, List.set_cons_succ]
  refine Det.det_call (f := 34) (args := #[.int .i64 0, .int .i64 (f + d0), .int .i64 255]) (v := .int .i64 r) (by rfl) ?_ (fun w hS => (H2.out w).mono fun e w' ⟨h1, h2⟩ => ⟨h1, bq_trans hS h2⟩) ?_
  · (intro w hSw; go_simp)
  try simp only [Act.put, List.setIfInBounds_toArray, List.set_cons_zero, List.set_cons_succ]
  refine Det.det_take (v := ?_) (by rfl) ?_ ?_
  rotate_left
  · (intro w hSw; go_simp; try with_reducible rfl)
  try simp only [Act.put, List.setIfInBounds_toArray, List.set_cons_zero, List.set_cons_succ]
  refine Det.det_nil (fun W2 k2 => ?_)
  have Bc_2 := Bc_1.keep k2
  have Hw2 := bq_trans Hw1 k2
  clear k2 Bc_1 Hw1
  go_wp2_with fail
  go_ret
  exact ⟨rfl, Hw2⟩
set_option maxHeartbeats 1000000 in
theorem part14_core1 (m0 m1 m2 m3 d0 d1 d2 d3 v f r : Int) (w : World) (h1 : (-9223372036854775808 ≤ f + d1 ∧ f + d1 ≤ 9223372036854775807))
    (H1 : Hid (∀ W, Calls Try.prog 35 #[.int .i64 v, .int .i64 m1] W fun e w' => e = .returned (.int .i64 f) ∧ Below W.heap.size W w'))
    (H2 : Hid (∀ W, Calls Try.prog 34 #[.int .i64 0, .int .i64 (f + d1), .int .i64 255] W fun e w' => e = .returned (.int .i64 r) ∧ Below W.heap.size W w')) :
    Calls Try.prog 45 #[.agg #[.int .i64 m0, .int .i64 m1, .int .i64 m2, .int .i64 m3, .int .i64 d0, .int .i64 d1, .int .i64 d2, .int .i64 d3], .int .i64 1, .int .i64 v] w fun e w' => e = .returned (.int .i64 r) ∧ Below w.heap.size w w' := by
  obtain ⟨h1, h1b⟩ := h1
  go_enter Try.func45, Try.ntmps45
  go_upto_region 1 with (go_big_may; first
    | (refine wl_box 26 _ _ rfl rfl (show _ = Value.agg #[.int .i64 m0, .int .i64 m1, .int .i64 m2, .int .i64 m3, .int .i64 d0, .int .i64 d1, .int .i64 d2, .int .i64 d3] from rfl) ?_; intro W1 bc Bc_1 l1 k1; have gc : w.heap.size ≤ bc := l1; have Hw1 := k1; clear l1 k1))
  refine Det.wp_region_det (S := fun w' => Below W1.heap.size W1 w') (by kernel_rfl) (by kernel_rfl) (bq_drew (bq_refl _)) ?_
  refine Det.det_take (v := ?_) (by rfl) ?_ ?_
  rotate_left
  · (intro w hSw; go_simp; try with_reducible rfl)
  try simp only [Act.put, List.setIfInBounds_toArray, List.set_cons_zero, List.set_cons_succ]
  refine Det.det_take (v := ?_) (by rfl) ?_ ?_
  rotate_left
  · (intro w hSw; go_simp; try with_reducible rfl)
  try simp only [Act.put, List.setIfInBounds_toArray, List.set_cons_zero, List.set_cons_succ]
  refine Det.det_take (v := ?_) (by rfl) ?_ ?_
  rotate_left
  · (intro w hSw; go_simp; try with_reducible rfl)
  try simp only [Act.put, List.setIfInBounds_toArray, List.set_cons_zero, List.set_cons_succ]
  refine Det.det_take (v := ?_) (by rfl) ?_ ?_
  rotate_left
  · (intro w hSw; go_simp; try with_reducible rfl)
  try simp only [Act.put, List.setIfInBounds_toArray, List.set_cons_zero, List.set_cons_succ]
  refine Det.det_take (v := ?_) (by rfl) ?_ ?_
  rotate_left
  · (intro w hSw; have cc1 : w.cell? ⟨bc, 1, none⟩ = some (.int .i64 m1) := (Bc_1.keep hSw).cell 1; go_simp; try with_reducible rfl)
  try simp only [Act.put, List.setIfInBounds_toArray, List.set_cons_zero, List.set_cons_succ]
  refine Det.det_call (f := 35) (args := #[.int .i64 v, .int .i64 m1]) (v := .int .i64 f) (by rfl) ?_ (fun w hS => (H1.out w).mono fun e w' ⟨h1, h2⟩ => ⟨h1, bq_trans hS h2⟩) ?_
  · (intro w hSw; go_simp)
  try simp only [Act.put, List.setIfInBounds_toArray, List.set_cons_zero, List.set_cons_succ]
  refine Det.det_take (v := ?_) (by rfl) ?_ ?_
  rotate_left
  · (intro w hSw; go_simp; try with_reducible rfl)
  try simp only [Act.put, List.setIfInBounds_toArray, List.set_cons_zero, List.set_cons_succ]
  refine Det.det_take (v := ?_) (by rfl) ?_ ?_
  rotate_left
  · (intro w hSw; go_simp; try with_reducible rfl)
  try simp only [Act.put, List.setIfInBounds_toArray, List.set_cons_zero, List.set_cons_succ]
  refine Det.det_take (v := ?_) (by rfl) ?_ ?_
  rotate_left
  · (intro w hSw; go_simp; try with_reducible rfl)
  try simp only [Act.put, List.setIfInBounds_toArray, List.set_cons_zero, List.set_cons_succ]
  refine Det.det_take (v := ?_) (by rfl) ?_ ?_
  rotate_left
  · (intro w hSw; have cc5 : w.cell? ⟨bc, 5, none⟩ = some (.int .i64 d1) := (Bc_1.keep hSw).cell 5; go_simp; try with_reducible rfl)
  try simp only [Act.put, List.setIfInBounds_toArray, List.set_cons_zero, List.set_cons_succ]
  refine Det.det_take (v := ?_) (by rfl) ?_ ?_
  rotate_left
  · (intro w hSw; have ew : IntKind.i64.wrap (f + d1) = f + d1 := wI _ ⟨h1, h1b⟩; go_simp; try with_reducible rfl)
  try simp only [Act.put, List.setIfInBounds_toArray, List.set_cons_zero, List.set_cons_succ]
  refine Det.det_call (f := 34) (args := #[.int .i64 0, .int .i64 (f + d1), .int .i64 255]) (v := .int .i64 r) (by rfl) ?_ (fun w hS => (H2.out w).mono fun e w' ⟨h1, h2⟩ => ⟨h1, bq_trans hS h2⟩) ?_
  · (intro w hSw; go_simp)
  try simp only [Act.put, List.setIfInBounds_toArray, List.set_cons_zero, List.set_cons_succ]
  refine Det.det_take (v := ?_) (by rfl) ?_ ?_
  rotate_left
  · (intro w hSw; go_simp; try with_reducible rfl)
  try simp only [Act.put, List.setIfInBounds_toArray, List.set_cons_zero, List.set_cons_succ]
  refine Det.det_nil (fun W2 k2 => ?_)
  have Bc_2 := Bc_1.keep k2
  have Hw2 := bq_trans Hw1 k2
  clear k2 Bc_1 Hw1
  go_wp2_with fail
  go_ret
  exact ⟨rfl, Hw2⟩
set_option maxHeartbeats 1000000 in
theorem part14_core2 (m0 m1 m2 m3 d0 d1 d2 d3 v f r : Int) (w : World) (h1 : (-9223372036854775808 ≤ f + d2 ∧ f + d2 ≤ 9223372036854775807))
    (H1 : Hid (∀ W, Calls Try.prog 35 #[.int .i64 v, .int .i64 m2] W fun e w' => e = .returned (.int .i64 f) ∧ Below W.heap.size W w'))
    (H2 : Hid (∀ W, Calls Try.prog 34 #[.int .i64 0, .int .i64 (f + d2), .int .i64 255] W fun e w' => e = .returned (.int .i64 r) ∧ Below W.heap.size W w')) :
    Calls Try.prog 45 #[.agg #[.int .i64 m0, .int .i64 m1, .int .i64 m2, .int .i64 m3, .int .i64 d0, .int .i64 d1, .int .i64 d2, .int .i64 d3], .int .i64 2, .int .i64 v] w fun e w' => e = .returned (.int .i64 r) ∧ Below w.heap.size w w' := by
  obtain ⟨h1, h1b⟩ := h1
  go_enter Try.func45, Try.ntmps45
  go_upto_region 1 with (go_big_may; first
    | (refine wl_box 26 _ _ rfl rfl (show _ = Value.agg #[.int .i64 m0, .int .i64 m1, .int .i64 m2, .int .i64 m3, .int .i64 d0, .int .i64 d1, .int .i64 d2, .int .i64 d3] from rfl) ?_; intro W1 bc Bc_1 l1 k1; have gc : w.heap.size ≤ bc := l1; have Hw1 := k1; clear l1 k1))
  refine Det.wp_region_det (S := fun w' => Below W1.heap.size W1 w') (by kernel_rfl) (by kernel_rfl) (bq_drew (bq_refl _)) ?_
  refine Det.det_take (v := ?_) (by rfl) ?_ ?_
  rotate_left
  · (intro w hSw; go_simp; try with_reducible rfl)
  try simp only [Act.put, List.setIfInBounds_toArray, List.set_cons_zero, List.set_cons_succ]
  refine Det.det_take (v := ?_) (by rfl) ?_ ?_
  rotate_left
  · (intro w hSw; go_simp; try with_reducible rfl)
  try simp only [Act.put, List.setIfInBounds_toArray, List.set_cons_zero, List.set_cons_succ]
  refine Det.det_take (v := ?_) (by rfl) ?_ ?_
  rotate_left
  · (intro w hSw; go_simp; try with_reducible rfl)
  try simp only [Act.put, List.setIfInBounds_toArray, List.set_cons_zero, List.set_cons_succ]
  refine Det.det_take (v := ?_) (by rfl) ?_ ?_
  rotate_left
  · (intro w hSw; go_simp; try with_reducible rfl)
  try simp only [Act.put, List.setIfInBounds_toArray, List.set_cons_zero, List.set_cons_succ]
  refine Det.det_take (v := ?_) (by rfl) ?_ ?_
  rotate_left
  · (intro w hSw; have cc2 : w.cell? ⟨bc, 2, none⟩ = some (.int .i64 m2) := (Bc_1.keep hSw).cell 2; go_simp; try with_reducible rfl)
  try simp only [Act.put, List.setIfInBounds_toArray, List.set_cons_zero, List.set_cons_succ]
  refine Det.det_call (f := 35) (args := #[.int .i64 v, .int .i64 m2]) (v := .int .i64 f) (by rfl) ?_ (fun w hS => (H1.out w).mono fun e w' ⟨h1, h2⟩ => ⟨h1, bq_trans hS h2⟩) ?_
  · (intro w hSw; go_simp)
  try simp only [Act.put, List.setIfInBounds_toArray, List.set_cons_zero, List.set_cons_succ]
  refine Det.det_take (v := ?_) (by rfl) ?_ ?_
  rotate_left
  · (intro w hSw; go_simp; try with_reducible rfl)
  try simp only [Act.put, List.setIfInBounds_toArray, List.set_cons_zero, List.set_cons_succ]
  refine Det.det_take (v := ?_) (by rfl) ?_ ?_
  rotate_left
  · (intro w hSw; go_simp; try with_reducible rfl)
  try simp only [Act.put, List.setIfInBounds_toArray, List.set_cons_zero, List.set_cons_succ]
  refine Det.det_take (v := ?_) (by rfl) ?_ ?_
  rotate_left
  · (intro w hSw; go_simp; try with_reducible rfl)
  try simp only [Act.put, List.setIfInBounds_toArray, List.set_cons_zero, List.set_cons_succ]
  refine Det.det_take (v := ?_) (by rfl) ?_ ?_
  rotate_left
  · (intro w hSw; have cc6 : w.cell? ⟨bc, 6, none⟩ = some (.int .i64 d2) := (Bc_1.keep hSw).cell 6; go_simp; try with_reducible rfl)
  try simp only [Act.put, List.setIfInBounds_toArray, List.set_cons_zero, List.set_cons_succ]
  refine Det.det_take (v := ?_) (by rfl) ?_ ?_
  rotate_left
  · (intro w hSw; have ew : IntKind.i64.wrap (f + d2) = f + d2 := wI _ ⟨h1, h1b⟩; go_simp; try with_reducible rfl)
  try simp only [Act.put, List.setIfInBounds_toArray, List.set_cons_zero, List.set_cons_succ]
  refine Det.det_call (f := 34) (args := #[.int .i64 0, .int .i64 (f + d2), .int .i64 255]) (v := .int .i64 r) (by rfl) ?_ (fun w hS => (H2.out w).mono fun e w' ⟨h1, h2⟩ => ⟨h1, bq_trans hS h2⟩) ?_
  · (intro w hSw; go_simp)
  try simp only [Act.put, List.setIfInBounds_toArray, List.set_cons_zero, List.set_cons_succ]
  refine Det.det_take (v := ?_) (by rfl) ?_ ?_
  rotate_left
  · (intro w hSw; go_simp; try with_reducible rfl)
  try simp only [Act.put, List.setIfInBounds_toArray, List.set_cons_zero, List.set_cons_succ]
  refine Det.det_nil (fun W2 k2 => ?_)
  have Bc_2 := Bc_1.keep k2
  have Hw2 := bq_trans Hw1 k2
  clear k2 Bc_1 Hw1
  go_wp2_with fail
  go_ret
  exact ⟨rfl, Hw2⟩
set_option maxHeartbeats 1000000 in
theorem part14_core3 (m0 m1 m2 m3 d0 d1 d2 d3 v f r : Int) (w : World) (h1 : (-9223372036854775808 ≤ f + d3 ∧ f + d3 ≤ 9223372036854775807))
    (H1 : Hid (∀ W, Calls Try.prog 35 #[.int .i64 v, .int .i64 m3] W fun e w' => e = .returned (.int .i64 f) ∧ Below W.heap.size W w'))
    (H2 : Hid (∀ W, Calls Try.prog 34 #[.int .i64 0, .int .i64 (f + d3), .int .i64 255] W fun e w' => e = .returned (.int .i64 r) ∧ Below W.heap.size W w')) :
    Calls Try.prog 45 #[.agg #[.int .i64 m0, .int .i64 m1, .int .i64 m2, .int .i64 m3, .int .i64 d0, .int .i64 d1, .int .i64 d2, .int .i64 d3], .int .i64 3, .int .i64 v] w fun e w' => e = .returned (.int .i64 r) ∧ Below w.heap.size w w' := by
  obtain ⟨h1, h1b⟩ := h1
  go_enter Try.func45, Try.ntmps45
  go_upto_region 1 with (go_big_may; first
    | (refine wl_box 26 _ _ rfl rfl (show _ = Value.agg #[.int .i64 m0, .int .i64 m1, .int .i64 m2, .int .i64 m3, .int .i64 d0, .int .i64 d1, .int .i64 d2, .int .i64 d3] from rfl) ?_; intro W1 bc Bc_1 l1 k1; have gc : w.heap.size ≤ bc := l1; have Hw1 := k1; clear l1 k1))
  refine Det.wp_region_det (S := fun w' => Below W1.heap.size W1 w') (by kernel_rfl) (by kernel_rfl) (bq_drew (bq_refl _)) ?_
  refine Det.det_take (v := ?_) (by rfl) ?_ ?_
  rotate_left
  · (intro w hSw; go_simp; try with_reducible rfl)
  try simp only [Act.put, List.setIfInBounds_toArray, List.set_cons_zero, List.set_cons_succ]
  refine Det.det_take (v := ?_) (by rfl) ?_ ?_
  rotate_left
  · (intro w hSw; go_simp; try with_reducible rfl)
  try simp only [Act.put, List.setIfInBounds_toArray, List.set_cons_zero, List.set_cons_succ]
  refine Det.det_take (v := ?_) (by rfl) ?_ ?_
  rotate_left
  · (intro w hSw; go_simp; try with_reducible rfl)
  try simp only [Act.put, List.setIfInBounds_toArray, List.set_cons_zero, List.set_cons_succ]
  refine Det.det_take (v := ?_) (by rfl) ?_ ?_
  rotate_left
  · (intro w hSw; go_simp; try with_reducible rfl)
  try simp only [Act.put, List.setIfInBounds_toArray, List.set_cons_zero, List.set_cons_succ]
  refine Det.det_take (v := ?_) (by rfl) ?_ ?_
  rotate_left
  · (intro w hSw; have cc3 : w.cell? ⟨bc, 3, none⟩ = some (.int .i64 m3) := (Bc_1.keep hSw).cell 3; go_simp; try with_reducible rfl)
  try simp only [Act.put, List.setIfInBounds_toArray, List.set_cons_zero, List.set_cons_succ]
  refine Det.det_call (f := 35) (args := #[.int .i64 v, .int .i64 m3]) (v := .int .i64 f) (by rfl) ?_ (fun w hS => (H1.out w).mono fun e w' ⟨h1, h2⟩ => ⟨h1, bq_trans hS h2⟩) ?_
  · (intro w hSw; go_simp)
  try simp only [Act.put, List.setIfInBounds_toArray, List.set_cons_zero, List.set_cons_succ]
  refine Det.det_take (v := ?_) (by rfl) ?_ ?_
  rotate_left
  · (intro w hSw; go_simp; try with_reducible rfl)
  try simp only [Act.put, List.setIfInBounds_toArray, List.set_cons_zero, List.set_cons_succ]
  refine Det.det_take (v := ?_) (by rfl) ?_ ?_
  rotate_left
  · (intro w hSw; go_simp; try with_reducible rfl)
  try simp only [Act.put, List.setIfInBounds_toArray, List.set_cons_zero, List.set_cons_succ]
  refine Det.det_take (v := ?_) (by rfl) ?_ ?_
  rotate_left
  · (intro w hSw; go_simp; try with_reducible rfl)
  try simp only [Act.put, List.setIfInBounds_toArray, List.set_cons_zero, List.set_cons_succ]
  refine Det.det_take (v := ?_) (by rfl) ?_ ?_
  rotate_left
  · (intro w hSw; have cc7 : w.cell? ⟨bc, 7, none⟩ = some (.int .i64 d3) := (Bc_1.keep hSw).cell 7; go_simp; try with_reducible rfl)
  try simp only [Act.put, List.setIfInBounds_toArray, List.set_cons_zero, List.set_cons_succ]
  refine Det.det_take (v := ?_) (by rfl) ?_ ?_
  rotate_left
  · (intro w hSw; have ew : IntKind.i64.wrap (f + d3) = f + d3 := wI _ ⟨h1, h1b⟩; go_simp; try with_reducible rfl)
  try simp only [Act.put, List.setIfInBounds_toArray, List.set_cons_zero, List.set_cons_succ]
  refine Det.det_call (f := 34) (args := #[.int .i64 0, .int .i64 (f + d3), .int .i64 255]) (v := .int .i64 r) (by rfl) ?_ (fun w hS => (H2.out w).mono fun e w' ⟨h1, h2⟩ => ⟨h1, bq_trans hS h2⟩) ?_
  · (intro w hSw; go_simp)
  try simp only [Act.put, List.setIfInBounds_toArray, List.set_cons_zero, List.set_cons_succ]
  refine Det.det_take (v := ?_) (by rfl) ?_ ?_
  rotate_left
  · (intro w hSw; go_simp; try with_reducible rfl)
  try simp only [Act.put, List.setIfInBounds_toArray, List.set_cons_zero, List.set_cons_succ]
  refine Det.det_nil (fun W2 k2 => ?_)
  have Bc_2 := Bc_1.keep k2
  have Hw2 := bq_trans Hw1 k2
  clear k2 Bc_1 Hw1
  go_wp2_with fail
  go_ret
  exact ⟨rfl, Hw2⟩
end Go.Proofs.Ythcejmbjagpjcaa
