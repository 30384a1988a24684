import Derived.Test.YthcejmbjagpjcaaN1
import Derived.Test.YthcejmbjagpjcaaF3
/- Layer 14: the document's small functions. -/
namespace Go.Proofs.Ythcejmbjagpjcaa
open Go.RowKit
set_option linter.unusedVariables false
set_option linter.unusedSimpArgs false
set_option maxRecDepth 100000

set_option maxHeartbeats 1000000 in
theorem rfloor14_core (a b q r x : Int) (w : World) (hz : (b == 0) = false) (hb : 0 < b) (hb2 : b < 0 ∨ 0 < b) (k1 : (a == -9223372036854775808) = false)
    (e1 : wrap64 (a.tdiv b) = q) (e2 : a.tmod b = r) (q0 : -9223372036854775808 < q) (q1 : q ≤ 9223372036854775807) (hx : Hid (r < 0 ∧ x = q - 1 ∨ 0 ≤ r ∧ x = q)) :
    Calls Try.prog 32 #[.int .i64 a, .int .i64 b] w fun e w' => e = .returned (.int .i64 x) ∧ w = w' := by
  rcases hx.out with ⟨h1, h2⟩ | ⟨h1, h2⟩
  all_goals
    have H2 := Lib.hid h2
    clear hx h2
    go_enter Try.func32, Try.ntmps32
    go_wp2
    go_ret
    exact ⟨ret_int (by first | exact H2.out.symm | (simp only [e1]; exact H2.out.symm)), rfl⟩
theorem rfloor14_any (a b : Int) (w : World) (a0 : -9223372036854775808 < a) (a1 : a ≤ 9223372036854775807) (hb : 0 < b) (b1 : b ≤ 9223372036854775807) :
    Calls Try.prog 32 #[.int .i64 a, .int .i64 b] w fun e w' => e = .returned (.int .i64 (a.fdiv b)) ∧ Below w.heap.size w w' := by
  have ⟨t1, t2⟩ := M1.tdiv_range a b (by omega) a1 (by omega) (Or.inl a0)
  have ⟨f1, f2⟩ := M1.fdiv_range a b (by omega) a1 (by omega) b1 (by omega) (Or.inl a0)
  have h := M1.fdiv_same a b (by omega)
  have h2 := M1.fdiv_less a b (by omega)
  have key : a.tmod b < 0 ∧ a.fdiv b = a.tdiv b - 1 ∨ 0 ≤ a.tmod b ∧ a.fdiv b = a.tdiv b := by
    by_cases hr : a.tmod b < 0
    · exact Or.inl ⟨hr, (h2 (Or.inl ⟨hr, hb⟩)).1⟩
    · refine Or.inr ⟨by omega, (h ?_).1⟩
      by_cases hr2 : a.tmod b = 0
      · exact Or.inl hr2
      · exact Or.inr (Or.inr ⟨by omega, hb⟩)
  have q0 : -9223372036854775808 < a.tdiv b := by
    rcases key with ⟨h1, h2⟩ | ⟨h1, h2⟩
    · omega
    · have := fdiv_small a b 9223372036854775807 (by omega) ⟨by omega, a1⟩
      omega
  refine (rfloor14_core a b _ _ (a.fdiv b) w (by simp; omega) hb (Or.inr hb) (by simp; omega) (w64 _ ⟨by omega, t2⟩) rfl q0 t2 (Lib.hid key)).mono fun e w' ⟨h1, h2⟩ => ⟨h1, h2 ▸ bq_refl w⟩
theorem rfloor14_at (a b : Int) (w : World) (a0 : -9223372036854775808 < a) (a1 : a ≤ 9223372036854775807) (hb : 0 < b) (b1 : b ≤ 9223372036854775807) :
    Calls Try.prog 32 #[.int .i64 a, .int .i64 b] w fun e w' => e = .returned (.int .i64 (a / b)) ∧ Below w.heap.size w w' := by
  have := rfloor14_any a b w a0 a1 hb b1
  rw [fdiv_pos _ _ hb] at this
  exact this
theorem rend14_any (v lo hi : Int) (w : World) :
    Calls Try.prog 37 #[.int .i64 v, .int .i64 lo, .int .i64 hi] w fun e w' => e = .returned (.int .i64 (clp lo hi v)) ∧ Below w.heap.size w w' := by
  have key : v < lo ∧ clp lo hi v = lo ∨ lo ≤ v ∧ hi < v ∧ clp lo hi v = hi ∨ lo ≤ v ∧ v ≤ hi ∧ clp lo hi v = v := by unfold clp; split <;> (try split) <;> omega
  rcases key with ⟨h1, h2⟩ | ⟨h1, h3, h2⟩ | ⟨h1, h3, h2⟩
  all_goals
    rw [h2]
    clear h2
    go_enter Try.func37, Try.ntmps37
    go_wp2
    go_ret
    exact ⟨rfl, bq_refl w⟩
set_option maxHeartbeats 1000000 in
theorem rfar14_core (x y m : Int) (q : Bool) (w : World) (m0 : 0 ≤ m) (m1 : m ≤ 2000000000)
    (hq : m < x ∧ q = true ∨ x ≤ m ∧ x < -m ∧ q = true ∨ x ≤ m ∧ -m ≤ x ∧ m < y ∧ q = true ∨ x ≤ m ∧ -m ≤ x ∧ y ≤ m ∧ y < -m ∧ q = true ∨ x ≤ m ∧ -m ≤ x ∧ y ≤ m ∧ -m ≤ y ∧ q = false) :
    Calls Try.prog 28 #[.agg #[.int .i64 x, .int .i64 y], .int .i64 m] w fun e w' => e = .returned (.bool q) ∧ Below w.heap.size w w' := by
  rcases hq with ⟨h1, rfl⟩ | ⟨h1, h2, rfl⟩ | ⟨h1, h2, h3, rfl⟩ | ⟨h1, h2, h3, h4, rfl⟩ | ⟨h1, h2, h3, h4, rfl⟩
  all_goals
    go_enter Try.func28, Try.ntmps28
    go_upto_region 1 with (go_big_may; first
      | (refine wl_box 37 _ _ rfl rfl (show _ = Value.agg #[.int .i64 x, .int .i64 y] from rfl) ?_; intro W1 bp Bp_1 l1 k1; have gp : w.heap.size ≤ bp := l1; have Hw1 := k1; clear l1 k1; have cp_0_1 : W1.cell? ⟨bp, 0, none⟩ = some (.int .i64 x) := Bp_1.cell 0; have cp_1_1 : W1.cell? ⟨bp, 1, none⟩ = some (.int .i64 y) := Bp_1.cell 1))
    go_wp2_with fail
    go_ret
    exact ⟨by first | rfl | exact ret_bool (by simp; try omega), Hw1⟩
theorem rfar14_any (x y m : Int) (w : World) (m0 : 0 ≤ m) (m1 : m ≤ 2000000000) :
    Calls Try.prog 28 #[.agg #[.int .i64 x, .int .i64 y], .int .i64 m] w fun e w' => e = .returned (.bool (!ptOk m x y)) ∧ Below w.heap.size w w' := by
  refine rfar14_core x y m _ w m0 m1 ?_
  by_cases h1 : m < x
  · exact Or.inl ⟨h1, by simp [ptOk, nr]; omega⟩
  by_cases h2 : x < -m
  · exact Or.inr (Or.inl ⟨by omega, h2, by simp [ptOk, nr]; omega⟩)
  by_cases h3 : m < y
  · exact Or.inr (Or.inr (Or.inl ⟨by omega, by omega, h3, by simp [ptOk, nr]; omega⟩))
  by_cases h4 : y < -m
  · exact Or.inr (Or.inr (Or.inr (Or.inl ⟨by omega, by omega, by omega, h4, by simp [ptOk, nr]; omega⟩)))
  · exact Or.inr (Or.inr (Or.inr (Or.inr ⟨by omega, by omega, by omega, by omega, by simp [ptOk, nr]; omega⟩)))
set_option maxHeartbeats 1000000 in
theorem rsnap14_core (t u : Int) (w : World) (t0 : -576460752303423488 ≤ t) (t1 : t ≤ 576460752303000000) (u0 : -28147497671066 ≤ u) (u1 : u ≤ 28147497671066)
    (H : Hid (∀ W, Calls Try.prog 32 #[.int .i64 (16 * t + 327680), .int .i64 655360] W fun e w' => e = .returned (.int .i64 u) ∧ Below W.heap.size W w')) :
    Calls Try.prog 40 #[.int .i64 t] w fun e w' => e = .returned (.int .i64 (2 * u)) ∧ Below w.heap.size w w' := by
  go_enter Try.func40, Try.ntmps40
  go_wp2_with (go_at_call 32; refine (H.out _).mono ?_; rintro e w' ⟨rfl, k1⟩)
  go_ret
  exact ⟨rfl, k1⟩
theorem rsnap14_any (t : Int) (w : World) (t0 : -576460752303423488 < t) (t1 : t ≤ 576460752303000000) :
    Calls Try.prog 40 #[.int .i64 t] w fun e w' => e = .returned (.int .i64 (gridV t)) ∧ Below w.heap.size w w' := by
  have h1 := grid_bd t ⟨by omega, by omega⟩
  unfold gridV at h1 ⊢
  exact rsnap14_core t _ w (by omega) t1 (by omega) (by omega) (Lib.hid fun W => rfloor14_at _ _ W (by omega) (by omega) (by omega) (by omega))
end Go.Proofs.Ythcejmbjagpjcaa
