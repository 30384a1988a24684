import Derived.Test.YtpeknlablcgchaaProg
import Derived.Test.YtpeknlablcgchaaM1
import Derived.WalkKit
import Derived.Lib.Hide
import Derived.Deep.QuietTactic
import Derived.BigQuiet
namespace Go.Proofs.Ytpeknlablcgchaa
open Go.RowKit

theorem ret_int {k : IntKind} {a b : Int} (h : a = b) : Ending.returned (.int k a) = .returned (.int k b) := by rw [h]

theorem size_any (n : Int) (w : World) (h0 : -9223372036854775808 ≤ n) (h1 : n ≤ 9223372036854775807) :
    Calls Try.prog 29 #[.int .i64 n] w fun e w' => e = .returned (.int .u64 (n.natAbs : Int)) ∧ w = w' := by
  by_cases h : n < 0
  · have e : IntKind.u64.wrap (-IntKind.u64.wrap n) = (n.natAbs : Int) := by simp only [IntKind.wrap_u64]; omega
    go_enter Try.func29, Try.ntmps29
    go_wp2
    go_ret
    exact ⟨rfl, rfl⟩
  · go_enter Try.func29, Try.ntmps29
    go_wp2
    go_ret
    exact ⟨ret_int (by omega), rfl⟩

theorem ret3 {a a' b b' : Int} {c : Bool} (h1 : a = a') (h2 : b = b') : Ending.returned (.tuple #[.int .i64 a, .int .i64 b, .bool c]) = .returned (.tuple #[.int .i64 a', .int .i64 b', .bool c]) := by rw [h1, h2]

set_option maxHeartbeats 1000000 in
theorem divide_core (a b q r x y : Int) (w : World) (hz : (b == 0) = false) (hb : b < 0 ∨ 0 < b) (k1 : (a == -9223372036854775808) = false)
    (e1 : wrap64 (a.tdiv b) = q) (e2 : a.tmod b = r)
    (hc : Hid (r ≤ 9223372036854775807 ∧ -9223372036854775808 ≤ r ∧ q ≤ 9223372036854775807 ∧ -9223372036854775808 ≤ q ∧ b ≤ 9223372036854775807 ∧ -9223372036854775808 ≤ b))
    (hx : Hid ((r = 0 ∧ x = q ∧ y = 0) ∨ (r < 0 ∧ b < 0 ∧ x = q ∧ y = r) ∨ (0 < r ∧ 0 < b ∧ x = q ∧ y = r) ∨ (r < 0 ∧ 0 < b ∧ -9223372036854775808 < q ∧ x = q - 1 ∧ y = r + b) ∨ (0 < r ∧ b < 0 ∧ -9223372036854775808 < q ∧ x = q - 1 ∧ y = r + b))) :
    Calls Try.prog 28 #[.int .i64 a, .int .i64 b] w fun e w' => e = .returned (.tuple #[.int .i64 x, .int .i64 y, .bool true]) ∧ ∃ n, w' = w.drewN n := by
  go_enter Try.func28, Try.ntmps28
  go_wp2
  go_quiet (fail)
  simp only [e1]
  clear e1 e2 k1 hz
  obtain ⟨r1, r0, q1, q0, b1, b0⟩ := hc.out
  clear hc
  have cb : b < 0 → decide (b < 0) = true := by simp
  have cb' : 0 < b → decide (b < 0) = false := by simp; omega
  have cr : r < 0 → decide (r < 0) = true ∧ (r != 0) = true := by intro h; simp; omega
  have cr' : 0 < r → decide (r < 0) = false ∧ (r != 0) = true := by intro h; simp; omega
  have CB := Lib.hid cb
  have CB' := Lib.hid cb'
  have CR := Lib.hid cr
  have CR' := Lib.hid cr'
  clear cb cb' cr cr' hb
  rcases hx.out with ⟨h1, h3, h4⟩ | ⟨h1, h2, h3, h4⟩ | ⟨h1, h2, h3, h4⟩ | ⟨h1, h2, h5, h3, h4⟩ | ⟨h1, h2, h5, h3, h4⟩
  all_goals
    have H3 := Lib.hid h3
    have H4 := Lib.hid h4
    clear hx h3 h4
  · have c1 : (r != 0) = false := by simp [h1]
    have H1 := Lib.hid h1
    clear h1
    go_wp2
    go_ret3
    exact ⟨ret3 H3.out.symm (by rw [H4.out, H1.out]), _, rfl⟩
  · have c1 := CR.out h1
    have c2 := CB.out h2
    obtain ⟨c3, c4⟩ := c1
    clear CB CB' CR CR'
    go_wp2
    go_ret3
    exact ⟨ret3 H3.out.symm H4.out.symm, _, rfl⟩
  · have c1 := CR'.out h1
    have c2 := CB'.out h2
    obtain ⟨c3, c4⟩ := c1
    clear CB CB' CR CR'
    go_wp2
    go_ret3
    exact ⟨ret3 H3.out.symm H4.out.symm, _, rfl⟩
  · have c1 := CR.out h1
    have c2 := CB'.out h2
    obtain ⟨c3, c4⟩ := c1
    clear CB CB' CR CR'
    go_wp2
    go_ret3
    exact ⟨ret3 H3.out.symm H4.out.symm, _, rfl⟩
  · have c1 := CR'.out h1
    have c2 := CB.out h2
    obtain ⟨c3, c4⟩ := c1
    clear CB CB' CR CR'
    go_wp2
    go_ret3
    exact ⟨ret3 H3.out.symm H4.out.symm, _, rfl⟩

set_option maxHeartbeats 1000000 in
theorem divide_core2 (b q r x y : Int) (w : World) (hz : (b == 0) = false) (hb : b < 0 ∨ 0 < b) (k2 : (b == -1) = false)
    (e1 : wrap64 (-(Int.tdiv 9223372036854775808 b)) = q) (e2 : -(Int.tmod 9223372036854775808 b) = r)
    (hc : Hid (r ≤ 9223372036854775807 ∧ -9223372036854775808 ≤ r ∧ q ≤ 9223372036854775807 ∧ -9223372036854775808 ≤ q ∧ b ≤ 9223372036854775807 ∧ -9223372036854775808 ≤ b))
    (hx : Hid ((r = 0 ∧ x = q ∧ y = 0) ∨ (r < 0 ∧ b < 0 ∧ x = q ∧ y = r) ∨ (0 < r ∧ 0 < b ∧ x = q ∧ y = r) ∨ (r < 0 ∧ 0 < b ∧ -9223372036854775808 < q ∧ x = q - 1 ∧ y = r + b) ∨ (0 < r ∧ b < 0 ∧ -9223372036854775808 < q ∧ x = q - 1 ∧ y = r + b))) :
    Calls Try.prog 28 #[.int .i64 (-9223372036854775808), .int .i64 b] w fun e w' => e = .returned (.tuple #[.int .i64 x, .int .i64 y, .bool true]) ∧ ∃ n, w' = w.drewN n := by
  go_enter Try.func28, Try.ntmps28
  go_wp2
  go_quiet (fail)
  simp only [e1]
  clear e1 e2 k2 hz
  obtain ⟨r1, r0, q1, q0, b1, b0⟩ := hc.out
  clear hc
  have cb : b < 0 → decide (b < 0) = true := by simp
  have cb' : 0 < b → decide (b < 0) = false := by simp; omega
  have cr : r < 0 → decide (r < 0) = true ∧ (r != 0) = true := by intro h; simp; omega
  have cr' : 0 < r → decide (r < 0) = false ∧ (r != 0) = true := by intro h; simp; omega
  have CB := Lib.hid cb
  have CB' := Lib.hid cb'
  have CR := Lib.hid cr
  have CR' := Lib.hid cr'
  clear cb cb' cr cr' hb
  rcases hx.out with ⟨h1, h3, h4⟩ | ⟨h1, h2, h3, h4⟩ | ⟨h1, h2, h3, h4⟩ | ⟨h1, h2, h5, h3, h4⟩ | ⟨h1, h2, h5, h3, h4⟩
  all_goals
    have H3 := Lib.hid h3
    have H4 := Lib.hid h4
    clear hx h3 h4
  · have c1 : (r != 0) = false := by simp [h1]
    have H1 := Lib.hid h1
    clear h1
    go_wp2
    go_ret3
    exact ⟨ret3 H3.out.symm (by rw [H4.out, H1.out]), _, rfl⟩
  · have c1 := CR.out h1
    have c2 := CB.out h2
    obtain ⟨c3, c4⟩ := c1
    clear CB CB' CR CR'
    go_wp2
    go_ret3
    exact ⟨ret3 H3.out.symm H4.out.symm, _, rfl⟩
  · have c1 := CR'.out h1
    have c2 := CB'.out h2
    obtain ⟨c3, c4⟩ := c1
    clear CB CB' CR CR'
    go_wp2
    go_ret3
    exact ⟨ret3 H3.out.symm H4.out.symm, _, rfl⟩
  · have c1 := CR.out h1
    have c2 := CB'.out h2
    obtain ⟨c3, c4⟩ := c1
    clear CB CB' CR CR'
    go_wp2
    go_ret3
    exact ⟨ret3 H3.out.symm H4.out.symm, _, rfl⟩
  · have c1 := CR'.out h1
    have c2 := CB.out h2
    obtain ⟨c3, c4⟩ := c1
    clear CB CB' CR CR'
    go_wp2
    go_ret3
    exact ⟨ret3 H3.out.symm H4.out.symm, _, rfl⟩

theorem divide_yes (a b : Int) (w : World) (a0 : -9223372036854775808 ≤ a) (a1 : a ≤ 9223372036854775807) (b0 : -9223372036854775808 ≤ b) (b1 : b ≤ 9223372036854775807)
    (hb : b < 0 ∨ 0 < b) (hm : -9223372036854775808 < a ∨ b < -1 ∨ -1 < b) :
    Calls Try.prog 28 #[.int .i64 a, .int .i64 b] w fun e w' => e = .returned (.tuple #[.int .i64 (a.fdiv b), .int .i64 (a.fmod b), .bool true]) ∧ ∃ n, w' = w.drewN n := by
  have hz : (b == 0) = false := by rw [beq_eq_false_iff_ne]; omega
  have hbz : b ≠ 0 := by omega
  have t1 := M1.tdiv_range a b a0 a1 hbz hm
  have t2 := M1.tq_facts a b hbz
  have t3 := M1.fdiv_range a b a0 a1 b0 b1 hbz hm
  have e1 : wrap64 (a.tdiv b) = a.tdiv b := by unfold wrap64; omega
  have hs := M1.fdiv_same a b hbz
  have hl := M1.fdiv_less a b hbz
  have hx : (a.tmod b = 0 ∧ a.fdiv b = a.tdiv b ∧ a.fmod b = 0) ∨ (a.tmod b < 0 ∧ b < 0 ∧ a.fdiv b = a.tdiv b ∧ a.fmod b = a.tmod b) ∨ (0 < a.tmod b ∧ 0 < b ∧ a.fdiv b = a.tdiv b ∧ a.fmod b = a.tmod b) ∨
      (a.tmod b < 0 ∧ 0 < b ∧ -9223372036854775808 < a.tdiv b ∧ a.fdiv b = a.tdiv b - 1 ∧ a.fmod b = a.tmod b + b) ∨ (0 < a.tmod b ∧ b < 0 ∧ -9223372036854775808 < a.tdiv b ∧ a.fdiv b = a.tdiv b - 1 ∧ a.fmod b = a.tmod b + b) := by
    by_cases h : (a.tmod b < 0 ∧ 0 < b) ∨ (0 < a.tmod b ∧ b < 0)
    · have hh := hl h; omega
    · have hh := hs (by omega); omega
  by_cases ha : a = -9223372036854775808
  · subst ha
    rw [Int.neg_tdiv] at *
    rw [Int.neg_tmod] at *
    exact divide_core2 b _ _ _ _ w hz hb (by rw [beq_eq_false_iff_ne]; omega) e1 rfl (Lib.hid (by omega)) (Lib.hid hx)
  · exact divide_core a b _ _ _ _ w hz hb (by rw [beq_eq_false_iff_ne]; omega) e1 rfl (Lib.hid (by omega)) (Lib.hid hx)

theorem divide_no (a b : Int) (w : World) (h : (b == 0) = true ∨ (b == 0) = false ∧ (a == -9223372036854775808) = true ∧ (b == -1) = true) :
    Calls Try.prog 28 #[.int .i64 a, .int .i64 b] w fun e w' => e = .returned (.tuple #[.int .i64 0, .int .i64 0, .bool false]) ∧ ∃ n, w' = w.drewN n := by
  rcases h with h | ⟨h1, h2, h3⟩
  · go_enter Try.func28, Try.ntmps28
    go_wp2
    go_ret3
    exact ⟨rfl, 0, rfl⟩
  · go_enter Try.func28, Try.ntmps28
    go_wp2
    go_ret3
    exact ⟨rfl, 0, rfl⟩

end Go.Proofs.Ytpeknlablcgchaa
