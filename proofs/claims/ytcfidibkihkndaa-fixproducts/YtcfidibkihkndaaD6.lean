import Derived.Test.YtcfidibkihkndaaD5
namespace Go.Proofs.Ytcfidibkihkndaa
open Go.RowKit
set_option linter.unusedVariables false

theorem ret_int' {k : IntKind} {a b : Int} (h : a = b) : Ending.returned (.int k a) = .returned (.int k b) := by rw [h]

theorem half_facts (a : Int) : a = 2 * a.tdiv 2 + a.tmod 2 ∧ (0 ≤ a → 0 ≤ a.tmod 2 ∧ a.tmod 2 ≤ 1) ∧ (a ≤ 0 → -1 ≤ a.tmod 2 ∧ a.tmod 2 ≤ 0) := by
  have h1 := Int.mul_tdiv_add_tmod a 2
  have h2 : (a.tmod 2).natAbs = a.natAbs % 2 := by rw [Int.natAbs_tmod]; rfl
  refine ⟨by omega, fun h => ?_, fun h => ?_⟩
  · have := Int.tmod_nonneg 2 h; omega
  · have := Int.tmod_nonneg 2 (show 0 ≤ -a by omega)
    rw [Int.neg_tmod] at this
    omega

set_option maxHeartbeats 2000000 in
theorem refadd_core (a b qa qb ra rb sm qc r m h x : Int) (ok : Bool) (w : World)
    (e1 : wrap64 (a.tdiv 2) = qa) (e2 : a.tmod 2 = ra) (e3 : wrap64 (b.tdiv 2) = qb) (e4 : b.tmod 2 = rb) (e5 : wrap64 (ra + rb) = sm) (e6 : wrap64 (sm.tdiv 2) = qc) (e7 : sm.tmod 2 = r) (e8 : wrap64 (qa + qb) = m) (e9 : wrap64 (m + qc) = h)
    (b8 : -1 ≤ r) (b9 : r ≤ 1)
    (hx : Hid ((4611686018427387903 < h ∧ x = 0 ∧ ok = false) ∨ (h < -4611686018427387904 ∧ x = 0 ∧ ok = false) ∨ (h = -4611686018427387904 ∧ r < 0 ∧ x = 0 ∧ ok = false) ∨
      (h = -4611686018427387904 ∧ 0 ≤ r ∧ x = 2 * h + r ∧ ok = true) ∨ (h = 4611686018427387903 ∧ x = 2 * h + r ∧ ok = true) ∨ (-4611686018427387904 < h ∧ h < 4611686018427387903 ∧ x = 2 * h + r ∧ ok = true))) :
    Calls Try.prog 12 #[.int .i64 a, .int .i64 b] w fun e w' => e = .returned (.tuple #[.int .i64 x, .bool ok]) ∧ w = w' := by
  rcases hx.out with ⟨h1, rfl, rfl⟩ | ⟨h1, rfl, rfl⟩ | ⟨h1, h2, rfl, rfl⟩ | ⟨h1, h2, h3, rfl⟩ | ⟨h1, h3, rfl⟩ | ⟨h1, h2, h3, rfl⟩
  · clear hx
    go_enter Try.func12, Try.ntmps12
    go_wp2
    go_ret2
    exact ⟨rfl, rfl⟩
  · clear hx
    go_enter Try.func12, Try.ntmps12
    go_wp2
    go_ret2
    exact ⟨rfl, rfl⟩
  · have k1 : (h == -4611686018427387904) = true := by simpa using h1
    have k2 : decide (4611686018427387903 < h) = false := by simp; omega
    have k3 : decide (h < -4611686018427387904) = false := by simp; omega
    clear hx h1
    go_enter Try.func12, Try.ntmps12
    go_wp2
    go_ret2
    exact ⟨rfl, rfl⟩
  · have k1 : (h == -4611686018427387904) = true := by simpa using h1
    have k2 : decide (4611686018427387903 < h) = false := by simp; omega
    have k3 : decide (h < -4611686018427387904) = false := by simp; omega
    have k4 : (h == 4611686018427387903) = false := by simp; omega
    have H3 := Lib.hid h3
    have k5 : -4611686018427387904 ≤ h := by omega
    have k6 : h ≤ 4611686018427387903 := by omega
    clear hx h1 h3
    go_enter Try.func12, Try.ntmps12
    go_wp2
    go_ret2
    exact ⟨ret_nb H3.out.symm rfl, rfl⟩
  · have k1 : (h == -4611686018427387904) = false := by simp; omega
    have k2 : decide (4611686018427387903 < h) = false := by simp; omega
    have k3 : decide (h < -4611686018427387904) = false := by simp; omega
    have k4 : (h == 4611686018427387903) = true := by simpa using h1
    have H3 := Lib.hid h3
    have k5 : 0 ≤ h := by omega
    have k6 : h ≤ 4611686018427387903 := by omega
    clear hx h1 h3
    go_enter Try.func12, Try.ntmps12
    go_wp2
    go_ret2
    exact ⟨ret_nb H3.out.symm rfl, rfl⟩
  · have k1 : (h == -4611686018427387904) = false := by simp; omega
    have k2 : decide (4611686018427387903 < h) = false := by simp; omega
    have k3 : decide (h < -4611686018427387904) = false := by simp; omega
    have k4 : (h == 4611686018427387903) = false := by simp; omega
    have H3 := Lib.hid h3
    clear hx h3
    go_enter Try.func12, Try.ntmps12
    go_wp2
    go_ret2
    exact ⟨ret_nb H3.out.symm rfl, rfl⟩

theorem refadd_any (a b : Int) (w : World) (a0 : -9223372036854775808 ≤ a) (a1 : a ≤ 9223372036854775807) (b0 : -9223372036854775808 ≤ b) (b1 : b ≤ 9223372036854775807) :
    Calls Try.prog 12 #[.int .i64 a, .int .i64 b] w fun e w' => e = .returned (.tuple #[.int .i64 (M5.num (a + b)), .bool (M5.fit (a + b))]) ∧ w = w' := by
  have ⟨f1, f2, f3⟩ := half_facts a
  have ⟨g1, g2, g3⟩ := half_facts b
  have ⟨k1, k2, k3⟩ := half_facts (a.tmod 2 + b.tmod 2)
  refine refadd_core a b (a.tdiv 2) (b.tdiv 2) (a.tmod 2) (b.tmod 2) (a.tmod 2 + b.tmod 2) ((a.tmod 2 + b.tmod 2).tdiv 2) ((a.tmod 2 + b.tmod 2).tmod 2) (a.tdiv 2 + b.tdiv 2) (a.tdiv 2 + b.tdiv 2 + (a.tmod 2 + b.tmod 2).tdiv 2) _ _ w (i64_in' _ (by omega) (by omega)) rfl (i64_in' _ (by omega) (by omega)) rfl (i64_in' _ (by omega) (by omega)) (i64_in' _ (by omega) (by omega)) rfl (i64_in' _ (by omega) (by omega)) (i64_in' _ (by omega) (by omega))
    (by omega) (by omega) (Lib.hid ?_)
  generalize a.tdiv 2 = qa at *
  generalize b.tdiv 2 = qb at *
  generalize a.tmod 2 = ra at *
  generalize b.tmod 2 = rb at *
  generalize (ra + rb).tdiv 2 = qc at *
  generalize (ra + rb).tmod 2 = r at *
  by_cases hf : -9223372036854775808 ≤ a + b ∧ a + b ≤ 9223372036854775807
  · have e : M5.fit (a + b) = true := by simp [M5.fit]; omega
    have e' : M5.num (a + b) = a + b := by unfold M5.num; rw [e, if_pos rfl]
    rw [e, e']
    simp only [Bool.true_eq_false, and_false, false_or, and_true]
    omega
  · have e : M5.fit (a + b) = false := by simp [M5.fit]; omega
    have e' : M5.num (a + b) = 0 := by unfold M5.num; rw [e]; rfl
    rw [e, e']
    simp only [Bool.false_eq_true, and_false, or_false, and_true]
    omega

theorem ordB_abs (x y : List Nat) (m n : Int) (hx : M5.val x = m.natAbs) (hy : M5.val y = n.natAbs) : ordB x y = if m.natAbs < n.natAbs then -1 else if m.natAbs = n.natAbs then 0 else 1 := by
  unfold ordB; rw [hx, hy]

set_option maxHeartbeats 2000000 in
theorem refcompare_core (a b c d : Int) (w : World) (a0 : -9223372036854775808 ≤ a) (a1 : a ≤ 9223372036854775807) (b0 : -9223372036854775808 ≤ b) (b1 : b ≤ 9223372036854775807)
    (c0 : -9223372036854775808 ≤ c) (c1 : c ≤ 9223372036854775807) (d0 : -9223372036854775808 ≤ d) (d1 : d ≤ 9223372036854775807) (s t : Bool) (hs : Hid (decide (a * b < 0) = s)) (ht : Hid (decide (c * d < 0) = t)) (x : Int)
    (hx : Hid (x = if s != t then (if s then -1 else 1) else if s then (if (c * d).natAbs < (a * b).natAbs then -1 else if (c * d).natAbs = (a * b).natAbs then 0 else 1) else (if (a * b).natAbs < (c * d).natAbs then -1 else if (a * b).natAbs = (c * d).natAbs then 0 else 1))) :
    Calls Try.prog 22 #[.int .i64 a, .int .i64 b, .int .i64 c, .int .i64 d] w fun e w' => e = .returned (.int .i64 x) ∧ Below w.heap.size w w' := by
  have P1 := refproduct_any a b w a0 a1 b0 b1
  rw [hs.out] at P1
  have PP1 := Lib.hid P1
  have P2 := fun w => refproduct_any c d w c0 c1 d0 d1
  rw [ht.out] at P2
  have PP2 := Lib.hid P2
  clear P1 P2 a0 a1 b0 b1 c0 c1 d0 d1 hs ht
  go_enter Try.func22, Try.ntmps22
  go_wp2_with fail
  refine PP1.out.mono ?_
  rintro e w1 ⟨g1, k1, l1, rfl, hc1, hg1, hr1, hb1, hl1, hd1, hv1⟩
  have H1 := Lib.hid (And.intro hc1 (And.intro hg1 (And.intro hr1 (And.intro hb1 (And.intro hl1 (And.intro hd1 hv1))))))
  clear hc1 hg1 hr1 hb1 hl1 hd1 hv1
  go_wp2_with fail
  refine (PP2.out _).mono ?_
  rintro e w2 ⟨g2, k2, l2, rfl, hc2, hg2, hr2, hb2, hl2, hd2, hv2⟩
  obtain ⟨hc1, hg1, hr1, hb1, hl1, hd1, hv1⟩ := H1.out
  have O1 := order_ref w2 g1 k1 g2 k2 l1 l2 (hr1.keep hb2) hr2 hd1 hd2 (by omega) (by omega) hc1 (by omega)
  have O2 := order_ref w2 g2 k2 g1 k1 l2 l1 hr2 (hr1.keep hb2) hd2 hd1 (by omega) (by omega) hc2 (by omega)
  rw [ordB_abs l1 l2 _ _ hv1 hv2] at O1
  rw [ordB_abs l2 l1 _ _ hv2 hv1] at O2
  rw [hl1] at O1
  rw [hl2] at O2
  rw [hl1, hl2]
  have OO1 := Lib.hid O1
  have OO2 := Lib.hid O2
  have HB := Lib.hid (bq_trans hb1 hb2)
  clear O1 O2 hc1 hg1 hr1 hb1 hl1 hd1 hv1 hc2 hg2 hr2 hb2 hl2 hd2 hv2 H1 PP1 PP2
  cases s <;> cases t
  all_goals
    have hx' := hx.out
    simp only [bne_self_eq_false, Bool.true_bne, Bool.false_bne, Bool.not_false, Bool.false_eq_true, if_true, if_false] at hx'
    have HX := Lib.hid hx'
    clear hx hx'
  · have O := OO1.out
    rw [← HX.out] at O
    have OO := Lib.hid O
    clear O OO1 OO2 HX
    go_wp2_with (go_at_call 37; refine OO.out.mono ?_; rintro e w' ⟨rfl, n, rfl⟩)
    go_ret
    exact ⟨rfl, bq_drewN HB.out _⟩
  · go_wp2
    go_ret
    exact ⟨ret_int' HX.out.symm, HB.out⟩
  · go_wp2
    go_ret
    exact ⟨ret_int' HX.out.symm, HB.out⟩
  · have O := OO2.out
    rw [← HX.out] at O
    have OO := Lib.hid O
    clear O OO1 OO2 HX
    go_wp2_with (go_at_call 37; refine OO.out.mono ?_; rintro e w' ⟨rfl, n, rfl⟩)
    go_ret
    exact ⟨rfl, bq_drewN HB.out _⟩

end Go.Proofs.Ytcfidibkihkndaa
