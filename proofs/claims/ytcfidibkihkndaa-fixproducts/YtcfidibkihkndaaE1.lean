import Derived.Test.YtcfidibkihkndaaD8
import Derived.Test.YtcfidibkihkndaaD6
namespace Go.Proofs.Ytcfidibkihkndaa
open Go.RowKit
set_option linter.unusedVariables false

theorem big10 : 85070591730234615865843651857942052864 + 1 < 65536 ^ 10 := by decide

set_option maxHeartbeats 4000000 in
theorem refmuldiv_core (a b c x : Int) (w : World) (a0 : -9223372036854775808 ≤ a) (a1 : a ≤ 9223372036854775807) (b0 : -9223372036854775808 ≤ b) (b1 : b ≤ 9223372036854775807)
    (c0 : -9223372036854775808 ≤ c) (c1 : c ≤ 9223372036854775807) (hc : (c == 0) = false) (s t z h : Bool) (hs : Hid (decide (a * b < 0) = s)) (ht : decide (c < 0) = t) (hz : Hid (decide ((a * b).natAbs = 0) = z)) (hh : Hid (decide ((a * b).natAbs % c.natAbs = 0) = h)) (hq : Hid ((a * b).natAbs / c.natAbs + 1 < 65536 ^ 10))
    (hx : Hid (x = M5.sgn ((s != t) && !z) (if ((s != t) && !z) && !h then (a * b).natAbs / c.natAbs + 1 else (a * b).natAbs / c.natAbs))) :
    Calls Try.prog 17 #[.int .i64 a, .int .i64 b, .int .i64 c] w fun e w' => e = .returned (.tuple #[.int .i64 (M5.num x), .bool (M5.fit x)]) ∧ Below w.heap.size w w' := by
  have hc0 : 0 < c.natAbs := by have : c ≠ 0 := by simpa using hc
                                omega
  have P := refproduct_any a b w a0 a1 b0 b1
  rw [hs.out] at P
  have PP := Lib.hid P
  have DG := Lib.hid (fun w => digits_any c w c0 c1 t ht)
  have HC := Lib.hid hc0
  clear P a0 a1 b0 b1 c0 c1 hs ht hc0
  go_enter Try.func17, Try.ntmps17
  go_wp2_with fail
  refine PP.out.mono ?_
  rintro e w1 ⟨g1, k1, l1, rfl, hc1, hg1, hr1, hb1, hl1, hd1, hv1⟩
  have H1 := Lib.hid (And.intro hc1 (And.intro hg1 (And.intro hr1 (And.intro hb1 (And.intro hl1 (And.intro hd1 hv1))))))
  clear hc1 hg1 hr1 hb1 hl1 hd1 hv1
  go_wp2_with fail
  refine (DG.out _).mono ?_
  rintro e w2 ⟨v2, l2, rfl, ⟨g2, k2, rfl, hc2, hg2, hr2, hb2⟩, hl2, hd2, hv2⟩
  have H2 := Lib.hid (And.intro hc2 (And.intro hg2 (And.intro hr2 (And.intro hb2 (And.intro hl2 (And.intro hd2 hv2))))))
  clear hc2 hg2 hr2 hb2 hl2 hd2 hv2
  go_wp2_with fail
  obtain ⟨hc1, hg1, hr1, hb1, hl1, hd1, hv1⟩ := H1.out
  obtain ⟨hc2, hg2, hr2, hb2, hl2, hd2, hv2⟩ := H2.out
  have DV := divide_ref w2 g1 k1 g2 k2 l1 l2 (hr1.keep hb2) hr2 hd1 hd2 (by omega) (by omega) (by omega) hc1 hc2 (by rw [hv2]; exact HC.out)
  refine DV.mono ?_
  rintro e w3 ⟨v3, l3, rfl, ⟨g3, k3, rfl, hc3, hg3, hr3, hb3⟩, hl3, hd3, hv3⟩
  rw [hv1, hv2] at hv3
  rw [hv1, hv2, hh.out]
  have N := nought_any w3 g1 k1 l1 ((hr1.keep hb2).keep hb3) (by omega) hc1
  have hzz : zeroB l1 = z := by unfold zeroB; rw [hv1]; exact hz.out
  rw [hzz] at N
  have NN := Lib.hid N
  have O := one_any w3 g3 k3 l3 hr3 hd3 (by omega) (by omega) hc3 (by rw [hv3, hl3, hl1]; exact hq.out)
  have OO := Lib.hid O
  have NU := Lib.hid (fun m => number_any w3 g3 k3 l3 m hr3 hd3 (by omega) hc3)
  have HB := Lib.hid (bq_trans hb1 (bq_trans hb2 hb3))
  have HV := Lib.hid (And.intro hv3 (And.intro hl3 hl1))
  clear DV N O hzz hc1 hg1 hr1 hb1 hl1 hd1 hv1 hc2 hg2 hr2 hb2 hl2 hd2 hv2 hc3 hg3 hr3 hb3 hl3 hd3 hv3 H1 H2 PP DG HC hh hz hq
  by_cases hbl : ((s != t) && !z) = true
  · have hx1 := hx.out
    rw [hbl] at hx1
    cases h
    · rw [Bool.not_false, Bool.and_self, if_pos rfl] at hx1
      have HX := Lib.hid hx1
      clear hx hx1
      cases s <;> cases t <;> cases z <;> simp at hbl <;> clear hbl
      all_goals
        go_wp2_with (first | (go_at_call 32; refine NN.out.mono ?_; rintro e w' ⟨rfl, rfl⟩))
        refine OO.out.mono ?_
        rintro e w4 ⟨v4, l4, rfl, ⟨g4, k4, rfl, hc4, hg4, hr4, hb4⟩, hl4, hd4, hv4⟩
        obtain ⟨hv3, hl3, hl1⟩ := HV.out
        have NB := number_any w4 g4 k4 l4 true hr4 hd4 (by omega) hc4
        rw [hv4, hv3, ← HX.out] at NB
        have NBB := Lib.hid NB
        have HB4 := Lib.hid (bq_trans HB.out hb4)
        clear NB hv3 hl3 hl1 hc4 hg4 hr4 hb4 hl4 hd4 hv4
        go_wp2_with fail
        refine NBB.out.mono ?_
        rintro e w' ⟨rfl, rfl⟩
        go_wp2
        go_ret2
        exact ⟨rfl, HB4.out⟩
    · rw [Bool.not_true, Bool.and_false, if_neg (by decide)] at hx1
      have NB := NU.out true
      rw [HV.out.1, ← hx1] at NB
      have NBB := Lib.hid NB
      clear hx hx1 NB
      cases s <;> cases t <;> cases z <;> simp at hbl <;> clear hbl
      all_goals
        go_wp2_with (first | (go_at_call 32; refine NN.out.mono ?_; rintro e w' ⟨rfl, rfl⟩))
        refine NBB.out.mono ?_
        rintro e w' ⟨rfl, rfl⟩
        go_wp2
        go_ret2
        exact ⟨rfl, HB.out⟩
  · have hbf : ((s != t) && !z) = false := by simpa using hbl
    have hx1 := hx.out
    rw [hbf, Bool.false_and, if_neg (by decide)] at hx1
    have NB := NU.out false
    rw [HV.out.1, ← hx1] at NB
    have NBB := Lib.hid NB
    clear hx hx1 NB hbl
    cases s <;> cases t <;> cases z <;> simp at hbf <;> clear hbf
    all_goals
      cases h
      all_goals
        go_wp2_with (first | (go_at_call 32; refine NN.out.mono ?_; rintro e w' ⟨rfl, rfl⟩))
        refine NBB.out.mono ?_
        rintro e w' ⟨rfl, rfl⟩
        go_wp2
        go_ret2
        exact ⟨rfl, HB.out⟩

theorem refmuldiv_zero (a b : Int) (w : World) : Calls Try.prog 17 #[.int .i64 a, .int .i64 b, .int .i64 0] w fun e w' => e = .returned (.tuple #[.int .i64 0, .bool false]) ∧ Below w.heap.size w w' := by
  go_enter Try.func17, Try.ntmps17
  go_wp2
  go_ret2
  exact ⟨rfl, Below.refl _ _⟩

theorem refmuldiv_any (a b c : Int) (w : World) (a0 : -9223372036854775808 ≤ a) (a1 : a ≤ 9223372036854775807) (b0 : -9223372036854775808 ≤ b) (b1 : b ≤ 9223372036854775807)
    (c0 : -9223372036854775808 ≤ c) (c1 : c ≤ 9223372036854775807) (hc : c ≠ 0) :
    Calls Try.prog 17 #[.int .i64 a, .int .i64 b, .int .i64 c] w fun e w' => e = .returned (.tuple #[.int .i64 (M5.num ((a * b).fdiv c)), .bool (M5.fit ((a * b).fdiv c))]) ∧ Below w.heap.size w w' := by
  have hd := Nat.div_add_mod' (a * b).natAbs c.natAbs
  have hm : (a * b).natAbs % c.natAbs < c.natAbs := Nat.mod_lt _ (by omega)
  have hf := M2.fdiv_sizes (a * b) c hc _ _ hd.symm hm
  refine refmuldiv_core a b c _ w a0 a1 b0 b1 c0 c1 (by simpa using hc) _ _ _ _ (Lib.hid rfl) rfl (Lib.hid rfl) (Lib.hid rfl) (Lib.hid ?_) (Lib.hid ?_)
  · have h1 : (a * b).natAbs / c.natAbs ≤ (a * b).natAbs := Nat.div_le_self _ _
    have h2 := M2.size_lt a b a0 a1 b0 b1
    rw [← Int.natAbs_mul] at h2
    exact Nat.lt_of_le_of_lt (Nat.add_le_add_right (Nat.le_trans h1 h2) 1) big10
  · rw [hf]
    by_cases h0 : (a * b).natAbs = 0
    · have hq : (a * b).natAbs / c.natAbs = 0 := by rw [h0]; simp
      have hr : (a * b).natAbs % c.natAbs = 0 := by rw [h0]; simp
      rw [hq, hr]
      simp [h0, M5.sgn]
    · generalize (a * b).natAbs / c.natAbs = q at *
      generalize (a * b).natAbs % c.natAbs = r at *
      rw [show decide ((a * b).natAbs = 0) = false by simpa using h0, Bool.not_false, Bool.and_true]
      by_cases h1 : (decide (a * b < 0) != decide (c < 0)) = true
      · rw [if_pos h1, h1]
        by_cases h2 : r = 0
        · simp [h2, M5.sgn]
        · simp [h2, M5.sgn]
      · rw [if_neg h1, show (decide (a * b < 0) != decide (c < 0)) = false by simpa using h1]
        simp [M5.sgn]

end Go.Proofs.Ytcfidibkihkndaa
