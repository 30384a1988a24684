import Derived.Test.YtcfidibkihkndaaD1
import Derived.Test.YtcfidibkihkndaaD2
import Derived.Test.YtcfidibkihkndaaD3
import Derived.Test.YtcfidibkihkndaaD4
import Derived.Test.YtcfidibkihkndaaM2
namespace Go.Proofs.Ytcfidibkihkndaa
open Go.RowKit
set_option linter.unusedVariables false

theorem newRow_trans {w w1 w2 : World} {v : Value} {l : List Nat} (hb : Below w.heap.size w w1) (h : NewRow w1 w2 v l) : NewRow w w2 v l := by
  obtain ⟨g, c, h1, h2, h3, h4, h5⟩ := h
  exact ⟨g, c, h1, h2, Nat.le_trans hb.size h3, h4, bq_trans hb h5⟩
theorem newRow_below {w w' : World} {v : Value} {l : List Nat} (h : NewRow w w' v l) : Below w.heap.size w w' := by
  obtain ⟨g, c, h1, h2, h3, h4, h5⟩ := h; exact h5

/-- what a product of the document's comes to -/
def ProdPost (a b : Int) (w : World) (s : Bool) (e : Ending) (w' : World) : Prop :=
  ∃ g c l, e = .returned (.tuple #[.slice (some ⟨g, 0, none⟩) l.length c, .bool s]) ∧ l.length ≤ c ∧ w.heap.size ≤ g ∧ Row w' g l ∧ Below w.heap.size w w' ∧ l.length = 10 ∧ M5.Dig l ∧ M5.val l = (a * b).natAbs

set_option maxHeartbeats 2000000 in
theorem refproduct_core (a b : Int) (w : World) (a0 : -9223372036854775808 ≤ a) (a1 : a ≤ 9223372036854775807) (b0 : -9223372036854775808 ≤ b) (b1 : b ≤ 9223372036854775807)
    (s t z : Bool) (hs : decide (a < 0) = s) (ht : decide (b < 0) = t) (hz : Hid (z = decide ((a * b).natAbs = 0))) :
    Calls Try.prog 27 #[.int .i64 a, .int .i64 b] w (ProdPost a b w ((s != t) && !z)) := by
  go_enter Try.func27, Try.ntmps27
  go_wp2_with fail
  refine (digits_any a _ a0 a1 s hs).mono ?_
  rintro e w1 ⟨v1, l1, rfl, ⟨g1, c1, rfl, hc1, hg1, hr1, hb1⟩, hl1, hd1, hv1⟩
  have H1 := Lib.hid (And.intro hc1 (And.intro hg1 (And.intro hr1 (And.intro hb1 (And.intro hl1 (And.intro hd1 hv1))))))
  clear hc1 hg1 hr1 hb1 hl1 hd1 hv1
  go_wp2_with fail
  refine (digits_any b _ b0 b1 t ht).mono ?_
  rintro e w2 ⟨v2, l2, rfl, ⟨g2, c2, rfl, hc2, hg2, hr2, hb2⟩, hl2, hd2, hv2⟩
  have H2 := Lib.hid (And.intro hc2 (And.intro hg2 (And.intro hr2 (And.intro hb2 (And.intro hl2 (And.intro hd2 hv2))))))
  clear hc2 hg2 hr2 hb2 hl2 hd2 hv2
  go_wp2_with fail
  obtain ⟨hc1, hg1, hr1, hb1, hl1, hd1, hv1⟩ := H1.out
  obtain ⟨hc2, hg2, hr2, hb2, hl2, hd2, hv2⟩ := H2.out
  refine (times_any w2 g1 c1 g2 c2 l1 l2 (hr1.keep hb2) hr2 hd1 hd2 (by omega) (by omega) hc1 hc2).mono ?_
  rintro e w3 ⟨v3, l3, rfl, ⟨g3, c3, rfl, hc3, hg3, hr3, hb3⟩, hl3, hd3, hv3⟩
  have hval : M5.val l3 = (a * b).natAbs := by rw [hv3, hv1, hv2, Int.natAbs_mul]
  have hzz : zeroB l3 = z := by rw [hz.out, ← hval]; rfl
  have H3 := Lib.hid (And.intro hc3 (And.intro hg3 (And.intro hr3 (And.intro hb3 (And.intro (show l3.length = 10 by omega) (And.intro hd3 hval))))))
  have N := nought_any w3 g3 c3 l3 hr3 (by omega) hc3
  rw [hzz] at N
  have NN := Lib.hid N
  have HB := Lib.hid (bq_trans hb1 (bq_trans hb2 hb3))
  have HG := Lib.hid (Nat.le_trans hb1.size (Nat.le_trans hb2.size hg3))
  clear hc1 hg1 hr1 hb1 hl1 hd1 hv1 hc2 hg2 hr2 hb2 hl2 hd2 hv2 hc3 hg3 hr3 hb3 hl3 hd3 hv3 hval hzz N hz H1 H2 a0 a1 b0 b1 hs ht
  cases s <;> cases t <;> cases z
  all_goals
    go_wp2_with (go_at_call 32; refine NN.out.mono ?_; rintro e w' ⟨rfl, rfl⟩)
    go_ret2
    obtain ⟨hc3, hg3, hr3, hb3, hl3, hd3, hval⟩ := H3.out
    exact ⟨g3, c3, l3, rfl, hc3, HG.out, hr3, HB.out, hl3, hd3, hval⟩

theorem refproduct_any (a b : Int) (w : World) (a0 : -9223372036854775808 ≤ a) (a1 : a ≤ 9223372036854775807) (b0 : -9223372036854775808 ≤ b) (b1 : b ≤ 9223372036854775807) :
    Calls Try.prog 27 #[.int .i64 a, .int .i64 b] w (ProdPost a b w (decide (a * b < 0))) := by
  have h := refproduct_core a b w a0 a1 b0 b1 _ _ _ rfl rfl (Lib.hid rfl)
  have e : ((decide (a < 0) != decide (b < 0)) && !decide ((a * b).natAbs = 0)) = decide (a * b < 0) := by
    rw [M2.neg_iff]
    have : decide ((a * b).natAbs = 0) = !((a != 0) && (b != 0)) := by
      rw [Int.natAbs_mul]
      by_cases h1 : a = 0
      · simp [h1]
      · by_cases h2 : b = 0
        · simp [h2]
        · have e1 : (a != 0) = true := by simpa using h1
          have e2 : (b != 0) = true := by simpa using h2
          have e3 : ¬ a.natAbs * b.natAbs = 0 := by rw [Nat.mul_eq_zero]; omega
          rw [e1, e2]
          simpa using e3
    rw [this, Bool.not_not, Bool.and_assoc]
  rw [e] at h
  exact h

set_option maxHeartbeats 2000000 in
theorem refmul_any (a b : Int) (w : World) (a0 : -9223372036854775808 ≤ a) (a1 : a ≤ 9223372036854775807) (b0 : -9223372036854775808 ≤ b) (b1 : b ≤ 9223372036854775807) :
    Calls Try.prog 14 #[.int .i64 a, .int .i64 b] w fun e w' => e = .returned (.tuple #[.int .i64 (M5.num (a * b)), .bool (M5.fit (a * b))]) ∧ Below w.heap.size w w' := by
  have P := Lib.hid (refproduct_any a b w a0 a1 b0 b1)
  have hs : M5.sgn (decide (a * b < 0)) (a * b).natAbs = a * b := by
    unfold M5.sgn
    by_cases h : a * b < 0
    · rw [if_pos (by simpa using h)]; omega
    · rw [if_neg (by simpa using h)]; omega
  have HS := Lib.hid hs
  obtain ⟨t, et⟩ : ∃ t, t = decide (a * b < 0) := ⟨_, rfl⟩
  rw [← et] at P HS
  clear hs a0 a1 b0 b1 et
  go_enter Try.func14, Try.ntmps14
  go_wp2_with fail
  refine P.out.mono ?_
  rintro e w1 ⟨g, c, l, rfl, hc, hg, hr, hb, hl, hd, hv⟩
  have N := number_any w1 g c l t hr hd (by omega) hc
  rw [hv, HS.out] at N
  have NN := Lib.hid N
  have HB := Lib.hid hb
  clear N hb hr hd hc hg hl hv
  go_wp2_with (go_at_call 28; refine NN.out.mono ?_; rintro e w' ⟨rfl, rfl⟩)
  go_ret2
  exact ⟨rfl, HB.out⟩

end Go.Proofs.Ytcfidibkihkndaa
