import Derived.Test.YtmbnmfhfeaagaaaDoorZJ
/- Layer 5: a law: bytes behind the end, room. -/
namespace Go.Proofs.YtmbnmfhfeaagaaaDoor
open Go.RowKit
set_option linter.unusedVariables false
set_option linter.unusedSimpArgs false
set_option maxRecDepth 100000 in
theorem inflateEnds_walk (s more : ByteArray) (most : Int) (w : World) (hs : s.size ≤ maxLen) (ht : more.size ≤ maxLen) (hg : Gl w) :
    Calls Tryd.prog 6 #[.string s, .string more, .int .i64 most] w fun e w' => e = .returned (.bool true) ∧ Below w.heap.size w w' := by
  unfold maxLen at hs ht
  have HAW := Lib.hid (fun W (h : Gl W) => awake_any W h)
  have HG := Lib.hid hg
  clear hg
  by_cases c1 : 1024 < s.size
  · have q1 : decide (1024 < (s.size : Int)) = true := by rw [decide_eq_true_iff]; omega
    go_enter Tryd.func6, Tryd.ntmps6
    go_wp2_with (go_at_call 8; refine (HAW.out _ HG.out).mono ?_; rintro e w1 ⟨rfl, hb1⟩)
    go_ret
    exact ⟨rfl, hb1⟩
  have q1 : decide (1024 < (s.size : Int)) = false := by rw [decide_eq_false_iff_not]; omega
  by_cases c2 : 100 < more.size
  · have q2 : decide (100 < (more.size : Int)) = true := by rw [decide_eq_true_iff]; omega
    go_enter Tryd.func6, Tryd.ntmps6
    go_wp2_with (go_at_call 8; refine (HAW.out _ HG.out).mono ?_; rintro e w1 ⟨rfl, hb1⟩)
    go_ret
    exact ⟨rfl, hb1⟩
  have q2 : decide (100 < (more.size : Int)) = false := by rw [decide_eq_false_iff_not]; omega
  have h1 : s.size ≤ 1024 := by omega
  have h2 : more.size ≤ 100 := by omega
  have HR1 := Lib.hid (raw_any s most w (by omega) HG.out)
  clear c1 c2 hs ht
  cases hr : I.raw s most with
  | error e1 =>
    rw [rawR_err hr] at HR1
    unfold rawT at HR1
    have n0 : e1 ≠ 0 := I.raw_err hr
    have q0 : ((e1 : Int) != 0) = true := by rw [bne_iff_ne]; omega
    clear hr
    go_enter Tryd.func6, Tryd.ntmps6
    go_upto_region 4 with (go_at_call 9; refine HR1.out.mono ?_; rintro e w1 ⟨rfl, hb1⟩)
    have HG1 := Lib.hid (HG.out.keep hb1 HG.out.four)
    unfold bs
    go_wp2_with (go_at_call 8; refine (HAW.out _ HG1.out).mono ?_; rintro e w2 ⟨rfl, hb2⟩)
    go_ret
    exact ⟨rfl, bq_trans hb1 hb2⟩
  | ok r =>
    obtain ⟨o, n⟩ := r
    obtain ⟨r0, r1, r2, r3, r4⟩ := I.raw_ok hr
    obtain ⟨m, rfl⟩ : ∃ m : Nat, most = (m : Int) := ⟨most.toNat, by omega⟩
    have e2 := I.raw_ag hr (I.ag_append s more n r3) (m' := m) (by omega) (by omega)
    have e3 := I.raw_ag hr (I.ag_take s n r3) (m' := o.length) (Nat.le_refl _) (by omega)
    have HR2 := Lib.hid (fun W (h : Gl W) => raw_any (s ++ more) (m : Int) W (by rw [ByteArray.size_append]; omega) h)
    have HR3 := Lib.hid (fun W (h : Gl W) => raw_any (s.extract 0 n) (o.length : Int) W (by rw [ByteArray.size_extract]; omega) h)
    rw [rawR_ok hr] at HR1
    rw [rawR_ok e2] at HR2
    rw [rawR_ok e3] at HR3
    unfold rawT at HR1 HR2 HR3
    have HR4 : Hid (0 < o.length → ∀ W, Gl W → Calls Tryd.prog 9 #[.string s, .int .i64 ((o.length : Int) - 1)] W fun e w' => e = .returned (rawT [] 0 7) ∧ Below W.heap.size W w') := Lib.hid (fun h0 W h => by
      have e4 := I.raw_lim hr (m' := o.length - 1) (by omega) (by omega)
      have := raw_any s ((o.length - 1 : Nat) : Int) W (by omega) h
      rw [rawR_err e4] at this
      rw [show ((o.length : Int) - 1) = ((o.length - 1 : Nat) : Int) by omega]
      exact this)
    unfold rawT at HR4
    obtain ⟨A, hA⟩ : ∃ A, A = bs o := ⟨_, rfl⟩
    have hAs : o.length = A.size := by rw [hA]; rfl
    rw [← hA] at HR1 HR2 HR3
    rw [hAs] at HR3 HR4 r4
    have hAm : A.size ≤ m := by omega
    have hm2 : m ≤ 262144 := by omega
    have q3 : decide ((m : Int) < (A.size : Int)) = false := by rw [decide_eq_false_iff_not]; omega
    have q4 : decide ((n : Int) < 1) = false := by rw [decide_eq_false_iff_not]; omega
    have q5 : decide ((s.size : Int) < (n : Int)) = false := by rw [decide_eq_false_iff_not]; omega
    have q6 : decide (s.size < n) = false := by rw [decide_eq_false_iff_not]; omega
    have q7 : decide (m < A.size) = false := by rw [decide_eq_false_iff_not]; omega
    clear hr e2 e3 hA hAs
    go_enter Tryd.func6, Tryd.ntmps6
    go_upto_region 4 with (go_at_call 9; refine HR1.out.mono ?_; rintro e w1 ⟨rfl, hb1⟩)
    have HG1 := Lib.hid (HG.out.keep hb1 HG.out.four)
    have HB1 := Lib.hid hb1
    clear hb1 HR1
    go_upto_region 9 with (go_at_call 9; refine (HR2.out _ HG1.out).mono ?_; rintro e w2 ⟨rfl, hb2⟩)
    have HB2 := Lib.hid (bq_trans HB1.out hb2)
    have HG2 := Lib.hid (HG.out.keep HB2.out HG.out.four)
    clear hb2 HR2
    go_upto_region 10 with (go_at_call 9; refine (HR3.out _ HG2.out).mono ?_; rintro e w3 ⟨rfl, hb3⟩)
    have HB3 := Lib.hid (bq_trans HB2.out hb3)
    have HG3 := Lib.hid (HG.out.keep HB3.out HG.out.four)
    clear hb3 HR3
    by_cases hA0 : 0 < A.size
    · have H4 := Lib.hid (HR4.out hA0 w3 HG3.out)
      have q8 : decide (0 < (A.size : Int)) = true := by rw [decide_eq_true_iff]; omega
      have q9 : decide (0 < A.size) = true := by rw [decide_eq_true_iff]; exact hA0
      go_upto_region 14 with (go_at_call 9; refine H4.out.mono ?_; rintro e w4 ⟨rfl, hb4⟩)
      have HB4 := Lib.hid (bq_trans HB3.out hb4)
      have HG4 := Lib.hid (HG.out.keep HB4.out HG.out.four)
      clear hb4 H4 HR4
      go_wp2_with (go_at_call 8; refine (HAW.out _ HG4.out).mono ?_; rintro e w5 ⟨rfl, hb5⟩)
      go_ret
      exact ⟨rfl, bq_trans HB4.out hb5⟩
    · have q8 : decide (0 < (A.size : Int)) = false := by rw [decide_eq_false_iff_not]; omega
      have q9 : decide (0 < A.size) = false := by rw [decide_eq_false_iff_not]; exact hA0
      clear HR4
      go_wp2_with (go_at_call 8; refine (HAW.out _ HG3.out).mono ?_; rintro e w5 ⟨rfl, hb5⟩)
      go_ret
      exact ⟨rfl, bq_trans HB3.out hb5⟩
end Go.Proofs.YtmbnmfhfeaagaaaDoor
