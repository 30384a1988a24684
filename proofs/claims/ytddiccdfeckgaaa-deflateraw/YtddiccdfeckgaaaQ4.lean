import Derived.Test.YtddiccdfeckgaaaQ3
/- Layer 6: the document's Run. -/
namespace Go.Proofs.Ytddiccdfeckgaaa
open Go.RowKit
set_option maxRecDepth 100000
set_option linter.unusedVariables false
set_option linter.unusedSimpArgs false
def RrunRel (w : World) (s : ByteArray) (a K : Nat) (x y i : Value) (wr : World) : Prop :=
  ∃ j, 1 ≤ j ∧ j ≤ K + 1 ∧ i = .int .i64 (j : Int) ∧ x = .int .i64 ((D.best s a (j - 1)).1 : Int) ∧ y = .int .i64 ((D.best s a (j - 1)).2 : Int) ∧ Below w.heap.size w wr
def RmtRel (w : World) (s : ByteArray) (a far M : Nat) (i : Value) (wr : World) : Prop :=
  ∃ n, n ≤ 258 ∧ a + n ≤ s.size ∧ i = .int .i64 (n : Int) ∧ D.mtF s a far (258 - n) n = M ∧ Below w.heap.size w wr
set_option maxHeartbeats 2000000 in
theorem rrun_any (s : ByteArray) (a : Nat) (w : World) (hs : s.size ≤ 1099511627776) (ha : a < s.size) :
    Calls Try.prog 9 #[.string s, .int .i64 (a : Int)] w fun e w' => e = .returned (pairV (D.run s a)) ∧ Below w.heap.size w w' := by
  obtain ⟨K, hK⟩ : ∃ K, K = min a 32768 := ⟨_, rfl⟩
  obtain ⟨R, hR⟩ : ∃ R, R = D.cut3 (D.best s a K) := ⟨_, rfl⟩
  have hRV : D.run s a = R := by rw [hR, hK]; rfl
  rw [hRV]
  have HR := Lib.hid hR
  have HK := Lib.hid hK
  have q : decide ((a : Int) < 0) = false := by rw [decide_eq_false_iff_not]; omega
  clear hK hR hRV
  go_enter Try.func9, Try.ntmps9
  go_wp2
  go_loopw [6, 7, 8] (fun x y i wr => RrunRel w s a K x y i wr) (fun _ _ i _ => K + 1 - (intOf i).toNat)
  case atStart => exact ⟨1, Nat.le_refl _, by omega, rfl, rfl, rfl, bq_refl _⟩
  case round =>
    obtain ⟨j, hj1, hj2, rfl, rfl, rfl, hB⟩ := hrel
    have HB := Lib.hid hB
    have hbf := D.best_far s a (j - 1)
    obtain ⟨x, hx⟩ : ∃ x, x = (D.best s a (j - 1)).1 := ⟨_, rfl⟩
    obtain ⟨y, hy⟩ : ∃ y, y = (D.best s a (j - 1)).2 := ⟨_, rfl⟩
    have hxy : D.best s a (j - 1) = (x, y) := by rw [hx, hy]
    have HXY := Lib.hid hxy
    rw [← hx, ← hy] at hbf ⊢
    obtain ⟨hy9, _, hx9⟩ := hbf
    clear hx hy hxy hB
    by_cases hjK : j ≤ K
    · have t0 : decide ((j : Int) ≤ (a : Int)) = true := by have := HK.out; rw [decide_eq_true_iff]; omega
      have t1 : decide ((j : Int) ≤ 32768) = true := by have := HK.out; rw [decide_eq_true_iff]; omega
      have t2 : decide (j ≤ a) = true := by have := HK.out; rw [decide_eq_true_iff]; omega
      have hja : j ≤ a := by have := HK.out; omega
      have hj9 : j ≤ 32768 := by have := HK.out; omega
      obtain ⟨M, hM⟩ : ∃ M, M = D.mt s a j := ⟨_, rfl⟩
      have hst : D.best s a j = if x < M then (M, j) else (x, y) := by
        obtain ⟨k, rfl⟩ : ∃ k, j = k + 1 := ⟨j - 1, by omega⟩
        have h1 := HXY.out
        rw [show k + 1 - 1 = k by omega] at h1
        rw [D.best, h1, ← hM]
      have HST := Lib.hid hst
      have HM := Lib.hid hM
      clear hM hst
      go_wp2
      go_loopw [9] (fun i wq => RmtRel wr s a j M i wq) (fun i _ => 258 - (intOf i).toNat)
      case atStart => exact ⟨0, by omega, by omega, rfl, HM.out.symm, bq_refl _⟩
      case round =>
        rename_i wo
        obtain ⟨n, hn, han9, rfl, hmt, hB2⟩ := hrel
        have HB2 := Lib.hid hB2
        clear hB2
        obtain ⟨an, han⟩ : ∃ z, z = a + n := ⟨_, rfl⟩
        have e1 : (a : Int) + (n : Int) = (an : Int) := by omega
        by_cases hn258 : n < 258
        · have u0 : decide ((n : Int) < 258) = true := by rw [decide_eq_true_iff]; omega
          by_cases hsz : an < s.size
          · have u1 : decide ((an : Int) < (s.size : Int)) = true := by rw [decide_eq_true_iff]; omega
            have u2 : decide (an < s.size) = true := by rw [decide_eq_true_iff]; omega
            obtain ⟨bn, hbn⟩ : ∃ z, z = an - j := ⟨_, rfl⟩
            have e2 : (an : Int) - (j : Int) = (bn : Int) := by omega
            have i1 : bn < s.size := by omega
            have i3 : (bn : Int) < (s.size : Int) := by omega
            have i4 : (an : Int) < (s.size : Int) := by omega
            have i5 : (0 : Int) ≤ (bn : Int) := by omega
            have i6 : (0 : Int) ≤ (an : Int) := by omega
            have heq : D.eqn s a j n ↔ s[an].toNat = s[bn].toNat := by
              unfold D.eqn
              rw [← han, ← hbn, D.at8_at s an hsz, D.at8_at s bn i1]
              exact ⟨fun h => h.2, fun h => ⟨hsz, h⟩⟩
            by_cases hd : s[an].toNat = s[bn].toNat
            · have p1 : ((s[an].toNat : Int) == (s[bn].toNat : Int)) = true := by rw [beq_iff_eq]; omega
              have p2 : (s[an].toNat == s[bn].toNat) = true := by rw [beq_iff_eq]; omega
              have HMT : Hid (D.mtF s a j (258 - (n + 1)) (n + 1) = M) := Lib.hid (by
                rw [show 258 - n = (258 - (n + 1)) + 1 by omega, D.mtF, if_pos (heq.2 hd)] at hmt
                exact hmt)
              have HSZ : Hid (a + (n + 1) ≤ s.size) := Lib.hid (by omega)
              clear hmt heq hd han hbn
              go_upto_region 8 with (fail)
              go_quiet (fail)
              go_wp2
              go_roundw
              case rel => exact ⟨n + 1, by omega, HSZ.out, by go_num, HMT.out, bq_drewN HB2.out nq⟩
              case measure => simp [intOf]; omega
            · have p1 : ((s[an].toNat : Int) == (s[bn].toNat : Int)) = false := by rw [beq_eq_false_iff_ne]; omega
              have p2 : (s[an].toNat == s[bn].toNat) = false := by rw [beq_eq_false_iff_ne]; omega
              have hMn : M = n := by
                rw [show 258 - n = (258 - (n + 1)) + 1 by omega, D.mtF, if_neg (fun h => hd (heq.1 h))] at hmt
                exact hmt.symm
              have HMN := Lib.hid hMn
              clear hmt heq hd han hbn hMn
              go_upto_region 8 with (fail)
              go_quiet (fail)
              by_cases hxn : x < n
              · have HBJ : Hid (D.best s a j = (n, j)) := Lib.hid (by rw [HST.out, HMN.out, if_pos hxn])
                have v0 : decide ((x : Int) < (n : Int)) = true := by rw [decide_eq_true_iff]; omega
                go_wp2
                go_roundw
                case rel => exact ⟨j + 1, by omega, by omega, by go_num, by rw [show j + 1 - 1 = j by omega, HBJ.out], by rw [show j + 1 - 1 = j by omega, HBJ.out], bq_drewN (bq_trans HB.out HB2.out) nq⟩
                case measure => simp [intOf]; omega
              · have HBJ : Hid (D.best s a j = (x, y)) := Lib.hid (by rw [HST.out, HMN.out, if_neg hxn])
                have v0 : decide ((x : Int) < (n : Int)) = false := by rw [decide_eq_false_iff_not]; omega
                go_wp2
                go_roundw
                case rel => exact ⟨j + 1, by omega, by omega, by go_num, by rw [show j + 1 - 1 = j by omega, HBJ.out], by rw [show j + 1 - 1 = j by omega, HBJ.out], bq_drewN (bq_trans HB.out HB2.out) nq⟩
                case measure => simp [intOf]; omega
          · have u1 : decide ((an : Int) < (s.size : Int)) = false := by rw [decide_eq_false_iff_not]; omega
            have u2 : decide (an < s.size) = false := by rw [decide_eq_false_iff_not]; omega
            have hMn : M = n := by
              rw [show 258 - n = (258 - (n + 1)) + 1 by omega, D.mtF, if_neg (fun h => by have := h.1; omega)] at hmt
              exact hmt.symm
            have HMN := Lib.hid hMn
            clear hmt han hMn
            go_upto_region 8 with (fail)
            go_quiet (fail)
            by_cases hxn : x < n
            · have HBJ : Hid (D.best s a j = (n, j)) := Lib.hid (by rw [HST.out, HMN.out, if_pos hxn])
              have v0 : decide ((x : Int) < (n : Int)) = true := by rw [decide_eq_true_iff]; omega
              go_wp2
              go_roundw
              case rel => exact ⟨j + 1, by omega, by omega, by go_num, by rw [show j + 1 - 1 = j by omega, HBJ.out], by rw [show j + 1 - 1 = j by omega, HBJ.out], bq_drewN (bq_trans HB.out HB2.out) nq⟩
              case measure => simp [intOf]; omega
            · have HBJ : Hid (D.best s a j = (x, y)) := Lib.hid (by rw [HST.out, HMN.out, if_neg hxn])
              have v0 : decide ((x : Int) < (n : Int)) = false := by rw [decide_eq_false_iff_not]; omega
              go_wp2
              go_roundw
              case rel => exact ⟨j + 1, by omega, by omega, by go_num, by rw [show j + 1 - 1 = j by omega, HBJ.out], by rw [show j + 1 - 1 = j by omega, HBJ.out], bq_drewN (bq_trans HB.out HB2.out) nq⟩
              case measure => simp [intOf]; omega
        · have u0 : decide ((n : Int) < 258) = false := by rw [decide_eq_false_iff_not]; omega
          have hMn : M = n := by
            obtain rfl : n = 258 := by omega
            exact hmt.symm
          have HMN := Lib.hid hMn
          clear hmt han hMn
          go_upto_region 8 with (fail)
          go_quiet (fail)
          by_cases hxn : x < n
          · have HBJ : Hid (D.best s a j = (n, j)) := Lib.hid (by rw [HST.out, HMN.out, if_pos hxn])
            have v0 : decide ((x : Int) < (n : Int)) = true := by rw [decide_eq_true_iff]; omega
            go_wp2
            go_roundw
            case rel => exact ⟨j + 1, by omega, by omega, by go_num, by rw [show j + 1 - 1 = j by omega, HBJ.out], by rw [show j + 1 - 1 = j by omega, HBJ.out], bq_drewN (bq_trans HB.out HB2.out) nq⟩
            case measure => simp [intOf]; omega
          · have HBJ : Hid (D.best s a j = (x, y)) := Lib.hid (by rw [HST.out, HMN.out, if_neg hxn])
            have v0 : decide ((x : Int) < (n : Int)) = false := by rw [decide_eq_false_iff_not]; omega
            go_wp2
            go_roundw
            case rel => exact ⟨j + 1, by omega, by omega, by go_num, by rw [show j + 1 - 1 = j by omega, HBJ.out], by rw [show j + 1 - 1 = j by omega, HBJ.out], bq_drewN (bq_trans HB.out HB2.out) nq⟩
            case measure => simp [intOf]; omega
    · have hjj : j - 1 = K := by omega
      have hR2 : R = D.cut3 (x, y) := by rw [HR.out, ← hjj, HXY.out]
      have HR2 := Lib.hid hR2
      have hjo : a < j ∨ 32768 < j := by have := HK.out; omega
      clear hR2 hjj
      by_cases hx3 : x < 3
      · have HR3 : Hid (R = (0, 0)) := Lib.hid (by rw [HR2.out]; unfold D.cut3; rw [if_pos hx3])
        have t3 : decide ((x : Int) < 3) = true := by rw [decide_eq_true_iff]; omega
        by_cases hja : j ≤ a
        · have t0 : decide ((j : Int) ≤ (a : Int)) = true := by rw [decide_eq_true_iff]; omega
          have t1 : decide ((j : Int) ≤ 32768) = false := by rw [decide_eq_false_iff_not]; omega
          have t2 : decide (j ≤ a) = true := by rw [decide_eq_true_iff]; omega
          go_wp2
          go_ret2
          exact ⟨by rw [HR3.out]; rfl, HB.out⟩
        · have t0 : decide ((j : Int) ≤ (a : Int)) = false := by rw [decide_eq_false_iff_not]; omega
          have t2 : decide (j ≤ a) = false := by rw [decide_eq_false_iff_not]; omega
          go_wp2
          go_ret2
          exact ⟨by rw [HR3.out]; rfl, HB.out⟩
      · have HR3 : Hid (R = (x, y)) := Lib.hid (by rw [HR2.out]; unfold D.cut3; rw [if_neg hx3])
        have t3 : decide ((x : Int) < 3) = false := by rw [decide_eq_false_iff_not]; omega
        by_cases hja : j ≤ a
        · have t0 : decide ((j : Int) ≤ (a : Int)) = true := by rw [decide_eq_true_iff]; omega
          have t1 : decide ((j : Int) ≤ 32768) = false := by rw [decide_eq_false_iff_not]; omega
          have t2 : decide (j ≤ a) = true := by rw [decide_eq_true_iff]; omega
          go_wp2
          go_ret2
          exact ⟨by rw [HR3.out]; rfl, HB.out⟩
        · have t0 : decide ((j : Int) ≤ (a : Int)) = false := by rw [decide_eq_false_iff_not]; omega
          have t2 : decide (j ≤ a) = false := by rw [decide_eq_false_iff_not]; omega
          go_wp2
          go_ret2
          exact ⟨by rw [HR3.out]; rfl, HB.out⟩
end Go.Proofs.Ytddiccdfeckgaaa
