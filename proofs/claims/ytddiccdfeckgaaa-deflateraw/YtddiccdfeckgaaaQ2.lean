import Derived.Test.YtddiccdfeckgaaaQ1
/- Layer 6: a search is asked. -/
namespace Go.Proofs.Ytddiccdfeckgaaa
open Go.RowKit
set_option maxRecDepth 100000
set_option linter.unusedVariables false
set_option linter.unusedSimpArgs false
theorem turned_drewN {g : Nat} {w w' : World} (h : Turned g w w') (n : Nat) : Turned g w (w'.drewN n) := ⟨h.os, h.tape, h.output, h.size, h.block⟩
theorem turned_refl (g : Nat) (w : World) : Turned g w w := ⟨rfl, rfl, rfl, rfl, fun _ _ => rfl⟩
theorem turned_trans {g : Nat} {w w' w'' : World} (h : Turned g w w') (k : Turned g w' w'') : Turned g w w'' := ⟨k.os.trans h.os, k.tape.trans h.tape, k.output.trans h.output, k.size.trans h.size, fun i hi => (k.block i hi).trans (h.block i hi)⟩
/-- what a search holds behind a question -/
def D.ask (s : ByteArray) (a l d far : Nat) : Nat × Nat := if l < D.mt s a far then (D.mt s a far, far) else (l, d)
def AkRel (w : World) (b : Nat) (s : ByteArray) (a m l d far M : Nat) (i : Value) (wr : World) : Prop :=
  ∃ n, n ≤ m ∧ i = .int .i64 (n : Int) ∧ D.mtF s a far (258 - n) n = M ∧ Sc wr b s a m l d ∧ Turned b w wr
set_option maxHeartbeats 2000000 in
theorem ask_any {w : World} {b : Nat} {s : ByteArray} {a m l d far : Nat} (h : Sc w b s a m l d) (hs : s.size ≤ 1099511627776) (ha : a < s.size) (hm : m = min 258 (s.size - a)) (hl : l < m) (h1 : 1 ≤ far) (h2 : far ≤ a) :
    Calls Try.prog 16 #[.pointer (some ⟨b, 0, none⟩), .int .i64 (far : Int)] w fun e w' => e = .returned (.tuple #[]) ∧ Sc w' b s a m (D.ask s a l d far).1 (D.ask s a l d far).2 ∧ Turned b w w' := by
  obtain ⟨c0, c1, c2, c3, c4⟩ := h.cells
  have HS := Lib.hid h
  obtain ⟨f, hf⟩ : ∃ f, f = a - far := ⟨_, rfl⟩
  have e1 : (a : Int) - (far : Int) = (f : Int) := by omega
  obtain ⟨fl, hfl⟩ : ∃ x, x = f + l := ⟨_, rfl⟩
  have e2 : (f : Int) + (l : Int) = (fl : Int) := by omega
  obtain ⟨al, hal⟩ : ∃ x, x = a + l := ⟨_, rfl⟩
  have e3 : (a : Int) + (l : Int) = (al : Int) := by omega
  have i1 : fl < s.size := by omega
  have i2 : al < s.size := by omega
  have i3 : (fl : Int) < (s.size : Int) := by omega
  have i4 : (al : Int) < (s.size : Int) := by omega
  have i5 : (0 : Int) ≤ (fl : Int) := by omega
  have i6 : (0 : Int) ≤ (al : Int) := by omega
  have ha9 : a ≤ 1099511627776 := by omega
  have hm9 : m ≤ 258 := by omega
  by_cases hd : s[al].toNat = s[fl].toNat
  rotate_left
  · have hsk : D.ask s a l d far = (l, d) := by
      have hmt : D.mt s a far ≤ l := D.mt_skip s a far (k := l) (by rw [← hal, show al - far = fl by omega, D.at8_at s al i2, D.at8_at s fl i1]; exact hd)
      unfold D.ask
      rw [if_neg (by omega)]
    have HSK := Lib.hid hsk
    have q : ((s[fl].toNat : Int) != (s[al].toNat : Int)) = true := by rw [bne_iff_ne]; omega
    have q' : (s[fl].toNat != s[al].toNat) = true := by rw [bne_iff_ne]; omega
    clear h hsk hd hfl hal hf hm
    go_enter Try.func16, Try.ntmps16
    go_upto_region 1 with (fail)
    go_quiet (fail)
    go_wp2
    refine bodyPost_ret (results_none rfl _ _ _) rfl ?_
    rw [HSK.out]
    exact ⟨rfl, Blk.drewN HS.out nq, turned_drewN (turned_refl _ _) nq⟩
  · have q : ((s[fl].toNat : Int) != (s[al].toNat : Int)) = false := by rw [bne_eq_false_iff_eq]; omega
    have q' : (s[fl].toNat != s[al].toNat) = false := by rw [bne_eq_false_iff_eq]; omega
    obtain ⟨M, hM⟩ : ∃ M, M = D.mt s a far := ⟨_, rfl⟩
    have HM : Hid (D.ask s a l d far = if l < M then (M, far) else (l, d)) := Lib.hid (by rw [hM]; rfl)
    have HM2 : Hid (D.mtF s a far 258 0 = M) := Lib.hid hM.symm
    have HF := Lib.hid (And.intro hf hm)
    clear h hd hfl hal hf hm hM
    go_enter Try.func16, Try.ntmps16
    go_upto_region 1 with (fail)
    go_quiet (fail)
    have HST : Hid (AkRel w b s a m l d far M (.int .i64 0) (w.drewN nq)) := Lib.hid ⟨0, Nat.zero_le _, rfl, HM2.out, Blk.drewN HS.out nq, turned_drewN (turned_refl _ _) nq⟩
    clear c0 c1 c2 c3 c4 q q' e2 e3 HM2
    generalize w.drewN nq = w1 at *
    go_wp2
    go_loopw [5] (fun i wr => AkRel w b s a m l d far M i wr) (fun i _ => m - (intOf i).toNat)
    case atStart => exact HST.out
    case round =>
      obtain ⟨n, hn, rfl, hmt, hS, hT⟩ := hrel
      clear HST
      obtain ⟨c0, c1, c2, c3, c4⟩ := hS.cells
      have HS2 := Lib.hid hS
      have HT2 := Lib.hid hT
      clear hS hT
      by_cases hnm : n < m
      · obtain ⟨fn, hfn⟩ : ∃ x, x = f + n := ⟨_, rfl⟩
        obtain ⟨an, han⟩ : ∃ x, x = a + n := ⟨_, rfl⟩
        have e2 : (f : Int) + (n : Int) = (fn : Int) := by omega
        have e3 : (a : Int) + (n : Int) = (an : Int) := by omega
        have hf := HF.out.1
        have hm := HF.out.2
        have i1 : fn < s.size := by omega
        have i2 : an < s.size := by omega
        have i3 : (fn : Int) < (s.size : Int) := by omega
        have i4 : (an : Int) < (s.size : Int) := by omega
        have i5 : (0 : Int) ≤ (fn : Int) := by omega
        have i6 : (0 : Int) ≤ (an : Int) := by omega
        have t0 : decide ((n : Int) < (m : Int)) = true := by rw [decide_eq_true_iff]; omega
        have t1 : decide (n < m) = true := by rw [decide_eq_true_iff]; omega
        have heq : D.eqn s a far n ↔ s[fn].toNat = s[an].toNat := by
          unfold D.eqn
          rw [← han, show an - far = fn by omega, D.at8_at s an i2, D.at8_at s fn i1]
          omega
        by_cases hd : s[fn].toNat = s[an].toNat
        · have q : ((s[fn].toNat : Int) == (s[an].toNat : Int)) = true := by rw [beq_iff_eq]; omega
          have q' : (s[fn].toNat == s[an].toNat) = true := by rw [beq_iff_eq]; omega
          have HMT : Hid (D.mtF s a far (258 - (n + 1)) (n + 1) = M) := Lib.hid (by
            rw [show 258 - n = (258 - (n + 1)) + 1 by omega, D.mtF, if_pos (heq.2 hd)] at hmt
            exact hmt)
          clear hmt heq hf hm hfn han hd
          go_upto_region 3 with (fail)
          go_quiet (fail)
          go_wp2
          go_roundw
          case rel => exact ⟨n + 1, by omega, by go_num, HMT.out, Blk.drewN HS2.out nq, turned_drewN HT2.out nq⟩
          case measure => simp [intOf]; omega
        · have q : ((s[fn].toNat : Int) == (s[an].toNat : Int)) = false := by rw [beq_eq_false_iff_ne]; omega
          have q' : (s[fn].toNat == s[an].toNat) = false := by rw [beq_eq_false_iff_ne]; omega
          have hMn : M = n := by
            rw [show 258 - n = (258 - (n + 1)) + 1 by omega, D.mtF, if_neg (fun h => hd (heq.1 h))] at hmt
            exact hmt.symm
          have HMN := Lib.hid hMn
          clear hmt heq hf hm hfn han hd hMn
          go_upto_region 3 with (fail)
          go_quiet (fail)
          have HS3 := Lib.hid (Blk.drewN HS2.out nq)
          have HT3 := Lib.hid (turned_drewN HT2.out nq)
          clear c0 c1 c2 c3 c4 HS2 HT2
          generalize wr.drewN nq = W3 at *
          obtain ⟨c0, c1, c2, c3, c4⟩ := Sc.cells HS3.out
          by_cases hlM : l < n
          · have HR : Hid (D.ask s a l d far = (n, far)) := Lib.hid (by rw [HM.out, HMN.out, if_pos hlM])
            have t2 : decide ((l : Int) < (n : Int)) = true := by rw [decide_eq_true_iff]; omega
            have f3 := (Blk.frozen HS3.out) 3
            have f4 := (Blk.frozen HS3.out) 4
            have HSS := Lib.hid (Sc.set HS3.out n far)
            have HTT := Lib.hid (turned_trans (turned_trans HT3.out (turned_set _ ⟨b, 3, none⟩ (.int .i64 (n : Int)))) (turned_set _ ⟨b, 4, none⟩ (.int .i64 (far : Int))))
            go_wp2
            go_end0
            rw [HR.out]
            exact ⟨rfl, HSS.out, HTT.out⟩
          · have HR : Hid (D.ask s a l d far = (l, d)) := Lib.hid (by rw [HM.out, HMN.out, if_neg hlM])
            have t2 : decide ((l : Int) < (n : Int)) = false := by rw [decide_eq_false_iff_not]; omega
            go_wp2
            go_end0
            rw [HR.out]
            exact ⟨rfl, HS3.out, HT3.out⟩
      · have t0 : decide ((n : Int) < (m : Int)) = false := by rw [decide_eq_false_iff_not]; omega
        have t1 : decide (n < m) = false := by rw [decide_eq_false_iff_not]; omega
        have hMn : M = n := by
          have hm := HF.out.2
          by_cases h258 : n = 258
          · rw [h258] at hmt
            rw [h258]
            exact hmt.symm
          · rw [show 258 - n = (258 - (n + 1)) + 1 by omega, D.mtF, if_neg (fun h => by have := h.1; omega)] at hmt
            exact hmt.symm
        have HMN := Lib.hid hMn
        clear hmt hMn
        go_upto_region 3 with (fail)
        go_quiet (fail)
        have HS3 := Lib.hid (Blk.drewN HS2.out nq)
        have HT3 := Lib.hid (turned_drewN HT2.out nq)
        clear c0 c1 c2 c3 c4 HS2 HT2
        generalize wr.drewN nq = W3 at *
        obtain ⟨c0, c1, c2, c3, c4⟩ := Sc.cells HS3.out
        by_cases hlM : l < n
        · have HR : Hid (D.ask s a l d far = (n, far)) := Lib.hid (by rw [HM.out, HMN.out, if_pos hlM])
          have t2 : decide ((l : Int) < (n : Int)) = true := by rw [decide_eq_true_iff]; omega
          have f3 := (Blk.frozen HS3.out) 3
          have f4 := (Blk.frozen HS3.out) 4
          have HSS := Lib.hid (Sc.set HS3.out n far)
          have HTT := Lib.hid (turned_trans (turned_trans HT3.out (turned_set _ ⟨b, 3, none⟩ (.int .i64 (n : Int)))) (turned_set _ ⟨b, 4, none⟩ (.int .i64 (far : Int))))
          go_wp2
          go_end0
          rw [HR.out]
          exact ⟨rfl, HSS.out, HTT.out⟩
        · exact absurd (show l < n by omega) hlM
end Go.Proofs.Ytddiccdfeckgaaa
