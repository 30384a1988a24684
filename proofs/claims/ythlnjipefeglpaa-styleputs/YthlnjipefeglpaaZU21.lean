import Derived.Test.YthlnjipefeglpaaZU20
namespace Go.Proofs.Ythlnjipefeglpaa
open Go.RowKit
set_option linter.unusedVariables false
set_option maxRecDepth 100000
theorem reffill_any (F : FV) (s : Value) (w : World) (hF : F.Fit) (hs : Stops w s F.st) :
    Calls Try.prog 10 #[.agg (fillC F s).toArray] w fun e w' => e = .returned (.bool (fillOk F)) ∧ Below w.heap.size w w' := by
  obtain ⟨k, c, m, sp, st, id⟩ := F
  obtain ⟨ik, lc, lm, isp, iid, bc, bm⟩ := hF
  dsimp only at ik lc lm isp iid bc bm hs
  obtain ⟨r, g, b, a, rfl⟩ := list4 c lc
  obtain ⟨m0, m1, m2, m3, m4, m5, rfl⟩ := list6 m lm
  have hs0 := hs
  obtain ⟨sa, sc, sb, so, rfl, hl, _⟩ := hs.get
  have HR := fun W => refrgba_any r g b a W (bc r (by simp)) (bc g (by simp)) (bc b (by simp)) (bc a (by simp))
  have HM := fun W => refmatrix_any m0 m1 m2 m3 m4 m5 W
  have E1 := fun W => qRG r g b a 0 0 0 0 W
  have E2 := fun W => qMT m0 m1 m2 m3 m4 m5 0 0 0 0 0 0 W
  have LN : ∀ v, decide (st.length = 0) = v → ((st.length : Int) == 0) = v := fun v h => by rw [← h]; exact decide_eq_decide.2 (by omega)
  by_cases k0 : k = 0
  · subst k0
    have e : fillOk ⟨0, [r, g, b, a], [m0, m1, m2, m3, m4, m5], sp, st, id⟩ = (decide ([m0, m1, m2, m3, m4, m5] = [0, 0, 0, 0, 0, 0]) && decide (sp = 0) && decide (id = 0) && decide (st.length = 0) && rgbaOk r g b a) := if_pos rfl
    rw [e]
    cases b0 : decide ([m0, m1, m2, m3, m4, m5] = [0, 0, 0, 0, 0, 0]) <;> rw [b0] at E2
    · exact fill0_0 id sp r g b a m0 m1 m2 m3 m4 m5 st sa sc w hl E2
    cases b1 : decide (sp = 0)
    · exact fill0_1 id sp r g b a m0 m1 m2 m3 m4 m5 st sa sc w hl E2 b1
    cases b2 : decide (id = 0)
    · exact fill0_2 id sp r g b a m0 m1 m2 m3 m4 m5 st sa sc w hl E2 b1 b2
    cases b3 : decide (st.length = 0)
    · exact fill0_3 id sp r g b a m0 m1 m2 m3 m4 m5 st sa sc w hl E2 b1 b2 (LN _ b3)
    · exact fill0_4 id sp r g b a m0 m1 m2 m3 m4 m5 st sa sc w hl _ E2 b1 b2 (LN _ b3) (Lib.hid HR)
  by_cases k64 : k = 64 ∨ k = 65
  · have e : fillOk ⟨k, [r, g, b, a], [m0, m1, m2, m3, m4, m5], sp, st, id⟩ = (decide ([r, g, b, a] = [0, 0, 0, 0]) && decide (sp = 0) && decide (st.length = 0) && decide (0 ≤ id) && decide (id < 65536) && matOk m0 m1 m2 m3 m4 m5) := (if_neg k0).trans (if_pos k64)
    rw [e]
    rcases k64 with rfl | rfl
    · cases b0 : decide ([r, g, b, a] = [0, 0, 0, 0]) <;> rw [b0] at E1
      · exact fill64_0 id sp r g b a m0 m1 m2 m3 m4 m5 st sa sc w hl E1
      cases b1 : decide (sp = 0)
      · exact fill64_1 id sp r g b a m0 m1 m2 m3 m4 m5 st sa sc w hl E1 b1
      cases b2 : decide (st.length = 0)
      · exact fill64_2 id sp r g b a m0 m1 m2 m3 m4 m5 st sa sc w hl E1 b1 (LN _ b2)
      cases b3 : decide (0 ≤ id)
      · exact fill64_3 id sp r g b a m0 m1 m2 m3 m4 m5 st sa sc w hl E1 b1 (LN _ b2) b3
      cases b4 : decide (id < 65536)
      · exact fill64_4 id sp r g b a m0 m1 m2 m3 m4 m5 st sa sc w hl E1 b1 (LN _ b2) b3 b4
      · exact fill64_5 id sp r g b a m0 m1 m2 m3 m4 m5 st sa sc w hl _ E1 b1 (LN _ b2) b3 b4 (Lib.hid HM)
    · cases b0 : decide ([r, g, b, a] = [0, 0, 0, 0]) <;> rw [b0] at E1
      · exact fill65_0 id sp r g b a m0 m1 m2 m3 m4 m5 st sa sc w hl E1
      cases b1 : decide (sp = 0)
      · exact fill65_1 id sp r g b a m0 m1 m2 m3 m4 m5 st sa sc w hl E1 b1
      cases b2 : decide (st.length = 0)
      · exact fill65_2 id sp r g b a m0 m1 m2 m3 m4 m5 st sa sc w hl E1 b1 (LN _ b2)
      cases b3 : decide (0 ≤ id)
      · exact fill65_3 id sp r g b a m0 m1 m2 m3 m4 m5 st sa sc w hl E1 b1 (LN _ b2) b3
      cases b4 : decide (id < 65536)
      · exact fill65_4 id sp r g b a m0 m1 m2 m3 m4 m5 st sa sc w hl E1 b1 (LN _ b2) b3 b4
      · exact fill65_5 id sp r g b a m0 m1 m2 m3 m4 m5 st sa sc w hl _ E1 b1 (LN _ b2) b3 b4 (Lib.hid HM)
  by_cases k16 : k = 16 ∨ k = 18
  · have e : fillOk ⟨k, [r, g, b, a], [m0, m1, m2, m3, m4, m5], sp, st, id⟩ = (stopsFrom 0 st && decide ([r, g, b, a] = [0, 0, 0, 0]) && decide (id = 0) && decide (0 ≤ sp) && decide (sp < 3) && decide (0 < st.length) && decide (st.length < 9) && matOk m0 m1 m2 m3 m4 m5) := (if_neg k0).trans ((if_neg k64).trans (if_pos k16))
    have e9 : decide ((st.length : Int) < 9) = decide (st.length < 9) := decide_eq_decide.2 (by omega)
    rw [e]
    rcases k16 with rfl | rfl
    · exact fill16_any id sp r g b a m0 m1 m2 m3 m4 m5 st sa sc w hl hs0 _ _ _ _ _ _ _ E1 rfl rfl rfl rfl e9 (Lib.hid HM)
    · exact fill18_any id sp r g b a m0 m1 m2 m3 m4 m5 st sa sc w hl hs0 _ _ _ _ _ _ _ E1 rfl rfl rfl rfl e9 (Lib.hid HM)
  · have e : fillOk ⟨k, [r, g, b, a], [m0, m1, m2, m3, m4, m5], sp, st, id⟩ = false := (if_neg k0).trans ((if_neg k64).trans (if_neg k16))
    rw [e]
    exact fill_none k id sp r g b a m0 m1 m2 m3 m4 m5 st sa sc w hl (beq_eq_false_iff_ne.2 k0) (beq_eq_false_iff_ne.2 fun h => k64 (Or.inl h)) (beq_eq_false_iff_ne.2 fun h => k64 (Or.inr h)) (beq_eq_false_iff_ne.2 fun h => k16 (Or.inl h)) (beq_eq_false_iff_ne.2 fun h => k16 (Or.inr h))
theorem refright8_any (Fs : List FV) (xs : List (List Int)) (fv sv : Value) (w : World) (hf : Fills w fv Fs) (hs : Strokes w sv xs) :
    Calls Try.prog 17 #[fv, sv] w fun e w' => e = .returned (.bool (listsOk Fs xs)) ∧ Below w.heap.size w w' :=
  refright8_of Fs xs fv sv w hf hs (Lib.hid fun F s W h1 h2 => reffill_any F s W h1 h2)
def smallOk (Fs : List FV) (xs : List (List Int)) : Bool := Fs.all (fun F => decide (F.st.length ≤ 20)) && decide (Fs.length < 30) && decide (xs.length < 30)
def SmRel (Fs : List FV) (i : Value) : Prop := ∃ k : Nat, k ≤ Fs.length ∧ i = .int .i64 k ∧ (Fs.take k).all (fun F => decide (F.st.length ≤ 20)) = true
set_option maxHeartbeats 1000000 in
theorem refsmall_any (Fs : List FV) (xs : List (List Int)) (fv sv : Value) (w : World) (hf : Fills w fv Fs) (hs : Strokes w sv xs) :
    Calls Try.prog 15 #[fv, sv] w fun e w' => e = .returned (.bool (smallOk Fs xs)) ∧ w = w' := by
  obtain ⟨fa, fc, fb, fo, rfl, fl, fget⟩ := hf.get
  obtain ⟨sa, sc, sb, so, rfl, sl, _⟩ := hs.get
  have FG := Lib.hid fget
  clear hf hs fget
  go_enter Try.func15, Try.ntmps15
  go_wp2
  go_loop [5] (fun i => SmRel Fs i) (fun i => Fs.length - (intOf i).toNat)
  case atStart => exact ⟨0, by omega, rfl, rfl⟩
  case round =>
    obtain ⟨k, hk, rfl, hall⟩ := hrel
    have HA := Lib.hid hall
    clear hall
    by_cases hlt : k < Fs.length
    · obtain ⟨rfl, hblt, cs, hcs, ⟨hfit, s, rfl, hst⟩, hrg⟩ := FG.out k hlt
      have HT := Lib.hid (allT (fun F : FV => decide (F.st.length ≤ 20)) Fs k hlt HA.out)
      have HN := Lib.hid (allF (fun F : FV => decide (F.st.length ≤ 20)) Fs k hlt)
      obtain ⟨ta, tc, tb, tq, rfl, tl, _⟩ := hst.get
      have hat : (fillC Fs[k] (.slice ta Fs[k].st.length tc))[12]? = some (.slice ta Fs[k].st.length tc) := by
        obtain ⟨r, g, b, a, hc⟩ := list4 _ hfit.c
        obtain ⟨m0, m1, m2, m3, m4, m5, hm⟩ := list6 _ hfit.m
        unfold fillC
        rw [hc, hm]; rfl
      have c12 : w.cell? ⟨fb, fo + k * 14 + 12, none⟩ = some (.slice ta Fs[k].st.length tc) := hrg 12 _ hat
      clear hrg hst hfit hcs hat
      generalize Fs[k] = F at *
      by_cases q : F.st.length ≤ 20
      · have HT2 := Lib.hid (HT.out (decide_eq_true q))
        have q2 : ¬ ((20 : Int) < (F.st.length : Int)) := by omega
        clear HT HN HA
        go_wp2
        go_round
        case rel => exact ⟨k + 1, by omega, by go_num, HT2.out⟩
        case measure => simp [intOf]; omega
      · have HL : Hid (smallOk Fs xs = false) := Lib.hid (by unfold smallOk; rw [HN.out (decide_eq_false q)]; rfl)
        have q2 : (20 : Int) < (F.st.length : Int) := by omega
        clear HT HN HA
        go_wp2
        go_ret
        exact ⟨ret_bool HL.out.symm, rfl⟩
    · obtain rfl : k = Fs.length := by omega
      have HL : Hid (Fs.all (fun F => decide (F.st.length ≤ 20)) = true) := Lib.hid (by rw [← HA.out, List.take_length])
      clear HA FG
      cases q1 : decide ((Fs.length : Int) < 30) <;> cases q2 : decide ((xs.length : Int) < 30)
      all_goals
        have HX : Hid (smallOk Fs xs = (decide ((Fs.length : Int) < 30) && decide ((xs.length : Int) < 30))) := Lib.hid (by
          unfold smallOk; rw [HL.out]; simp only [Bool.true_and]; congr 1 <;> (apply decide_eq_decide.2; omega))
        rw [q1, q2] at HX
        go_wp2
        go_ret
        exact ⟨ret_bool HX.out.symm, rfl⟩
end Go.Proofs.Ythlnjipefeglpaa
