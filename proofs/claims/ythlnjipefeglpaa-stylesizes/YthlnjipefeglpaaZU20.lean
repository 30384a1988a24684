import Derived.Test.YthlnjipefeglpaaZU19
namespace Go.Proofs.Ythlnjipefeglpaa
open Go.RowKit
set_option linter.unusedVariables false
set_option linter.unusedSimpArgs false
set_option maxRecDepth 100000
theorem size23f : (Try.prog.info? 23).map (·.size) = some 4 := by kernel_rfl
theorem refrgba_l (x : List Int) (w : World) (h : x.length = 4) (hb : ∀ v ∈ x, I64 v) : Calls Try.prog 23 #[.agg (iL x).toArray] w fun e w' => e = .returned (.bool (rgbaL x)) ∧ Below w.heap.size w w' := by
  obtain ⟨a, b, c, d, rfl⟩ := list4 x h
  exact refrgba_any a b c d w (hb a (by simp)) (hb b (by simp)) (hb c (by simp)) (hb d (by simp))
def GrRel (w : World) (fb : Nat) (cs : Array Value) (st : List (List Int)) (i n : Value) (wr : World) : Prop := ∃ k : Nat, k ≤ st.length ∧ i = .int .i64 k ∧ stopsFrom 0 (st.take k) = true ∧ Blk wr fb cs 28 ∧ Below w.heap.size w wr
set_option maxHeartbeats 8000000 in
theorem fill16_any (id sp r g b a m0 m1 m2 m3 m4 m5 : Int) (st : List (List Int)) (sa : Option Addr) (sc : Nat) (w : World) (hl : st.length ≤ 9223372036854775807) (hs : Stops w (.slice sa st.length sc) st) (qe qi q1 q2 q3 q4 qm : Bool)
    (mz : ∀ W, (Op.equalIn 10000 23 (.agg #[.int .i64 r, .int .i64 g, .int .i64 b, .int .i64 a]) (.agg #[.int .i64 0, .int .i64 0, .int .i64 0, .int .i64 0])).run Try.prog W = .ok qe W) (ei : (id == 0) = qi) (e1 : decide (0 ≤ sp) = q1) (e2 : decide (sp < 3) = q2) (e3 : decide (0 < st.length) = q3) (e4 : decide ((st.length : Int) < 9) = q4)
    (HC : Hid (∀ W, Calls Try.prog 28 #[.agg #[.int .i64 m0, .int .i64 m1, .int .i64 m2, .int .i64 m3, .int .i64 m4, .int .i64 m5]] W fun e w' => e = .returned (.bool qm) ∧ Below W.heap.size W w')) :
    Calls Try.prog 10 #[.agg #[.int .i64 16, .int .i64 r, .int .i64 g, .int .i64 b, .int .i64 a, .int .i64 m0, .int .i64 m1, .int .i64 m2, .int .i64 m3, .int .i64 m4, .int .i64 m5, .int .i64 sp, .slice sa st.length sc, .int .i64 id]] w fun e w' => e = .returned (.bool (stopsFrom 0 st && qe && qi && q1 && q2 && q3 && q4 && qm)) ∧ Below w.heap.size w w' := by
  obtain ⟨a', c', sb, so, hv, hl', sget⟩ := hs.get
  simp only [Value.slice.injEq] at hv
  obtain ⟨ha', _, hc'⟩ := hv
  subst ha' hc'
  have SG := Lib.hid sget
  have MZ := Lib.hid mz
  have EI := Lib.hid ei
  have E1 := Lib.hid e1
  have E2 := Lib.hid e2
  have E3 := Lib.hid e3
  have E4 := Lib.hid e4
  clear hs sget hl' mz ei e1 e2 e3 e4
  go_enter Try.func10, Try.ntmps10
  go_upto_region 9 with (go_big_may; first
    | (refine wl_box 28 _ _ rfl rfl (show _ = Value.agg #[.int .i64 16, .int .i64 r, .int .i64 g, .int .i64 b, .int .i64 a, .int .i64 m0, .int .i64 m1, .int .i64 m2, .int .i64 m3, .int .i64 m4, .int .i64 m5, .int .i64 sp, .slice sa st.length sc, .int .i64 id] from rfl) ?_; intro W1 bf Bf_1 l1 k1; have gf : w.heap.size ≤ bf := l1; have Hw1 := k1; clear l1 k1; have cf_0_1 : W1.cell? ⟨bf, 0, none⟩ = some (.int .i64 16) := Bf_1.cell 0))
  clear cf_0_1
  have HB0 := Lib.hid Hw1
  have BF := Bf_1
  clear Hw1 Bf_1
  go_wp2_with fail
  go_loopw [3, 4] (fun i n wr => GrRel w bf #[.int .i64 16, .int .i64 r, .int .i64 g, .int .i64 b, .int .i64 a, .int .i64 m0, .int .i64 m1, .int .i64 m2, .int .i64 m3, .int .i64 m4, .int .i64 m5, .int .i64 sp, .slice sa st.length sc, .int .i64 id] st i n wr) (fun i _ _ => st.length - (intOf i).toNat)
  case atStart => exact ⟨0, by omega, rfl, rfl, BF, HB0.out⟩
  case round =>
    obtain ⟨k, hk, rfl, hst, BK, hbel⟩ := hrel
    have HS := Lib.hid hst
    have HB := Lib.hid hbel
    clear hst hbel BF
    have ck : wr.cell? ⟨bf, 12, none⟩ = some (.slice sa st.length sc) := BK.cell 12
    by_cases hlt : k < st.length
    · obtain ⟨rfl, hblt, cs, hcs, ⟨h5, rfl, hbd⟩, hrg⟩ := SG.out k hlt
      have rg := rangeAt_keep hrg HB.out
      have HBad := Lib.hid (stops_bad st k hlt HS.out)
      have HGood := Lib.hid (stops_good st k hlt HS.out)
      have HLe := stops_le _ _ HS.out
      obtain ⟨x0, x1, x2, x3, x4, hx⟩ := list5 st[k] h5
      rw [hx] at rg HBad HGood hbd
      have c0 : wr.cell? ⟨sb, so + k * 5, none⟩ = some (.int .i64 x0) := rg 0 _ rfl
      have rg1 : wr.rangeAt sb (so + k * 5 + 1) (iL [x1, x2, x3, x4]) := fun j v hv => by
        have := rg (j + 1) v (by simpa [iL] using hv)
        rw [show so + k * 5 + 1 + j = so + k * 5 + (j + 1) by omega]
        exact this
      have HR := Lib.hid (fun W => refrgba_l [x1, x2, x3, x4] W rfl (fun v hv => hbd v (List.mem_cons_of_mem _ hv)))
      have sz : (Try.prog.info? 23).map (·.size) = some (iL [x1, x2, x3, x4]).length := size23f
      have hx0 := hbd x0 (by simp)
      have HX := Lib.hid hx
      have HPrev : Hid (∀ p : Nat, k = p + 1 → ∃ y : Int, lastR 0 (st.take k) = y ∧ I64 y ∧ wr.cell? ⟨sb, so + p * 5, none⟩ = some (.int .i64 y)) := Lib.hid fun p hp => by
        subst hp
        have hp2 : p < st.length := by omega
        obtain ⟨_, _, cs2, hcs2, ⟨h52, rfl, hbd2⟩, hrg2⟩ := SG.out p hp2
        obtain ⟨y0, y1, y2, y3, y4, hy⟩ := list5 st[p] h52
        have rg2 := rangeAt_keep hrg2 HB.out
        rw [hy] at rg2 hbd2
        refine ⟨y0, ?_, hbd2 y0 (by simp), rg2 0 _ rfl⟩
        rw [lastR_take st p hp2, hy]; rfl
      clear hrg hcs hbd h5 hx rg SG
      have hwr := bq_refl wr
      obtain ⟨pr, hpr⟩ : ∃ p, p = lastR 0 (st.take k) := ⟨_, rfl⟩
      rw [← hpr] at HBad HGood HLe HPrev
      have HZ : Hid (k = 0 → pr = 0) := Lib.hid fun h => by rw [hpr, h]; rfl
      clear hpr
      by_cases w1 : x0 < 0
      · have HL : Hid (stopsFrom 0 st = false) := Lib.hid (HBad.out (by
          have : decide (pr ≤ [x0, x1, x2, x3, x4].getD 0 0) = false := by simp only [List.getD_cons_zero, decide_eq_false_iff_not]; omega
          rw [this]; rfl))
        clear HBad HGood HPrev HR
        go_wp2_with fail
        go_ret
        exact ⟨ret_bool (by rw [HL.out]; rfl), HB.out⟩
      by_cases w2 : 255 < x0
      · have HL : Hid (stopsFrom 0 st = false) := Lib.hid (HBad.out (by
          have : decide ([x0, x1, x2, x3, x4].getD 0 0 ≤ 255) = false := by simp only [List.getD_cons_zero, decide_eq_false_iff_not]; omega
          rw [this, Bool.and_false]; rfl))
        clear HBad HGood HPrev HR
        go_wp2_with fail
        go_ret
        exact ⟨ret_bool (by rw [HL.out]; rfl), HB.out⟩
      have HE : Hid (decide ([x0, x1, x2, x3, x4].getD 0 0 ≤ 255) = true) := Lib.hid (by simp only [List.getD_cons_zero, decide_eq_true_eq]; omega)
      cases k with
      | zero =>
        have c0z : wr.cell? ⟨sb, so, none⟩ = some (.int .i64 x0) := by rw [← c0]; congr 1
        have HP : Hid (decide (pr ≤ [x0, x1, x2, x3, x4].getD 0 0) = true) := Lib.hid (by
          have := HZ.out rfl
          simp only [List.getD_cons_zero, decide_eq_true_eq]; omega)
        clear HPrev HZ
        cases qq : rgbaL [x1, x2, x3, x4]
        · rw [qq] at HR
          have HL : Hid (stopsFrom 0 st = false) := Lib.hid (HBad.out (by rw [show rgbaL ([x0, x1, x2, x3, x4].drop 1) = false from qq, Bool.and_false]))
          clear HBad HGood HP HE qq
          go_wp2_with (first
            | (refine wlg_mid 23 _ rfl rfl _ _ rfl (iL [x1, x2, x3, x4]) _ rg1 Try.underlying23 rfl sz ?_)
            | (go_at_call 23; (with_reducible refine (HR.out _).mono ?_); rintro e w9 ⟨rfl, k9⟩))
          go_ret
          exact ⟨ret_bool (by rw [HL.out]; rfl), bq_trans HB.out k9⟩
        · rw [qq] at HR
          have HL : Hid (stopsFrom 0 (st.take (0 + 1)) = true) := Lib.hid (HGood.out (by rw [show rgbaL ([x0, x1, x2, x3, x4].drop 1) = true from qq, HE.out, HP.out]; rfl))
          clear HBad HGood HP HE qq
          go_wp2_with (first
            | (refine wlg_mid 23 _ rfl rfl _ _ rfl (iL [x1, x2, x3, x4]) _ rg1 Try.underlying23 rfl sz ?_)
            | (go_at_call 23; (with_reducible refine (HR.out _).mono ?_); rintro e w9 ⟨rfl, k9⟩))
          go_roundw
          case rel => exact ⟨0 + 1, by omega, by go_num, HL.out, BK.keep k9, bq_trans HB.out k9⟩
          case measure => simp [intOf]; omega
      | succ p =>
        obtain ⟨y, hy1, hy2, hy3⟩ := HPrev.out p rfl
        have hwp : IntKind.i64.wrap (((p + 1 : Nat) : Int) - 1) = (p : Int) := by rw [i64_wrap _ (by omega) (by omega)]; omega
        have hp1 : (0 : Int) ≤ (p : Int) := by omega
        have hp2 : (p : Int) < (st.length : Int) := by omega
        have hp3 : p < st.length := by omega
        have hp4 : (0 : Int) < ((p + 1 : Nat) : Int) := by omega
        clear HPrev HZ
        by_cases w3 : x0 < y
        · have HL : Hid (stopsFrom 0 st = false) := Lib.hid (HBad.out (by
            have : decide (pr ≤ [x0, x1, x2, x3, x4].getD 0 0) = false := by simp only [List.getD_cons_zero, decide_eq_false_iff_not]; omega
            rw [this]; rfl))
          clear HBad HGood HR HE
          go_wp2_with fail
          go_ret
          exact ⟨ret_bool (by rw [HL.out]; rfl), HB.out⟩
        · have HP : Hid (decide (pr ≤ [x0, x1, x2, x3, x4].getD 0 0) = true) := Lib.hid (by simp only [List.getD_cons_zero, decide_eq_true_eq]; omega)
          cases qq : rgbaL [x1, x2, x3, x4]
          · rw [qq] at HR
            have HL : Hid (stopsFrom 0 st = false) := Lib.hid (HBad.out (by rw [show rgbaL ([x0, x1, x2, x3, x4].drop 1) = false from qq, Bool.and_false]))
            clear HBad HGood HP HE qq
            go_wp2_with (first
              | (refine wlg_mid 23 _ rfl rfl _ _ rfl (iL [x1, x2, x3, x4]) _ rg1 Try.underlying23 rfl sz ?_)
              | (go_at_call 23; (with_reducible refine (HR.out _).mono ?_); rintro e w9 ⟨rfl, k9⟩))
            go_ret
            exact ⟨ret_bool (by rw [HL.out]; rfl), bq_trans HB.out k9⟩
          · rw [qq] at HR
            have HL : Hid (stopsFrom 0 (st.take (p + 1 + 1)) = true) := Lib.hid (HGood.out (by rw [show rgbaL ([x0, x1, x2, x3, x4].drop 1) = true from qq, HE.out, HP.out]; rfl))
            clear HBad HGood HP HE qq
            go_wp2_with (first
              | (refine wlg_mid 23 _ rfl rfl _ _ rfl (iL [x1, x2, x3, x4]) _ rg1 Try.underlying23 rfl sz ?_)
              | (go_at_call 23; (with_reducible refine (HR.out _).mono ?_); rintro e w9 ⟨rfl, k9⟩))
            go_roundw
            case rel => exact ⟨(p + 1) + 1, by omega, by go_num, HL.out, BK.keep k9, bq_trans HB.out k9⟩
            case measure => simp [intOf]; omega
    · obtain rfl : k = st.length := by omega
      have HL : Hid (stopsFrom 0 st = true) := Lib.hid (by rw [← HS.out, List.take_length])
      clear HS SG
      have mz := MZ.out
      have ei := EI.out
      have e1 := E1.out
      have e2 := E2.out
      have e3 := E3.out
      have e4 := E4.out
      clear MZ EI E1 E2 E3 E4
      have cf0 : wr.cell? ⟨bf, 0, none⟩ = some (.int .i64 16) := BK.cell 0
      have cf1 : wr.cell? ⟨bf, 1, none⟩ = some (.int .i64 r) := BK.cell 1
      have cf2 : wr.cell? ⟨bf, 2, none⟩ = some (.int .i64 g) := BK.cell 2
      have cf3 : wr.cell? ⟨bf, 3, none⟩ = some (.int .i64 b) := BK.cell 3
      have cf4 : wr.cell? ⟨bf, 4, none⟩ = some (.int .i64 a) := BK.cell 4
      have cf5 : wr.cell? ⟨bf, 5, none⟩ = some (.int .i64 m0) := BK.cell 5
      have cf6 : wr.cell? ⟨bf, 6, none⟩ = some (.int .i64 m1) := BK.cell 6
      have cf7 : wr.cell? ⟨bf, 7, none⟩ = some (.int .i64 m2) := BK.cell 7
      have cf8 : wr.cell? ⟨bf, 8, none⟩ = some (.int .i64 m3) := BK.cell 8
      have cf9 : wr.cell? ⟨bf, 9, none⟩ = some (.int .i64 m4) := BK.cell 9
      have cf10 : wr.cell? ⟨bf, 10, none⟩ = some (.int .i64 m5) := BK.cell 10
      have cf11 : wr.cell? ⟨bf, 11, none⟩ = some (.int .i64 sp) := BK.cell 11
      have cf12 : wr.cell? ⟨bf, 12, none⟩ = some (.slice sa st.length sc) := BK.cell 12
      have cf13 : wr.cell? ⟨bf, 13, none⟩ = some (.int .i64 id) := BK.cell 13
      cases qe
      · go_wp2_with fail
        go_ret
        exact ⟨ret_bool (by rw [HL.out]; rfl), HB.out⟩
      cases qi
      · go_wp2_with fail
        go_ret
        exact ⟨ret_bool (by rw [HL.out]; rfl), HB.out⟩
      cases q1
      · go_wp2_with fail
        go_ret
        exact ⟨ret_bool (by rw [HL.out]; rfl), HB.out⟩
      cases q2
      · go_wp2_with fail
        go_ret
        exact ⟨ret_bool (by rw [HL.out]; rfl), HB.out⟩
      cases q3
      · go_wp2_with fail
        go_ret
        exact ⟨ret_bool (by rw [HL.out]; rfl), HB.out⟩
      cases q4
      · go_wp2_with fail
        go_ret
        exact ⟨ret_bool (by rw [HL.out]; rfl), HB.out⟩
      go_wp2_with (first
        | (go_at_call 28; (with_reducible refine (HC.out _).mono ?_); rintro e w9 ⟨rfl, k9⟩))
      go_ret
      exact ⟨ret_bool (by rw [HL.out]; rfl), bq_trans HB.out k9⟩
set_option maxHeartbeats 8000000 in
theorem fill18_any (id sp r g b a m0 m1 m2 m3 m4 m5 : Int) (st : List (List Int)) (sa : Option Addr) (sc : Nat) (w : World) (hl : st.length ≤ 9223372036854775807) (hs : Stops w (.slice sa st.length sc) st) (qe qi q1 q2 q3 q4 qm : Bool)
    (mz : ∀ W, (Op.equalIn 10000 23 (.agg #[.int .i64 r, .int .i64 g, .int .i64 b, .int .i64 a]) (.agg #[.int .i64 0, .int .i64 0, .int .i64 0, .int .i64 0])).run Try.prog W = .ok qe W) (ei : (id == 0) = qi) (e1 : decide (0 ≤ sp) = q1) (e2 : decide (sp < 3) = q2) (e3 : decide (0 < st.length) = q3) (e4 : decide ((st.length : Int) < 9) = q4)
    (HC : Hid (∀ W, Calls Try.prog 28 #[.agg #[.int .i64 m0, .int .i64 m1, .int .i64 m2, .int .i64 m3, .int .i64 m4, .int .i64 m5]] W fun e w' => e = .returned (.bool qm) ∧ Below W.heap.size W w')) :
    Calls Try.prog 10 #[.agg #[.int .i64 18, .int .i64 r, .int .i64 g, .int .i64 b, .int .i64 a, .int .i64 m0, .int .i64 m1, .int .i64 m2, .int .i64 m3, .int .i64 m4, .int .i64 m5, .int .i64 sp, .slice sa st.length sc, .int .i64 id]] w fun e w' => e = .returned (.bool (stopsFrom 0 st && qe && qi && q1 && q2 && q3 && q4 && qm)) ∧ Below w.heap.size w w' := by
  obtain ⟨a', c', sb, so, hv, hl', sget⟩ := hs.get
  simp only [Value.slice.injEq] at hv
  obtain ⟨ha', _, hc'⟩ := hv
  subst ha' hc'
  have SG := Lib.hid sget
  have MZ := Lib.hid mz
  have EI := Lib.hid ei
  have E1 := Lib.hid e1
  have E2 := Lib.hid e2
  have E3 := Lib.hid e3
  have E4 := Lib.hid e4
  clear hs sget hl' mz ei e1 e2 e3 e4
  go_enter Try.func10, Try.ntmps10
  go_upto_region 9 with (go_big_may; first
    | (refine wl_box 28 _ _ rfl rfl (show _ = Value.agg #[.int .i64 18, .int .i64 r, .int .i64 g, .int .i64 b, .int .i64 a, .int .i64 m0, .int .i64 m1, .int .i64 m2, .int .i64 m3, .int .i64 m4, .int .i64 m5, .int .i64 sp, .slice sa st.length sc, .int .i64 id] from rfl) ?_; intro W1 bf Bf_1 l1 k1; have gf : w.heap.size ≤ bf := l1; have Hw1 := k1; clear l1 k1; have cf_0_1 : W1.cell? ⟨bf, 0, none⟩ = some (.int .i64 18) := Bf_1.cell 0))
  clear cf_0_1
  have HB0 := Lib.hid Hw1
  have BF := Bf_1
  clear Hw1 Bf_1
  go_wp2_with fail
  go_loopw [3, 4] (fun i n wr => GrRel w bf #[.int .i64 18, .int .i64 r, .int .i64 g, .int .i64 b, .int .i64 a, .int .i64 m0, .int .i64 m1, .int .i64 m2, .int .i64 m3, .int .i64 m4, .int .i64 m5, .int .i64 sp, .slice sa st.length sc, .int .i64 id] st i n wr) (fun i _ _ => st.length - (intOf i).toNat)
  case atStart => exact ⟨0, by omega, rfl, rfl, BF, HB0.out⟩
  case round =>
    obtain ⟨k, hk, rfl, hst, BK, hbel⟩ := hrel
    have HS := Lib.hid hst
    have HB := Lib.hid hbel
    clear hst hbel BF
    have ck : wr.cell? ⟨bf, 12, none⟩ = some (.slice sa st.length sc) := BK.cell 12
    by_cases hlt : k < st.length
    · obtain ⟨rfl, hblt, cs, hcs, ⟨h5, rfl, hbd⟩, hrg⟩ := SG.out k hlt
      have rg := rangeAt_keep hrg HB.out
      have HBad := Lib.hid (stops_bad st k hlt HS.out)
      have HGood := Lib.hid (stops_good st k hlt HS.out)
      have HLe := stops_le _ _ HS.out
      obtain ⟨x0, x1, x2, x3, x4, hx⟩ := list5 st[k] h5
      rw [hx] at rg HBad HGood hbd
      have c0 : wr.cell? ⟨sb, so + k * 5, none⟩ = some (.int .i64 x0) := rg 0 _ rfl
      have rg1 : wr.rangeAt sb (so + k * 5 + 1) (iL [x1, x2, x3, x4]) := fun j v hv => by
        have := rg (j + 1) v (by simpa [iL] using hv)
        rw [show so + k * 5 + 1 + j = so + k * 5 + (j + 1) by omega]
        exact this
      have HR := Lib.hid (fun W => refrgba_l [x1, x2, x3, x4] W rfl (fun v hv => hbd v (List.mem_cons_of_mem _ hv)))
      have sz : (Try.prog.info? 23).map (·.size) = some (iL [x1, x2, x3, x4]).length := size23f
      have hx0 := hbd x0 (by simp)
      have HX := Lib.hid hx
      have HPrev : Hid (∀ p : Nat, k = p + 1 → ∃ y : Int, lastR 0 (st.take k) = y ∧ I64 y ∧ wr.cell? ⟨sb, so + p * 5, none⟩ = some (.int .i64 y)) := Lib.hid fun p hp => by
        subst hp
        have hp2 : p < st.length := by omega
        obtain ⟨_, _, cs2, hcs2, ⟨h52, rfl, hbd2⟩, hrg2⟩ := SG.out p hp2
        obtain ⟨y0, y1, y2, y3, y4, hy⟩ := list5 st[p] h52
        have rg2 := rangeAt_keep hrg2 HB.out
        rw [hy] at rg2 hbd2
        refine ⟨y0, ?_, hbd2 y0 (by simp), rg2 0 _ rfl⟩
        rw [lastR_take st p hp2, hy]; rfl
      clear hrg hcs hbd h5 hx rg SG
      have hwr := bq_refl wr
      obtain ⟨pr, hpr⟩ : ∃ p, p = lastR 0 (st.take k) := ⟨_, rfl⟩
      rw [← hpr] at HBad HGood HLe HPrev
      have HZ : Hid (k = 0 → pr = 0) := Lib.hid fun h => by rw [hpr, h]; rfl
      clear hpr
      by_cases w1 : x0 < 0
      · have HL : Hid (stopsFrom 0 st = false) := Lib.hid (HBad.out (by
          have : decide (pr ≤ [x0, x1, x2, x3, x4].getD 0 0) = false := by simp only [List.getD_cons_zero, decide_eq_false_iff_not]; omega
          rw [this]; rfl))
        clear HBad HGood HPrev HR
        go_wp2_with fail
        go_ret
        exact ⟨ret_bool (by rw [HL.out]; rfl), HB.out⟩
      by_cases w2 : 255 < x0
      · have HL : Hid (stopsFrom 0 st = false) := Lib.hid (HBad.out (by
          have : decide ([x0, x1, x2, x3, x4].getD 0 0 ≤ 255) = false := by simp only [List.getD_cons_zero, decide_eq_false_iff_not]; omega
          rw [this, Bool.and_false]; rfl))
        clear HBad HGood HPrev HR
        go_wp2_with fail
        go_ret
        exact ⟨ret_bool (by rw [HL.out]; rfl), HB.out⟩
      have HE : Hid (decide ([x0, x1, x2, x3, x4].getD 0 0 ≤ 255) = true) := Lib.hid (by simp only [List.getD_cons_zero, decide_eq_true_eq]; omega)
      cases k with
      | zero =>
        have c0z : wr.cell? ⟨sb, so, none⟩ = some (.int .i64 x0) := by rw [← c0]; congr 1
        have HP : Hid (decide (pr ≤ [x0, x1, x2, x3, x4].getD 0 0) = true) := Lib.hid (by
          have := HZ.out rfl
          simp only [List.getD_cons_zero, decide_eq_true_eq]; omega)
        clear HPrev HZ
        cases qq : rgbaL [x1, x2, x3, x4]
        · rw [qq] at HR
          have HL : Hid (stopsFrom 0 st = false) := Lib.hid (HBad.out (by rw [show rgbaL ([x0, x1, x2, x3, x4].drop 1) = false from qq, Bool.and_false]))
          clear HBad HGood HP HE qq
          go_wp2_with (first
            | (refine wlg_mid 23 _ rfl rfl _ _ rfl (iL [x1, x2, x3, x4]) _ rg1 Try.underlying23 rfl sz ?_)
            | (go_at_call 23; (with_reducible refine (HR.out _).mono ?_); rintro e w9 ⟨rfl, k9⟩))
          go_ret
          exact ⟨ret_bool (by rw [HL.out]; rfl), bq_trans HB.out k9⟩
        · rw [qq] at HR
          have HL : Hid (stopsFrom 0 (st.take (0 + 1)) = true) := Lib.hid (HGood.out (by rw [show rgbaL ([x0, x1, x2, x3, x4].drop 1) = true from qq, HE.out, HP.out]; rfl))
          clear HBad HGood HP HE qq
          go_wp2_with (first
            | (refine wlg_mid 23 _ rfl rfl _ _ rfl (iL [x1, x2, x3, x4]) _ rg1 Try.underlying23 rfl sz ?_)
            | (go_at_call 23; (with_reducible refine (HR.out _).mono ?_); rintro e w9 ⟨rfl, k9⟩))
          go_roundw
          case rel => exact ⟨0 + 1, by omega, by go_num, HL.out, BK.keep k9, bq_trans HB.out k9⟩
          case measure => simp [intOf]; omega
      | succ p =>
        obtain ⟨y, hy1, hy2, hy3⟩ := HPrev.out p rfl
        have hwp : IntKind.i64.wrap (((p + 1 : Nat) : Int) - 1) = (p : Int) := by rw [i64_wrap _ (by omega) (by omega)]; omega
        have hp1 : (0 : Int) ≤ (p : Int) := by omega
        have hp2 : (p : Int) < (st.length : Int) := by omega
        have hp3 : p < st.length := by omega
        have hp4 : (0 : Int) < ((p + 1 : Nat) : Int) := by omega
        clear HPrev HZ
        by_cases w3 : x0 < y
        · have HL : Hid (stopsFrom 0 st = false) := Lib.hid (HBad.out (by
            have : decide (pr ≤ [x0, x1, x2, x3, x4].getD 0 0) = false := by simp only [List.getD_cons_zero, decide_eq_false_iff_not]; omega
            rw [this]; rfl))
          clear HBad HGood HR HE
          go_wp2_with fail
          go_ret
          exact ⟨ret_bool (by rw [HL.out]; rfl), HB.out⟩
        · have HP : Hid (decide (pr ≤ [x0, x1, x2, x3, x4].getD 0 0) = true) := Lib.hid (by simp only [List.getD_cons_zero, decide_eq_true_eq]; omega)
          cases qq : rgbaL [x1, x2, x3, x4]
          · rw [qq] at HR
            have HL : Hid (stopsFrom 0 st = false) := Lib.hid (HBad.out (by rw [show rgbaL ([x0, x1, x2, x3, x4].drop 1) = false from qq, Bool.and_false]))
            clear HBad HGood HP HE qq
            go_wp2_with (first
              | (refine wlg_mid 23 _ rfl rfl _ _ rfl (iL [x1, x2, x3, x4]) _ rg1 Try.underlying23 rfl sz ?_)
              | (go_at_call 23; (with_reducible refine (HR.out _).mono ?_); rintro e w9 ⟨rfl, k9⟩))
            go_ret
            exact ⟨ret_bool (by rw [HL.out]; rfl), bq_trans HB.out k9⟩
          · rw [qq] at HR
            have HL : Hid (stopsFrom 0 (st.take (p + 1 + 1)) = true) := Lib.hid (HGood.out (by rw [show rgbaL ([x0, x1, x2, x3, x4].drop 1) = true from qq, HE.out, HP.out]; rfl))
            clear HBad HGood HP HE qq
            go_wp2_with (first
              | (refine wlg_mid 23 _ rfl rfl _ _ rfl (iL [x1, x2, x3, x4]) _ rg1 Try.underlying23 rfl sz ?_)
              | (go_at_call 23; (with_reducible refine (HR.out _).mono ?_); rintro e w9 ⟨rfl, k9⟩))
            go_roundw
            case rel => exact ⟨(p + 1) + 1, by omega, by go_num, HL.out, BK.keep k9, bq_trans HB.out k9⟩
            case measure => simp [intOf]; omega
    · obtain rfl : k = st.length := by omega
      have HL : Hid (stopsFrom 0 st = true) := Lib.hid (by rw [← HS.out, List.take_length])
      clear HS SG
      have mz := MZ.out
      have ei := EI.out
      have e1 := E1.out
      have e2 := E2.out
      have e3 := E3.out
      have e4 := E4.out
      clear MZ EI E1 E2 E3 E4
      have cf0 : wr.cell? ⟨bf, 0, none⟩ = some (.int .i64 18) := BK.cell 0
      have cf1 : wr.cell? ⟨bf, 1, none⟩ = some (.int .i64 r) := BK.cell 1
      have cf2 : wr.cell? ⟨bf, 2, none⟩ = some (.int .i64 g) := BK.cell 2
      have cf3 : wr.cell? ⟨bf, 3, none⟩ = some (.int .i64 b) := BK.cell 3
      have cf4 : wr.cell? ⟨bf, 4, none⟩ = some (.int .i64 a) := BK.cell 4
      have cf5 : wr.cell? ⟨bf, 5, none⟩ = some (.int .i64 m0) := BK.cell 5
      have cf6 : wr.cell? ⟨bf, 6, none⟩ = some (.int .i64 m1) := BK.cell 6
      have cf7 : wr.cell? ⟨bf, 7, none⟩ = some (.int .i64 m2) := BK.cell 7
      have cf8 : wr.cell? ⟨bf, 8, none⟩ = some (.int .i64 m3) := BK.cell 8
      have cf9 : wr.cell? ⟨bf, 9, none⟩ = some (.int .i64 m4) := BK.cell 9
      have cf10 : wr.cell? ⟨bf, 10, none⟩ = some (.int .i64 m5) := BK.cell 10
      have cf11 : wr.cell? ⟨bf, 11, none⟩ = some (.int .i64 sp) := BK.cell 11
      have cf12 : wr.cell? ⟨bf, 12, none⟩ = some (.slice sa st.length sc) := BK.cell 12
      have cf13 : wr.cell? ⟨bf, 13, none⟩ = some (.int .i64 id) := BK.cell 13
      cases qe
      · go_wp2_with fail
        go_ret
        exact ⟨ret_bool (by rw [HL.out]; rfl), HB.out⟩
      cases qi
      · go_wp2_with fail
        go_ret
        exact ⟨ret_bool (by rw [HL.out]; rfl), HB.out⟩
      cases q1
      · go_wp2_with fail
        go_ret
        exact ⟨ret_bool (by rw [HL.out]; rfl), HB.out⟩
      cases q2
      · go_wp2_with fail
        go_ret
        exact ⟨ret_bool (by rw [HL.out]; rfl), HB.out⟩
      cases q3
      · go_wp2_with fail
        go_ret
        exact ⟨ret_bool (by rw [HL.out]; rfl), HB.out⟩
      cases q4
      · go_wp2_with fail
        go_ret
        exact ⟨ret_bool (by rw [HL.out]; rfl), HB.out⟩
      go_wp2_with (first
        | (go_at_call 28; (with_reducible refine (HC.out _).mono ?_); rintro e w9 ⟨rfl, k9⟩))
      go_ret
      exact ⟨ret_bool (by rw [HL.out]; rfl), bq_trans HB.out k9⟩
end Go.Proofs.Ythlnjipefeglpaa
