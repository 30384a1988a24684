import Derived.Test.YtcfidibkihkndaaD9
namespace Go.Proofs.Ytcfidibkihkndaa
open Go.RowKit
set_option linter.unusedVariables false

/-- while the divisor is copied -/
def CopySt (w : World) (la : Nat) (b : List Nat) (k : Nat) (wr : World) : Prop :=
  ∃ dl : List Nat, dl.length = la + 1 ∧ Row wr w.heap.size (List.replicate la 0) ∧ Row wr (w.heap.size + 1) (List.replicate (la + 1) 0) ∧ Row wr (w.heap.size + 1 + 1) dl ∧ M5.Dig dl ∧ M5.val dl = M5.val (b.take k) ∧ (∀ j, k ≤ j → M5.dg dl j = 0) ∧ Below w.heap.size w wr

def DivPost (w : World) (A D la : Nat) (e : Ending) (w' : World) : Prop :=
  ∃ v ql, e = .returned (.tuple #[v, .bool (decide (A % D = 0))]) ∧ NewRow w w' v ql ∧ ql.length = la ∧ M5.Dig ql ∧ M5.val ql = A / D

theorem par_bool (d : Nat) : (d % 2 = 0 → ((d : Int) % 2 == 1) = false) ∧ (d % 2 = 1 → ((d : Int) % 2 == 1) = true) := ⟨fun h => by rw [beq_eq_false_iff_ne]; omega, fun h => by rw [beq_iff_eq]; omega⟩

set_option maxHeartbeats 8000000 in
set_option maxRecDepth 100000 in
theorem divide_ref (w : World) (ga ca gb cb : Nat) (a b : List Nat) (ra : Row w ga a) (rb : Row w gb b) (da : M5.Dig a) (db : M5.Dig b) (la1 : a.length ≤ 40) (la0 : 0 < a.length) (hab : b.length ≤ a.length) (hca : a.length ≤ ca) (hcb : b.length ≤ cb) (hD : 0 < M5.val b) :
    Calls Try.prog 31 #[.slice (some ⟨ga, 0, none⟩) a.length ca, .slice (some ⟨gb, 0, none⟩) b.length cb] w (DivPost w (M5.val a) (M5.val b) a.length) := by
  obtain ⟨na, ena⟩ : ∃ n, n = a.length := ⟨_, rfl⟩
  obtain ⟨nb, enb⟩ : ∃ n, n = b.length := ⟨_, rfl⟩
  have HL := Lib.hid (And.intro ena enb)
  rw [← ena] at la1 la0 hca hab
  rw [← enb] at hcb hab
  have HA := Lib.hid (And.intro ra (And.intro rb (And.intro da (And.intro db hD))))
  rw [← ena, ← enb]
  have hmk1 := fun wx => made_int na (by omega) wx
  have hmk2 := fun wx => made_int (na + 1) (by omega) wx
  rw [Int.natCast_add, show ((1 : Nat) : Int) = 1 from rfl] at hmk2
  clear ena enb ra rb da db hD
  go_enter Try.func31, Try.ntmps31
  go_wp2
  clear hmk1 hmk2
  go_loopw [9] (fun i wr => ∃ k : Nat, k ≤ nb ∧ i = .int .i64 k ∧ CopySt w na b k wr) (fun i _ => nb - (intOf i).toNat)
  case atStart =>
    have r0 := row_made w na
    have r1 := row_made (w.alloc (.cells (madeCells #[.int .i64 0] na) 3)) (na + 1)
    have r2 := row_made ((w.alloc (.cells (madeCells #[.int .i64 0] na) 3)).alloc (.cells (madeCells #[.int .i64 0] (na + 1)) 3)) (na + 1)
    simp only [World.size_alloc] at r1 r2
    refine ⟨0, by omega, rfl, List.replicate (na + 1) 0, by simp, (r0.alloc _).alloc _, r1.alloc _, r2, M5.dig_zeros _, by rw [M5.val_zeros]; simp [M5.val], fun j _ => M5.dg_zeros _ _, bq_alloc (bq_alloc (bq_alloc (Below.refl _ _) _) _) _⟩
  case round =>
    obtain ⟨k, hk, rfl, dl, h1, h2, h3, h4, h5, h6, h7, hb⟩ := hrel
    by_cases hlt : k < nb
    · obtain ⟨x, ex⟩ : ∃ x, x = M5.dg b k := ⟨_, rfl⟩
      have rbb := HA.out.2.1.below hb HA.out.2.1.lt
      have c1 := rbb.cell (i := k) (by rw [← HL.out.2]; exact hlt)
      rw [← ex] at c1
      have c2 := h4.cell (i := k) (by omega)
      have f2 := h4.free (i := k) (by omega)
      have hlt2 := HA.out.2.1.lt
      have F : CopySt w na b (k + 1) (wr.setCell ⟨w.heap.size + 1 + 1, k, none⟩ (.int .i64 (x : Int))) := by
        refine ⟨dl.set k x, by rw [List.length_set]; exact h1, h2.far (by show w.heap.size + 1 + 1 ≠ w.heap.size; omega) _, h3.far (by show w.heap.size + 1 + 1 ≠ w.heap.size + 1; omega) _, h4.set (by omega) _, M5.dig_set h5 _ _ (by rw [ex]; exact M5.dig_at HA.out.2.2.2.1 k), ?_, ?_, hb.setCell (by show w.heap.size ≤ w.heap.size + 1 + 1; omega) _⟩
        · have := M5.val_set dl k x (by omega)
          rw [h7 k (by omega)] at this
          rw [M5.val_take b k (by rw [← HL.out.2]; exact hlt), ← ex]
          omega
        · intro j hj
          rw [M5.dg_set_ne _ _ _ _ (by omega)]
          exact h7 j (by omega)
      have FF := Lib.hid F
      clear F h1 h2 h3 h4 h5 h6 h7 hb rbb ex
      go_wp2
      go_roundw
      case rel => exact ⟨k + 1, by omega, by go_num, FF.out⟩
      case measure => simp [intOf]; omega
    · have S0 : DivSt w (M5.val a) (M5.val b) na (65536 ^ na) (.slice (some ⟨w.heap.size + 1, 0, none⟩) (na + 1) (na + 1)) wr := by
        have hA := M5.val_lt a HA.out.2.2.1
        rw [← HL.out.1] at hA
        refine ⟨_, _, dl, w.heap.size + 1, na + 1, rfl, by omega, by omega, by omega, by omega, by simp, by simp, h1, h2, h3, h4, M5.dig_zeros _, M5.dig_zeros _, h5, ?_, ?_, ?_, hb⟩
        · rw [h6, List.take_of_length_le (by have := HL.out; omega)]
        · rw [M5.val_zeros, Nat.div_eq_of_lt hA]; simp
        · rw [M5.val_zeros, Nat.div_eq_of_lt hA]; simp
      have SS := Lib.hid S0
      clear S0 h1 h2 h3 h4 h5 h6 h7 hb
      go_wp2
      go_loopw [7, 10] (fun v i wr2 => ∃ k2 : Nat, k2 ≤ na ∧ i = .int .i64 ((k2 : Int) - 1) ∧ DivSt w (M5.val a) (M5.val b) na (65536 ^ k2) v wr2) (fun _ i _ => (intOf i + 1).toNat)
      case atStart => exact ⟨na, by omega, rfl, SS.out⟩
      case round =>
        obtain ⟨k2, hk2, rfl, hst⟩ := hrel
        have HS := Lib.hid hst
        clear hst SS
        rcases k2 with _ | i
        · obtain ⟨ql, ll, dl, gl, cl, rfl, h1, h2, h3, h4, h5, h6, h7, h8, h9, h10, h11, h12, h13, h14, h15, h16, h17⟩ := HS.out
          rw [Nat.pow_zero, Nat.div_one] at h15 h16
          rw [Nat.mul_one] at h15
          have N := nought_any wr gl cl ll h9 (by omega) (by omega)
          rw [h6] at N
          have hz : zeroB ll = decide (M5.val a % M5.val b = 0) := by unfold zeroB; rw [h16]
          rw [hz] at N
          have NN := Lib.hid N
          have F := Lib.hid (And.intro (show NewRow w wr (.slice (some ⟨w.heap.size, 0, none⟩) na na) ql from ⟨w.heap.size, na, by rw [h5], by omega, Nat.le_refl _, h8, h17⟩) (And.intro h5 (And.intro h11 h15)))
          clear h1 h2 h3 h4 h5 h6 h7 h8 h9 h10 h11 h12 h13 h14 h15 h16 h17 N hz HS
          go_wp2_with (go_at_call 32; refine NN.out.mono ?_; rintro e w' ⟨rfl, rfl⟩)
          go_ret2
          exact ⟨_, ql, rfl, F.out⟩
        · have ek : ((i + 1 : Nat) : Int) - 1 = (i : Int) := by omega
          rw [ek]
          clear ek
          obtain ⟨x, ex⟩ : ∃ x, x = M5.dg a i := ⟨_, rfl⟩
          have HX := Lib.hid ex
          have hx : x < 65536 := by rw [ex]; exact M5.dig_at HA.out.2.2.1 i
          clear ex
          go_wp2
          go_loopw [7, 11] (fun v t wr3 => ∃ c tt : Nat, c ≤ 16 ∧ t = .int .i64 (tt : Int) ∧ Hid (tt = 2 ^ c / 2) ∧ tt ≤ 32768 ∧ DivSt w (M5.val a) (M5.val b) na (65536 ^ i * 2 ^ c) v wr3) (fun _ t _ => (intOf t).toNat)
          case atStart => exact ⟨16, 32768, by omega, rfl, Lib.hid rfl, by omega, by have := HS.out; rwa [Nat.pow_succ] at this⟩
          case round =>
            obtain ⟨c, tt, hc, rfl, htt, htb, hst⟩ := hrel
            have HT := Lib.hid hst
            clear hst HS
            rcases c with _ | m
            · have h0 : tt = 0 := by have := htt.out; simpa using this
              subst h0
              go_wp2
              go_roundw
              case rel => exact ⟨i, by omega, by go_num, by have := HT.out; rwa [Nat.pow_zero, Nat.mul_one] at this⟩
              case measure => simp [intOf]
            · have hbit : tt = 2 ^ m := by have := htt.out; rw [Nat.pow_succ] at this; omega
              have hm : m ≤ 15 := by omega
              have hpp : 0 < tt := by rw [hbit]; exact Nat.two_pow_pos m
              obtain ⟨ra, rb, da, db, hD⟩ := HA.out
              obtain ⟨el, eb⟩ := HL.out
              have hbl : M5.val b < 65536 ^ na := by
                have := M5.val_lt b db
                exact Nat.lt_of_lt_of_le this (Nat.pow_le_pow_right (by omega) (by omega))
              have hst := HT.out
              rw [show 65536 ^ i * 2 ^ (m + 1) = 65536 ^ i * 2 ^ m * 2 by rw [Nat.pow_succ, Nat.mul_assoc]] at hst
              obtain ⟨gl, cl, rfl, hcl, T⟩ := div_twice hst la1 hD hbl
              have hbeta := div_bit a i m x tt da hm HX.out hbit
              have TT := Lib.hid T
              have SV := Lib.hid (And.intro ra (And.intro hD (And.intro el (And.intro hbeta hbit))))
              clear T hst hbl ra rb da db hD el eb hbeta hbit HT
              go_wp2_with fail
              refine TT.out.mono ?_
              rintro e w1 ⟨g, c1, rfl, hc1, hbb, hm0, hm1⟩
              have HM := Lib.hid (And.intro hm0 hm1)
              clear hm0 hm1
              obtain ⟨ra, hD, el, hbeta, hbit⟩ := SV.out
              have HBI := Lib.hid hbit
              have HBE := Lib.hid hbeta
              clear hbit hbeta
              have cx := (ra.keep hbb).cell (i := i) (by omega)
              rw [← HX.out] at cx
              have qa := ra.lt
              obtain ⟨d, ed⟩ : ∃ d, d = x / tt := ⟨_, rfl⟩
              have hdb : d ≤ 65535 := by rw [ed]; exact Nat.le_trans (Nat.div_le_self _ _) (by omega)
              have hdq : (x : Int) / (tt : Int) = (d : Int) := by rw [ed]; push_cast; rfl
              have HBT := Lib.hid (show d % 2 = M5.val a / (65536 ^ i * 2 ^ m) % 2 from by rw [ed]; exact HBE.out)
              have hd2 : d % 2 = 0 ∨ d % 2 = 1 := Nat.mod_two_eq_zero_or_one d
              have kbb := par_bool d
              have hina : i < na := hk2
              have M0 := Lib.hid (And.intro HM.out.1 (And.intro HM.out.2 (And.intro HBT.out (And.intro hD (And.intro HBI.out hm)))))
              clear hbb ra hD el ed TT SV HBT HM HBI HBE
              rcases hd2 with hd2 | hd2
              · obtain ⟨hm0, _, hbeta, hD, hbit, hm⟩ := M0.out
                have kb := kbb.1 hd2
                have K := hm0 (hbeta.symm.trans hd2)
                obtain ⟨z, hz, O⟩ := div_order K la1
                have OO := Lib.hid O
                rcases hz with ⟨hz, hge⟩ | ⟨hz, hge⟩
                · have MM := Lib.hid (fun nq => div_take K la1 hina hm hD hge nq)
                  have HB := Lib.hid hbit
                  clear hm0 hbeta hD hbit hm K O hge hd2 M0 kbb
                  go_wp2_with fail
                  clear hdq kb
                  refine OO.out.mono ?_
                  rintro e w' ⟨rfl, nq, rfl⟩
                  go_wp2_with fail
                  refine (MM.out _).mono ?_
                  rintro e w3 ⟨g3, c3, zq, rfl, hzq, cq, fq, hfin⟩
                  rw [← HB.out] at hzq
                  have FF := Lib.hid (hfin tt HB.out)
                  clear hfin
                  go_wp2
                  go_roundw
                  case rel => exact ⟨m, tt / 2, by omega, by go_num, Lib.hid (by rw [HB.out]), by omega, FF.out⟩
                  case measure => simp [intOf]; omega
                · have FF := Lib.hid (fun nq => div_keep K hD hge nq)
                  have HB := Lib.hid hbit
                  clear hm0 hbeta hD hbit hm K O hge hd2 M0 kbb
                  go_wp2_with fail
                  clear hdq kb
                  refine OO.out.mono ?_
                  rintro e w' ⟨rfl, nq, rfl⟩
                  go_wp2
                  go_roundw
                  case rel => exact ⟨m, tt / 2, by omega, by go_num, Lib.hid (by rw [HB.out]), by omega, FF.out _⟩
                  case measure => simp [intOf]; omega
              · obtain ⟨_, hm1, hbeta, hD, hbit, hm⟩ := M0.out
                have kb := kbb.2 hd2
                obtain ⟨zz, hzz, cz, fz, K⟩ := hm1 (hbeta.symm.trans hd2)
                obtain ⟨z, hz, O⟩ := div_order K la1
                have OO := Lib.hid O
                rcases hz with ⟨hz, hge⟩ | ⟨hz, hge⟩
                · have MM := Lib.hid (fun nq => div_take K la1 hina hm hD hge nq)
                  have HB := Lib.hid hbit
                  clear hm1 hbeta hD hbit hm K O hge hd2 M0 kbb
                  go_wp2_with fail
                  clear hdq kb
                  refine OO.out.mono ?_
                  rintro e w' ⟨rfl, nq, rfl⟩
                  go_wp2_with fail
                  refine (MM.out _).mono ?_
                  rintro e w3 ⟨g3, c3, zq, rfl, hzq, cq, fq, hfin⟩
                  rw [← HB.out] at hzq
                  have FF := Lib.hid (hfin tt HB.out)
                  clear hfin
                  go_wp2
                  go_roundw
                  case rel => exact ⟨m, tt / 2, by omega, by go_num, Lib.hid (by rw [HB.out]), by omega, FF.out⟩
                  case measure => simp [intOf]; omega
                · have FF := Lib.hid (fun nq => div_keep K hD hge nq)
                  have HB := Lib.hid hbit
                  clear hm1 hbeta hD hbit hm K O hge hd2 M0 kbb
                  go_wp2_with fail
                  clear hdq kb
                  refine OO.out.mono ?_
                  rintro e w' ⟨rfl, nq, rfl⟩
                  go_wp2
                  go_roundw
                  case rel => exact ⟨m, tt / 2, by omega, by go_num, Lib.hid (by rw [HB.out]), by omega, FF.out _⟩
                  case measure => simp [intOf]; omega

end Go.Proofs.Ytcfidibkihkndaa
