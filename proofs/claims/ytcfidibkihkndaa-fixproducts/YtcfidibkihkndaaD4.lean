import Derived.Test.YtcfidibkihkndaaR2
namespace Go.Proofs.Ytcfidibkihkndaa
open Go.RowKit
set_option linter.unusedVariables false

/-- between the rounds of the outer loop -/
def TimesOut (w : World) (G n : Nat) (a b : List Nat) (i : Nat) (wr : World) : Prop :=
  ∃ l, l.length = n ∧ Row wr G l ∧ M5.Dig l ∧ M5.val l = M5.val (a.take i) * M5.val b ∧ (∀ j, i + b.length ≤ j → M5.dg l j = 0) ∧ Below w.heap.size w wr
/-- between the rounds of the inner loop -/
def TimesIn (w : World) (G n : Nat) (b : List Nat) (i y T : Nat) (k lf : Nat) (wr : World) : Prop :=
  ∃ l, l.length = n ∧ Row wr G l ∧ M5.Dig l ∧ M5.val l + lf * 65536 ^ (i + k) = T + y * M5.val (b.take k) * 65536 ^ i ∧ (∀ j, i + b.length ≤ j → M5.dg l j = 0) ∧ lf < 65536 ∧ Below w.heap.size w wr

set_option maxHeartbeats 4000000 in
theorem times_any (w : World) (ga ca gb cb : Nat) (a b : List Nat) (ra : Row w ga a) (rb : Row w gb b) (da : M5.Dig a) (db : M5.Dig b) (la : a.length ≤ 50) (lb : b.length ≤ 50) (hca : a.length ≤ ca) (hcb : b.length ≤ cb) :
    Calls Try.prog 39 #[.slice (some ⟨ga, 0, none⟩) a.length ca, .slice (some ⟨gb, 0, none⟩) b.length cb] w fun e w' => ∃ v l, e = .returned v ∧ NewRow w w' v l ∧ l.length = a.length + b.length ∧ M5.Dig l ∧ M5.val l = M5.val a * M5.val b := by
  obtain ⟨na, ena⟩ : ∃ n, n = a.length := ⟨_, rfl⟩
  obtain ⟨nb, enb⟩ : ∃ n, n = b.length := ⟨_, rfl⟩
  have HL := Lib.hid (And.intro ena enb)
  rw [← ena] at la hca
  rw [← enb] at lb hcb
  have HA := Lib.hid (And.intro ra (And.intro rb (And.intro da db)))
  rw [← ena, ← enb]
  have hmk := fun wx => made_int (na + nb) (by omega) wx
  rw [Int.natCast_add] at hmk
  clear ena enb ra rb da db
  go_enter Try.func39, Try.ntmps39
  go_wp2
  clear hmk
  go_loopw [6] (fun i wr => ∃ k : Nat, k ≤ na ∧ i = .int .i64 k ∧ TimesOut w w.heap.size (na + nb) a b k wr) (fun i _ => na - (intOf i).toNat)
  case atStart =>
    refine ⟨0, by omega, rfl, _, ?_, row_made w (na + nb), M5.dig_zeros _, ?_, ?_, bq_alloc (Below.refl _ _) _⟩
    · simp
    · rw [M5.val_zeros]; simp [M5.val]
    · intro j _; exact M5.dg_zeros _ _
  case round =>
    obtain ⟨i, hi, rfl, hto⟩ := hrel
    have HT := Lib.hid hto
    clear hto
    by_cases hlt : i < na
    · obtain ⟨y, ey⟩ : ∃ y, y = M5.dg a i := ⟨_, rfl⟩
      obtain ⟨T, eT⟩ : ∃ T, T = M5.val (a.take i) * M5.val b := ⟨_, rfl⟩
      have HY := Lib.hid (And.intro ey eT)
      have hy : y < 65536 := by rw [ey]; exact M5.dig_at HA.out.2.2.1 i
      clear ey eT
      go_wp2
      go_loopw [7, 8] (fun lf k wr' => ∃ kk f : Nat, kk ≤ nb ∧ k = .int .i64 kk ∧ lf = .int .i64 f ∧ TimesIn w w.heap.size (na + nb) b i y T kk f wr') (fun _ k _ => nb - (intOf k).toNat)
      case atStart =>
        obtain ⟨l, h1, h2, h3, h4, h5, h6⟩ := HT.out
        exact ⟨0, 0, by omega, rfl, rfl, l, h1, h2, h3, by rw [h4, HY.out.2]; simp [M5.val], h5, by omega, h6⟩
      case round =>
        obtain ⟨kk, f, hkk, rfl, rfl, l, h1, h2, h3, h4, h5, hf, hb⟩ := hrel
        by_cases hltk : kk < nb
        · obtain ⟨j, ej⟩ : ∃ j, j = i + kk := ⟨_, rfl⟩
          obtain ⟨x, ex⟩ : ∃ x, x = M5.dg l j := ⟨_, rfl⟩
          obtain ⟨u, eu⟩ : ∃ u, u = M5.dg b kk := ⟨_, rfl⟩
          have cl := h2.cell (i := j) (by omega)
          have fl := h2.free (i := j) (by omega)
          have ha' := HA.out.1.below hb HA.out.1.lt
          have hb' := HA.out.2.1.below hb HA.out.2.1.lt
          have ca1 := ha'.cell (i := i) (by rw [← HL.out.1]; exact hlt)
          have cb1 := hb'.cell (i := kk) (by rw [← HL.out.2]; exact hltk)
          rw [← ex] at cl
          rw [← HY.out.1] at ca1
          rw [← eu] at cb1
          have hx : x < 65536 := by rw [ex]; exact M5.dig_at h3 j
          have hu : u < 65536 := by rw [eu]; exact M5.dig_at HA.out.2.2.2 kk
          obtain ⟨p, ep⟩ : ∃ p, p = y * u := ⟨_, rfl⟩
          have hp : p ≤ 65535 * 65535 := by rw [ep]; exact Nat.mul_le_mul (by omega) (by omega)
          obtain ⟨t1, et1⟩ : ∃ t, t = x + p := ⟨_, rfl⟩
          obtain ⟨t2, et2⟩ : ∃ t, t = t1 + f := ⟨_, rfl⟩
          have m1 : IntKind.i64.wrap ((i : Int) + (kk : Int)) = (j : Int) := by rw [IntWalk.i64_in _ (by omega)]; omega
          have m2 : (i : Int) + (kk : Int) = (j : Int) := by omega
          have m3 : IntKind.i64.wrap ((y : Int) * (u : Int)) = (p : Int) := by
            have : (y : Int) * (u : Int) = (p : Int) := by rw [ep]; push_cast; rfl
            rw [this, IntWalk.i64_in _ (by omega)]
          have m4 : IntKind.i64.wrap ((x : Int) + (p : Int)) = (t1 : Int) := by rw [IntWalk.i64_in _ (by omega)]; omega
          have m5 : IntKind.i64.wrap ((t1 : Int) + (f : Int)) = (t2 : Int) := by rw [IntWalk.i64_in _ (by omega)]; omega
          have ht2 : t2 ≤ 4294967295 := by omega
          have hjn : j < na + nb := by omega
          have hst := M5.step_set l j t2 x p f (by omega) ex.symm (by omega)
          have hvt := M5.val_take b kk (by rw [← HL.out.2]; exact hltk)
          have hlt2 := HA.out.1.lt
          have hlt3 := HA.out.2.1.lt
          have F : ∀ nq, TimesIn w w.heap.size (na + nb) b i y T (kk + 1) (t2 / 65536) ((wr.drewN nq).setCell ⟨w.heap.size, j, none⟩ (.int .i64 ((t2 : Int) % 65536))) := by
            intro nq
            rw [show (t2 : Int) % 65536 = ((t2 % 65536 : Nat) : Int) by omega]
            refine ⟨l.set j (t2 % 65536), by rw [List.length_set]; exact h1, (h2.drewN nq).set (by omega) _, M5.dig_set h3 _ _ (by omega), ?_, ?_, by omega, (bq_drewN hb nq).setCell (Nat.le_refl _) _⟩
            · rw [show i + (kk + 1) = j + 1 by omega, hst, hvt, ← eu, ej, h4, Nat.mul_add, Nat.add_mul, ep]
              have : y * (65536 ^ kk * u) * 65536 ^ i = y * u * 65536 ^ (i + kk) := by
                rw [Nat.pow_add, Nat.mul_comm (65536 ^ kk) u, ← Nat.mul_assoc y u, Nat.mul_assoc, Nat.mul_comm (65536 ^ kk)]
              omega
            · intro q hq
              rw [M5.dg_set_ne _ _ _ _ (by have := HL.out; omega)]
              exact h5 q hq
          have FF := Lib.hid F
          clear F hst hvt h1 h2 h3 h4 h5 hb ex eu ep et1 et2 ej ha' hb' hp hy hx hu hf
          go_wp2
          go_quiet (fail)
          go_wp2
          go_roundw
          case rel => exact ⟨kk + 1, t2 / 65536, by omega, by go_num, by go_num, FF.out nq⟩
          case measure => simp [intOf]; omega
        · have ekk : kk = nb := by omega
          subst ekk
          obtain ⟨j, ej⟩ : ∃ j, j = i + kk := ⟨_, rfl⟩
          have cl := h2.cell (i := j) (by omega)
          have fl := h2.free (i := j) (by omega)
          have hz := h5 j (by have := HL.out; omega)
          rw [hz] at cl
          have m2 : (i : Int) + (kk : Int) = (j : Int) := by omega
          have hjn : j < na + kk := by omega
          have hst := M5.val_set l j f (by omega)
          have hvt := M5.val_take a i (by rw [← HL.out.1]; exact hlt)
          have hlt2 := HA.out.1.lt
          have hlt3 := HA.out.2.1.lt
          have F : TimesOut w w.heap.size (na + kk) a b (i + 1) (wr.setCell ⟨w.heap.size, j, none⟩ (.int .i64 (f : Int))) := by
            refine ⟨l.set j f, by rw [List.length_set]; exact h1, h2.set (by omega) _, M5.dig_set h3 _ _ hf, ?_, ?_, hb.setCell (Nat.le_refl _) _⟩
            · rw [hz, Nat.mul_zero] at hst
              rw [List.take_of_length_le (by have := HL.out; omega)] at h4
              rw [hvt, Nat.add_mul, ← HY.out.2, ← HY.out.1]
              have e1 : 65536 ^ i * y * M5.val b = y * M5.val b * 65536 ^ i := by rw [Nat.mul_comm (65536 ^ i), Nat.mul_assoc, Nat.mul_comm (65536 ^ i), ← Nat.mul_assoc]
              have e2 : 65536 ^ j * f = f * 65536 ^ (i + kk) := by rw [ej, Nat.mul_comm]
              omega
            · intro q hq
              rw [M5.dg_set_ne _ _ _ _ (by have := HL.out; omega)]
              exact h5 q (by omega)
          have FF := Lib.hid F
          have hf2 : f ≤ 65535 := by omega
          clear F hst hvt h1 h2 h3 h4 h5 hb ej hz hf hy
          go_wp2
          go_roundw
          case rel => exact ⟨i + 1, by omega, by go_num, FF.out⟩
          case measure => simp [intOf]; omega
    · have e : i = na := by omega
      subst e
      have F : NewRow w wr (.slice (some ⟨w.heap.size, 0, none⟩) (i + nb) (i + nb)) (Classical.choose HT.out) ∧ (Classical.choose HT.out).length = i + nb ∧ M5.Dig (Classical.choose HT.out) ∧ M5.val (Classical.choose HT.out) = M5.val a * M5.val b := by
        obtain ⟨h1, h2, h3, h4, h5, h6⟩ := Classical.choose_spec HT.out
        generalize Classical.choose HT.out = l at *
        refine ⟨⟨w.heap.size, i + nb, by rw [h1], by omega, Nat.le_refl _, h2, h6⟩, h1, h3, ?_⟩
        rw [h4, List.take_of_length_le (by have := HL.out; omega)]
      have FF := Lib.hid F
      clear F
      go_wp2
      go_ret
      exact ⟨_, _, rfl, FF.out⟩

end Go.Proofs.Ytcfidibkihkndaa
