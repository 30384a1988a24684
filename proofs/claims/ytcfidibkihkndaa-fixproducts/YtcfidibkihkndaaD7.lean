import Derived.Test.YtcfidibkihkndaaD3
namespace Go.Proofs.Ytcfidibkihkndaa
open Go.RowKit
set_option linter.unusedVariables false

theorem bq_drew_below {B n : Nat} {a b : World} (h : Below B (a.drewN n) b) : Below B a b := ⟨h.os, h.tape, h.output, h.size, h.block⟩

def OneRel (l : List Nat) (B : Nat) (w0 : World) (v f i : Value) (wr : World) : Prop :=
  ∃ (k left : Nat) (o : List Nat), k ≤ l.length ∧ i = .int .i64 k ∧ f = .int .i64 left ∧ left ≤ 1 ∧ o.length = k ∧ wr.ownsRow B 3 1 v k (cellsOf o) ∧ M5.Dig o ∧ M5.val o + left * 65536 ^ k = M5.val (l.take k) + 1 ∧ Below B w0 wr
theorem OneRel.out {l : List Nat} {B : Nat} {w0 : World} {v f i : Value} {wr : World} (h : OneRel l B w0 v f i wr) : ∃ (k left : Nat) (o : List Nat), k ≤ l.length ∧ i = .int .i64 k ∧ f = .int .i64 left ∧ left ≤ 1 ∧ o.length = k ∧ wr.ownsRow B 3 1 v k (cellsOf o) ∧ M5.Dig o ∧ M5.val o + left * 65536 ^ k = M5.val (l.take k) + 1 ∧ Below B w0 wr := h

set_option maxHeartbeats 2000000 in
theorem one_any (w : World) (g c : Nat) (l : List Nat) (h : Row w g l) (hd : M5.Dig l) (hl : l.length ≤ 100) (h0 : 0 < l.length) (hc : l.length ≤ c) (hv : M5.val l + 1 < 65536 ^ l.length) :
    Calls Try.prog 33 #[.slice (some ⟨g, 0, none⟩) l.length c] w fun e w' => ∃ v o, e = .returned v ∧ NewRow w w' v o ∧ o.length = l.length ∧ M5.Dig o ∧ M5.val o = M5.val l + 1 := by
  obtain ⟨n, hn⟩ : ∃ n, n = l.length := ⟨_, rfl⟩
  have H := Lib.hid (And.intro h (And.intro hd (And.intro hv (And.intro hn h0))))
  rw [← hn] at hl hc ⊢
  clear h hd hv hn h0
  go_enter Try.func33, Try.ntmps33
  go_wp2
  go_loopw [3, 4, 5] (fun v f i wr => OneRel l w.heap.size w v f i wr) (fun _ _ i _ => n - (intOf i).toNat)
  case atStart => exact ⟨0, 1, [], by omega, rfl, rfl, by omega, rfl, World.ownsRow_nil _ _ _ _, by intro x hx; simp at hx, by simp [M5.val], Below.refl _ _⟩
  case round =>
    obtain ⟨k, f, o, hk, rfl, rfl, hf, ho, hown, hdo, hvo, hb⟩ := hrel.out
    clear hrel
    obtain ⟨hr, hd, hv, hn, h0⟩ := H.out
    rw [← hn] at hk
    by_cases hlt : k < n
    · obtain ⟨x, ex⟩ : ∃ x, x = M5.dg l k := ⟨_, rfl⟩
      have hr' := hr.below hb hr.lt
      have c1 := hr'.cell (i := k) (by omega)
      rw [← ex] at c1
      have hx : x < 65536 := by rw [ex]; exact M5.dig_at hd k
      obtain ⟨s, es⟩ : ∃ s, s = x + f := ⟨_, rfl⟩
      have m1 : (x : Int) + (f : Int) = (s : Int) := by omega
      have hsb : s ≤ 65536 := by omega
      have R : M5.val (o ++ [s % 65536]) + s / 65536 * 65536 ^ (k + 1) = M5.val (l.take (k + 1)) + 1 := by
        rw [M5.val_snoc, ho, M5.val_take l k (by omega), ← ex, Nat.pow_succ]
        have e1 : s / 65536 * (65536 ^ k * 65536) = 65536 ^ k * (s / 65536 * 65536) := by rw [Nat.mul_comm (65536 ^ k) 65536, ← Nat.mul_assoc, Nat.mul_comm]
        have e2 : 65536 ^ k * (s % 65536) + 65536 ^ k * (s / 65536 * 65536) = 65536 ^ k * x + f * 65536 ^ k := by
          rw [← Nat.mul_add, Nat.mul_comm f, ← Nat.mul_add]; congr 1; omega
        omega
      have hsz := hb.size
      have RR := Lib.hid (And.intro R (And.intro (M5.dig_snoc hdo (show s % 65536 < 65536 by omega)) (And.intro ho hb)))
      have HO := Lib.hid hown
      have em : (s : Int) % 65536 = ((s % 65536 : Nat) : Int) := by omega
      obtain ⟨u, eu⟩ : ∃ u, u = s % 65536 := ⟨_, rfl⟩
      rw [← eu] at RR em
      clear R hdo hvo ho hown hb hr hd hv hn h0 hr' ex es eu
      go_wp2_with (at_builtin; refine app_int rfl _ _ rfl _ _ _ _ u rfl HO.out rfl (by omega) hsz ?_; intro v' w1 hown' hb')
      have NN := Lib.hid (And.intro hown' hb')
      clear hown' hb'
      go_wp2
      go_roundw
      case rel =>
        obtain ⟨r1, r2, r3, r4⟩ := RR.out
        exact ⟨k + 1, s / 65536, o ++ [u], by have := H.out.2.2.2.1; omega, by go_num, by go_num, by omega, by simp [r3], NN.out.1, r2, r1, r4.trans NN.out.2⟩
      case measure => simp [intOf]; omega
    · have e : k = n := by omega
      subst e
      rw [List.take_of_length_le (by omega)] at hvo
      have hf0 : f = 0 := by
        rcases Nat.eq_zero_or_pos f with h1 | h1
        · exact h1
        · have h2 : 1 * 65536 ^ k ≤ f * 65536 ^ k := Nat.mul_le_mul h1 (Nat.le_refl _)
          rw [hn] at h2
          rw [hn] at hvo
          omega
      have F := Lib.hid (And.intro (newRow_own (by rw [ho]; exact hown) (by omega) hb) (And.intro ho (And.intro hdo (show M5.val o = M5.val l + 1 by rw [hf0] at hvo; omega))))
      clear ho hown hdo hvo hb hf0 hr hd hv hn h0
      go_wp2
      go_ret
      exact ⟨_, o, rfl, F.out⟩

def MinRel (a b : List Nat) (B : Nat) (w0 : World) (v f i : Value) (wr : World) : Prop :=
  ∃ (k left : Nat) (o : List Nat), k ≤ a.length ∧ i = .int .i64 k ∧ f = .int .i64 left ∧ left ≤ 1 ∧ o.length = k ∧ wr.ownsRow B 3 1 v k (cellsOf o) ∧ M5.Dig o ∧ M5.val o + M5.val (b.take k) = M5.val (a.take k) + left * 65536 ^ k ∧ Below B w0 wr
theorem MinRel.out {a b : List Nat} {B : Nat} {w0 : World} {v f i : Value} {wr : World} (h : MinRel a b B w0 v f i wr) : ∃ (k left : Nat) (o : List Nat), k ≤ a.length ∧ i = .int .i64 k ∧ f = .int .i64 left ∧ left ≤ 1 ∧ o.length = k ∧ wr.ownsRow B 3 1 v k (cellsOf o) ∧ M5.Dig o ∧ M5.val o + M5.val (b.take k) = M5.val (a.take k) + left * 65536 ^ k ∧ Below B w0 wr := h

set_option maxHeartbeats 2000000 in
theorem minus_any (w : World) (g c g' c' : Nat) (a b : List Nat) (h : Row w g a) (h' : Row w g' b) (ha : M5.Dig a) (hb : M5.Dig b) (hl : a.length = b.length) (hl1 : a.length ≤ 100) (h0 : 0 < a.length) (hc : a.length ≤ c) (hc' : a.length ≤ c') (hv : M5.val b ≤ M5.val a) :
    Calls Try.prog 40 #[.slice (some ⟨g, 0, none⟩) a.length c, .slice (some ⟨g', 0, none⟩) a.length c'] w fun e w' => ∃ v o, e = .returned v ∧ NewRow w w' v o ∧ o.length = a.length ∧ M5.Dig o ∧ M5.val o = M5.val a - M5.val b := by
  obtain ⟨n, hn⟩ : ∃ n, n = a.length := ⟨_, rfl⟩
  have H := Lib.hid (And.intro h (And.intro h' (And.intro ha (And.intro hb (And.intro hl (And.intro hv (And.intro hn h0)))))))
  rw [← hn] at hl1 hc hc' ⊢
  clear h h' ha hb hl hv hn h0
  go_enter Try.func40, Try.ntmps40
  go_wp2
  go_loopw [5, 6, 7] (fun v f i wr => MinRel a b w.heap.size w v f i wr) (fun _ _ i _ => n - (intOf i).toNat)
  case atStart => exact ⟨0, 0, [], by omega, rfl, rfl, by omega, rfl, World.ownsRow_nil _ _ _ _, by intro x hx; simp at hx, by simp [M5.val], Below.refl _ _⟩
  case round =>
    obtain ⟨k, f, o, hk, rfl, rfl, hf, ho, hown, hdo, hvo, hbb⟩ := hrel.out
    clear hrel
    obtain ⟨hr, hr2, ha, hb, hl, hv, hn, h0⟩ := H.out
    rw [← hn] at hk
    by_cases hlt : k < n
    · obtain ⟨x, ex⟩ : ∃ x, x = M5.dg a k := ⟨_, rfl⟩
      obtain ⟨y, ey⟩ : ∃ y, y = M5.dg b k := ⟨_, rfl⟩
      have c1 := (hr.below hbb hr.lt).cell (i := k) (by omega)
      have c2 := (hr2.below hbb hr2.lt).cell (i := k) (by omega)
      rw [← ex] at c1
      rw [← ey] at c2
      have hx : x < 65536 := by rw [ex]; exact M5.dig_at ha k
      have hy : y < 65536 := by rw [ey]; exact M5.dig_at hb k
      have vt1 := M5.val_take a k (by omega)
      have vt2 := M5.val_take b k (by omega)
      rw [← ex] at vt1
      rw [← ey] at vt2
      obtain ⟨d1, ed1⟩ : ∃ d : Int, d = (x : Int) - (y : Int) := ⟨_, rfl⟩
      obtain ⟨d, ed⟩ : ∃ d : Int, d = d1 - (f : Int) := ⟨_, rfl⟩
      have m1 : IntKind.i64.wrap ((x : Int) - (y : Int)) = d1 := by rw [IntWalk.i64_in _ (by omega)]; omega
      have m2 : IntKind.i64.wrap (d1 - (f : Int)) = d := by rw [IntWalk.i64_in _ (by omega)]; omega
      have hsz := hbb.size
      have HO := Lib.hid hown
      have db0 : -65536 ≤ d := by omega
      have db1 : d ≤ 65535 := by omega
      by_cases hneg : d < 0
      · obtain ⟨u, eu⟩ : ∃ u : Nat, (u : Int) = d + 65536 := ⟨(d + 65536).toNat, by omega⟩
        have R : M5.val (o ++ [u]) + M5.val (b.take (k + 1)) = M5.val (a.take (k + 1)) + 1 * 65536 ^ (k + 1) := by
          rw [M5.val_snoc, ho, vt1, vt2, Nat.pow_succ]
          have e2 : 65536 ^ k * u + 65536 ^ k * y + f * 65536 ^ k = 65536 ^ k * x + 65536 ^ k * 65536 := by
            rw [Nat.mul_comm f, ← Nat.mul_add, ← Nat.mul_add, ← Nat.mul_add]; congr 1; omega
          omega
        have RR := Lib.hid (And.intro R (And.intro (M5.dig_snoc hdo (show u < 65536 by omega)) (And.intro ho (And.intro hbb hn))))
        have em : d + 65536 = (u : Int) := eu.symm
        have HD := Lib.hid (fun nq => (show (wr.drewN nq).ownsRow w.heap.size 3 1 u5 k (cellsOf o) from hown))
        clear R hdo hvo ho hown hbb hr hr2 ha hb hl hv hn h0 ex ey vt1 vt2 ed1 ed eu
        go_wp2
        go_quiet (fail)
        go_wp2_with (at_builtin; refine app_int rfl _ _ rfl _ _ _ _ u rfl (HD.out _) rfl (by omega) hsz ?_; intro v' w1 hown' hb')
        have NN := Lib.hid (And.intro hown' hb')
        clear hown' hb'
        go_wp2
        go_roundw
        case rel =>
          obtain ⟨r1, r2, r3, r4, r5⟩ := RR.out
          exact ⟨k + 1, 1, o ++ [u], by omega, by go_num, rfl, by omega, by simp [r3], NN.out.1, r2, r1, r4.trans (bq_drew_below NN.out.2)⟩
        case measure => simp [intOf]; omega
      · obtain ⟨u, eu⟩ : ∃ u : Nat, (u : Int) = d := ⟨d.toNat, by omega⟩
        have R : M5.val (o ++ [u]) + M5.val (b.take (k + 1)) = M5.val (a.take (k + 1)) + 0 * 65536 ^ (k + 1) := by
          rw [M5.val_snoc, ho, vt1, vt2]
          have e2 : 65536 ^ k * u + 65536 ^ k * y + f * 65536 ^ k = 65536 ^ k * x := by
            rw [Nat.mul_comm f, ← Nat.mul_add, ← Nat.mul_add]; congr 1; omega
          omega
        have RR := Lib.hid (And.intro R (And.intro (M5.dig_snoc hdo (show u < 65536 by omega)) (And.intro ho (And.intro hbb hn))))
        have HD := Lib.hid (fun nq => (show (wr.drewN nq).ownsRow w.heap.size 3 1 u5 k (cellsOf o) from hown))
        subst eu
        clear R hdo hvo ho hown hbb hr hr2 ha hb hl hv hn h0 ex ey vt1 vt2 ed1 ed
        go_wp2
        go_quiet (fail)
        go_wp2_with (at_builtin; refine app_int rfl _ _ rfl _ _ _ _ u rfl (HD.out _) rfl (by omega) hsz ?_; intro v' w1 hown' hb')
        have NN := Lib.hid (And.intro hown' hb')
        clear hown' hb'
        go_wp2
        go_roundw
        case rel =>
          obtain ⟨r1, r2, r3, r4, r5⟩ := RR.out
          exact ⟨k + 1, 0, o ++ [u], by omega, by go_num, rfl, by omega, by simp [r3], NN.out.1, r2, r1, r4.trans (bq_drew_below NN.out.2)⟩
        case measure => simp [intOf]; omega
    · have e : k = n := by omega
      subst e
      rw [List.take_of_length_le (by omega), List.take_of_length_le (by omega)] at hvo
      have hlt2 := M5.val_lt o hdo
      have hf0 : f = 0 := by
        rcases Nat.eq_zero_or_pos f with h1 | h1
        · exact h1
        · have h2 : 1 * 65536 ^ k ≤ f * 65536 ^ k := Nat.mul_le_mul h1 (Nat.le_refl _)
          rw [ho] at hlt2
          omega
      have F := Lib.hid (And.intro (newRow_own (by rw [ho]; exact hown) (by omega) hbb) (And.intro ho (And.intro hdo (show M5.val o = M5.val a - M5.val b by rw [hf0] at hvo; omega))))
      clear ho hown hdo hvo hbb hf0 hr hr2 ha hb hl hv hn h0 hlt2
      go_wp2
      go_ret
      exact ⟨_, o, rfl, F.out⟩

end Go.Proofs.Ytcfidibkihkndaa
