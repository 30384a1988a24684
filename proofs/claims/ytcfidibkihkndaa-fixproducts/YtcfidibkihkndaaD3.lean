import Derived.Test.YtcfidibkihkndaaR2
namespace Go.Proofs.Ytcfidibkihkndaa
open Go.RowKit
set_option linter.unusedVariables false

def DigRel5 (a : Int) (B : Nat) (w0 : World) (s0 v i : Value) (wr : World) : Prop :=
  ∃ (k : Nat) (z : Int) (l : List Nat), k ≤ 5 ∧ i = .int .i64 k ∧ s0 = .int .i64 z ∧ -9223372036854775808 ≤ z ∧ z ≤ 9223372036854775807 ∧ l.length = k ∧ wr.ownsRow B 3 1 v k (cellsOf l) ∧ M5.Dig l ∧ M5.val l + 65536 ^ k * z.natAbs = a.natAbs ∧ Below B w0 wr
theorem DigRel5.out {a : Int} {B : Nat} {w0 : World} {s0 v i : Value} {wr : World} (h : DigRel5 a B w0 s0 v i wr) : ∃ (k : Nat) (z : Int) (l : List Nat), k ≤ 5 ∧ i = .int .i64 k ∧ s0 = .int .i64 z ∧ -9223372036854775808 ≤ z ∧ z ≤ 9223372036854775807 ∧ l.length = k ∧ wr.ownsRow B 3 1 v k (cellsOf l) ∧ M5.Dig l ∧ M5.val l + 65536 ^ k * z.natAbs = a.natAbs ∧ Below B w0 wr := h

theorem i64_in' (x : Int) (h0 : -9223372036854775808 ≤ x) (h1 : x ≤ 9223372036854775807) : wrap64 x = x := by unfold wrap64; omega

set_option maxHeartbeats 2000000 in
theorem digits_any (a : Int) (w : World) (a0 : -9223372036854775808 ≤ a) (a1 : a ≤ 9223372036854775807) (s : Bool) (hs : decide (a < 0) = s) :
    Calls Try.prog 30 #[.int .i64 a] w fun e w' => ∃ v l, e = .returned (.tuple #[v, .bool s]) ∧ NewRow w w' v l ∧ l.length = 5 ∧ M5.Dig l ∧ M5.val l = a.natAbs := by
  go_enter Try.func30, Try.ntmps30
  go_wp2
  go_loopw [0, 5, 6] (fun s0 v i wr => DigRel5 a w.heap.size w s0 v i wr) (fun _ _ i _ => 5 - (intOf i).toNat)
  case atStart => exact ⟨0, a, [], by omega, rfl, rfl, a0, a1, rfl, World.ownsRow_nil _ _ _ _, by intro x hx; simp at hx, by simp [M5.val], Below.refl _ _⟩
  case round =>
    obtain ⟨k, z, l, hk, rfl, rfl, z0, z1, hl, hown, hd, hv, hb⟩ := hrel.out
    clear hrel
    by_cases hlt : k < 5
    · obtain ⟨d, ed⟩ : ∃ d, z.tmod 65536 = d := ⟨_, rfl⟩
      obtain ⟨z', ez⟩ : ∃ z', z.tdiv 65536 = z' := ⟨_, rfl⟩
      obtain ⟨x, hx⟩ : ∃ x : Nat, x = d.natAbs := ⟨_, rfl⟩
      have f1 : d.natAbs = z.natAbs % 65536 := by rw [← ed, Int.natAbs_tmod]; rfl
      have f2 : z'.natAbs = z.natAbs / 65536 := by rw [← ez]; exact Int.natAbs_tdiv ..
      have hx1 : x < 65536 := by omega
      have R : M5.val (l ++ [x]) + 65536 ^ (k + 1) * z'.natAbs = a.natAbs := by
        rw [M5.val_snoc, hl, ← hv, Nat.pow_succ, Nat.mul_assoc, Nat.add_assoc, ← Nat.mul_add]
        congr 2
        omega
      have RR := Lib.hid (And.intro R (And.intro (M5.dig_snoc hd hx1) (And.intro hl (And.intro hown (And.intro hb (And.intro (show -9223372036854775808 ≤ z' by omega) (show z' ≤ 9223372036854775807 by omega)))))))
      have hsz := hb.size
      have zb0 : -9223372036854775808 ≤ z' := by omega
      have zb1 : z' ≤ 9223372036854775807 := by omega
      have HB := Lib.hid hb
      have HO := Lib.hid hown
      clear R hd hv f1 f2 hl hown hb
      by_cases hneg : d < 0
      · have en : wrap64 (-d) = (x : Int) := by unfold wrap64; omega
        clear hx
        go_wp2_with (at_builtin; refine app_int rfl _ _ rfl _ _ _ _ _ rfl HO.out rfl (by omega) hsz ?_; intro v' w1 hown' hb')
        have NN := Lib.hid (And.intro hown' hb')
        clear hown' hb'
        go_wp2
        go_roundw
        case rel =>
          obtain ⟨r1, r2, r3, r4, r5, r6, r7⟩ := RR.out
          exact ⟨k + 1, z', l ++ [x], by omega, by go_num, by first | rfl | (congr 1; exact i64_in' _ r6 r7), r6, r7, by simp [r3], NN.out.1, r2, r1, r5.trans NN.out.2⟩
        case measure => simp [intOf]; omega
      · have hd2 : d = (x : Int) := by omega
        subst hd2
        clear hx
        go_wp2_with (at_builtin; refine app_int rfl _ _ rfl _ _ _ _ _ rfl HO.out rfl (by omega) hsz ?_; intro v' w1 hown' hb')
        have NN := Lib.hid (And.intro hown' hb')
        clear hown' hb'
        go_wp2
        go_roundw
        case rel =>
          obtain ⟨r1, r2, r3, r4, r5, r6, r7⟩ := RR.out
          exact ⟨k + 1, z', l ++ [x], by omega, by go_num, by first | rfl | (congr 1; exact i64_in' _ r6 r7), r6, r7, by simp [r3], NN.out.1, r2, r1, r5.trans NN.out.2⟩
        case measure => simp [intOf]; omega
    · have hk5 : k = 5 := by omega
      subst hk5
      have hz : z.natAbs = 0 := by
        have h1 : 65536 ^ 5 * z.natAbs ≤ 9223372036854775808 := by omega
        have h2 : 65536 ^ 5 = 1208925819614629174706176 := by decide
        omega
      have F := Lib.hid (And.intro (newRow_own (by rw [hl]; exact hown) (by omega) hb) (And.intro hl (And.intro hd (show M5.val l = a.natAbs by rw [hz] at hv; omega))))
      clear hl hown hd hv hb hz
      go_wp2
      go_ret2
      exact ⟨_, l, rfl, F.out⟩

end Go.Proofs.Ytcfidibkihkndaa
