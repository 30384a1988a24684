import Derived.Test.YthcejmbjagpjcaaA6
namespace Go.Proofs.Ythcejmbjagpjcaa
open Go.RowKit

theorem root_neg (n : Int) (w : World) (hn : n < 0) :
    Calls Try.prog 43 #[.int .i64 n] w fun e w' => e = .returned (.int .i64 0) ∧ w = w' := by
  go_enter Try.func43, Try.ntmps43
  go_wp2
  go_ret
  exact ⟨rfl, rfl⟩

def RootRel2 (n : Nat) (x y : Value) : Prop := ∃ k r a b : Nat, k ≤ 32 ∧ x = .int .i64 r ∧ y = .int .i64 b ∧ b = 2 ^ k / 2 ∧ r = 2 ^ k * a ∧ r + 2 ^ k ≤ 4294967296 ∧ M3.rt k r n = M3.root n
theorem RootRel2.out {n : Nat} {x y : Value} (h : RootRel2 n x y) : ∃ k r a b : Nat, k ≤ 32 ∧ x = .int .i64 r ∧ y = .int .i64 b ∧ b = 2 ^ k / 2 ∧ r = 2 ^ k * a ∧ r + 2 ^ k ≤ 4294967296 ∧ M3.rt k r n = M3.root n := h

theorem i64_in (x : Int) (h0 : -9223372036854775808 ≤ x) (h1 : x ≤ 9223372036854775807) : wrap64 x = x := by unfold wrap64; omega

set_option maxHeartbeats 1000000 in
theorem refroot_yes (n : Nat) (w : World) (hn : n < 9223372036854775808) :
    Calls Try.prog 42 #[.int .i64 n] w fun e w' => e = .returned (.int .i64 (M3.root n : Int)) ∧ w = w' := by
  go_enter Try.func42, Try.ntmps42
  go_wp2
  go_loop [3, 4] (fun x y => RootRel2 n x y) (fun _ y => (intOf y).toNat)
  case atStart => exact ⟨32, 0, 0, 2147483648, by omega, rfl, rfl, rfl, rfl, by omega, rfl⟩
  case round =>
    obtain ⟨k, r, a, b, hk, rfl, rfl, hb, hr, hrb, he⟩ := hrel.out
    clear hrel
    rcases k with _ | j
    · have hb0 : b = 0 := by simpa using hb
      subst hb0
      have hn0 : r = M3.root n := he
      subst hn0
      clear he hb hr hrb
      go_wp2
      go_ret
      exact ⟨rfl, rfl⟩
    · have ⟨_, _, s3, s4, s5⟩ := root_step j r a (by omega) hr hrb
      have hbj : b = 2 ^ j := by rw [hb, s5]; omega
      rw [← hbj] at s3 s4 s5
      rw [s5] at hrb
      obtain ⟨m, hm⟩ : ∃ m, m = r + b := ⟨_, rfl⟩
      obtain ⟨q, hq⟩ : ∃ q, q = m * m := ⟨_, rfl⟩
      have hmb : m ≤ 4294967295 := by omega
      have hrt : M3.rt (j + 1) r n = if q ≤ n then M3.rt j m n else M3.rt j r n := by rw [M3.rt, ← hbj, ← hm, ← hq]
      have HH := Lib.hid (And.intro he (And.intro hbj (And.intro hb (And.intro hr (And.intro s5 (And.intro hk (And.intro hm hrt)))))))
      have HM := Lib.hid hm
      have HQ := Lib.hid hq
      by_cases hl : m ≤ 3037000499
      · have hq1 : q ≤ 9223372030926249001 := by
          rw [hq]
          exact Nat.mul_le_mul hl hl
        have cm : decide ((r : Int) + (b : Int) ≤ 3037000499) = true := by simp; omega
        have wq : wrap64 (((r : Int) + (b : Int)) * ((r : Int) + (b : Int))) = (q : Int) := by
          have e : ((r : Int) + (b : Int)) * ((r : Int) + (b : Int)) = (q : Int) := by rw [hq, hm]; push_cast; rfl
          rw [e]; exact i64_in _ (by omega) (by omega)
        clear he hbj hb hr s5 hk hm hq hrt hl
        by_cases ht : q ≤ n
        · go_wp2
          go_round
          case rel =>
            obtain ⟨he, hbj, hb, hr, s5, hk, hm, hrt⟩ := HH.out
            rw [if_pos ht, he] at hrt
            refine ⟨j, m, 2 * a + 1, b / 2, by omega, by rw [hm]; go_num, by go_num, by rw [hbj], ?_, by omega, hrt.symm⟩
            rw [hm, hr, hbj, Nat.pow_succ, Nat.mul_add, Nat.mul_assoc]; omega
          case measure => simp [intOf]; omega
        · go_wp2
          go_round
          case rel =>
            obtain ⟨he, hbj, hb, hr, s5, hk, hm, hrt⟩ := HH.out
            rw [if_neg ht, he] at hrt
            refine ⟨j, r, 2 * a, b / 2, by omega, rfl, by go_num, by rw [hbj], ?_, by omega, hrt.symm⟩
            rw [hr, Nat.pow_succ, Nat.mul_assoc]
          case measure => simp [intOf]; omega
      · have hqn : n < q := by rw [hq]; exact M3.sq_small m n hn (by omega)
        have cm : decide ((r : Int) + (b : Int) ≤ 3037000499) = false := by simp; omega
        clear he hbj hb hr s5 hk hm hq hrt hl
        go_wp2
        go_round
        case rel =>
          obtain ⟨he, hbj, hb, hr, s5, hk, hm, hrt⟩ := HH.out
          rw [if_neg (by omega), he] at hrt
          refine ⟨j, r, 2 * a, b / 2, by omega, rfl, by go_num, by rw [hbj], ?_, by omega, hrt.symm⟩
          rw [hr, Nat.pow_succ, Nat.mul_assoc]
        case measure => simp [intOf]; omega

def RootRel3 (x y : Value) : Prop := ∃ b : Nat, b ≤ 2147483648 ∧ x = .int .i64 0 ∧ y = .int .i64 b
theorem RootRel3.out {x y : Value} (h : RootRel3 x y) : ∃ b : Nat, b ≤ 2147483648 ∧ x = .int .i64 0 ∧ y = .int .i64 b := h

set_option maxHeartbeats 1000000 in
theorem refroot_neg (n : Int) (w : World) (hn : n < 0) :
    Calls Try.prog 42 #[.int .i64 n] w fun e w' => e = .returned (.int .i64 0) ∧ w = w' := by
  go_enter Try.func42, Try.ntmps42
  go_wp2
  go_loop [3, 4] (fun x y => RootRel3 x y) (fun _ y => (intOf y).toNat)
  case atStart => exact ⟨2147483648, by omega, rfl, rfl⟩
  case round =>
    obtain ⟨b, hb, rfl, rfl⟩ := hrel.out
    clear hrel
    by_cases hb0 : 0 < b
    · have hq0 : 0 ≤ (b : Int) * (b : Int) := Int.mul_nonneg (by omega) (by omega)
      have hq1 : (b : Int) * (b : Int) ≤ 2147483648 * 2147483648 := Int.mul_le_mul (by omega) (by omega) (by omega) (by omega)
      have wq : wrap64 ((b : Int) * (b : Int)) = (b : Int) * (b : Int) := i64_in _ (by omega) (by omega)
      have ct : decide ((b : Int) * (b : Int) ≤ n) = false := by simp; omega
      clear hq0 hq1
      by_cases cm : (b : Int) ≤ 3037000499
      · go_wp2
        go_round
        case rel => exact ⟨b / 2, by omega, rfl, by go_num⟩
        case measure => simp [intOf]; omega
      · omega
    · have hb0 : b = 0 := by omega
      subst hb0
      go_wp2
      go_ret
      exact ⟨rfl, rfl⟩

end Go.Proofs.Ythcejmbjagpjcaa
