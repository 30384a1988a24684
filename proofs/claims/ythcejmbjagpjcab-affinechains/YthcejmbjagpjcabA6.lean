import Derived.Test.YthcejmbjagpjcabA5
namespace Go.Proofs.Ythcejmbjagpjcab
open Go.RowKit

theorem root_step (j r a : Nat) (hj : j < 32) (hr : r = 2 ^ (j + 1) * a) (hb : r + 2 ^ (j + 1) ≤ 4294967296) :
    bits .or .u64 (r : Int) ((2 ^ j : Nat) : Int) = ((r + 2 ^ j : Nat) : Int) ∧ IntKind.u64.wrap (((r + 2 ^ j : Nat) : Int) * ((r + 2 ^ j : Nat) : Int)) = (((r + 2 ^ j) * (r + 2 ^ j) : Nat) : Int) ∧
    2 ^ j ≤ 2147483648 ∧ 0 < 2 ^ j ∧ 2 ^ (j + 1) = 2 ^ j + 2 ^ j := by
  have h1 : 2 ^ (j + 1) = 2 ^ j + 2 ^ j := by rw [Nat.pow_succ]; omega
  have h2 : 2 ^ j ≤ 2 ^ 31 := Nat.pow_le_pow_right (by omega) (by omega)
  have h3 := Nat.two_pow_pos j
  have h4 : 2 ^ j ≤ 2147483648 := h2
  refine ⟨?_, ?_, h4, h3, h1⟩
  · rw [bits_or_u64_nat _ _ (by omega) (by omega), M3.or_add r j a hr]
  · rw [Words.mulN]
    have : (r + 2 ^ j) * (r + 2 ^ j) ≤ 4294967295 * 4294967295 := Nat.mul_le_mul (by omega) (by omega)
    exact Words.inN _ (by omega)

def RootRel (n : Nat) (x y : Value) : Prop := ∃ k r a b : Nat, k ≤ 32 ∧ x = .int .u64 r ∧ y = .int .u64 b ∧ b = 2 ^ k / 2 ∧ r = 2 ^ k * a ∧ r + 2 ^ k ≤ 4294967296 ∧ M3.rt k r n = M3.root n
theorem RootRel.out {n : Nat} {x y : Value} (h : RootRel n x y) : ∃ k r a b : Nat, k ≤ 32 ∧ x = .int .u64 r ∧ y = .int .u64 b ∧ b = 2 ^ k / 2 ∧ r = 2 ^ k * a ∧ r + 2 ^ k ≤ 4294967296 ∧ M3.rt k r n = M3.root n := h

set_option maxHeartbeats 1000000 in
theorem root_yes (n : Nat) (w : World) (hn : n < 9223372036854775808) :
    Calls Try.prog 20 #[.int .i64 n] w fun e w' => e = .returned (.int .i64 (M3.root n : Int)) ∧ w = w' := by
  have hs := Lib.hid (M3.root_small n hn)
  go_enter Try.func20, Try.ntmps20
  go_wp2
  go_loop [3, 4] (fun x y => RootRel n x y) (fun _ y => (intOf y).toNat)
  case atStart => exact ⟨32, 0, 0, 2147483648, by omega, rfl, rfl, rfl, rfl, by omega, rfl⟩
  case round =>
    obtain ⟨k, r, a, b, hk, rfl, rfl, hb, hr, hrb, he⟩ := hrel.out
    clear hrel
    rcases k with _ | j
    · have hb0 : b = 0 := by simpa using hb
      subst hb0
      have hn0 : r = M3.root n := he
      subst hn0
      have := hs.out
      clear he hb hr hrb
      go_wp2
      go_ret
      exact ⟨rfl, rfl⟩
    · have ⟨s1, s2, s3, s4, s5⟩ := root_step j r a (by omega) hr hrb
      have hbj : b = 2 ^ j := by rw [hb, s5]; omega
      rw [← hbj] at s1 s2 s3 s4 s5
      rw [s5] at hrb
      obtain ⟨m, hm⟩ : ∃ m, m = r + b := ⟨_, rfl⟩
      obtain ⟨q, hq⟩ : ∃ q, q = m * m := ⟨_, rfl⟩
      rw [← hm] at s1 s2
      rw [← hq] at s2
      have hmb : m ≤ 4294967295 := by omega
      have hrt : M3.rt (j + 1) r n = if q ≤ n then M3.rt j m n else M3.rt j r n := by rw [M3.rt, ← hbj, ← hm, ← hq]
      have HH := Lib.hid (And.intro he (And.intro hbj (And.intro hb (And.intro hr (And.intro s5 (And.intro hk (And.intro hm hrt)))))))
      clear he hbj hb hr s5 hk hm hq hrt
      by_cases ht : q ≤ n
      · go_wp2
        go_round
        case rel =>
          obtain ⟨he, hbj, hb, hr, s5, hk, hm, hrt⟩ := HH.out
          rw [if_pos ht, he] at hrt
          refine ⟨j, m, 2 * a + 1, b / 2, by omega, rfl, by go_num, by rw [hbj], ?_, by omega, hrt.symm⟩
          rw [hm, hr, hbj, Nat.pow_succ, Nat.mul_add, Nat.mul_assoc]; omega
        case measure => simp [intOf]; omega
      · go_wp2
        go_round
        case rel =>
          obtain ⟨he, hbj, hb, hr, s5, hk, hm, hrt⟩ := HH.out
          rw [if_neg ht, he] at hrt
          refine ⟨j, r, 2 * a, b / 2, by omega, rfl, by go_num, by rw [hbj], ?_, by omega, hrt.symm⟩
          rw [hr, Nat.pow_succ, Nat.mul_assoc]
        case measure => simp [intOf]; omega

end Go.Proofs.Ythcejmbjagpjcab
