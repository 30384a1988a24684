import Derived.Test.YtpeknlablcgchaaBi1
import Derived.Lib.BitFns
/- Layer 2: the width of a number; the program's and the document's. -/
namespace Go.Proofs.Ytpeknlablcgchaa
open Go.RowKit
set_option linter.unusedVariables false

theorem tab_size : Lib.len8tab.size = 256 := by decide +kernel
theorem tab_all : ∀ j : Fin 256, (Lib.len8tab[j.val]'(by rw [tab_size]; exact j.isLt)).toNat = Lib.bitLen j.val := by decide +kernel
theorem tab_at (i : Nat) (h : i < Lib.len8tab.size) : (Lib.len8tab[i]'h).toNat = Lib.bitLen i := tab_all ⟨i, by rw [tab_size] at h; exact h⟩
theorem tab_close (k : Nat) (y : Int) (X : Nat) (h : y.toNat < Lib.len8tab.size) (hk : k ≤ 56) (e : Lib.bitLen X = k + Lib.bitLen y.toNat) :
    wrap64 ((k : Int) + wrap64 ((Lib.len8tab[y.toNat]'h).toNat : Int)) = (Lib.bitLen X : Int) := by
  have h8 : Lib.bitLen y.toNat ≤ 8 := Lib.bitLen_le8 ⟨y.toNat, by rw [tab_size] at h; exact h⟩
  rw [tab_at _ h, e]
  unfold wrap64
  omega
theorem bitLen_pos (x : Nat) (h : 0 < x) (hx : x < 2 ^ 64) : 1 ≤ Lib.bitLen x := by rw [Lib.bitLen_half x (by omega) hx]; omega
theorem bitLen_ge (x k : Nat) (h : B.P2 k ≤ x) (hx : x < 2 ^ 64) : k + 1 ≤ Lib.bitLen x := by
  rw [Lib.bitLen_shift k x h hx]
  have h1 : 0 < x / 2 ^ k := Nat.div_pos h (Nat.two_pow_pos k)
  have h2 : x / 2 ^ k < 2 ^ 64 := Nat.lt_of_le_of_lt (Nat.div_le_self _ _) hx
  have := bitLen_pos _ h1 h2
  omega
theorem bitLen_iff (x k : Nat) (hk : k ≤ 64) (hx : x < 2 ^ 64) : Lib.bitLen x ≤ k ↔ x < B.P2 k := by
  constructor
  · intro h
    apply Nat.lt_of_not_le
    intro h2
    have := bitLen_ge x k h2 hx
    omega
  · intro h; exact Lib.bitLen_le x k hk h
/-- how far a number is from 0, or from -1 -/
def mag (v : Int) : Nat := if v < 0 then (-v - 1).toNat else v.toNat
def wd (v : Int) : Nat := if v = 0 then 0 else Lib.bitLen (mag v) + 1
def pw (v : Int) : Nat := Lib.bitLen v.toNat
theorem mag_lt (v : Int) (h0 : -9223372036854775808 ≤ v) (h1 : v ≤ 9223372036854775807) : mag v < 9223372036854775808 := by unfold mag; split <;> omega
theorem mag_fits (v : Int) (p : Nat) : mag v < p ↔ -(p : Int) ≤ v ∧ v < p := by unfold mag; split <;> omega
theorem wd_iff (v : Int) (n : Nat) (hv : v ≠ 0) (h0 : -9223372036854775808 ≤ v) (h1 : v ≤ 9223372036854775807) (hn : n ≤ 63) : wd v ≤ n + 1 ↔ -(B.P2 n : Int) ≤ v ∧ v < B.P2 n := by
  have hm := mag_lt v h0 h1
  rw [← mag_fits, ← bitLen_iff (mag v) n (by omega) (by omega), wd, if_neg hv]
  omega
theorem wd_le (v : Int) (h0 : -9223372036854775808 ≤ v) (h1 : v ≤ 9223372036854775807) : wd v ≤ 64 := by
  unfold wd
  split
  · omega
  · have hm := mag_lt v h0 h1
    have := (bitLen_iff (mag v) 63 (by omega) (by omega)).2 hm
    omega
theorem wd_pos (v : Int) (hv : v ≠ 0) : 1 ≤ wd v := by unfold wd; rw [if_neg hv]; omega
theorem wd_zero : wd 0 = 0 := rfl

theorem xor_neg1 (v : Int) (h0 : -9223372036854775808 ≤ v) (h1 : v ≤ 9223372036854775807) : bits .xor .i64 (-1) v = -v - 1 := by
  show IntKind.i64.wrap ((BitVec.ofInt 64 (-1) ^^^ BitVec.ofInt 64 v).toNat : Int) = _
  have e1 : BitVec.ofInt 64 (-1) = BitVec.allOnes 64 := by decide
  rw [e1, BitVec.allOnes_xor, BitVec.toNat_not, BitVec.toNat_ofInt, IntKind.wrap_i64]
  have e2 : ((2 ^ 64 : Nat) : Int) = 18446744073709551616 := rfl
  have e3 : (2 : Nat) ^ 64 = 18446744073709551616 := rfl
  rw [e2, e3]
  omega
theorem u64_wrap (x : Int) (h0 : 0 ≤ x) (h1 : x ≤ 18446744073709551615) : IntKind.u64.wrap x = x := by rw [IntKind.wrap_u64]; omega
def WdRel (v : Int) (n : Value) : Prop := ∃ k : Nat, k ≤ wd v ∧ n = .int .i64 k
end Go.Proofs.Ytpeknlablcgchaa
