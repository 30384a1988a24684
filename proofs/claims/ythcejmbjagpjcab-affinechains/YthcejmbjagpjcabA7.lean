import Derived.Test.YthcejmbjagpjcabA6
namespace Go.Proofs.Ythcejmbjagpjcab
open Go.RowKit

theorem root_neg (n : Int) (w : World) (hn : n < 0) :
    Calls Try.prog 20 #[.int .i64 n] w fun e w' => e = .returned (.int .i64 0) ∧ w = w' := by
  go_enter Try.func20, Try.ntmps20
  go_wp2
  go_ret
  exact ⟨rfl, rfl⟩

def RootRel2 (n : Nat) (x y : Value) : Prop := ∃ k r a b : Nat, k ≤ 32 ∧ x = .int .i64 r ∧ y = .int .i64 b ∧ b = 2 ^ k / 2 ∧ r = 2 ^ k * a ∧ r + 2 ^ k ≤ 4294967296 ∧ M3.rt k r n = M3.root n
theorem RootRel2.out {n : Nat} {x y : Value} (h : RootRel2 n x y) : ∃ k r a b : Nat, k ≤ 32 ∧ x = .int .i64 r ∧ y = .int .i64 b ∧ b = 2 ^ k / 2 ∧ r = 2 ^ k * a ∧ r + 2 ^ k ≤ 4294967296 ∧ M3.rt k r n = M3.root n := h

theorem i64_in (x : Int) (h0 : -9223372036854775808 ≤ x) (h1 : x ≤ 9223372036854775807) : wrap64 x = x := by unfold wrap64; omega

def RootRel3 (x y : Value) : Prop := ∃ b : Nat, b ≤ 2147483648 ∧ x = .int .i64 0 ∧ y = .int .i64 b
theorem RootRel3.out {x y : Value} (h : RootRel3 x y) : ∃ b : Nat, b ≤ 2147483648 ∧ x = .int .i64 0 ∧ y = .int .i64 b := h

end Go.Proofs.Ythcejmbjagpjcab
