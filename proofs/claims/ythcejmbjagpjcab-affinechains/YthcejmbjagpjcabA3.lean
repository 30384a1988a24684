import Derived.Test.YthcejmbjagpjcabA2
import Derived.Test.YthcejmbjagpjcabM2
namespace Go.Proofs.Ythcejmbjagpjcab
open Go.RowKit

theorem natAbs_lt (a : Int) (a0 : -9223372036854775808 ≤ a) (a1 : a ≤ 9223372036854775807) : a.natAbs < 18446744073709551616 := by omega

theorem p_bounds (a b : Int) : 0 ≤ phi a b ∧ 0 ≤ plo a b ∧ plo a b < 18446744073709551616 ∧ ((a * b).natAbs : Int) = phi a b * 18446744073709551616 + plo a b := by
  unfold phi plo
  rw [Int.natAbs_mul]
  generalize a.natAbs * b.natAbs = n
  omega
theorem p_sign (a b : Int) : pneg a b = decide (a * b < 0) := rfl

end Go.Proofs.Ythcejmbjagpjcab
