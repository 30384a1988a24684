import Derived.Test.YthcejmbjagpjcabA3
namespace Go.Proofs.Ythcejmbjagpjcab
open Go.RowKit

/-- how two sizes of two words stand -/
def ordw (h1 l1 h2 l2 : Int) : Int := if h1 * 18446744073709551616 + l1 < h2 * 18446744073709551616 + l2 then -1 else if h1 * 18446744073709551616 + l1 = h2 * 18446744073709551616 + l2 then 0 else 1

end Go.Proofs.Ythcejmbjagpjcab
