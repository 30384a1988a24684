import Derived.Test.YthcejmbjagpjcabA4
import Derived.Test.YthcejmbjagpjcabM3
import Derived.Test.YthcejmbjagpjcabU1
namespace Go.Proofs.Ythcejmbjagpjcab
open Go.RowKit

/-- how two products stand -/
def cmp4 (a b c d : Int) : Int := if a * b < c * d then -1 else if a * b = c * d then 0 else 1

end Go.Proofs.Ythcejmbjagpjcab
