import Derived.Test.YthcejmbjagpjcaaA4
import Derived.Test.YthcejmbjagpjcaaM3
import Derived.Test.YthcejmbjagpjcaaU1
namespace Go.Proofs.Ythcejmbjagpjcaa
open Go.RowKit

/-- how two products stand -/
def cmp4 (a b c d : Int) : Int := if a * b < c * d then -1 else if a * b = c * d then 0 else 1

end Go.Proofs.Ythcejmbjagpjcaa
