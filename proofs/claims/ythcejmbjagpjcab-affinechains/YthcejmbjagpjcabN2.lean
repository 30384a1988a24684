import Derived.Test.YthcejmbjagpjcabN1
import Derived.Test.YthcejmbjagpjcabF3
/- Layer 14: the document's small functions. -/
namespace Go.Proofs.Ythcejmbjagpjcab
open Go.RowKit
set_option linter.unusedVariables false
set_option linter.unusedSimpArgs false
set_option maxRecDepth 100000

end Go.Proofs.Ythcejmbjagpjcab
