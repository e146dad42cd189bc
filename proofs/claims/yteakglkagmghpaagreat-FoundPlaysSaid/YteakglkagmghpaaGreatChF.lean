/-
  The entries that came in as a list, and a contract of the document's Fit.
-/
import Derived.Test.YteakglkagmghpaaGreatChai
import Derived.Test.YteakglkagmghpaaGreatBase
namespace Go.Proofs.YteakglkagmghpaaGreat.Chain
open Go.ChangeShapes Go.WideShapes Go.ChangeAt Go.RowKit
set_option linter.unusedVariables false

end Go.Proofs.YteakglkagmghpaaGreat.Chain
