/-
  The entries that came in as a list, and a contract of the document's Fit.
-/
import Derived.Test.YteakglkagmghpaaChai
import Derived.Test.YteakglkagmghpaaBase
namespace Go.Proofs.Yteakglkagmghpaa.Chain
open Go.ChangeShapes Go.WideShapes Go.ChangeAt Go.RowKit
set_option linter.unusedVariables false

end Go.Proofs.Yteakglkagmghpaa.Chain
