/-
  The entries that came in as a list, and a contract of the document's Fit.
-/
import Derived.Test.YtbpmnjmegffllaaGreatChai
import Derived.Test.YtbpmnjmegffllaaGreatBase
namespace Go.Proofs.YtbpmnjmegffllaaGreat.Chain
open Go.ChangeShapes Go.WideShapes Go.ChangeAt Go.RowKit
set_option linter.unusedVariables false

end Go.Proofs.YtbpmnjmegffllaaGreat.Chain
