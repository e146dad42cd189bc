/-
  How the arguments of a law come in, part three: a slice of structs that have an integer and a struct of integers.
-/
import Derived.Test.YtbpmnjmegffllaaGreatBase
namespace Go.Proofs.YtbpmnjmegffllaaGreat.Args
open Go.ChangeShapes Go.WideShapes Go.ChangeAt Go.RowKit Go.Deep
set_option linter.unusedVariables false
end Go.Proofs.YtbpmnjmegffllaaGreat.Args
