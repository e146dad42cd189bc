/-
  Contracts of the document's model: value, Handle, Slots.
-/
import Derived.Test.YteakglkagmghpaaGreatDo
namespace Go.Proofs.YteakglkagmghpaaGreat.Mod
open Go.ChangeShapes Go.WideShapes Go.ChangeAt Go.RowKit
open Slic Sco
set_option linter.unusedVariables false
set_option linter.unusedSimpArgs false
set_option maxRecDepth 8000
section
variable {w w' : World} {X : Dx} {p : Dp} {m : Mo} {Z : Fx} {k : Nat}
end
end Go.Proofs.YteakglkagmghpaaGreat.Mod
