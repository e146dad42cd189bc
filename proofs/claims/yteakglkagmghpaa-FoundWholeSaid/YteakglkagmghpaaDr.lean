/-
  Stores into the document's model: a cell of the struct; a portal, a register, how much is used.
-/
import Derived.Test.YteakglkagmghpaaDq
namespace Go.Proofs.Yteakglkagmghpaa.Mod
open Go.ChangeShapes Go.WideShapes Go.ChangeAt Go.RowKit
open Slic Sco
set_option linter.unusedVariables false
set_option linter.unusedSimpArgs false
section
variable {w w' : World} {X : Dx} {p : Dp} {m m' : Mo} {Z : Fx} {k : Nat}
theorem Rm.tD (h : Rm w X p m) : isT w X.D 49 := isT.row h.hd
end
end Go.Proofs.Yteakglkagmghpaa.Mod
