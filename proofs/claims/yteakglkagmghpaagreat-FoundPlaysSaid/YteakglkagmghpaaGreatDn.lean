/-
  Contracts of the document's model: find, Handle.
-/
import Derived.Test.YteakglkagmghpaaGreatDm
import Derived.Test.YteakglkagmghpaaGreatHeads
import Derived.StillTailTactics
import Derived.Deep.RegionHeld3
import Derived.Deep.DeepCutAuto
namespace Go.Proofs.YteakglkagmghpaaGreat.Mod
open Go.ChangeShapes Go.WideShapes Go.ChangeAt Go.RowKit
open Slic Sco
set_option linter.unusedVariables false
set_option linter.unusedSimpArgs false
set_option maxRecDepth 8000
/-- The place of the object of a handle, from the i-th one on. -/
def fiV (O : List Ob) (h : Int) : Int := if O.findIdx (fun o => o.h == h) < O.length then (O.findIdx (fun o => o.h == h) : Int) else -1
section
variable {w w' : World} {X : Dx} {p : Dp} {m : Mo} {Z : Fx} {k : Nat}
end
end Go.Proofs.YteakglkagmghpaaGreat.Mod
