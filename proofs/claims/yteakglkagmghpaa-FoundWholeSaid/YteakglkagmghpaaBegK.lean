/-
  BegK
-/
import Derived.Test.YteakglkagmghpaaBegE
import Derived.Test.YteakglkagmghpaaChF
import Derived.Test.YteakglkagmghpaaArgn
namespace Go.Proofs.Yteakglkagmghpaa.Beg
open Go.ChangeShapes Go.WideShapes Go.ChangeAt Go.RowKit
open Go.Deep
open Go.Proofs.Yteakglkagmghpaa.Mod Slic
set_option linter.unusedVariables false
set_option linter.unusedSimpArgs false
set_option maxRecDepth 100000
attribute [local go_sem ↓] Go.wp_at_zero Go.wp_at_succ

section
variable {H : Type} {enc : TypeId × Value → H} {w : World} {base : Nat} {spare : Nat → Bool} {held : Bool}
end
end Go.Proofs.Yteakglkagmghpaa.Beg
