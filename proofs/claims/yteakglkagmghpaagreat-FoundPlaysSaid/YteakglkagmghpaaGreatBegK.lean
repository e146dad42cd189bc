/-
  BegK
-/
import Derived.Test.YteakglkagmghpaaGreatBegE
import Derived.Test.YteakglkagmghpaaGreatChF
import Derived.Test.YteakglkagmghpaaGreatArgn
namespace Go.Proofs.YteakglkagmghpaaGreat.Beg
open Go.ChangeShapes Go.WideShapes Go.ChangeAt Go.RowKit
open Go.Deep
open Go.Proofs.YteakglkagmghpaaGreat.Mod Slic
set_option linter.unusedVariables false
set_option linter.unusedSimpArgs false
set_option maxRecDepth 100000
attribute [local go_sem ↓] Go.wp_at_zero Go.wp_at_succ

section
variable {H : Type} {enc : TypeId × Value → H} {w : World} {base : Nat} {spare : Nat → Bool} {held : Bool}
end
end Go.Proofs.YteakglkagmghpaaGreat.Beg
