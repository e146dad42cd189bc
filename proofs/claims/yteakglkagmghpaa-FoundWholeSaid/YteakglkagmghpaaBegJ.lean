/-
  BegJ
-/
import Derived.Test.YteakglkagmghpaaBegF
namespace Go.Proofs.Yteakglkagmghpaa.Beg
open Go.ChangeShapes Go.WideShapes Go.ChangeAt Go.RowKit
open Go.Proofs.Yteakglkagmghpaa.Mod Slic
set_option linter.unusedVariables false
set_option linter.unusedSimpArgs false
set_option maxRecDepth 100000
attribute [local go_sem ↓] Go.wp_at_zero Go.wp_at_succ

end Go.Proofs.Yteakglkagmghpaa.Beg
