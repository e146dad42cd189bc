/-
  Contracts of package begin: the closures that ask, Check.
-/
import Derived.Test.YteakglkagmghpaaGreatBeg
namespace Go.Proofs.YteakglkagmghpaaGreat.Beg
open Go.ChangeShapes Go.WideShapes Go.ChangeAt Go.RowKit
open Go.Proofs.YteakglkagmghpaaGreat.Mod Slic
set_option linter.unusedVariables false
set_option linter.unusedSimpArgs false
set_option maxRecDepth 8000
attribute [local go_sem ↓] Go.wp_at_zero Go.wp_at_succ

abbrev ptr (q : Nat) : Value := .pointer (some ⟨q, 0, none⟩)
abbrev planV (n t i j : Int) : Value := .agg #[.int .i64 n, .int .i64 t, .int .i64 i, .int .i64 j]

end Go.Proofs.YteakglkagmghpaaGreat.Beg
