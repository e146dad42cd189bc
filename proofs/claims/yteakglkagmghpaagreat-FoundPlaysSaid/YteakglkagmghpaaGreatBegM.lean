/-
  What the laws of stage 13 carry: a Run that was made, in a block of one's own, beside others.
-/
import Derived.Test.YteakglkagmghpaaGreatBegL
import Derived.Deep.DeepCutAuto
namespace Go.Proofs.YteakglkagmghpaaGreat.Beg
open Go.ChangeShapes Go.WideShapes Go.ChangeAt Go.RowKit
open Go.Proofs.YteakglkagmghpaaGreat.Mod Slic
set_option linter.unusedVariables false
set_option linter.unusedSimpArgs false
set_option maxRecDepth 100000
attribute [local go_sem ↓] Go.wp_at_zero Go.wp_at_succ

/-- A Run that was told. -/
def ofT (c : Ca) (be : Be) (ar ha va code n : Int) (ch li sa as_ : Value) : Ru := ⟨c, be.pc, ar, ha, va, ch, 0, 0, 0, 0, li, 0, sa, 0, false, true, true, code, n, as_⟩
theorem tell_ofR (c : Ca) (be : Be) (ar ha va code n : Int) (c0 ch li sa as_ : Value) : runV ⟨(ofR c be ar ha va c0).c, (ofR c be ar ha va c0).pc, (ofR c be ar ha va c0).area, (ofR c be ar ha va c0).hand, (ofR c be ar ha va c0).val, ch, (ofR c be ar ha va c0).word, (ofR c be ar ha va c0).next, (ofR c be ar ha va c0).at_, (ofR c be ar ha va c0).top, li, (ofR c be ar ha va c0).op, sa, (ofR c be ar ha va c0).n, (ofR c be ar ha va c0).held, true, true, code, n, as_⟩ = runV (ofT c be ar ha va code n ch li sa as_) := rfl
end Go.Proofs.YteakglkagmghpaaGreat.Beg
