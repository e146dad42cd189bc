/-
  Contracts of the document's model: Handle, Slots, check, value.
-/
import Derived.Test.YteakglkagmghpaaGreatDn
namespace Go.Proofs.YteakglkagmghpaaGreat.Mod
open Go.ChangeShapes Go.WideShapes Go.ChangeAt Go.RowKit
open Slic Sco
set_option linter.unusedVariables false
set_option linter.unusedSimpArgs false
set_option maxRecDepth 8000
section
variable {w w' : World} {X : Dx} {p : Dp} {m : Mo} {Z : Fx} {k : Nat}
/-- What check tells. -/
def ckI (m : Mo) (L : List Chain.E) (h : Int) : Int := if m.chk L h = 0 then fiV m.O h else 0
def ckS (m : Mo) (L : List Chain.E) (h : Int) : Int := if m.chk L h = 0 then (Refs.unV h).s else 0
theorem ck_no {m : Mo} {L : List Chain.E} {h : Int} {c : Int} (hc : m.chk L h = c) (h0 : c ≠ 0) : ckI m L h = 0 ∧ ckS m L h = 0 ∧ m.chk L h = c := by
  unfold ckI ckS
  rw [hc, if_neg h0, if_neg h0]
  exact ⟨rfl, rfl, rfl⟩
theorem ck_yes {m : Mo} {L : List Chain.E} {h : Int} (hc : m.chk L h = 0) : ckI m L h = fiV m.O h ∧ ckS m L h = (Refs.unV h).s := by
  unfold ckI ckS
  rw [if_pos hc, if_pos hc]
  exact ⟨rfl, rfl⟩
end
end Go.Proofs.YteakglkagmghpaaGreat.Mod
