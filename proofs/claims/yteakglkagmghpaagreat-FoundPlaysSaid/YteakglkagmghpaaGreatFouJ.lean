/-
  The laws' calls of layer 14: steps.
-/
import Derived.Test.YteakglkagmghpaaGreatFouI
namespace Go.Proofs.YteakglkagmghpaaGreat.Fou
open Go.ChangeShapes Go.WideShapes Go.ChangeAt Go.RowKit
open Go.Proofs.YteakglkagmghpaaGreat.Mod Sco Amem Beg
set_option linter.unusedVariables false
set_option linter.unusedSimpArgs false
set_option maxRecDepth 100000
attribute [local go_sem ↓] Go.wp_at_zero Go.wp_at_succ
variable {P : Pn} {f : Nat → Int} {F : Fo} {G : Nat} {w w' : World}
/-- What a law's call makes of the forest, tells, and puts. -/
def opR (F : Fo) (mk : Bool) (k : Int) : Re := if mk = true then createV F (opA mk k) else destroyV F (opA mk k)
def opW (f : Nat → Int) (F : Fo) (mk : Bool) (k : Int) : Nat → Int := if mk = true then createW f F (opA mk k) else destroyW f F (opA mk k)
theorem destroy_v (F : Fo) (i : Int) : (destroyV F i).v = 0 := by
  unfold destroyV
  cases Sco.look F.R i with
  | none => rfl
  | some x => dsimp only; split <;> (try split) <;> rfl
/-- Step, of a law's call that goes on. -/
theorem step_op (w : World) (R : Pr P) (h : Fd w P G f F) (mk : Bool) (k : Int) (ch : Value) (hC : Slic.Sr kE w ch []) (own : ∀ b, ch.ownBlock = some b → b ∉ [P.g, G]) :
    Calls Tryz.prog 31 #[P.plan, .pointer (some ⟨P.B, 0, none⟩), .pointer (some ⟨G, 0, none⟩), runV (ofR (opC mk k) ⟨0, 1⟩ 0 0 0 ch)] w
      (StepD w P G (opW f F mk k) (opR F mk k).F (opC mk k) ⟨0, 1⟩ 0 0 0 (opR F mk k).x (opR F mk k).v []) := by
  cases mk with
  | true => exact step_create w R h 0 0 0 (1 + k % 512) 0 0 0 0 0 0 ch (by omega) (by omega) hC own
  | false =>
    obtain ⟨s, hs⟩ := Int.eq_ofNat_of_zero_le (show 0 ≤ 1 + k % 8 by omega)
    have := step_destroy w R h 0 0 0 0 0 0 0 0 0 s ch (by omega) hC own
    have e1 : opC false k = ⟨3, 0, 0, 0, (s : Int), 0, 0⟩ := by unfold opC opA; simp [hs]
    have e2 : opR F false k = destroyV F s := by unfold opR opA; simp [hs]
    have e3 : opW f F false k = destroyW f F s := by unfold opW opA; simp [hs]
    rw [e1, e2, e3, destroy_v]
    exact this
end Go.Proofs.YteakglkagmghpaaGreat.Fou
