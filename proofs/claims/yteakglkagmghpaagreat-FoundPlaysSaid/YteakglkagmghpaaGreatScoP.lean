/-
  For seats with a model: what the document's scopes' texts take of ScoS, ScoT and ScoP.
-/
import Derived.Test.YteakglkagmghpaaGreatScop
namespace Go.Proofs.YteakglkagmghpaaGreat.Sco
open Gm
set_option linter.unusedVariables false
set_option linter.unusedSimpArgs false
abbrev tellI (x : Int) : Ending := .returned (.int .i64 x)
abbrev tellN (v x : Int) : Ending := .returned (.tuple #[.int .i64 v, .int .i64 x])
theorem destroy_v (F : Fo) (i : Int) : (destroyV F i).v = 0 := by
  unfold destroyV
  cases look F.R i with
  | none => rfl
  | some x =>
    by_cases h0 : x.s = 0
    · simp only [h0, if_true]
    · by_cases h1 : x.s = 1
      · simp only [h0, h1, if_true, if_false]
        rfl
      · simp only [h0, h1, if_false]
theorem ret_n {a b c d : Int} (h : a = b) (h' : c = d) : tellN a c = tellN b d := by rw [h, h']

end Go.Proofs.YteakglkagmghpaaGreat.Sco
