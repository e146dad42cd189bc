/-
  ModelHeld's rows.
-/
import Derived.Test.YtneggppfffekdaaGreatLits
import Derived.Test.YtneggppfffekdaaGreatSlom
namespace Go.Proofs.YtneggppfffekdaaGreat.Mod
open Slic Sco
set_option linter.unusedVariables false
theorem hdH_len (put : Bool) (wh : Nat) : ∀ k, (hdH put wh k).length = k
  | 0 => rfl
  | k + 1 => by
    show (hdH put wh k ++ [hdN put wh k]).length = _
    rw [List.length_append, hdH_len put wh k]
    rfl
theorem hdH_get (put : Bool) (wh : Nat) : ∀ k i, i < k → (hdH put wh k)[i]? = some (hdN put wh i)
  | 0, i, h => absurd h (Nat.not_lt_zero _)
  | k + 1, i, h => by
    show (hdH put wh k ++ [hdN put wh k])[i]? = _
    by_cases e : i < k
    · rw [List.getElem?_append_left (by rw [hdH_len]; exact e)]
      exact hdH_get put wh k i e
    · have : i = k := by omega
      subst this
      rw [List.getElem?_append_right (by rw [hdH_len]; exact Nat.le_refl _), hdH_len, Nat.sub_self]
      rfl
theorem hdW_len (wh : Nat) : ∀ k, (hdW wh k).length = k
  | 0 => rfl
  | k + 1 => by
    show (_ :: hdW wh k).length = _
    rw [List.length_cons, hdW_len wh k]
end Go.Proofs.YtneggppfffekdaaGreat.Mod
