/-
  ModelRefuses' rows: what each scope was, in three rows, as far as scope s.
-/
import Derived.Test.YtneggppfffekdaaGreatSlom
namespace Go.Proofs.YtneggppfffekdaaGreat.Mod
open Slic Sco
set_option linter.unusedVariables false
set_option linter.unusedSimpArgs false
def ctv (C : Nat → Int) (s j : Nat) : Value := .int .i64 (if j / 4 < s then C j else 0)
def ctA (C : Nat → Int) (s : Nat) : Array Value := #[ctv C s 0, ctv C s 1, ctv C s 2, ctv C s 3, ctv C s 4, ctv C s 5, ctv C s 6, ctv C s 7, ctv C s 8, ctv C s 9, ctv C s 10, ctv C s 11, ctv C s 12, ctv C s 13, ctv C s 14, ctv C s 15]
def gav (W : Nat → Int) (s j : Nat) : Value := .int .u64 (if j < s then W j else 0)
def gaA (W : Nat → Int) (s : Nat) : Array Value := #[gav W s 0, gav W s 1, gav W s 2, gav W s 3]
def usv (W : Nat → Int) (s j : Nat) : Value := .int .i64 (if j < s then W j else 0)
def usA (W : Nat → Int) (s : Nat) : Array Value := #[usv W s 0, usv W s 1, usv W s 2, usv W s 3]
theorem ct_put (C : Nat → Int) {s : Nat} (hs : s < 4) : ((((ctA C s).setIfInBounds (s * 4) (.int .i64 (C (s * 4)))).setIfInBounds (s * 4 + 1) (.int .i64 (C (s * 4 + 1)))).setIfInBounds (s * 4 + 2) (.int .i64 (C (s * 4 + 2)))).setIfInBounds (s * 4 + 3) (.int .i64 (C (s * 4 + 3))) = ctA C (s + 1) := by
  rcases (show s = 0 ∨ s = 1 ∨ s = 2 ∨ s = 3 by omega) with rfl | rfl | rfl | rfl <;> rfl
theorem ga_put (W : Nat → Int) {s : Nat} (hs : s < 4) : (gaA W s).setIfInBounds s (.int .u64 (W s)) = gaA W (s + 1) := by
  rcases (show s = 0 ∨ s = 1 ∨ s = 2 ∨ s = 3 by omega) with rfl | rfl | rfl | rfl <;> rfl
theorem us_put (W : Nat → Int) {s : Nat} (hs : s < 4) : (usA W s).setIfInBounds s (.int .i64 (W s)) = usA W (s + 1) := by
  rcases (show s = 0 ∨ s = 1 ∨ s = 2 ∨ s = 3 by omega) with rfl | rfl | rfl | rfl <;> rfl
theorem ct_at (C : Nat → Int) {j : Nat} (hj : j < 16) : (ctA C 4)[j]? = some (.int .i64 (C j)) :=
  match j, hj with
  | 0, _ => rfl
  | 1, _ => rfl
  | 2, _ => rfl
  | 3, _ => rfl
  | 4, _ => rfl
  | 5, _ => rfl
  | 6, _ => rfl
  | 7, _ => rfl
  | 8, _ => rfl
  | 9, _ => rfl
  | 10, _ => rfl
  | 11, _ => rfl
  | 12, _ => rfl
  | 13, _ => rfl
  | 14, _ => rfl
  | 15, _ => rfl
  | j + 16, h => absurd h (by omega)
theorem ga_at (W : Nat → Int) {j : Nat} (hj : j < 4) : (gaA W 4)[j]? = some (.int .u64 (W j)) := by
  rcases (show j = 0 ∨ j = 1 ∨ j = 2 ∨ j = 3 by omega) with rfl | rfl | rfl | rfl <;> rfl
theorem us_at (W : Nat → Int) {j : Nat} (hj : j < 4) : (usA W 4)[j]? = some (.int .i64 (W j)) := by
  rcases (show j = 0 ∨ j = 1 ∨ j = 2 ∨ j = 3 by omega) with rfl | rfl | rfl | rfl <;> rfl
def ctM (m : Mo) (j : Nat) : Int := if j % 4 = 0 then (seeC m.F.R ((j / 4 : Nat) : Int)).s else if j % 4 = 1 then (seeC m.F.R ((j / 4 : Nat) : Int)).c else if j % 4 = 2 then (seeC m.F.R ((j / 4 : Nat) : Int)).p else (seeC m.F.R ((j / 4 : Nat) : Int)).e
def gaM (m : Mo) (j : Nat) : Int := (m.ar (j : Int)).g
def usM (m : Mo) (j : Nat) : Int := (m.ar (j : Int)).u
theorem ctM_at (m : Mo) (s : Nat) : ctM m (s * 4) = (seeC m.F.R (s : Int)).s ∧ ctM m (s * 4 + 1) = (seeC m.F.R (s : Int)).c ∧ ctM m (s * 4 + 2) = (seeC m.F.R (s : Int)).p ∧ ctM m (s * 4 + 3) = (seeC m.F.R (s : Int)).e := by
  unfold ctM
  rw [show s * 4 % 4 = 0 by omega, show (s * 4 + 1) % 4 = 1 by omega, show (s * 4 + 2) % 4 = 2 by omega, show (s * 4 + 3) % 4 = 3 by omega, show s * 4 / 4 = s by omega, show (s * 4 + 1) / 4 = s by omega, show (s * 4 + 2) / 4 = s by omega, show (s * 4 + 3) / 4 = s by omega]
  exact ⟨rfl, rfl, rfl, rfl⟩
end Go.Proofs.YtneggppfffekdaaGreat.Mod
