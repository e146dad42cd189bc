/-
  The entries that came in as a list, and a contract of the document's Fit.
-/
import Derived.Test.YtbpmnjmegffllaaChai
import Derived.Test.YtbpmnjmegffllaaBase
namespace Go.Proofs.Ytbpmnjmegffllaa.Chain
open Go.ChangeShapes Go.WideShapes Go.ChangeAt Go.RowKit
set_option linter.unusedVariables false

def listOf (n : Nat) (z : Nat → Nat → Int) : List E := (List.range n).map fun i => (z i 0, z i 1 != 0)
theorem listOf_len (n : Nat) (z : Nat → Nat → Int) : (listOf n z).length = n := by simp [listOf]
theorem listOf_at {n : Nat} {z : Nat → Nat → Int} {i : Nat} (h : i < (listOf n z).length) : (listOf n z)[i] = (z i 0, z i 1 != 0) := by simp [listOf]
theorem came_in {w : World} {A : Option Addr} {n c : Nat} {z : Nat → Nat → Int} (h : Args.PRecs [some .i64, none] w A n z) (hc : n ≤ c ∧ c ≤ maxLen ∧ (A = none → c = 0)) : Sr w (.slice A n c) (listOf n z) := by
  refine ⟨A, c, by rw [listOf_len], by rw [listOf_len]; exact hc.1, hc.2.1, hc.2.2, fun hp => ?_⟩
  rw [listOf_len] at hp
  obtain ⟨b, o, e, hb, _⟩ := h.at_ 0 hp
  subst e
  refine ⟨b, o, rfl, hb, fun i hi => ?_⟩
  rw [listOf_at hi]
  rw [listOf_len] at hi
  obtain ⟨b', o', e, _, hcs⟩ := h.at_ i hi
  injection e with e
  injection e with e1 e2
  subst e1 e2
  exact ⟨hcs 0 (by simp), hcs 1 (by simp)⟩
theorem cnt_in {n : Nat} {z : Nat → Nat → Int} {w : World} {A : Option Addr} (h : Args.PRecs [some .i64, none] w A n z) : n ≤ maxLen := h.len

/-- What one step of Fit asks. -/
theorem ok_cases (M : List E) (x : Int) (b : Bool) : (b = true ∧ 0 < x ∧ (parV M x == -1) = true ∧ okE M (x, b) = true) ∨ (b = true ∧ 0 < x ∧ (parV M x == -1) = false ∧ (parV M x == areaV M) = okE M (x, b)) ∨ (b = true ∧ x ≤ 0 ∧ okE M (x, b) = false) ∨ (b = false ∧ reachV M x = okE M (x, b)) := by
  cases b with
  | false => simp [okE]
  | true =>
    by_cases hx : 0 < x
    · cases hp : parV M x == -1 with
      | true => left; simp [okE, hx, hp]
      | false => right; left; simp [okE, hx, hp]
    · right; right; left
      exact ⟨rfl, by omega, by simp [okE, hx]⟩
theorem step_yes {M : List E} {e : E} (h : M.length < 5) (k : okE M (e.1 % 8, e.2) = true) : stepV M e = M ++ [(e.1 % 8, e.2)] := if_pos ⟨h, k⟩
theorem step_not {M : List E} {e : E} (k : okE M (e.1 % 8, e.2) = false) : stepV M e = M := if_neg (by rw [k]; simp)

end Go.Proofs.Ytbpmnjmegffllaa.Chain
