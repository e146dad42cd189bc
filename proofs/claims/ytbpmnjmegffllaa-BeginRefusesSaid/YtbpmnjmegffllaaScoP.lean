/-
  For seats with a model: what the document's scopes' texts take of ScoS, ScoT and ScoP.
-/
import Derived.Test.YtbpmnjmegffllaaScop
namespace Go.Proofs.Ytbpmnjmegffllaa.Sco
open Gm
set_option linter.unusedVariables false
set_option linter.unusedSimpArgs false
abbrev tellI (x : Int) : Ending := .returned (.int .i64 x)
abbrev tellN (v x : Int) : Ending := .returned (.tuple #[.int .i64 v, .int .i64 x])
/-- What is refused leaves all as it is. -/
theorem turn_refused (F : Fo) (i : Int) (f : Cx → Ctl.R) (h : (turnV F i f).x ≠ 0) : (turnV F i f).F = F := by
  unfold turnV at h ⊢
  cases hl : look F.R i with
  | none => rfl
  | some x =>
    rw [hl] at h
    by_cases h0 : (f x).x = 0
    · simp only [h0, if_true] at h
      exact absurd rfl h
    · simp only [h0, if_false]
theorem destroy_refused (F : Fo) (i : Int) (h : (destroyV F i).x ≠ 0) : (destroyV F i).F = F := by
  unfold destroyV at h ⊢
  cases hl : look F.R i with
  | none => rfl
  | some x =>
    rw [hl] at h
    by_cases h0 : x.s = 0
    · simp only [h0, if_true]
    · by_cases h1 : x.s = 1
      · simp only [h1, if_true] at h
        exact absurd rfl h
      · simp only [h0, h1, if_false]
theorem create_refused (F : Fo) (z : Int) (h : (createV F z).x ≠ 0) : (createV F z).F = F ∧ (createV F z).v = 0 := by
  unfold createV at h ⊢
  by_cases hz : z < 1 ∨ 8192 < z
  · rw [if_pos hz]
    exact ⟨rfl, rfl⟩
  · rw [if_neg hz] at h ⊢
    cases hl : F.R[F.R.findIdx fr]? with
    | none => exact ⟨rfl, rfl⟩
    | some x =>
      rw [hl] at h
      by_cases hb : Gr.carveB (upz z) F.L = true
      · simp only [hb, if_true] at h
        exact absurd rfl h
      · simp only [hb]
        exact ⟨rfl, rfl⟩
theorem turn_v (F : Fo) (i : Int) (f : Cx → Ctl.R) : (turnV F i f).v = 0 := by
  unfold turnV
  cases look F.R i with
  | none => rfl
  | some x =>
    by_cases h0 : (f x).x = 0
    · simp only [h0, if_true]
    · simp only [h0, if_false]
theorem destroy_v (F : Fo) (i : Int) : (destroyV F i).v = 0 := by
  unfold destroyV
  cases look F.R i with
  | none => rfl
  | some x =>
    by_cases h0 : x.s = 0
    · simp only [h0, if_true]
    · by_cases h1 : x.s = 1
      · simp only [h0, h1, if_true, if_false]
        rfl
      · simp only [h0, h1, if_false]
theorem ret_n {a b c d : Int} (h : a = b) (h' : c = d) : tellN a c = tellN b d := by rw [h, h']

end Go.Proofs.Ytbpmnjmegffllaa.Sco
