/-
  The document: Same.
-/
import Derived.Test.YtbpmnjmegffllaaBegF
import Derived.Test.YtbpmnjmegffllaaFinr
namespace Go.Proofs.Ytbpmnjmegffllaa.Beg
open Go.ChangeShapes Go.WideShapes Go.ChangeAt Go.RowKit
open Go.Proofs.Ytbpmnjmegffllaa.Mod Slic
set_option linter.unusedVariables false
set_option linter.unusedSimpArgs false
set_option maxRecDepth 100000
attribute [local go_sem ↓] Go.wp_at_zero Go.wp_at_succ

abbrev ansV (c n : Int) (s : Value) : Value := .agg #[.int .i64 c, .int .i64 n, s]
theorem int_at {w : World} {A : Option Addr} {n c : Nat} {S : List Int} (h : Sr Fina.kI w (.slice A n c) S) (i : Nat) (hi : i < S.length) : ∃ g o, A = some ⟨g, o, none⟩ ∧ w.cell? ⟨g, o + i, none⟩ = some (.int .i64 S[i]) := by
  obtain ⟨g, o, e, _, hc⟩ := h.at i hi
  have := hc 0 _ rfl
  rw [show o + (i * Fina.kI.m + 0) = o + i by simp [Fina.kI]] at this
  exact ⟨g, o, e, this⟩
theorem run_call (c : Ca) (W : World) : (Op.equalIn 10000 47 (callV c) (callV c)).run Try.prog W = .ok true W := by
  obtain ⟨op, r, h, v, a, b, c⟩ := c
  simp [go_sem]
end Go.Proofs.Ytbpmnjmegffllaa.Beg
