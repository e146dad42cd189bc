/-
  Contract of the document's New, at every plan that may be: the walk.
-/
import Derived.Test.YteakglkagmghpaaGreatScoZ
import Derived.Deep.DeepCutAuto
namespace Go.Proofs.YteakglkagmghpaaGreat.Sco
open Go.ChangeShapes Go.WideShapes Go.ChangeAt Go.RowKit
open Slic Gm
set_option linter.unusedVariables false
set_option linter.unusedSimpArgs false
attribute [local go_sem ↓] Go.wp_at_zero Go.wp_at_succ

theorem Nw.get {w wr : World} {kc kx : Nat} {a b c d : Int} {vC vX : Value} (h : Nw w wr kc kx a b c d vC vX) : wr.cell? ⟨w.heap.size, 0, none⟩ = some (.int .i64 a) ∧ wr.cell? ⟨w.heap.size + 1, 0, none⟩ = some vC ∧ wr.cell? ⟨w.heap.size + 1, 1, none⟩ = some vX ∧ (∀ o, wr.frozen? ⟨w.heap.size + 1, o, none⟩ = false) :=
  ⟨by simp [World.cell?, h.pl], h.hd.cell (i := 0) (by omega), h.hd.cell (i := 1) (by omega), fun o => h.hd.frozen o⟩
end Go.Proofs.YteakglkagmghpaaGreat.Sco
