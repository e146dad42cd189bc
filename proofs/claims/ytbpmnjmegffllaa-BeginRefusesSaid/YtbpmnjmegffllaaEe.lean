/-
  The document's Do, whatever the call.
-/
import Derived.Test.YtbpmnjmegffllaaEb
import Derived.Test.YtbpmnjmegffllaaEc
import Derived.Test.YtbpmnjmegffllaaEd
namespace Go.Proofs.Ytbpmnjmegffllaa.Mod
open Go.ChangeShapes Go.WideShapes Go.ChangeAt Go.RowKit
open Slic Sco
set_option linter.unusedVariables false
section
variable {w w' : World} {X : Dx} {p : Dp} {m m' : Mo} {Z : Fx} {k : Nat}
theorem refdo_any (h : Rm w X p m) (v : Iv Z k m) (hk : k ≤ 10000) (ff : Fok X.FF) (hn : Z.n = X.n) (zA : Z.A = X.A) (zS : Z.S = 8 * (X.N : Int)) (zN : X.N ≤ 8192) {t : Nat} (ht : t < Z.nt) {c : Ca} (hc : Cok c) :
    Calls Try.prog 24 #[ptrX X, .int .i64 (t : Int), .agg (caA c)] w (DidE X p w (doM X.FF m t c)) := by
  obtain ⟨c0, c1, c2, c3, c4, c5⟩ := hc
  obtain ⟨op, r, hh, vv, a, b, cc⟩ := c
  dsimp only at c0 c1 c2 c3 c4 c5
  cases hb : badC ⟨op, r, hh, vv, a, b, cc⟩ with
  | true => exact refdoB h v hk hn ht c1 c2 c3 hb
  | false =>
    have : op = 0 ∨ op = 1 ∨ op = 2 ∨ op = 3 ∨ op = 4 ∨ op = 5 ∨ op = 6 ∨ op = 7 ∨ op = 8 ∨ op = 9 ∨ op = 10 ∨ op = 11 ∨ 12 ≤ op := by omega
    rcases this with rfl | rfl | rfl | rfl | rfl | rfl | rfl | rfl | rfl | rfl | rfl | rfl | h12
    · exact refdo0 h v hk hn ht c1 c2 c3 hb
    · exact refdo1 h v hk hn ht c1 c2 c3 hb
    · exact refdo2 h v hk zA zS zN c4 c5 hn ht c1 c2 c3 hb
    · exact refdo3 h v hk zA zS zN c4 c5 hn ht c1 c2 c3 hb
    · exact refdo4 h v hk hn ht c1 c2 c3 hb
    · exact refdo5 h v hk ff hn ht c1 c2 c3 hb
    · exact refdo6 h v hk hn ht c1 c2 c3 hb
    · exact refdo7 h v hk hn ht c1 c2 c3 hb
    · exact refdo8 h v hk hn ht c1 c2 c3 hb
    · exact refdo9 h v hk hn ht c1 c2 c3 hb
    · exact refdo10 h v hk hn ht c1 c2 c3 hb
    · exact refdo11 h v hk hn ht c1 c2 c3 hb
    · exact refdoX h v hk hn ht h12 c1 c2 c3 hb
end
end Go.Proofs.Ytbpmnjmegffllaa.Mod
