/-
  Contracts of package begin: the way out; what a walk carries (local blocks, closures that ask); rows of closures.
-/
import Derived.Test.YteakglkagmghpaaGreatBegB
namespace Go.Proofs.YteakglkagmghpaaGreat.Beg
open Go.ChangeShapes Go.WideShapes Go.ChangeAt Go.RowKit
open Go.Proofs.YteakglkagmghpaaGreat.Mod Slic
set_option linter.unusedVariables false
set_option linter.unusedSimpArgs false
set_option maxRecDepth 8000
attribute [local go_sem ↓] Go.wp_at_zero Go.wp_at_succ

theorem Ask.alloc {w : World} {f : Fv} {c : Int} (h : Ask w f c) (o : Obj) : Ask (w.alloc o) f c := h.below (below_one w o)
theorem Ask.drew {w : World} {f : Fv} {c : Int} (h : Ask w f c) : Ask w.drew f c := h.below (Below.refl _ _).drew
/-- What a walk carries: local blocks, and closures that ask. -/
structure Bs (w0 w : World) (L : List (Nat × List Value)) (A : List (Fv × Int)) : Prop where
  st : Held.St w0 w L
  ask : ∀ f c, (f, c) ∈ A → Ask w f c
section
variable {w0 w w' : World} {L : List (Nat × List Value)} {A : List (Fv × Int)}
theorem Bs.call (S : Bs w0 w L A) (k : Below w.heap.size w w') : Bs w0 w' L A := ⟨S.st.call k, fun f c h => (S.ask f c h).below k⟩
theorem Bs.drew (S : Bs w0 w L A) : Bs w0 w.drew L A := ⟨S.st.drew, fun f c h => (S.ask f c h).drew⟩
theorem Bs.alloc (S : Bs w0 w L A) (o : Obj) : Bs w0 (w.alloc o) L A := ⟨S.st.alloc o, fun f c h => (S.ask f c h).alloc o⟩
theorem Bs.new (S : Bs w0 w L A) (vs : List Value) (t : TypeId) : Bs w0 (w.alloc (.cells vs.toArray t)) ((w.heap.size, vs) :: L) A := ⟨S.st.new vs t, fun f c h => (S.ask f c h).alloc _⟩
theorem Bs.start (w : World) : Bs w w [] [] := ⟨Held.St.start w, fun f c h => absurd h List.not_mem_nil⟩
theorem Bs.below (S : Bs w0 w L A) : Below w0.heap.size w0 w := S.st.below
end
end Go.Proofs.YteakglkagmghpaaGreat.Beg
