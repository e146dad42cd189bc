/-
  More of a law's walk: an object's slots, local blocks in another order, a row of one's own that grows.
-/
import Derived.Test.YtneggppfffekdaaGreatOwnl
namespace Go.Proofs.YtneggppfffekdaaGreat.Mod
open Go.ChangeShapes Go.WideShapes Go.ChangeAt Go.RowKit
open Slic Sco
set_option linter.unusedVariables false
set_option linter.unusedSimpArgs false
section
variable {w0 w w' : World} {Z : Fx} {FF : List (List Fina.O)} {n nt k : Nat} {m : Mo} {bx : Bx}
theorem ms_slots (h : Ms w0 w Z FF n nt k m bx) (x : Int) (hx : wf64 x) {L : List Int} {b : Bool} (hs : slotsV m x = (L, b)) : Calls Tryz.prog 29 #[ptr Z.B, .int .u64 x] w fun e w' =>
    ∃ u, e = .returned (.tuple #[u, .bool b]) ∧ Slic.Own Fina.kU w' w.heap.size u L ∧ Ms w0 w' Z FF n nt k m bx ∧ Below w.heap.size w w' := by
  refine (slots_any h.mw h.iv.lv x hx).mono ?_
  rintro e w' ⟨u, rfl, O, q⟩
  rw [hs] at O ⊢
  exact ⟨u, rfl, O, h.call q, q⟩
theorem Ms.perm (h : Ms w0 w Z FF n nt k m bx) {bx' : Bx} (p : bx'.Perm bx) : Ms w0 w Z FF n nt k m bx' := by
  obtain ⟨H, q⟩ := h.mw
  exact h.with ⟨H, q.md, q.below, q.own, fun x hx => q.box x (p.mem_iff.1 hx), ((p.map (·.1)).nodup_iff).2 q.nd⟩
theorem Ms.swap {ex ey : Bx} (h : Ms w0 w Z FF n nt k m (ex ++ ey)) : Ms w0 w Z FF n nt k m (ey ++ ex) := h.perm List.perm_append_comm
/-- append to a row of one's own, with where it lies then. -/
theorem wpList_grows {α : Type} {K : Kd α} {w : World} {ops : Array Oper} {rest : List Oper} {o : Oper} {a : Act} {Q : Exit → Act → World → Prop} (hgd : o.guard = none) (s x : Operand)
    (ho : o.op = .call { callee := .builtin .append, args := #[s, x], argTypes := #[K.X, K.X] }) (hty : o.type = K.X) {v y : Value} {L M : List α} {base : Nat}
    (hs : a.eval s = v) (hx : a.eval x = y) (h : Slic.Own K w base v L) (hy : Sr K w y M) (hl : L.length + M.length ≤ 1000000) (hb : base ≤ w.heap.size)
    (hK : ∀ v' w', Slic.Own K w' base v' (L ++ M) → w.grownBy w' v.ownBlock → (v'.ownBlock = v.ownBlock ∨ v'.ownBlock = some w.heap.size) → wpList Tryz.prog ops Q rest (a.put o.dst v') w') : wpList Tryz.prog ops Q (o :: rest) a w := by
  obtain ⟨v', w', hrun, r1, r2, r3⟩ := Slic.app_own w h hy hl hb
  refine wpList_plain hgd fun J hJ => ?_
  unfold Oper.wp
  simp [execOp, ho, resolve, invoke, builtin, hs, hx, hty, hrun, Result.andThen]
  exact hJ _ _ (hK v' w' r1 r2 r3)
end
end Go.Proofs.YtneggppfffekdaaGreat.Mod
