/-
  What ScopesApart's walk carries: the scopes, local blocks, and the table of counts.
-/
import Derived.Test.YtkkmhapfhnnooaaScoAt
import Derived.Test.YtkkmhapfhnnooaaScoAc
namespace Go.Proofs.Ytkkmhapfhnnooaa.Sco
open Go.ChangeShapes Go.WideShapes Go.ChangeAt Go.RowKit
open Slic Gm
set_option linter.unusedVariables false
set_option linter.unusedSimpArgs false

structure Ax (w0 w : World) (B g n : Nat) (A S I J : Int) (F : Fo) (bx : List (Nat × List Value × TypeId)) (U : Nat) (f : Nat → Int) : Prop where
  so : So w0 w B g n A S I J F bx
  fresh : w0.heap.size ≤ U
  row : w.rowIs U 58 128 (fun u => .int .i64 (f u))
  ne : ∀ x ∈ bx, x.1 ≠ U
section
variable {w0 w w' : World} {B g n : Nat} {A S I J : Int} {F : Fo} {bx : List (Nat × List Value × TypeId)} {U : Nat} {f : Nat → Int}
theorem Ax.call (h : Ax w0 w B g n A S I J F bx U f) (k : Below w.heap.size w w') : Ax w0 w' B g n A S I J F bx U f :=
  ⟨h.so.call k, h.fresh, h.row.of_block (k.block U h.row.lt), h.ne⟩
theorem Ax.drew (h : Ax w0 w B g n A S I J F bx U f) : Ax w0 w.drew B g n A S I J F bx U f := h.call (Below.refl _ _).drew
theorem Ax.new (h : Ax w0 w B g n A S I J F bx U f) (vs : List Value) (t : TypeId) : Ax w0 (w.alloc (.cells vs.toArray t)) B g n A S I J F ((w.heap.size, vs, t) :: bx) U f := by
  have h' := h.call (below_one w (.cells vs.toArray t))
  refine ⟨h.so.new vs t, h'.fresh, h'.row, fun x hx => ?_⟩
  rcases List.mem_cons.1 hx with rfl | hx
  · have := h.row.lt
    show w.heap.size ≠ U
    omega
  · exact h.ne x hx
theorem Ax.drop (h : Ax w0 w B g n A S I J F bx U f) (k : Nat) : Ax w0 w B g n A S I J F (bx.drop k) U f := ⟨h.so.drop k, h.fresh, h.row, fun x hx => h.ne x (List.mem_of_mem_drop hx)⟩
theorem Ax.congr {f' : Nat → Int} (h : Ax w0 w B g n A S I J F bx U f) (e : ∀ u, u < 128 → f u = f' u) : Ax w0 w B g n A S I J F bx U f' := ⟨h.so, h.fresh, h.row.congr fun i hi => by rw [e i hi], h.ne⟩
theorem Ax.put (h : Ax w0 w B g n A S I J F bx U f) (i : Nat) (c : Int) : Ax w0 (w.setCell ⟨U, i, none⟩ (.int .i64 c)) B g n A S I J F bx U (fun u => if u = i then c else f u) := by
  have k : Only [U] w (w.setCell ⟨U, i, none⟩ (.int .i64 c)) := Only.put w U i _ (by simp)
  have t : isT w U 58 := isT.row h.row
  have nB : B ≠ U := h.so.sc.tB.ne t (by decide)
  have ng : g ≠ U := h.so.sc.tg.ne t (by decide)
  have hf := h.fresh
  refine ⟨⟨h.so.sc.only k (by simp; exact nB) (by simp; exact ng) (fun x hx => ?_), h.so.inv, k.below_of h.so.below h.so.below.size (fun x hx => by rw [List.mem_singleton.1 hx]; exact hf), h.so.oB, h.so.og, fun x hx => ⟨bt_only (h.so.box x hx).1 k (by simp; exact h.ne x hx), (h.so.box x hx).2⟩⟩, hf, (h.row.set i _).congr fun j hj => ?_, h.ne⟩
  · rw [List.mem_singleton.1 hx]
    exact .inr ⟨_, t, by decide⟩
  · by_cases e : j = i <;> simp [e]
theorem Ax.cell (h : Ax w0 w B g n A S I J F bx U f) {u : Nat} (hu : u < 128) : w.cell? ⟨U, u, none⟩ = some (.int .i64 (f u)) := h.row.cell hu
theorem Ax.fz (h : Ax w0 w B g n A S I J F bx U f) (u : Nat) : w.frozen? ⟨U, u, none⟩ = false := h.row.frozen u
/-- A row of extents of one's own stays when a count is stored. -/
theorem ex_put {L : List E} {v : Value} (h : Gr.Ex w v L) (hq : ∀ q, v.ownBlock = some q → q ≠ U) (i : Nat) (c : Value) : Gr.Ex (w.setCell ⟨U, i, none⟩ c) v L :=
  h.keep (by simp [World.setCell]) (fun q e => heap_setCell_other w ⟨U, i, none⟩ q c (hq q e))
theorem ax_start (h : So w0 w B g n A S I J F bx) : Ax w0 ((w.alloc (.cells cs128 58)).setRow w.heap.size cs128) B g n A S I J F bx w.heap.size (fun _ => 0) :=
  ⟨h.call (below_grown (grown128 w)), h.below.size, row128 w, fun x hx => by have := (h.box x hx).1.lt; omega⟩
end
end Go.Proofs.Ytkkmhapfhnnooaa.Sco
