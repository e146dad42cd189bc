/-
  Contract of the document's New, at every plan that may be.
-/
import Derived.Test.YteakglkagmghpaaGreatScoN
import Derived.Test.YteakglkagmghpaaGreatScop
namespace Go.Proofs.YteakglkagmghpaaGreat.Sco
open Go.ChangeShapes Go.WideShapes Go.ChangeAt Go.RowKit
open Slic Gm
set_option linter.unusedVariables false
set_option linter.unusedSimpArgs false
attribute [local go_sem ↓] Go.wp_at_zero Go.wp_at_succ

def rw3 (a b c : Value) : Nat → Value := fun j => if j = 0 then a else if j = 1 then b else c
/-- A scope's rows, being made. -/
structure Nw (w wr : World) (kc kx : Nat) (a b c d : Int) (vC vX : Value) : Prop where
  pl : wr.heap[w.heap.size]? = some (.cells #[.int .i64 a, .int .i64 b, .int .i64 c, .int .i64 d] 23 (0, 0))
  hd : wr.rowIs (w.heap.size + 1) 71 3 (rw3 vC vX (.pointer none))
  oC : Own kC wr (w.heap.size + 2) vC (List.replicate kc free0)
  oX : Own kX wr (w.heap.size + 2) vX (List.replicate kx free0)
  bl : Below w.heap.size w wr
section
variable {w wr w' : World} {kc kx : Nat} {a b c d : Int} {vC vX : Value}
theorem Nw.lt (h : Nw w wr kc kx a b c d vC vX) : w.heap.size + 2 ≤ wr.heap.size := h.hd.lt
/-- All rows are made; what is stored into them. -/
structure Pre (w wr : World) (gC cC gX cX n : Nat) (a b c d : Int) (R : List Cx) : Prop where
  len : R.length = n
  pl : wr.heap[w.heap.size]? = some (.cells #[.int .i64 a, .int .i64 b, .int .i64 c, .int .i64 d] 23 (0, 0))
  hd : wr.rowIs (w.heap.size + 1) 71 3 (rw3 (.slice (some ⟨gC, 0, none⟩) n cC) (.slice (some ⟨gX, 0, none⟩) n cX) (.pointer none))
  rC : Own kC wr 0 (.slice (some ⟨gC, 0, none⟩) n cC) R
  rX : Own kX wr 0 (.slice (some ⟨gX, 0, none⟩) n cX) R
  bl : Below w.heap.size w wr
  fc : w.heap.size + 2 ≤ gC
  fx : w.heap.size + 2 ≤ gX
variable {gC cC gX cX n : Nat} {R : List Cx}
theorem Pre.ne (h : Pre w wr gC cC gX cX n a b c d R) : gC ≠ gX := (isT.own h.rC).ne (isT.own h.rX) (by decide)
theorem Pre.ltC (h : Pre w wr gC cC gX cX n a b c d R) : gC < wr.heap.size := (h.rC.lt _ rfl).2
theorem Pre.ltX (h : Pre w wr gC cC gX cX n a b c d R) : gX < wr.heap.size := (h.rX.lt _ rfl).2
theorem Pre.call (h : Pre w wr gC cC gX cX n a b c d R) (k : Below wr.heap.size wr w') : Pre w w' gC cC gX cX n a b c d R :=
  ⟨h.len, (k.block _ (Array.getElem?_eq_some_iff.1 h.pl).1).trans h.pl, h.hd.of_block (k.block _ h.hd.lt), h.rC.below k, h.rX.below k, h.bl.trans (k.mono h.bl.size), h.fc, h.fx⟩
theorem Pre.only {X : List Nat} {R' : List Cx} (h : Pre w wr gC cC gX cX n a b c d R) (k : Only X wr w') (hX : ∀ x ∈ X, w.heap.size + 2 ≤ x) (rC : Own kC w' 0 (.slice (some ⟨gC, 0, none⟩) n cC) R') (rX : Own kX w' 0 (.slice (some ⟨gX, 0, none⟩) n cX) R') (hl : R'.length = n) : Pre w w' gC cC gX cX n a b c d R' :=
  ⟨hl, (k.block _ (Array.getElem?_eq_some_iff.1 h.pl).1 (fun e => by have := hX _ e; omega)).trans h.pl, h.hd.of_block (k.block _ h.hd.lt (fun e => by have := hX _ e; omega)), rC, rX, k.below_of h.bl h.bl.size (fun x hx => by have := hX x hx; omega), h.fc, h.fx⟩
theorem Pre.putC4 (h : Pre w wr gC cC gX cX n a b c d R) (i : Nat) {x : Cx} (hx : R[i]? = some x) (s k p e : Int) :
    Pre w ((((wr.setCell ⟨gC, i * 4, none⟩ (.int .i64 s)).setCell ⟨gC, i * 4 + 1, none⟩ (.int .i64 k)).setCell ⟨gC, i * 4 + 2, none⟩ (.int .i64 p)).setCell ⟨gC, i * 4 + 3, none⟩ (.int .i64 e)) gC cC gX cX n a b c d (R.set i ⟨s, k, p, e, x.a, x.z⟩) := by
  have h1 := put_at h.rC h.len i 0 hx (by decide) ⟨s, x.c, x.p, x.e, x.a, x.z⟩ (.int .i64 s) rfl
  have h2 := put_at h1 (by rw [List.length_set]; exact h.len) i 1 (set_read hx _) (by decide) ⟨s, k, x.p, x.e, x.a, x.z⟩ (.int .i64 k) rfl
  rw [List.set_set] at h2
  have h3 := put_at h2 (by rw [List.length_set]; exact h.len) i 2 (set_read hx _) (by decide) ⟨s, k, p, x.e, x.a, x.z⟩ (.int .i64 p) rfl
  rw [List.set_set] at h3
  have h4 := put_at h3 (by rw [List.length_set]; exact h.len) i 3 (set_read hx _) (by decide) ⟨s, k, p, e, x.a, x.z⟩ (.int .i64 e) rfl
  rw [List.set_set] at h4
  have o4 : Only [gC] wr ((((wr.setCell ⟨gC, i * 4, none⟩ (.int .i64 s)).setCell ⟨gC, i * 4 + 1, none⟩ (.int .i64 k)).setCell ⟨gC, i * 4 + 2, none⟩ (.int .i64 p)).setCell ⟨gC, i * 4 + 3, none⟩ (.int .i64 e)) := (((Only.put wr _ _ _ (by simp)).trans (Only.put _ _ _ _ (by simp))).trans (Only.put _ _ _ _ (by simp))).trans (Only.put _ _ _ _ (by simp))
  exact h.only o4 (fun x hx => by rw [List.mem_singleton.1 hx]; exact h.fc) h4 (own_block (own_set h.rX hx rfl) (o4.block _ h.ltX (by simp; exact fun e => h.ne e.symm))) (by rw [List.length_set]; exact h.len)
theorem Pre.putX2 (h : Pre w wr gC cC gX cX n a b c d R) (i : Nat) {x : Cx} (hx : R[i]? = some x) (s z : Int) :
    Pre w ((wr.setCell ⟨gX, i * 2, none⟩ (.int .i64 s)).setCell ⟨gX, i * 2 + 1, none⟩ (.int .i64 z)) gC cC gX cX n a b c d (R.set i ⟨x.s, x.c, x.p, x.e, s, z⟩) := by
  have h1 := put_at h.rX h.len i 0 hx (by decide) ⟨x.s, x.c, x.p, x.e, s, x.z⟩ (.int .i64 s) rfl
  have h2 := put_at h1 (by rw [List.length_set]; exact h.len) i 1 (set_read hx _) (by decide) ⟨x.s, x.c, x.p, x.e, s, z⟩ (.int .i64 z) rfl
  rw [List.set_set] at h2
  have o4 : Only [gX] wr ((wr.setCell ⟨gX, i * 2, none⟩ (.int .i64 s)).setCell ⟨gX, i * 2 + 1, none⟩ (.int .i64 z)) := (Only.put wr _ _ _ (by simp)).trans (Only.put _ _ _ _ (by simp))
  exact h.only o4 (fun x hx => by rw [List.mem_singleton.1 hx]; exact h.fx) (own_block (own_set h.rC hx rfl) (o4.block _ h.ltC (by simp; exact h.ne))) h2 (by rw [List.length_set]; exact h.len)
theorem Pre.cells (h : Pre w wr gC cC gX cX n a b c d R) : wr.cell? ⟨w.heap.size, 0, none⟩ = some (.int .i64 a) ∧ wr.cell? ⟨w.heap.size, 1, none⟩ = some (.int .i64 b) ∧ wr.cell? ⟨w.heap.size, 2, none⟩ = some (.int .i64 c) ∧ wr.cell? ⟨w.heap.size, 3, none⟩ = some (.int .i64 d) := by
  refine ⟨?_, ?_, ?_, ?_⟩ <;> simp [World.cell?, h.pl]
theorem Pre.h1 (h : Pre w wr gC cC gX cX n a b c d R) : wr.cell? ⟨w.heap.size + 1, 1, none⟩ = some (.slice (some ⟨gX, 0, none⟩) n cX) := h.hd.cell (i := 1) (by omega)
theorem Pre.h2 (h : Pre w wr gC cC gX cX n a b c d R) : wr.cell? ⟨w.heap.size + 1, 2, none⟩ = some (.pointer none) := h.hd.cell (i := 2) (by omega)
end
end Go.Proofs.YteakglkagmghpaaGreat.Sco
