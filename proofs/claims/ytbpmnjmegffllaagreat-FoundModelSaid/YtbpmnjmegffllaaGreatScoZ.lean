/-
  Contract of the document's New, at every plan that may be.
-/
import Derived.Test.YtbpmnjmegffllaaGreatScoN
import Derived.Test.YtbpmnjmegffllaaGreatScop
namespace Go.Proofs.YtbpmnjmegffllaaGreat.Sco
open Go.ChangeShapes Go.WideShapes Go.ChangeAt Go.RowKit
open Slic Gm
set_option linter.unusedVariables false
set_option linter.unusedSimpArgs false
attribute [local go_sem ↓] Go.wp_at_zero Go.wp_at_succ

def rw3 (a b c : Value) : Nat → Value := fun j => if j = 0 then a else if j = 1 then b else c
theorem row3_hd {w : World} {D : Nat} {t : TypeId} {a b c : Value} (h : w.rowIs D t 3 (rw3 a b c)) : w.heap[D]? = some (.cells #[a, b, c] t (0, 0)) := by
  obtain ⟨cs, hb, hs, hc⟩ := h
  have e : cs = #[a, b, c] := by
    apply Array.ext_getElem?
    intro i
    by_cases hi : i < 3
    · have : i = 0 ∨ i = 1 ∨ i = 2 := by omega
      rcases this with rfl | rfl | rfl
      · rw [hc 0 hi]; rfl
      · rw [hc 1 hi]; rfl
      · rw [hc 2 hi]; rfl
    · rw [Array.getElem?_eq_none (by omega), Array.getElem?_eq_none (by simp; omega)]
  rw [e] at hb
  exact hb
structure Nw (w wr : World) (kc kx : Nat) (a b c d : Int) (vC vX : Value) : Prop where
  pl : wr.heap[w.heap.size]? = some (.cells #[.int .i64 a, .int .i64 b, .int .i64 c, .int .i64 d] 23 (0, 0))
  hd : wr.rowIs (w.heap.size + 1) 100 3 (rw3 vC vX (.pointer none))
  oC : Own kC wr (w.heap.size + 2) vC (List.replicate kc free0)
  oX : Own kX wr (w.heap.size + 2) vX (List.replicate kx free0)
  bl : Below w.heap.size w wr
section
variable {w wr w' : World} {kc kx : Nat} {a b c d : Int} {vC vX : Value}
theorem Nw.lt (h : Nw w wr kc kx a b c d vC vX) : w.heap.size + 2 ≤ wr.heap.size := h.hd.lt
theorem Nw.stepC (h : Nw w wr kc kx a b c d vC vX) {w2 : World} {v' : Value} {o : Obj} (O2 : Own kC w2 (w.heap.size + 2) v' (List.replicate kc free0 ++ [free0])) (g2 : (wr.alloc o).grownBy w2 vC.ownBlock) (G2 : Grew (wr.alloc o) w2 (w.heap.size + 2)) :
    Nw w (w2.setCell ⟨w.heap.size + 1, 0, none⟩ v') (kc + 1) kx a b c d v' vX := by
  have hl := h.lt
  have hb : ∀ q, q < w.heap.size + 2 → w2.heap[q]? = wr.heap[q]? := fun q hq => (G2.block q hq).trans (Below.heap_alloc wr o q (by omega))
  have gb : w2.grownBy (w2.setCell ⟨w.heap.size + 1, 0, none⟩ v') (some (w.heap.size + 1)) := ⟨rfl, rfl, rfl, by simp, fun k _ hk => heap_setCell_other w2 ⟨w.heap.size + 1, 0, none⟩ k v' (fun e => hk (by simp [e]))⟩
  have far : ∀ {v : Value} {g : Nat}, (v.ownBlock = some g → w.heap.size + 2 ≤ g) → (v.ownBlock = some g → v.ownBlock ≠ some (w.heap.size + 1)) := fun k e q => by rw [e] at q; injection q with q; have := k e; omega
  have farO : ∀ {α : Type} {K : Kd α} {v : Value} {W : World} {L : List α}, Own K W (w.heap.size + 2) v L → v.ownBlock = none ∨ v.ownBlock ≠ some (w.heap.size + 1) := fun k => .inr fun e => by have := (k.lt _ e).1; omega
  have hX : Own kX w2 (w.heap.size + 2) vX (List.replicate kx free0) := ((h.oX.below (below_one wr o)).kept g2 ((h.oX.below (below_one wr o)).apart (h.oC.below (below_one wr o)) (by decide)))
  refine ⟨?_, ?_, ?_, hX.kept gb (farO hX), ?_⟩
  · rw [gb.block _ (by have := G2.size; simp at this; omega) (fun e => by injection e with e; omega)]
    exact (hb _ (by omega)).trans h.pl
  · exact ((h.hd.of_block (hb _ (by omega))).set 0 v').congr fun j hj => by unfold rw3; by_cases e : j = 0 <;> simp [e]
  · rw [List.replicate_succ']
    exact O2.kept gb (farO O2)
  · exact Gr.bset (G2.below _ _ (by omega) (h.bl.alloc h.bl.size o)) _ _ (by omega) _
theorem Nw.stepX (h : Nw w wr kc kx a b c d vC vX) {w2 : World} {v' : Value} {o : Obj} (O2 : Own kX w2 (w.heap.size + 2) v' (List.replicate kx free0 ++ [free0])) (g2 : (wr.alloc o).grownBy w2 vX.ownBlock) (G2 : Grew (wr.alloc o) w2 (w.heap.size + 2)) :
    Nw w (w2.setCell ⟨w.heap.size + 1, 1, none⟩ v') kc (kx + 1) a b c d vC v' := by
  have hl := h.lt
  have hb : ∀ q, q < w.heap.size + 2 → w2.heap[q]? = wr.heap[q]? := fun q hq => (G2.block q hq).trans (Below.heap_alloc wr o q (by omega))
  have gb : w2.grownBy (w2.setCell ⟨w.heap.size + 1, 1, none⟩ v') (some (w.heap.size + 1)) := ⟨rfl, rfl, rfl, by simp, fun k _ hk => heap_setCell_other w2 ⟨w.heap.size + 1, 1, none⟩ k v' (fun e => hk (by simp [e]))⟩
  have farO : ∀ {α : Type} {K : Kd α} {v : Value} {W : World} {L : List α}, Own K W (w.heap.size + 2) v L → v.ownBlock = none ∨ v.ownBlock ≠ some (w.heap.size + 1) := fun k => .inr fun e => by have := (k.lt _ e).1; omega
  have hC : Own kC w2 (w.heap.size + 2) vC (List.replicate kc free0) := ((h.oC.below (below_one wr o)).kept g2 ((h.oC.below (below_one wr o)).apart (h.oX.below (below_one wr o)) (by decide)))
  refine ⟨?_, ?_, hC.kept gb (farO hC), ?_, ?_⟩
  · rw [gb.block _ (by have := G2.size; simp at this; omega) (fun e => by injection e with e; omega)]
    exact (hb _ (by omega)).trans h.pl
  · exact ((h.hd.of_block (hb _ (by omega))).set 1 v').congr fun j hj => by unfold rw3; by_cases e : j = 1 <;> simp [e]
  · rw [List.replicate_succ']
    exact O2.kept gb (farO O2)
  · exact Gr.bset (G2.below _ _ (by omega) (h.bl.alloc h.bl.size o)) _ _ (by omega) _
structure Pre (w wr : World) (gC cC gX cX n : Nat) (a b c d : Int) (R : List Cx) : Prop where
  len : R.length = n
  pl : wr.heap[w.heap.size]? = some (.cells #[.int .i64 a, .int .i64 b, .int .i64 c, .int .i64 d] 23 (0, 0))
  hd : wr.rowIs (w.heap.size + 1) 100 3 (rw3 (.slice (some ⟨gC, 0, none⟩) n cC) (.slice (some ⟨gX, 0, none⟩) n cX) (.pointer none))
  rC : Own kC wr 0 (.slice (some ⟨gC, 0, none⟩) n cC) R
  rX : Own kX wr 0 (.slice (some ⟨gX, 0, none⟩) n cX) R
  bl : Below w.heap.size w wr
  fc : w.heap.size + 2 ≤ gC
  fx : w.heap.size + 2 ≤ gX
variable {gC cC gX cX n : Nat} {R : List Cx}
theorem Pre.ne (h : Pre w wr gC cC gX cX n a b c d R) : gC ≠ gX := (isT.own h.rC).ne (isT.own h.rX) (by decide)
theorem Pre.ltC (h : Pre w wr gC cC gX cX n a b c d R) : gC < wr.heap.size := (h.rC.lt _ rfl).2
theorem Pre.ltX (h : Pre w wr gC cC gX cX n a b c d R) : gX < wr.heap.size := (h.rX.lt _ rfl).2
theorem Pre.call (h : Pre w wr gC cC gX cX n a b c d R) (k : Below wr.heap.size wr w') : Pre w w' gC cC gX cX n a b c d R :=
  ⟨h.len, (k.block _ (Array.getElem?_eq_some_iff.1 h.pl).1).trans h.pl, h.hd.of_block (k.block _ h.hd.lt), h.rC.below k, h.rX.below k, h.bl.trans (k.mono h.bl.size), h.fc, h.fx⟩
theorem Pre.only {X : List Nat} {R' : List Cx} (h : Pre w wr gC cC gX cX n a b c d R) (k : Only X wr w') (hX : ∀ x ∈ X, w.heap.size + 2 ≤ x) (rC : Own kC w' 0 (.slice (some ⟨gC, 0, none⟩) n cC) R') (rX : Own kX w' 0 (.slice (some ⟨gX, 0, none⟩) n cX) R') (hl : R'.length = n) : Pre w w' gC cC gX cX n a b c d R' :=
  ⟨hl, (k.block _ (Array.getElem?_eq_some_iff.1 h.pl).1 (fun e => by have := hX _ e; omega)).trans h.pl, h.hd.of_block (k.block _ h.hd.lt (fun e => by have := hX _ e; omega)), rC, rX, k.below_of h.bl h.bl.size (fun x hx => by have := hX x hx; omega), h.fc, h.fx⟩
theorem Pre.putC4 (h : Pre w wr gC cC gX cX n a b c d R) (i : Nat) {x : Cx} (hx : R[i]? = some x) (s k p e : Int) :
    Pre w ((((wr.setCell ⟨gC, i * 4, none⟩ (.int .i64 s)).setCell ⟨gC, i * 4 + 1, none⟩ (.int .i64 k)).setCell ⟨gC, i * 4 + 2, none⟩ (.int .i64 p)).setCell ⟨gC, i * 4 + 3, none⟩ (.int .i64 e)) gC cC gX cX n a b c d (R.set i ⟨s, k, p, e, x.a, x.z⟩) := by
  have h1 := put_at h.rC h.len i 0 hx (by decide) ⟨s, x.c, x.p, x.e, x.a, x.z⟩ (.int .i64 s) rfl
  have h2 := put_at h1 (by rw [List.length_set]; exact h.len) i 1 (set_read hx _) (by decide) ⟨s, k, x.p, x.e, x.a, x.z⟩ (.int .i64 k) rfl
  rw [List.set_set] at h2
  have h3 := put_at h2 (by rw [List.length_set]; exact h.len) i 2 (set_read hx _) (by decide) ⟨s, k, p, x.e, x.a, x.z⟩ (.int .i64 p) rfl
  rw [List.set_set] at h3
  have h4 := put_at h3 (by rw [List.length_set]; exact h.len) i 3 (set_read hx _) (by decide) ⟨s, k, p, e, x.a, x.z⟩ (.int .i64 e) rfl
  rw [List.set_set] at h4
  have o4 : Only [gC] wr ((((wr.setCell ⟨gC, i * 4, none⟩ (.int .i64 s)).setCell ⟨gC, i * 4 + 1, none⟩ (.int .i64 k)).setCell ⟨gC, i * 4 + 2, none⟩ (.int .i64 p)).setCell ⟨gC, i * 4 + 3, none⟩ (.int .i64 e)) := (((Only.put wr _ _ _ (by simp)).trans (Only.put _ _ _ _ (by simp))).trans (Only.put _ _ _ _ (by simp))).trans (Only.put _ _ _ _ (by simp))
  exact h.only o4 (fun x hx => by rw [List.mem_singleton.1 hx]; exact h.fc) h4 (own_block (own_set h.rX hx rfl) (o4.block _ h.ltX (by simp; exact fun e => h.ne e.symm))) (by rw [List.length_set]; exact h.len)
theorem Pre.putX2 (h : Pre w wr gC cC gX cX n a b c d R) (i : Nat) {x : Cx} (hx : R[i]? = some x) (s z : Int) :
    Pre w ((wr.setCell ⟨gX, i * 2, none⟩ (.int .i64 s)).setCell ⟨gX, i * 2 + 1, none⟩ (.int .i64 z)) gC cC gX cX n a b c d (R.set i ⟨x.s, x.c, x.p, x.e, s, z⟩) := by
  have h1 := put_at h.rX h.len i 0 hx (by decide) ⟨x.s, x.c, x.p, x.e, s, x.z⟩ (.int .i64 s) rfl
  have h2 := put_at h1 (by rw [List.length_set]; exact h.len) i 1 (set_read hx _) (by decide) ⟨x.s, x.c, x.p, x.e, s, z⟩ (.int .i64 z) rfl
  rw [List.set_set] at h2
  have o4 : Only [gX] wr ((wr.setCell ⟨gX, i * 2, none⟩ (.int .i64 s)).setCell ⟨gX, i * 2 + 1, none⟩ (.int .i64 z)) := (Only.put wr _ _ _ (by simp)).trans (Only.put _ _ _ _ (by simp))
  exact h.only o4 (fun x hx => by rw [List.mem_singleton.1 hx]; exact h.fx) (own_block (own_set h.rC hx rfl) (o4.block _ h.ltC (by simp; exact h.ne))) h2 (by rw [List.length_set]; exact h.len)
theorem Pre.cells (h : Pre w wr gC cC gX cX n a b c d R) : wr.cell? ⟨w.heap.size, 0, none⟩ = some (.int .i64 a) ∧ wr.cell? ⟨w.heap.size, 1, none⟩ = some (.int .i64 b) ∧ wr.cell? ⟨w.heap.size, 2, none⟩ = some (.int .i64 c) ∧ wr.cell? ⟨w.heap.size, 3, none⟩ = some (.int .i64 d) := by
  refine ⟨?_, ?_, ?_, ?_⟩ <;> simp [World.cell?, h.pl]
theorem Pre.h1 (h : Pre w wr gC cC gX cX n a b c d R) : wr.cell? ⟨w.heap.size + 1, 1, none⟩ = some (.slice (some ⟨gX, 0, none⟩) n cX) := h.hd.cell (i := 1) (by omega)
theorem Pre.h2 (h : Pre w wr gC cC gX cX n a b c d R) : wr.cell? ⟨w.heap.size + 1, 2, none⟩ = some (.pointer none) := h.hd.cell (i := 2) (by omega)
theorem own_cells {α : Type} {K : Kd α} {w : World} {g n c : Nat} {L : List α} (h : Own K w 0 (.slice (some ⟨g, 0, none⟩) n c) L) (hl : L.length = n) {i : Nat} {x : α} (hx : L[i]? = some x) : (∀ j u, (K.enc x)[j]? = some u → w.cell? ⟨g, i * K.m + j, none⟩ = some u) ∧ ∀ o, w.frozen? ⟨g, o, none⟩ = false := by
  subst hl
  obtain ⟨hi, hx⟩ := List.getElem?_eq_some_iff.1 hx
  obtain ⟨g', c', e, _, _, _, _, hf, hc⟩ := h.form (by omega)
  injection e with e _ _
  injection e with e
  injection e with e
  subst e
  exact ⟨fun j u hu => hc i j u hi (by rw [hx]; exact hu), hf⟩
theorem Pre.fin {N C gw : Nat} {A : Int} {Y : Nat → Bool} (h : Pre w wr gC cC gX cX n a b c d R) (hf : Ref.Rf wr C gw A N Y) : Rs (wr.setCell ⟨w.heap.size + 1, 2, none⟩ (.pointer (some ⟨C, 0, none⟩))) ⟨w.heap.size + 1, gC, cC, gX, cX, C, gw⟩ n A N R Y := by
  have hC := h.fc
  have hX := h.fx
  have o : Only [w.heap.size + 1] wr (wr.setCell ⟨w.heap.size + 1, 2, none⟩ (.pointer (some ⟨C, 0, none⟩))) := Only.put wr _ _ _ (by simp)
  have tD := isT.row h.hd
  refine ⟨h.len, row3_hd ((h.hd.set 2 _).congr fun j hj => ?_), own_block h.rC (o.block _ h.ltC (by simp; omega)), own_block h.rX (o.block _ h.ltX (by simp; omega)), hf.head.of_block (o.block _ hf.head.lt (by simp; exact (isT.row hf.head).ne tD (by decide))), hf.body.of_block (o.block _ hf.body.lt (by simp; exact (isT.row hf.body).ne tD (by decide)))⟩
  unfold rw3
  have : j = 0 ∨ j = 1 ∨ j = 2 := by omega
  rcases this with rfl | rfl | rfl <;> rfl
end
end Go.Proofs.YtbpmnjmegffllaaGreat.Sco
