/-
  What a walk carries: where all of a model stands, and local blocks beside it (Mh); the same of a model's state (Mw).
-/
import Derived.Test.YtneggppfffekdaaGreatMemB
namespace Go.Proofs.YtneggppfffekdaaGreat.Mod
open Go.ChangeShapes Go.WideShapes Go.ChangeAt Go.RowKit
open Slic Sco
set_option linter.unusedVariables false

abbrev Bx := List (Nat × Obj)
structure Mh (w0 w : World) (Z : Fx) (H : Hp) (G : Gs) (bx : Bx) : Prop where
  md : Mg w Z H G
  below : Below w0.heap.size w0 w
  own : ∀ b, wr Z H b → w0.heap.size ≤ b
  box : ∀ x ∈ bx, w.heap[x.1]? = some x.2 ∧ ¬ wr Z H x.1 ∧ w0.heap.size ≤ x.1
  nd : (bx.map (·.1)).Nodup
section
variable {w0 w w' : World} {Z : Fx} {H H' : Hp} {G G' : Gs} {bx : Bx}
theorem Mh.ltb (h : Mh w0 w Z H G bx) {x : Nat × Obj} (hx : x ∈ bx) : x.1 < w.heap.size := (Array.getElem?_eq_some_iff.1 (h.box x hx).1).1
/-- What is done where a call may write. -/
theorem Mh.step {X : List Nat} (h : Mh w0 w Z H G bx) (k : Only X w w') (hX : ∀ x ∈ X, wr Z H x) (d : Mg w' Z H' G') (hn : ∀ b, wr Z H' b → wr Z H b ∨ w.heap.size ≤ b) : Mh w0 w' Z H' G' bx where
  md := d
  below := k.below_of h.below h.below.size fun x hx => h.own x (hX x hx)
  own := fun b hb => by
    rcases hn b hb with e | e
    · exact h.own b e
    · exact Nat.le_trans h.below.size e
  box := fun x hx => by
    obtain ⟨b1, b2, b3⟩ := h.box x hx
    refine ⟨(k.block x.1 (h.ltb hx) fun e => b2 (hX _ e)).trans b1, fun e => ?_, b3⟩
    rcases hn _ e with e | e
    · exact b2 e
    · have := h.ltb hx
      omega
  nd := h.nd
theorem Mh.call (h : Mh w0 w Z H G bx) (k : Below w.heap.size w w') : Mh w0 w' Z H G bx :=
  h.step (X := []) (Only.below k) (fun x hx => absurd hx List.not_mem_nil) (h.md.below k) fun b hb => .inl hb
theorem Mh.alloc (h : Mh w0 w Z H G bx) (o : Obj) : Mh w0 (w.alloc o) Z H G bx := h.call (below_one w o)
theorem Mh.drew (h : Mh w0 w Z H G bx) : Mh w0 w.drew Z H G bx := h.call (Below.refl _ _).drew
/-- A block that is known beside the model. -/
theorem Mh.note (h : Mh w0 w Z H G bx) {b : Nat} {o : Obj} (e : w.heap[b]? = some o) (h1 : ¬ wr Z H b) (h2 : w0.heap.size ≤ b) (h3 : ∀ x ∈ bx, x.1 ≠ b) : Mh w0 w Z H G ((b, o) :: bx) where
  md := h.md
  below := h.below
  own := h.own
  box := fun x hx => by
    rcases List.mem_cons.1 hx with rfl | hx
    · exact ⟨e, h1, h2⟩
    · exact h.box x hx
  nd := by
    rw [List.map_cons, List.nodup_cons]
    refine ⟨fun q => ?_, h.nd⟩
    obtain ⟨x, hx, e⟩ := List.mem_map.1 q
    exact h3 x hx e
/-- A block that is new behind a call. -/
theorem Mh.fresh (h : Mh w0 w Z H G bx) (k : Below w.heap.size w w') {b : Nat} {o : Obj} (e : w'.heap[b]? = some o) (hb : w.heap.size ≤ b) : Mh w0 w' Z H G ((b, o) :: bx) :=
  (h.call k).note e (fun q => by have := h.md.wr_lt q; omega) (Nat.le_trans h.below.size hb) fun x hx e => by have := h.ltb hx; omega
theorem Mh.new (h : Mh w0 w Z H G bx) (cs : Array Value) (t : TypeId) : Mh w0 (w.alloc (.cells cs t)) Z H G ((w.heap.size, .cells cs t (0, 0)) :: bx) := h.fresh (below_one w _) (heap_alloc_new w _) (Nat.le_refl _)
theorem Mh.at (h : Mh w0 w Z H G bx) (i : Nat) {b : Nat} {o : Obj} (e : bx[i]? = some (b, o)) : w.heap[b]? = some o := (h.box _ (List.mem_of_getElem? e)).1
theorem Mh.drop (h : Mh w0 w Z H G bx) (k : Nat) : Mh w0 w Z H G (bx.drop k) := ⟨h.md, h.below, h.own, fun x hx => h.box x (List.mem_of_mem_drop hx), by rw [List.map_drop]; exact h.nd.sublist (List.drop_sublist _ _)⟩
theorem cell_of {w : World} {b : Nat} {vs : Array Value} {t : TypeId} {fz : Nat × Nat} (h : w.heap[b]? = some (.cells vs t fz)) (k : Nat) (v : Value) (e : vs[k]? = some v) : w.cell? ⟨b, k, none⟩ = some v := by simp [World.cell?, h, e]
theorem fz_of {w : World} {b : Nat} {vs : Array Value} {t : TypeId} (h : w.heap[b]? = some (.cells vs t (0, 0))) (o : Nat) : w.frozen? ⟨b, o, none⟩ = false := by simp [World.frozen?, h]
/-- A store into a local block. -/
theorem Mh.put (h : Mh w0 w Z H G bx) (i : Nat) {b : Nat} {vs : Array Value} {t : TypeId} (e : bx[i]? = some (b, .cells vs t (0, 0))) (ht : rdT.contains t = false) (k : Nat) (v : Value) :
    Mh w0 (w.setCell ⟨b, k, none⟩ v) Z H G (bx.set i (b, .cells (vs.setIfInBounds k v) t (0, 0))) := by
  obtain ⟨b1, b2, b3⟩ := h.box _ (List.mem_of_getElem? e)
  have o : Only [b] w (w.setCell ⟨b, k, none⟩ v) := Only.put w b k v (by simp)
  have nt : ∀ x ∈ [b], ∀ t' ∈ rdT, noT w x t' := fun x hx t' ht' => by
    rw [List.mem_singleton.1 hx]
    refine (isT.of b1).no ?_
    rw [beq_eq_false_iff_ne]
    rintro rfl
    rw [List.contains_iff_mem.2 ht'] at ht
    cases ht
  have hi : i < bx.length := (List.getElem?_eq_some_iff.1 e).1
  have hb : (bx.map (·.1))[i]? = some b := by rw [List.getElem?_map, e]; rfl
  refine ⟨h.md.off o (fun x hx => by rw [List.mem_singleton.1 hx]; exact b2) nt, o.below_of h.below h.below.size (fun x hx => by rw [List.mem_singleton.1 hx]; exact b3), h.own, fun x hx => ?_, ?_⟩
  · obtain ⟨j, hj⟩ := List.mem_iff_getElem?.1 hx
    rcases get_setL hj with ⟨rfl, rfl, _⟩ | ⟨hne, hj⟩
    · exact ⟨heap_setCell_same w b k vs t v b1, b2, b3⟩
    · obtain ⟨c1, c2, c3⟩ := h.box x (List.mem_of_getElem? hj)
      refine ⟨(o.block x.1 (h.ltb (List.mem_of_getElem? hj)) fun q => ?_).trans c1, c2, c3⟩
      have hj' : (bx.map (·.1))[j]? = some x.1 := by rw [List.getElem?_map, hj]; rfl
      rw [List.mem_singleton.1 q] at hj'
      exact hne ((List.getElem?_inj (i := j) (j := i) (by have := (List.getElem?_eq_some_iff.1 hj).1; simpa using this) h.nd).1 (hj'.trans hb.symm))
  · have : (bx.set i (b, Obj.cells (vs.setIfInBounds k v) t (0, 0))).map (·.1) = bx.map (·.1) := by
      rw [List.map_set, set_same hb]
    rw [this]
    exact h.nd
end
/-- A model's state, in memory, with local blocks beside it. -/
def Mw (w0 w : World) (Z : Fx) (m : Mo) (bx : Bx) : Prop := ∃ H, Mh w0 w Z H (m.gs H.om) bx
section
variable {w0 w w' : World} {Z : Fx} {m m' : Mo} {bx : Bx}
theorem Mw.call (h : Mw w0 w Z m bx) (k : Below w.heap.size w w') : Mw w0 w' Z m bx := let ⟨H, h⟩ := h; ⟨H, h.call k⟩
theorem Mw.alloc (h : Mw w0 w Z m bx) (o : Obj) : Mw w0 (w.alloc o) Z m bx := h.call (below_one w o)
theorem Mw.drew (h : Mw w0 w Z m bx) : Mw w0 w.drew Z m bx := h.call (Below.refl _ _).drew
theorem Mw.new (h : Mw w0 w Z m bx) (cs : Array Value) (t : TypeId) : Mw w0 (w.alloc (.cells cs t)) Z m ((w.heap.size, .cells cs t (0, 0)) :: bx) := let ⟨H, h⟩ := h; ⟨H, h.new cs t⟩
theorem Mw.fresh (h : Mw w0 w Z m bx) (k : Below w.heap.size w w') {b : Nat} {o : Obj} (e : w'.heap[b]? = some o) (hb : w.heap.size ≤ b) : Mw w0 w' Z m ((b, o) :: bx) := let ⟨H, h⟩ := h; ⟨H, h.fresh k e hb⟩
theorem Mw.at (h : Mw w0 w Z m bx) (i : Nat) {b : Nat} {o : Obj} (e : bx[i]? = some (b, o)) : w.heap[b]? = some o := let ⟨_, h⟩ := h; h.at i e
theorem Mw.drop (h : Mw w0 w Z m bx) (k : Nat) : Mw w0 w Z m (bx.drop k) := let ⟨H, h⟩ := h; ⟨H, h.drop k⟩
theorem Mw.below (h : Mw w0 w Z m bx) : Below w0.heap.size w0 w := let ⟨_, h⟩ := h; h.below
theorem Mw.put (h : Mw w0 w Z m bx) (i : Nat) {b : Nat} {vs : Array Value} {t : TypeId} (e : bx[i]? = some (b, .cells vs t (0, 0))) (ht : rdT.contains t = false) (k : Nat) (v : Value) :
    Mw w0 (w.setCell ⟨b, k, none⟩ v) Z m (bx.set i (b, .cells (vs.setIfInBounds k v) t (0, 0))) := let ⟨H, h⟩ := h; ⟨H, h.put i e ht k v⟩
/-- The cells of a local block, and that it may be stored into. -/
theorem Mw.cell (h : Mw w0 w Z m bx) (i : Nat) {b : Nat} {vs : Array Value} {t : TypeId} (e : bx[i]? = some (b, .cells vs t (0, 0))) : (∀ k v, vs[k]? = some v → w.cell? ⟨b, k, none⟩ = some v) ∧ ∀ o, w.frozen? ⟨b, o, none⟩ = false :=
  ⟨fun k v hv => cell_of (h.at i e) k v hv, fz_of (h.at i e)⟩
/-- The struct's cells. -/
theorem Mg.cells {H : Hp} {G : Gs} (h : Mg w Z H G) : w.cell? ⟨Z.B, 4, none⟩ = some (sl3 Z.fv) ∧ w.cell? ⟨Z.B, 5, none⟩ = some (.slice (some ⟨Z.bt, 0, none⟩) Z.nt Z.nt) ∧ w.cell? ⟨Z.B, 6, none⟩ = some (.slice (some ⟨Z.ba, 0, none⟩) Z.n Z.n) ∧ w.cell? ⟨Z.B, 7, none⟩ = some (.map (some Z.bm)) := by
  obtain ⟨v, hr, _⟩ := h.sc.gr
  have g : ∀ i, 4 ≤ i → i < 8 → w.cell? ⟨Z.B, i, none⟩ = some (Z.fr.f i) := fun i h1 h2 => by
    have := hr.cell (i := i) h2
    rw [Gr.Ly.hdf _ _ _ _ (.inr (show 1 + 3 ≤ i from h1))] at this
    refine this.trans ?_
    show some (if i = 0 then _ else Z.fr.f i) = _
    rw [if_neg (by omega)]
  exact ⟨g 4 (by omega) (by omega), g 5 (by omega) (by omega), g 6 (by omega) (by omega), g 7 (by omega) (by omega)⟩
end
end Go.Proofs.YtneggppfffekdaaGreat.Mod
