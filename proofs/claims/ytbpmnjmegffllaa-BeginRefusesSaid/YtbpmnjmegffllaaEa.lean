/-
  The document's Do: what a callee leaves of a local block, and how its answer is told.
-/
import Derived.Test.YtbpmnjmegffllaaDz
namespace Go.Proofs.Ytbpmnjmegffllaa.Mod
open Go.ChangeShapes Go.WideShapes Go.ChangeAt Go.RowKit
open Slic Sco
set_option linter.unusedVariables false
set_option linter.unusedSimpArgs false
set_option maxRecDepth 8000
section
variable {w w' W : World} {X : Dx} {p : Dp} {m m' : Mo} {Z : Fx} {k : Nat}
/-- A local block is left by a call of the document's. -/
theorem Dly.keepT (h : Rm W X p m) (d : Dly X p W w') {b : Nat} {T : TypeId} (tb : isT W b T) (hT : dT.contains T = false) : w'.heap[b]? = W.heap[b]? := by
  have ne : ∀ t ∈ dT, (T == t) = false := fun t ht => by
    rw [beq_eq_false_iff_ne]
    rintro rfl
    rw [List.contains_iff_mem.2 ht] at hT
    cases hT
  have off : ∀ {g : Nat} {t : TypeId}, isT W g t → t ∈ dT → b ≠ g := fun hg ht => tb.ne hg (ne _ ht)
  obtain ⟨L, hL, q⟩ := d
  refine q.block b tb.lt fun hm => ?_
  rcases hL b hm with e | e | e | e | e | ⟨t, ht, e⟩
  · exact off h.tD (by simp [dT]) e
  · exact off h.rs.tc (by simp [dT]) e
  · exact off h.rs.tx (by simp [dT]) e
  · exact off h.rs.tw (by simp [dT]) e
  · exact off (own_isT h.ob e) (by simp [dT, kO]) rfl
  · obtain ⟨i, hi⟩ := List.getElem?_of_mem ht
    have li : i < m.O.length := by
      have := (List.getElem?_eq_some_iff.1 hi).1
      have := h.ln
      omega
    exact off (own_isT (h.sl i _ t (List.getElem?_eq_getElem li) hi) e) (by simp [dT, Fina.kU]) rfl
/-- An answer that a callee told is put into its block. -/
theorem did_end {r : Re2} {sd : Tri} {b : Nat} (q : Below w.heap.size w W) (h1 : Rm W X p m) (tq : isT W b anT) (hb : w.heap.size ≤ b) (S : Slic.Own Fina.kI w' 0 (sl3 sd) r.1.said) (sb : ∀ g, Mod.ob sd = some g → W.heap.size ≤ g) (d : DidD X p W r.2 w') :
    DidE X p w r (.returned (.agg #[.int .i64 r.1.c, .int .i64 r.1.n, sl3 sd])) (((w'.setCell ⟨b, 0, none⟩ (.int .i64 r.1.c)).setCell ⟨b, 1, none⟩ (.int .i64 r.1.n)).setCell ⟨b, 2, none⟩ (sl3 sd)) := by
  obtain ⟨p', h', dl, dn⟩ := d
  obtain ⟨cs, hq⟩ := tq
  have hq' := (dl.keepT h1 ⟨cs, hq⟩ (by decide)).trans hq
  have k3 := put3 (W := w') (b := b) (.int .i64 r.1.c) (.int .i64 r.1.n) (sl3 sd)
  obtain ⟨L, hL, qL⟩ := dl
  refine ⟨sd, rfl, own_local S hq' (by decide) k3, fun g e => Nat.le_trans q.size (sb g e), p', h'.ans ⟨cs, hq'⟩ _ _ _, ⟨L, hL, only_new (only_new (Only.below q) qL (fun x hx => .inl hx)) k3 (fun x hx => by rw [List.mem_singleton.1 hx]; exact .inr hb)⟩, fun g e => ?_⟩
  rcases dn g e with e2 | e2
  · exact .inl e2
  · exact .inr (Nat.le_trans q.size e2)
/-- .. of a callee that says nothing. -/
theorem did_plain {c n : Int} {mo : Mo} {b : Nat} (q : Below w.heap.size w W) (h1 : Rm W X p m) (tq : isT W b anT) (hb : w.heap.size ≤ b) (d : DidD X p W mo w') :
    DidE X p w (⟨c, n, []⟩, mo) (.returned (anD c n)) (((w'.setCell ⟨b, 0, none⟩ (.int .i64 c)).setCell ⟨b, 1, none⟩ (.int .i64 n)).setCell ⟨b, 2, none⟩ (.slice none 0 0)) :=
  did_end (r := (⟨c, n, []⟩, mo)) (sd := (none, 0, 0)) q h1 tq hb (Slic.Own.nil _ _) (fun g e => by cases e) d
end
end Go.Proofs.Ytbpmnjmegffllaa.Mod
