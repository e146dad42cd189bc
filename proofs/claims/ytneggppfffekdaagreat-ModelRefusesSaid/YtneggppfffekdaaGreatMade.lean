/-
  A model that is new: the forest is copied into its block.
-/
import Derived.Test.YtneggppfffekdaaGreatOwns
namespace Go.Proofs.YtneggppfffekdaaGreat.Mod
open Go.ChangeShapes Go.WideShapes Go.ChangeAt Go.RowKit
open Slic Sco
set_option linter.unusedVariables false

/-- The cells of a forest of its own. -/
theorem Sc.own4 {w : World} {B g n : Nat} {A S : Int} {F : Fo} (h : Sc w yS B g B n A S F) : ∃ x : Tri, w.cell? ⟨B, 0, none⟩ = some (.slice (some ⟨g, 0, none⟩) n n) ∧ w.cell? ⟨B, 1, none⟩ = some (.int .i64 A) ∧ w.cell? ⟨B, 2, none⟩ = some (.int .i64 S) ∧ w.cell? ⟨B, 3, none⟩ = some (sl3 x) ∧
    ∀ (w1 : World) (Y : Fr) (B' : Nat), Below w.heap.size w w1 → w.heap.size ≤ B' → w1.rowIs B' Y.T Y.m ((ly Y g n).hd A S (sl3 x)) → Sc w1 Y B' g B' n A S F := by
  obtain ⟨v, hr, he, h1, h2, ht⟩ := h.gr
  obtain ⟨x, rfl⟩ : ∃ x : Tri, v = sl3 x := by
    rcases he with ⟨e, _⟩ | ⟨q, c, e, _⟩
    · exact ⟨(none, 0, 0), e⟩
    · exact ⟨(some ⟨q, 0, none⟩, F.L.length, c), e⟩
  have q := fun i (hi : i < 4) => hr.cell (i := i) hi
  refine ⟨x, h.all, (q 1 (by decide)).trans (congrArg some (Gr.Ly.hd0 (ly yS g n) A S (sl3 x))), (q 2 (by decide)).trans (congrArg some (Gr.Ly.hd1 (ly yS g n) A S (sl3 x))), (q 3 (by decide)).trans (congrArg some (Gr.Ly.hd2 (ly yS g n) A S (sl3 x))), fun w1 Y B' k hB hr' => ?_⟩
  have lt : ∀ b, (sl3 x).ownBlock = some b → b < w.heap.size := fun b e => by
    obtain ⟨cs, fz, e'⟩ := ht b e
    exact (Array.getElem?_eq_some_iff.1 e').1
  have ne : (sl3 x).ownBlock ≠ some B' := fun e => by
    have := lt _ e
    omega
  refine ⟨h.len, ⟨sl3 x, hr', ?_, ne, ne, ht.keep fun b e => k.block b (lt b e)⟩, own_keep h.row fun b e => k.block b (own_lt h.row e)⟩
  rcases he with ⟨e, e2⟩ | ⟨q, c, e, l1, l2, hq, hc⟩
  · exact .inl ⟨e, e2⟩
  · refine .inr ⟨q, c, e, l1, l2, Nat.lt_of_lt_of_le hq k.size, fun i hi => ?_⟩
    exact ⟨(k.cell (p := ⟨q, i * 2, none⟩) hq).trans (hc i hi).1, (k.cell (p := ⟨q, i * 2 + 1, none⟩) hq).trans (hc i hi).2⟩
/-- Rows of threads and of areas that are made. -/
theorem thr_made (n : Nat) : (List.replicate n th0).zip (List.replicate n ((none, 0, 0) : Tri)) = List.replicate n (th0, (none, 0, 0)) := by
  rw [List.zip_replicate']
theorem are_made (n : Nat) : (List.replicate n ar0).zip (List.replicate n ((none, 0, 0) : Tri)) = List.replicate n (ar0, (none, 0, 0)) := by
  rw [List.zip_replicate']
/-- A model that is new, from what lies in memory. -/
theorem made_any {w W : World} {Z : Fx} (k : Below w.heap.size w W) (hs : Sc W Z.fr Z.B Z.g Z.B Z.n Z.A Z.S (Sco.start Z.n Z.A Z.S Z.I Z.J)) (hf : FRows W (sl3 Z.fv) Z.FF)
    (ht : Slic.Own kT W 0 (.slice (some ⟨Z.bt, 0, none⟩) Z.nt Z.nt) (List.replicate Z.nt (th0, (none, 0, 0)))) (ha : Slic.Own kA W 0 (.slice (some ⟨Z.ba, 0, none⟩) Z.n Z.n) (List.replicate Z.n (ar0, (none, 0, 0)))) (hm : Mp W Z.bm 0 (fun _ => none))
    (b1 : w.heap.size ≤ Z.B) (b2 : w.heap.size ≤ Z.g) (b3 : w.heap.size ≤ Z.bt) (b4 : w.heap.size ≤ Z.ba) (b5 : w.heap.size ≤ Z.bm) : Mw w W Z (newM Z.n Z.nt Z.A Z.S Z.I Z.J) [] := by
  have rep : ∀ {α : Type} {n i : Nat} {a x : α}, (List.replicate n a)[i]? = some x → x = a := fun {α n i a x} h => by
    rw [List.getElem?_replicate] at h
    split at h
    · injection h with h
      exact h.symm
    · cases h
  refine ⟨⟨List.replicate Z.nt (none, 0, 0), List.replicate Z.n (none, 0, 0), []⟩, ⟨?_, k, ?_, fun x hx => absurd hx List.not_mem_nil, by simp⟩⟩
  · exact {
      sc := hs
      fins := hf
      nA := List.length_replicate ..
      nT := List.length_replicate ..
      tml := List.length_replicate ..
      aml := List.length_replicate ..
      oml := rfl
      thr := by rw [show (Mo.gs (newM Z.n Z.nt Z.A Z.S Z.I Z.J) []).T = List.replicate Z.nt th0 from rfl, thr_made]; exact ht
      ent := fun i t x h1 h2 => by
        rw [rep h2, rep h1]
        exact Slic.Own.nil _ _
      ars := by rw [show (Mo.gs (newM Z.n Z.nt Z.A Z.S Z.I Z.J) []).A = List.replicate Z.n ar0 from rfl, are_made]; exact ha
      hnd := fun i x h => by
        rw [rep h]
        exact Slic.Own.nil _ _
      obj := fun i o p h => by cases i <;> cases h
      slo := fun i o p h => by cases i <;> cases h
      map := hm
      dAA := fun i j x y b h1 _ e _ => by
        rw [rep h1] at e
        cases e
      dO := List.Pairwise.nil
      dAO := fun x _ p hp => absurd hp List.not_mem_nil }
  · intro b hb
    rcases hb with e | e | e | e | e | ⟨x, hx, e⟩ | ⟨p, hp, _⟩
    · omega
    · omega
    · omega
    · omega
    · omega
    · rw [(List.mem_replicate.1 hx).2] at e
      cases e
    · cases hp
end Go.Proofs.YtneggppfffekdaaGreat.Mod
