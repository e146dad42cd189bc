/-
  A row behind the mark of one of its objects.
-/
import Derived.Test.YtgihoicppeegaaaCuts
import Derived.Laws.OwnMore
namespace Go.Proofs.Ytgihoicppeegaaa.Thing
open Go.ChangeShapes Go.WideShapes Go.ChangeAt Go.RowKit
open Mem Arena Held Ref
open Heads (U Y P unV firstV secondV rightB packV retY)
set_option linter.unusedVariables false

theorem flat_mark (a b : List Hd) (h : Hd) : ((a ++ h :: b).flatMap cellsH).set (a.length * 6 + 3) (.bool true) = (a ++ { h with d := true } :: b).flatMap cellsH := by
  rw [List.flatMap_append, List.flatMap_append, List.set_append_right _ _ (by rw [flat_len]; omega), flat_len, List.flatMap_cons, List.flatMap_cons, List.set_append_left _ _ (by simp [cellsH]), show a.length * 6 + 3 - a.length * 6 = 3 by omega]
  rfl
theorem Rw.marked {w0 w w1 : World} {N : Nat} {f : Nat → Int} {hs a b : List Hd} {h : Hd} {g g' p i m m' cv cu : Nat} (R : Rw w0 w N f hs (.slice (some ⟨g, 0, none⟩) m cv) (.slice (some ⟨g', 0, none⟩) m' cu)) (e : hs = a ++ h :: b) (hi : a.length = i) (hp : p = 8 + total a) (hm : m = hs.length)
    (A : Ar w1 (N + 1) N 80 (setF f p (firstH { h with d := true }))) (k : w.grownBy w1 (some N)) :
    Rw w0 (w1.setCell ⟨g, i * 6 + 3, none⟩ (.bool true)) N (setF f p (firstH { h with d := true })) (a ++ { h with d := true } :: b) (.slice (some ⟨g, 0, none⟩) m cv) (.slice (some ⟨g', 0, none⟩) m' cu) := by
  have L := R.laid
  rw [e] at L
  obtain ⟨Lm, tm, pm⟩ := laid_mark L
  rw [← hp] at Lm
  have hb := L
  rw [laid_app] at hb
  have hr := hb.2.1.bd
  have et : total hs = total a + (h.s + total b) := by rw [e, total_app]; rfl
  have ht : total (a ++ { h with d := true } :: b) = total hs := by rw [tm, e]
  have H1 := row_only R.heads k (by omega)
  have P1 := row_only R.plcs k (by omega)
  have ng := (World.ownsRow.lt H1 g rfl).1
  subst hm
  obtain ⟨H2, k2⟩ := World.ownsRow.stored H1 (i * 6 + 3) (.bool true)
  have hap := own_apart P1 H1 (by decide)
  have P2 := World.ownsRow.kept P1 k2 (by
    rcases hap with h1 | h1
    · exact .inl h1
    · exact .inr h1)
  have hlen : (a ++ { h with d := true } :: b).length = hs.length := by rw [e]; simp
  refine ⟨A.kept k2 (by intro e; injection e; omega) (by intro e; injection e; omega), ?_, ?_, Lm, by rw [hlen]; exact R.len, ?_, fun j hj => ?_, below_only (below_only R.below k R.below.size R.own) k2 (below_only R.below k R.below.size R.own).size (by have := R.own; omega), R.own⟩
  · unfold HRow
    rw [hlen, ← flat_mark, ← e, hi]
    exact H2
  · unfold Row
    rw [pm, ← e]
    exact P2
  · rw [ht]
    exact (setF_other _ _ _ _ (by omega)).trans R.used
  · rw [ht] at hj
    exact (setF_other _ _ _ _ (by omega)).trans (R.rest j hj)
end Go.Proofs.Ytgihoicppeegaaa.Thing
