/-
  One of the objects of a row, with its cells; a word put into one of its slots; what all slots hold.
-/
import Derived.Test.YtgihoicppeegaaaRow
namespace Go.Proofs.Ytgihoicppeegaaa.Thing
open Go.ChangeShapes Go.WideShapes Go.ChangeAt Go.RowKit
open Mem Arena Held Ref
open Heads (U Y P unV firstV secondV rightB packV retY)
set_option linter.unusedVariables false

/-- Object i of a row, with word p of the arena where it begins, the addresses of the row of heads and of the row of places, and what they read. -/
structure One (w : World) (f : Nat → Int) (hs : List Hd) (pv pu : Option Addr) (i : Nat) (a b : List Hd) (h : Hd) (p g g' : Nat) : Prop where
  split : hs = a ++ h :: b
  len : a.length = i
  at_ : p = 8 + total a
  right : h.right
  first : f p = firstH h
  second : f (p + 1) = secondH h
  fits : p + h.s ≤ 62
  hv : pv = some ⟨g, 0, none⟩
  hu : pu = some ⟨g', 0, none⟩
  q : w.cell? ⟨g', i, none⟩ = some (.int .i64 (8 * (p : Int)))
  c0 : w.cell? ⟨g, i * 6, none⟩ = some (.int .i64 (h.s : Int))
  c1 : w.cell? ⟨g, i * 6 + 1, none⟩ = some (.int .i64 h.n)
  c2 : w.cell? ⟨g, i * 6 + 2, none⟩ = some (.int .i64 h.t)
  c3 : w.cell? ⟨g, i * 6 + 3, none⟩ = some (.bool h.d)
  c4 : w.cell? ⟨g, i * 6 + 4, none⟩ = some (.int .i64 h.c)
  c5 : w.cell? ⟨g, i * 6 + 5, none⟩ = some (.int .i64 h.e)
section
variable {w0 w w' : World} {N : Nat} {f : Nat → Int} {hs : List Hd} {v u : Value}
theorem Rw.base {w1 : World} (h : Rw w1 w N f hs v u) (k : Below w0.heap.size w0 w1) : Rw w0 w N f hs v u :=
  ⟨h.ar, h.heads, h.plcs, h.laid, h.len, h.used, h.rest, k.trans (h.below.mono k.size), Nat.le_trans k.size h.own⟩
theorem Rw.forms (h : Rw w0 w N f hs v u) : ∃ pv cv pu cu, v = .slice pv hs.length cv ∧ u = .slice pu hs.length cu := by
  obtain ⟨pv, cv, e1⟩ := row_slice h.heads
  obtain ⟨pu, cu, e2⟩ := row_slice h.plcs
  rw [places_len] at e2
  exact ⟨pv, cv, pu, cu, e1, e2⟩
theorem Rw.one_of {pv pu : Option Addr} {m m' cv cu i p : Nat} {a b : List Hd} {t : Hd} (h : Rw w0 w N f hs (.slice pv m cv) (.slice pu m' cu)) (e : hs = a ++ t :: b) (ha : a.length = i) (hp : p = 8 + total a) : ∃ g g', One w f hs pv pu i a b t p g g' := by
  subst hp
  have L := h.laid
  rw [e, laid_app] at L
  obtain ⟨La, hr, h1, h2, Lb⟩ := L
  have tot := h.tot
  have et : total hs = total a + (t.s + total b) := by rw [e, total_app]; rfl
  have H := h.heads
  have Q := h.plcs
  rw [e] at H Q
  obtain ⟨g, c, e1, _, _, k0, k1, k2, k3, k4, k5⟩ := H.at
  obtain ⟨g', c', e2, _, _, kq⟩ := Q.at (places_at 8)
  injection e1 with e1 _ _
  injection e2 with e2 _ _
  rw [ha] at k0 k1 k2 k3 k4 k5 kq
  exact ⟨g, g', e, ha, rfl, hr, h1, h2, by omega, e1, e2, kq, k0, k1, k2, k3, k4, k5⟩
theorem Rw.one {pv pu : Option Addr} {m m' cv cu i : Nat} (h : Rw w0 w N f hs (.slice pv m cv) (.slice pu m' cu)) (hi : i < hs.length) : ∃ a b t p g g', One w f hs pv pu i a b t p g g' := by
  obtain ⟨a, t, b, e, ha⟩ := pick hi
  obtain ⟨g, g', O⟩ := h.one_of e ha rfl
  exact ⟨a, b, t, _, g, g', O⟩
theorem Rw.again {g g' : Nat} {m m' cv cu i p : Nat} {a b : List Hd} {t : Hd} (h : Rw w0 w N f hs (.slice (some ⟨g, 0, none⟩) m cv) (.slice (some ⟨g', 0, none⟩) m' cu)) (e : hs = a ++ t :: b) (ha : a.length = i) (hp : p = 8 + total a) : One w f hs (some ⟨g, 0, none⟩) (some ⟨g', 0, none⟩) i a b t p g g' := by
  obtain ⟨g1, g2, O⟩ := h.one_of e ha hp
  have h1 := O.hv
  have h2 := O.hu
  injection h1 with h1
  injection h1 with h1
  injection h2 with h2
  injection h2 with h2
  subst h1 h2
  exact O
end
section
variable {w w' : World} {f : Nat → Int} {hs : List Hd} {pv pu : Option Addr} {i : Nat} {a b : List Hd} {h : Hd} {p g g' : Nat}
theorem One.at_V (o : One w f hs pv pu i a b h p g g') : atV 80 f (8 * (p : Int)) = ⟨(h.s : Int), h.n, h.t, h.d, h.c, h.e, 0⟩ := at_laid o.right o.first o.second (by have := o.fits; have := o.right.bd; omega)
theorem One.take (o : One w f hs pv pu i a b h p g g') : hs.take i = a := by rw [o.split, ← o.len]; simp
theorem One.take1 (o : One w f hs pv pu i a b h p g g') : hs.take (i + 1) = a ++ [h] := by
  rw [o.split, ← o.len, show a ++ h :: b = (a ++ [h]) ++ b by simp, show a.length + 1 = (a ++ [h]).length by simp]
  exact List.take_left
theorem One.drop (o : One w f hs pv pu i a b h p g g') : hs.drop i = h :: b := by rw [o.split, ← o.len]; simp
theorem One.slot (o : One w f hs pv pu i a b h p g g') (k : Int) : slotV 80 f (8 * (p : Int)) k = if 0 ≤ k ∧ k < h.n then ⟨8 * (p : Int) + 16 + 8 * k, 0⟩ else ⟨0, 21⟩ := by
  unfold slotV
  rw [o.at_V]
  rfl
end
/-- What all slots hold: of slot k of object i, 100 i + k + 1. -/
def Sl (f : Nat → Int) (p i : Nat) : List Hd → Prop
  | [] => True
  | h :: t => (∀ k : Nat, (k : Int) < h.n → f (p + 2 + k) = 100 * (i : Int) + (k : Int) + 1) ∧ Sl f (p + h.s) (i + 1) t
theorem sl_app (f : Nat → Int) (a b : List Hd) (p i : Nat) : Sl f p i (a ++ b) ↔ Sl f p i a ∧ Sl f (p + total a) (i + a.length) b := by
  induction a generalizing p i with
  | nil => simp [Sl, total]
  | cons h t ih =>
    simp only [List.cons_append, Sl, ih, total, Nat.add_assoc, List.length_cons, Nat.add_comm 1]
    exact ⟨fun ⟨h1, h2, h3⟩ => ⟨⟨h1, h2⟩, h3⟩, fun ⟨⟨h1, h2⟩, h3⟩ => ⟨h1, h2, h3⟩⟩
theorem sl_out {f g : Nat → Int} : ∀ {a : List Hd} {p i : Nat}, Laid f p a → Sl f p i a → (∀ j, p ≤ j → j < p + total a → g j = f j) → Sl g p i a
  | [], _, _, _, _, _ => trivial
  | h :: t, p, i, ⟨h1, _, _, h4⟩, ⟨s1, s2⟩, hg => by
    have := h1.bd
    simp only [total] at hg
    exact ⟨fun k hk => (hg _ (by omega) (by omega)).trans (s1 k hk), sl_out h4 s2 fun j k1 k2 => hg j (by omega) (by omega)⟩
/-- A word put into a slot leaves all heads, and all slots of the objects ahead. -/
theorem Rw.put {w0 w w' : World} {N : Nat} {f : Nat → Int} {hs a b : List Hd} {h : Hd} {v u : Value} {q : Nat} {x : Int} (R : Rw w0 w N f hs v u) (e : hs = a ++ h :: b) (h1 : 8 + total a + 2 ≤ q) (h2 : q < 8 + total a + h.s)
    (A : Ar w' (N + 1) N 80 (setF f q x)) (k : w.grownBy w' (some N)) : Rw w0 w' N (setF f q x) hs v u := by
  have L := R.laid
  have et : total hs = total a + (h.s + total b) := by rw [e, total_app]; rfl
  rw [e, laid_app] at L
  obtain ⟨La, hr, l1, l2, Lb⟩ := L
  refine ⟨A, row_only R.heads k (by omega), row_only R.plcs k (by omega), ?_, R.len, (setF_other _ _ _ _ (by omega)).trans R.used, fun j hj => (setF_other _ _ _ _ (by omega)).trans (R.rest j hj), below_only R.below k R.below.size R.own, R.own⟩
  rw [e, laid_app]
  refine ⟨laid_out La fun j k1 k2 => setF_other _ _ _ _ (by omega), hr, (setF_other _ _ _ _ (by omega)).trans l1, (setF_other _ _ _ _ (by omega)).trans l2, laid_out Lb fun j k1 k2 => setF_other _ _ _ _ (by omega)⟩
/-- .. and a mark leaves all but whether it is done. -/
theorem laid_mark {f : Nat → Int} {a b : List Hd} {h : Hd} {p : Nat} (L : Laid f p (a ++ h :: b)) : Laid (setF f (p + total a) (firstH { h with d := true })) p (a ++ { h with d := true } :: b) ∧ total (a ++ { h with d := true } :: b) = total (a ++ h :: b) ∧ places p (a ++ { h with d := true } :: b) = places p (a ++ h :: b) := by
  rw [laid_app] at L
  obtain ⟨La, hr, l1, l2, Lb⟩ := L
  have hb := hr.bd
  refine ⟨?_, by rw [total_app, total_app]; rfl, by rw [places_app, places_app]; rfl⟩
  rw [laid_app]
  exact ⟨laid_out La fun j k1 k2 => setF_other _ _ _ _ (by omega), ⟨hr.r, hr.most⟩, setF_same _ _ _, (setF_other _ _ _ _ (by omega)).trans l2, laid_out Lb fun j k1 k2 => setF_other _ _ _ _ (by show j ≠ _; have : p + total a + h.s ≤ j := k1; omega)⟩
end Go.Proofs.Ytgihoicppeegaaa.Thing
