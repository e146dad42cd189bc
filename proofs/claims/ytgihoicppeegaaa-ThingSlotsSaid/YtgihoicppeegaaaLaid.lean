/-
  Plain mathematics of objects laid one behind the other: their places, how many words they have together, what is walked; and the row of heads in memory.
-/
import Derived.Test.YtgihoicppeegaaaThingT
import Derived.Test.YtgihoicppeegaaaArgsB
namespace Go.Proofs.Ytgihoicppeegaaa.Thing
open Go.ChangeShapes Go.WideShapes Go.ChangeAt Go.RowKit
open Mem Arena Held Ref
open Heads (U Y P unV firstV secondV rightB packV retY)
set_option linter.unusedVariables false

/-- A head, its size as a number of words. -/
structure Hd where
  s : Nat
  n : Int
  t : Int
  d : Bool
  c : Int
  e : Int
structure Hd.right (h : Hd) : Prop where
  r : rightB (h.s : Int) h.n h.t h.c h.e = true
  most : h.s ≤ 9
def cellsH (h : Hd) : List Value := [.int .i64 (h.s : Int), .int .i64 h.n, .int .i64 h.t, .bool h.d, .int .i64 h.c, .int .i64 h.e]
def firstH (h : Hd) : Int := firstV (h.s : Int) h.n h.t h.d
def secondH (h : Hd) : Int := secondV h.c h.e
theorem Hd.right.bd {h : Hd} (r : h.right) : 0 ≤ h.n ∧ h.n ≤ 6 ∧ 2 + h.n ≤ (h.s : Int) ∧ 2 ≤ h.s ∧ h.s ≤ 9 := by
  have := Heads.rbounds r.r
  have := r.most
  omega
theorem Hd.right.words {h : Hd} (r : h.right) : 0 ≤ firstH h ∧ firstH h ≤ 18446744073709551615 ∧ 0 ≤ secondH h ∧ secondH h ≤ 18446744073709551615 := by
  obtain ⟨_, _, _, _, _, _, _, q1, q2, q3, q4⟩ := Heads.words_parts h.d r.r
  exact ⟨q1, q2, q3, q4⟩
/-- How many words heads have together; the places of objects from word p on; and that they are laid so. -/
def total : List Hd → Nat
  | [] => 0
  | h :: t => h.s + total t
def places (p : Nat) : List Hd → List Int
  | [] => []
  | h :: t => 8 * (p : Int) :: places (p + h.s) t
def Laid (f : Nat → Int) (p : Nat) : List Hd → Prop
  | [] => True
  | h :: t => h.right ∧ f p = firstH h ∧ f (p + 1) = secondH h ∧ Laid f (p + h.s) t
theorem total_app (a b : List Hd) : total (a ++ b) = total a + total b := by
  induction a with
  | nil => simp [total]
  | cons h t ih => simp only [List.cons_append, total, ih]; omega
theorem places_app (a b : List Hd) (p : Nat) : places p (a ++ b) = places p a ++ places (p + total a) b := by
  induction a generalizing p with
  | nil => simp [places, total]
  | cons h t ih => simp only [List.cons_append, places, ih, total, Nat.add_assoc]
theorem places_len (a : List Hd) (p : Nat) : (places p a).length = a.length := by
  induction a generalizing p with
  | nil => rfl
  | cons h t ih => simp only [places, List.length_cons, ih]
theorem laid_app (f : Nat → Int) (a b : List Hd) (p : Nat) : Laid f p (a ++ b) ↔ Laid f p a ∧ Laid f (p + total a) b := by
  induction a generalizing p with
  | nil => simp [Laid, total]
  | cons h t ih =>
    simp only [List.cons_append, Laid, ih, total, Nat.add_assoc]
    exact ⟨fun ⟨h1, h2, h3, h4, h5⟩ => ⟨⟨h1, h2, h3, h4⟩, h5⟩, fun ⟨⟨h1, h2, h3, h4⟩, h5⟩ => ⟨h1, h2, h3, h4, h5⟩⟩
theorem laid_total {f : Nat → Int} : ∀ {a : List Hd} {p : Nat}, Laid f p a → 2 * a.length ≤ total a ∧ total a ≤ 9 * a.length
  | [], _, _ => by simp [total]
  | h :: t, p, ⟨h1, _, _, h4⟩ => by
    have := laid_total h4
    have := h1.bd
    simp only [total, List.length_cons]
    omega
/-- Words outside do not matter. -/
theorem laid_out {f g : Nat → Int} : ∀ {a : List Hd} {p : Nat}, Laid f p a → (∀ j, p ≤ j → j < p + total a → g j = f j) → Laid g p a
  | [], _, _, _ => trivial
  | h :: t, p, ⟨h1, h2, h3, h4⟩, hg => by
    have := h1.bd
    simp only [total] at hg
    exact ⟨h1, (hg p (by omega) (by omega)).trans h2, (hg (p + 1) (by omega) (by omega)).trans h3, laid_out h4 fun j k1 k2 => hg j (by omega) (by omega)⟩
/-- What stands where one of them is laid. -/
theorem at_laid {n p : Nat} {f : Nat → Int} {h : Hd} (r : h.right) (h1 : f p = firstH h) (h2 : f (p + 1) = secondH h) (hp : p + 1 < n) : atV n f (8 * (p : Int)) = ⟨(h.s : Int), h.n, h.t, h.d, h.c, h.e, 0⟩ := by
  rw [atV_mk f hp, h1, h2]
  exact Heads.un_back h.d r.r
theorem wk_laid {n : Nat} {f : Nat → Int} : ∀ {a : List Hd} {p : Nat}, Laid f p a → p + total a ≤ n → Wk n f (8 * ((p + total a : Nat) : Int)) (8 * (p : Int)) (places p a) true
  | [], p, _, _ => by show (8 * ((p + 0 : Nat) : Int)) ≤ 8 * (p : Int); omega
  | h :: t, p, ⟨h1, h2, h3, h4⟩, hn => by
    have hb := h1.bd
    simp only [total] at hn ⊢
    have hv := at_laid (n := n) h1 h2 h3 (by omega)
    have ih := wk_laid (n := n) h4 (by omega)
    refine ⟨rfl, by omega, by rw [hv], by rw [hv]; dsimp only; omega, ?_⟩
    rw [hv]
    dsimp only
    rw [show (8 * (p : Int) + 8 * (h.s : Int)) = 8 * ((p + h.s : Nat) : Int) by omega, show p + (h.s + total t) = p + h.s + total t by omega]
    exact ih
/-- Up to a word short of the end of the last one: that one ends beyond. -/
theorem wk_less {n : Nat} {f : Nat → Int} : ∀ {a : List Hd} {p : Nat}, a ≠ [] → Laid f p a → p + total a ≤ n → ∃ L, Wk n f (8 * ((p + total a : Nat) : Int) - 8) (8 * (p : Int)) L false
  | [], _, hne, _, _ => absurd rfl hne
  | h :: t, p, _, ⟨h1, h2, h3, h4⟩, hn => by
    have hb := h1.bd
    simp only [total] at hn ⊢
    have hv := at_laid (n := n) h1 h2 h3 (by omega)
    cases t with
    | nil =>
      refine ⟨[], by simp only [total]; omega, .inr ?_⟩
      rw [hv]
      simp only [total]
      omega
    | cons h' t' =>
      obtain ⟨L, hL⟩ := wk_less (n := n) (by simp) h4 (by omega)
      have hb' := h4.1.bd
      refine ⟨8 * (p : Int) :: L, rfl, by omega, by rw [hv], by rw [hv]; simp only [total]; omega, ?_⟩
      rw [hv]
      dsimp only
      rw [show (8 * (p : Int) + 8 * (h.s : Int)) = 8 * ((p + h.s : Nat) : Int) by omega, show p + (h.s + total (h' :: t')) = p + h.s + total (h' :: t') by omega]
      exact hL
/-- Up to a word behind the end of the last one, where a 0 stands: no object. -/
theorem wk_more {n : Nat} {f : Nat → Int} : ∀ {a : List Hd} {p : Nat}, Laid f p a → p + total a ≤ n → f (p + total a) = 0 → ∃ L, Wk n f (8 * ((p + total a : Nat) : Int) + 8) (8 * (p : Int)) L false
  | [], p, _, hn, h0 => by
    have h0' : f p = 0 := h0
    refine ⟨[], by simp only [total]; omega, .inl ?_⟩
    unfold atV
    split
    · rename_i hp
      rw [show (8 * (p : Int)).toNat / 8 = p by omega, h0']
      have : unV 0 (f (p + 1)) = badU := if_neg (by unfold Heads.unB; rw [show decide ((0 : Int) / 72057594037927936 = 165 ∧ (0 : Int) / 281474976710656 % 256 ≤ 1) = false from by decide]; simp)
      rw [this]
      decide
    · decide
  | h :: t, p, ⟨h1, h2, h3, h4⟩, hn, h0 => by
    have hb := h1.bd
    simp only [total] at hn h0 ⊢
    have hv := at_laid (n := n) h1 h2 h3 (by omega)
    obtain ⟨L, hL⟩ := wk_more (n := n) h4 (by omega) (by rw [show p + h.s + total t = p + (h.s + total t) by omega]; exact h0)
    refine ⟨8 * (p : Int) :: L, rfl, by omega, by rw [hv], by rw [hv]; dsimp only; omega, ?_⟩
    rw [hv]
    dsimp only
    rw [show (8 * (p : Int) + 8 * (h.s : Int)) = 8 * ((p + h.s : Nat) : Int) by omega, show p + (h.s + total t) = p + h.s + total t by omega]
    exact hL
/-- One of several, with those ahead of it and those behind. -/
theorem pick {hs : List Hd} {i : Nat} (hi : i < hs.length) : ∃ a h b, hs = a ++ h :: b ∧ a.length = i := ⟨hs.take i, hs[i], hs.drop (i + 1), by simp, by simp; omega⟩
theorem places_at {a b : List Hd} {h : Hd} (p : Nat) : (places p (a ++ h :: b))[a.length]? = some (8 * ((p + total a : Nat) : Int)) := by
  rw [places_app, List.getElem?_append_right (by rw [places_len]; omega), places_len, Nat.sub_self]
  rfl
theorem flat_len (hs : List Hd) : (hs.flatMap cellsH).length = hs.length * 6 := by
  induction hs with
  | nil => rfl
  | cons h t ih => simp only [List.flatMap_cons, List.length_append, ih, List.length_cons, cellsH, List.length_nil]; omega
theorem flat_at {a b : List Hd} {h : Hd} {j : Nat} (hj : j < 6) : ((a ++ h :: b).flatMap cellsH)[a.length * 6 + j]? = (cellsH h)[j]? := by
  rw [List.flatMap_append, List.getElem?_append_right (by rw [flat_len]; omega), flat_len, List.flatMap_cons, List.getElem?_append_left (by simp [cellsH]; omega)]
  congr 1
  omega
/-- A slice of one's own that holds heads. -/
def HRow (w : World) (N : Nat) (v : Value) (hs : List Hd) : Prop := w.ownsRow N 30 6 v hs.length (hs.flatMap cellsH)
theorem HRow.nil (w : World) (N : Nat) : HRow w N (.slice none 0 0) [] := World.ownsRow_nil _ _ _ _
theorem HRow.snoc {w : World} {N : Nat} {v : Value} {hs : List Hd} {h : Hd} (k : w.ownsRow N 30 6 v (hs.length + 1) (hs.flatMap cellsH ++ cellsH h)) : HRow w N v (hs ++ [h]) := by
  unfold HRow
  simpa using k
theorem cell_six_new (w : World) (a b c d e f : Value) (t : TypeId) : ∀ j u, [a, b, c, d, e, f][j]? = some u → (w.alloc (.cells #[a, b, c, d, e, f] t)).cell? ((⟨w.heap.size, 0, none⟩ : Addr).add j) = some u := by
  intro j u hj
  rw [Addr.add_lit]
  simpa [go_sem] using hj
/-- The cells of one of them. -/
theorem HRow.at {w : World} {N : Nat} {v : Value} {a b : List Hd} {h : Hd} (k : HRow w N v (a ++ h :: b)) : ∃ g c, v = .slice (some ⟨g, 0, none⟩) (a ++ h :: b).length c ∧ N ≤ g ∧ g < w.heap.size ∧
    w.cell? ⟨g, a.length * 6, none⟩ = some (.int .i64 (h.s : Int)) ∧ w.cell? ⟨g, a.length * 6 + 1, none⟩ = some (.int .i64 h.n) ∧ w.cell? ⟨g, a.length * 6 + 2, none⟩ = some (.int .i64 h.t) ∧ w.cell? ⟨g, a.length * 6 + 3, none⟩ = some (.bool h.d) ∧ w.cell? ⟨g, a.length * 6 + 4, none⟩ = some (.int .i64 h.c) ∧ w.cell? ⟨g, a.length * 6 + 5, none⟩ = some (.int .i64 h.e) := by
  have k' := k
  rcases k.2 with ⟨rfl, h0⟩ | ⟨g, cap, cur, rfl, hN, hg, _⟩
  · simp at h0
  · refine ⟨g, cap, rfl, hN, (Array.getElem?_eq_some_iff.1 hg).1, ?_⟩
    have each : ∀ j u, j < 6 → (cellsH h)[j]? = some u → w.cell? ⟨g, a.length * 6 + j, none⟩ = some u := fun j u hj hu => by
      have := World.ownsRow.cells k' (g := g) rfl (a.length * 6 + j) u ((flat_at hj).trans hu)
      rw [Addr.add_lit, Nat.zero_add] at this
      exact this
    exact ⟨each 0 _ (by omega) rfl, each 1 _ (by omega) rfl, each 2 _ (by omega) rfl, each 3 _ (by omega) rfl, each 4 _ (by omega) rfl, each 5 _ (by omega) rfl⟩
theorem Row.at {w : World} {N : Nat} {v : Value} {L : List Int} (k : Row w N v L) {i : Nat} {x : Int} (hi : L[i]? = some x) : ∃ g c, v = .slice (some ⟨g, 0, none⟩) L.length c ∧ N ≤ g ∧ g < w.heap.size ∧ w.cell? ⟨g, i, none⟩ = some (.int .i64 x) := by
  have k' := k
  rcases k.2 with ⟨rfl, h0⟩ | ⟨g, cap, cur, rfl, hN, hg, _⟩
  · rw [List.eq_nil_of_length_eq_zero h0] at hi
    cases hi
  · refine ⟨g, cap, rfl, hN, (Array.getElem?_eq_some_iff.1 hg).1, ?_⟩
    have := World.ownsRow.cells k' (g := g) rfl i (.int .i64 x) (by rw [List.getElem?_map, hi]; rfl)
    rw [Addr.add_lit, Nat.zero_add] at this
    exact this
end Go.Proofs.Ytgihoicppeegaaa.Thing
