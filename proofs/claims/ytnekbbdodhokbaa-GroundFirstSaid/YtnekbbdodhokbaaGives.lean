/-
  Plain mathematics for GroundGives, GroundApart and GroundTurns: parts of rows; what covers an extent.
-/
import Derived.Test.YtnekbbdodhokbaaShown
namespace Go.Proofs.Ytnekbbdodhokbaa.Gr
open Go.ChangeShapes Go.WideShapes Go.ChangeAt Go.RowKit Gm
set_option linter.unusedVariables false

theorem sum_take {L : List E} {k : Nat} (h : k < L.length) : sum (L.take (k + 1)) = sum (L.take k) + (L[k]).2 := by
  rw [List.take_succ_eq_append_getElem h, sum_append]
  show _ + ((L[k]).2 + 0) = _
  omega
theorem sum_take_bd {A S : Int} {L : List E} (ok : Ok A S L) (k : Nat) : 0 ≤ sum (L.take k) ∧ sum (L.take k) ≤ S := by
  have h1 : sum L = sum (L.take k) + sum (L.drop k) := by rw [← sum_append, List.take_append_drop]
  have p1 : 0 ≤ sum (L.take k) := sum_nonneg fun e he => (ok.mem (List.mem_of_mem_take he)).2.2.1
  have p2 : 0 ≤ sum (L.drop k) := sum_nonneg fun e he => (ok.mem (List.mem_of_mem_drop he)).2.2.1
  have ⟨_, p5⟩ := sum_le ok.norm ok.hi (by have := ok.s0; omega)
  omega
theorem any_take {L : List E} {P : E → Bool} {k : Nat} (h : k < L.length) : (L.take (k + 1)).any P = ((L.take k).any P || P L[k]) := by
  rw [List.take_succ_eq_append_getElem h, List.any_append]
  simp
theorem no_end : ∀ {L : List E} {lo : Int}, Norm lo L → ∀ e ∈ L, ¬ Mem (e.1 + e.2) L
  | [], _, _, e, he => by cases he
  | x :: r, lo, h, e, he => by
    rw [mem_cons]
    have hp := h.2.1
    rcases List.mem_cons.1 he with rfl | he
    · rintro (m | m)
      · omega
      · have := h.2.2.ge m
        omega
    · rintro (m | m)
      · have := h.2.2.pos e he
        omega
      · exact no_end h.2.2 e he m
def cov (a b : Int) (e : E) : Bool := decide (e.1 ≤ a) && decide (b ≤ e.1 + e.2)
theorem cover {lo a b : Int} {L : List E} (h : Norm lo L) (hab : a < b) (k : ∀ p, a ≤ p → p < b → Mem p L) : L.any (cov a b) = true := by
  obtain ⟨e, he, h1, h2⟩ := k a (Int.le_refl _) hab
  refine List.any_eq_true.2 ⟨e, he, ?_⟩
  unfold cov
  rw [decide_eq_true h1, Bool.true_and]
  refine decide_eq_true ?_
  by_cases c : b ≤ e.1 + e.2
  · exact c
  · exact absurd (k (e.1 + e.2) (by omega) (by omega)) (no_end h e he)
theorem bad_any {a b lo : Int} {L : List E} (hab : a < b) (h : Norm lo L) : bad a b L = L.any (ov a b) := by
  rw [Bool.eq_iff_iff, bad_iff hab h, List.any_eq_true]

/-- What may be given back of the ground of 400 bytes from 80 on, but for what is free. -/
def mayB (a n : Int) : Bool := decide (0 < n) && (decide (n % 8 = 0) && (decide (a % 8 = 0) && (decide (80 ≤ a) && (decide (a < 480) && decide (n ≤ 480 - a)))))
theorem mayB_iff {a n : Int} : mayB a n = true ↔ 0 < n ∧ n % 8 = 0 ∧ a % 8 = 0 ∧ 80 ≤ a ∧ a < 480 ∧ n ≤ 480 - a := by
  unfold mayB
  simp only [Bool.and_eq_true, decide_eq_true_eq]
theorem mayB_give {a n : Int} {L : List E} (ok : Ok 80 400 L) : giveB 80 400 L a n = (mayB a n && !(L.any (ov a (a + n)))) := by
  cases hm : mayB a n with
  | true =>
    obtain ⟨h1, h2, h3, h4, h5, h6⟩ := mayB_iff.1 hm
    unfold giveB
    rw [show sizeB n = true from decide_eq_true ⟨h1, h2⟩, decide_eq_true h3, show hasB 80 400 a n = true from decide_eq_true (by omega), bad_any (by omega) ok.norm]
    rfl
  | false =>
    rw [Bool.false_and]
    cases hg : giveB 80 400 L a n with
    | false => rfl
    | true =>
      unfold giveB at hg
      simp only [Bool.and_eq_true, decide_eq_true_eq, Bool.not_eq_true'] at hg
      obtain ⟨g1, g2, g3, g4⟩ := hg
      have ⟨s1, s2⟩ : 0 < n ∧ n % 8 = 0 := of_decide_eq_true g1
      have ⟨t1, t2, t3⟩ : (80 : Int) ≤ a ∧ a ≤ 80 + 400 ∧ n ≤ 80 + 400 - a := of_decide_eq_true g3
      rw [mayB_iff.2 ⟨s1, s2, g2, t1, by omega, by omega⟩] at hm
      cases hm
theorem ok_carve {A S z : Int} {L : List E} (ok : Ok A S L) : Ok A S (carveF z L) := by
  unfold carveF
  by_cases h : carveB z L = true
  · rw [if_pos h]
    unfold carveB at h
    rw [Bool.and_eq_true] at h
    have ⟨s1, s2⟩ : 0 < z ∧ z % 8 = 0 := of_decide_eq_true h.1
    exact ok.carve s1 s2
  · rw [if_neg h]
    exact ok
theorem ok_give {A S a z : Int} {L : List E} (ok : Ok A S L) : Ok A S (giveF A S L a z) := by
  unfold giveF
  by_cases h : giveB A S L a z = true
  · rw [if_pos h]
    unfold giveB at h
    simp only [Bool.and_eq_true, decide_eq_true_eq, Bool.not_eq_true'] at h
    obtain ⟨g1, g2, g3, g4⟩ := h
    have ⟨s1, s2⟩ : 0 < z ∧ z % 8 = 0 := of_decide_eq_true g1
    have ⟨t1, t2, t3⟩ : A ≤ a ∧ a ≤ A + S ∧ z ≤ A + S - a := of_decide_eq_true g3
    exact (ok.give (by omega) t1 (by omega) g2 (by omega) g4).1
  · rw [if_neg h]
    exact ok
theorem below_only2 {N g : Nat} {a w w' : World} (h : Below N a w) (k : w.grownBy w' (some g)) (hN : N ≤ w.heap.size) (hg : N ≤ g) : Below N a w' :=
  h.grown k hN (fun _ e => by injection e; omega)
end Go.Proofs.Ytnekbbdodhokbaa.Gr
