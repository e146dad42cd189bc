/-
  Plain mathematics of rows of extents: a row in order, without touching ones, is told by its points; what a carved and a given extent makes of a row; the row of free words.
-/
import Derived.Test.YteakglkagmghpaaGreatProg
import Derived.WalkKit
import Derived.ProofKit
import Derived.OpenShut
import Derived.IntWalk
import Derived.Lib.Hide
import Derived.Deep.OwnRows
import Derived.Deep.AppendSrc
import Derived.Deep.Upon
import Derived.Laws.OwnMore
import Derived.Maps.AppendAt
import Derived.OwnWalk
import Derived.Deep.QuietTactic
import Derived.BigQuiet
import Derived.Deep.RegionHeld3
import Derived.Deep.DrawnRows
import Derived.Lib.BufferMore
import Derived.RegionTactic
import Derived.BigRegion
namespace Go.Proofs.YteakglkagmghpaaGreat.Gm
set_option linter.unusedVariables false

abbrev E := Int × Int

def Norm : Int → List E → Prop
  | _, [] => True
  | lo, e :: r => lo ≤ e.1 ∧ 0 < e.2 ∧ Norm (e.1 + e.2 + 1) r
def Mem (p : Int) (L : List E) : Prop := ∃ e ∈ L, e.1 ≤ p ∧ p < e.1 + e.2
def sum : List E → Int
  | [] => 0
  | e :: r => e.2 + sum r
def Al (L : List E) : Prop := ∀ e ∈ L, e.1 % 8 = 0 ∧ e.2 % 8 = 0

theorem Norm.mono {lo lo' : Int} {L : List E} (h : Norm lo L) (hl : lo' ≤ lo) : Norm lo' L := by
  cases L with
  | nil => trivial
  | cons e r => exact ⟨Int.le_trans hl h.1, h.2⟩
theorem mem_nil (p : Int) : ¬ Mem p [] := fun ⟨_, h, _⟩ => by cases h
theorem mem_cons {p : Int} {e : E} {r : List E} : Mem p (e :: r) ↔ (e.1 ≤ p ∧ p < e.1 + e.2) ∨ Mem p r := by
  constructor
  · rintro ⟨x, hx, h⟩
    rcases List.mem_cons.1 hx with rfl | hx
    · exact .inl h
    · exact .inr ⟨x, hx, h⟩
  · rintro (h | ⟨x, hx, h⟩)
    · exact ⟨e, List.mem_cons_self, h⟩
    · exact ⟨x, List.mem_cons_of_mem _ hx, h⟩
theorem mem_append {p : Int} {L M : List E} : Mem p (L ++ M) ↔ Mem p L ∨ Mem p M := by
  constructor
  · rintro ⟨x, hx, h⟩
    rcases List.mem_append.1 hx with hx | hx
    · exact .inl ⟨x, hx, h⟩
    · exact .inr ⟨x, hx, h⟩
  · rintro (⟨x, hx, h⟩ | ⟨x, hx, h⟩)
    · exact ⟨x, List.mem_append_left _ hx, h⟩
    · exact ⟨x, List.mem_append_right _ hx, h⟩
theorem Norm.pos : ∀ {L : List E} {lo : Int}, Norm lo L → ∀ e ∈ L, lo ≤ e.1 ∧ 0 < e.2
  | [], _, _, e, h => by cases h
  | x :: r, lo, h, e, he => by
    rcases List.mem_cons.1 he with rfl | he
    · exact ⟨h.1, h.2.1⟩
    · have := Norm.pos h.2.2 e he
      have := h.1
      have := h.2.1
      exact ⟨by omega, by omega⟩
theorem Norm.ge {L : List E} {lo p : Int} (h : Norm lo L) (m : Mem p L) : lo ≤ p := by
  obtain ⟨e, he, h1, h2⟩ := m
  have := (h.pos e he).1
  omega

theorem uniq : ∀ {L M : List E} {lo lo' : Int}, Norm lo L → Norm lo' M → (∀ p, Mem p L ↔ Mem p M) → L = M
  | [], [], _, _, _, _, _ => rfl
  | [], f :: s, _, _, _, k, h => absurd ((h f.1).2 (mem_cons.2 (.inl ⟨Int.le_refl _, by have := k.2.1; omega⟩))) (mem_nil _)
  | e :: r, [], _, _, k, _, h => absurd ((h e.1).1 (mem_cons.2 (.inl ⟨Int.le_refl _, by have := k.2.1; omega⟩))) (mem_nil _)
  | e :: r, f :: s, lo, lo', hl, hm, h => by
    obtain ⟨a1, a2, a3⟩ := hl
    obtain ⟨b1, b2, b3⟩ := hm
    have e1 : e.1 = f.1 := by
      have i1 := (h e.1).1 (mem_cons.2 (.inl ⟨Int.le_refl _, by omega⟩))
      have i2 := (h f.1).2 (mem_cons.2 (.inl ⟨Int.le_refl _, by omega⟩))
      rcases mem_cons.1 i1 with i1 | i1
      · rcases mem_cons.1 i2 with i2 | i2
        · omega
        · have := a3.ge i2
          omega
      · have := b3.ge i1
        rcases mem_cons.1 i2 with i2 | i2
        · omega
        · have := a3.ge i2
          omega
    have e2 : e.2 = f.2 := by
      rcases Int.lt_trichotomy e.2 f.2 with c | c | c
      · have i1 := (h (e.1 + e.2)).2 (mem_cons.2 (.inl ⟨by omega, by omega⟩))
        rcases mem_cons.1 i1 with i1 | i1
        · omega
        · have := a3.ge i1
          omega
      · exact c
      · have i1 := (h (f.1 + f.2)).1 (mem_cons.2 (.inl ⟨by omega, by omega⟩))
        rcases mem_cons.1 i1 with i1 | i1
        · omega
        · have := b3.ge i1
          omega
    have ef : e = f := Prod.ext e1 e2
    subst ef
    congr 1
    refine uniq a3 b3 fun p => ?_
    constructor
    · intro m
      have := a3.ge m
      rcases mem_cons.1 ((h p).1 (mem_cons.2 (.inr m))) with i | i
      · omega
      · exact i
    · intro m
      have := b3.ge m
      rcases mem_cons.1 ((h p).2 (mem_cons.2 (.inr m))) with i | i
      · omega
      · exact i

/-- What a row of free extents of the ground from A on, of S bytes, is. -/
structure Ok (A S : Int) (L : List E) : Prop where
  norm : Norm A L
  hi : ∀ e ∈ L, e.1 + e.2 ≤ A + S
  al : Al L
  a0 : 0 ≤ A
  a1 : A ≤ 65536
  s0 : 0 ≤ S
  s1 : S ≤ 65536
  a8 : A % 8 = 0
  s8 : S % 8 = 0
theorem Ok.mem {A S : Int} {L : List E} (h : Ok A S L) {e : E} (he : e ∈ L) : 0 ≤ e.1 ∧ e.1 ≤ 131072 ∧ 0 < e.2 ∧ e.2 ≤ 131072 ∧ A ≤ e.1 ∧ e.1 + e.2 ≤ A + S ∧ e.1 % 8 = 0 ∧ e.2 % 8 = 0 := by
  have h1 := h.norm.pos e he
  have h2 := h.hi e he
  have h3 := h.al e he
  have := h.a0
  have := h.a1
  have := h.s1
  exact ⟨by omega, by omega, by omega, by omega, by omega, by omega, by omega, by omega⟩
theorem Ok.at_ {A S : Int} {L : List E} (h : Ok A S L) {i : Nat} (hi : i < L.length) : 0 ≤ (L[i]).1 ∧ (L[i]).1 ≤ 131072 ∧ 0 < (L[i]).2 ∧ (L[i]).2 ≤ 131072 ∧ A ≤ (L[i]).1 ∧ (L[i]).1 + (L[i]).2 ≤ A + S ∧ (L[i]).1 % 8 = 0 ∧ (L[i]).2 % 8 = 0 :=
  h.mem (List.getElem_mem hi)
theorem Ok.in_ {A S p : Int} {L : List E} (h : Ok A S L) (m : Mem p L) : A ≤ p ∧ p < A + S := by
  obtain ⟨e, he, h1, h2⟩ := m
  have := h.mem he
  omega
theorem len_le : ∀ {L : List E} {lo hi : Int}, Norm lo L → (∀ e ∈ L, e.1 + e.2 ≤ hi) → lo ≤ hi → (L.length : Int) ≤ hi - lo
  | [], _, _, _, _, h => by simp; omega
  | e :: r, lo, hi, h, k, hl => by
    have h1 := h.1
    have h2 := h.2.1
    have h3 := k e List.mem_cons_self
    by_cases hr : e.1 + e.2 + 1 ≤ hi
    · have := len_le h.2.2 (fun x hx => k x (List.mem_cons_of_mem _ hx)) hr
      simp only [List.length_cons]
      omega
    · cases r with
      | nil => simp; omega
      | cons f s =>
        have h4 := h.2.2.1
        have h5 := h.2.2.2.1
        have h6 := k f (List.mem_cons_of_mem _ List.mem_cons_self)
        omega
theorem Ok.len {A S : Int} {L : List E} (h : Ok A S L) : L.length ≤ 65536 := by
  have h1 := len_le h.norm h.hi (by have := h.s0; omega)
  have := h.s1
  omega

/-! ### carved -/
def cut (z : Int) (e : E) : List E := if e.2 = z then [] else [(e.1 + z, e.2 - z)]
def carveL (z : Int) : List E → List E
  | [] => []
  | e :: r => if z ≤ e.2 then cut z e ++ r else e :: carveL z r
def carveA (z : Int) : List E → Int
  | [] => 0
  | e :: r => if z ≤ e.2 then e.1 else carveA z r
def fits (z : Int) : List E → Bool
  | [] => false
  | e :: r => if z ≤ e.2 then true else fits z r
def carveI (z : Int) (L : List E) : Nat := L.findIdx fun e => decide (z ≤ e.2)

theorem carve_some {z : Int} : ∀ {L : List E} (h : carveI z L < L.length), fits z L = true ∧ carveA z L = (L[carveI z L]).1 ∧ z ≤ (L[carveI z L]).2 ∧ carveL z L = L.take (carveI z L) ++ (cut z (L[carveI z L]) ++ L.drop (carveI z L + 1))
  | [], h => by simp at h
  | e :: r, h => by
    by_cases c : z ≤ e.2
    · have e0 : carveI z (e :: r) = 0 := by simp [carveI, List.findIdx_cons, c]
      simp [e0, fits, carveA, carveL, c]
    · have e1 : carveI z (e :: r) = carveI z r + 1 := by simp [carveI, List.findIdx_cons, c]
      have h' : carveI z r < r.length := by rw [e1] at h; simpa using h
      obtain ⟨k1, k2, k3, k4⟩ := carve_some h'
      simp [e1, fits, carveA, carveL, c, k1, k2, k3, k4]
theorem carve_none {z : Int} : ∀ {L : List E} (h : carveI z L = L.length), fits z L = false ∧ carveA z L = 0 ∧ carveL z L = L ∧ ∀ e ∈ L, e.2 < z
  | [], _ => ⟨rfl, rfl, rfl, fun _ h => by cases h⟩
  | e :: r, h => by
    by_cases c : z ≤ e.2
    · simp [carveI, List.findIdx_cons, c] at h
    · have e1 : carveI z (e :: r) = carveI z r + 1 := by simp [carveI, List.findIdx_cons, c]
      have h' : carveI z r = r.length := by rw [e1] at h; simpa using h
      obtain ⟨k1, k2, k3, k4⟩ := carve_none h'
      simp only [fits, carveA, carveL, c, if_false, k1, k2, k3, true_and]
      intro x hx
      rcases List.mem_cons.1 hx with rfl | hx
      · omega
      · exact k4 x hx
theorem carveI_le (z : Int) (L : List E) : carveI z L ≤ L.length := List.findIdx_le_length
theorem fits_iff (z : Int) (L : List E) : fits z L = true ↔ carveI z L < L.length := by
  constructor
  · intro h
    rcases Nat.lt_or_ge (carveI z L) L.length with c | c
    · exact c
    · have := (carve_none (Nat.le_antisymm (carveI_le z L) c)).1
      rw [h] at this
      cases this
  · intro h
    exact (carve_some h).1
theorem carve_norm {z : Int} (hz : 0 < z) : ∀ {L : List E} {lo : Int}, Norm lo L → Norm lo (carveL z L)
  | [], _, _ => trivial
  | e :: r, lo, h => by
    obtain ⟨h1, h2, h3⟩ := h
    unfold carveL
    by_cases c : z ≤ e.2
    · rw [if_pos c]
      unfold cut
      by_cases d : e.2 = z
      · rw [if_pos d]
        exact h3.mono (by omega)
      · rw [if_neg d]
        refine ⟨?_, ?_, ?_⟩
        · show lo ≤ e.1 + z
          omega
        · show 0 < e.2 - z
          omega
        · show Norm (e.1 + z + (e.2 - z) + 1) r
          exact h3.mono (by omega)
    · rw [if_neg c]
      exact ⟨h1, h2, carve_norm hz h3⟩
theorem cut_mem {z : Int} {e : E} (c : z ≤ e.2) (hz : 0 < z) {p : Int} : Mem p (cut z e) ↔ e.1 + z ≤ p ∧ p < e.1 + e.2 := by
  unfold cut
  by_cases d : e.2 = z
  · rw [if_pos d]
    exact ⟨fun h => absurd h (mem_nil _), fun h => by omega⟩
  · rw [if_neg d, mem_cons]
    constructor
    · rintro (h | h)
      · have h1 : e.1 + z ≤ p := h.1
        have h2 : p < e.1 + z + (e.2 - z) := h.2
        omega
      · exact absurd h (mem_nil _)
    · intro h
      left
      show e.1 + z ≤ p ∧ p < e.1 + z + (e.2 - z)
      omega
theorem carve_mem {z : Int} (hz : 0 < z) : ∀ {L : List E} {lo : Int}, Norm lo L → fits z L = true → ∀ p, Mem p (carveL z L) ↔ Mem p L ∧ ¬ (carveA z L ≤ p ∧ p < carveA z L + z)
  | [], _, _, h, _ => by cases h
  | e :: r, lo, h, hf, p => by
    obtain ⟨h1, h2, h3⟩ := h
    by_cases c : z ≤ e.2
    · simp only [carveL, carveA, c, if_true, mem_append, mem_cons, cut_mem c hz]
      have hr : Mem p r → e.1 + e.2 + 1 ≤ p := fun m => h3.ge m
      constructor
      · rintro (m | m)
        · exact ⟨.inl ⟨by omega, by omega⟩, by omega⟩
        · have := hr m
          exact ⟨.inr m, by omega⟩
      · rintro ⟨m | m, k⟩
        · exact .inl ⟨by omega, by omega⟩
        · exact .inr m
    · have hf' : fits z r = true := by simpa [fits, c] using hf
      have ih := carve_mem hz h3 hf' p
      simp only [carveL, carveA, c, if_false, mem_cons, ih]
      obtain ⟨k1, k2, k3, k4⟩ := carve_some ((fits_iff z r).1 hf')
      have hge := (h3.pos _ (List.getElem_mem ((fits_iff z r).1 hf'))).1
      rw [← k2] at hge
      constructor
      · rintro (m | m)
        · exact ⟨.inl m, by omega⟩
        · exact ⟨.inr m.1, m.2⟩
      · rintro ⟨m | m, k⟩
        · exact .inl m
        · exact .inr ⟨m, k⟩
theorem carve_in {z : Int} {L : List E} (hf : fits z L = true) : ∃ e ∈ L, carveA z L = e.1 ∧ z ≤ e.2 := by
  have h := (fits_iff z L).1 hf
  obtain ⟨k1, k2, k3, k4⟩ := carve_some h
  exact ⟨_, List.getElem_mem h, k2, k3⟩
theorem carve_sub {z : Int} {L : List E} (hf : fits z L = true) {p : Int} (h1 : carveA z L ≤ p) (h2 : p < carveA z L + z) : Mem p L := by
  obtain ⟨e, he, k1, k2⟩ := carve_in hf
  exact ⟨e, he, by omega, by omega⟩
theorem sum_append : ∀ (L M : List E), sum (L ++ M) = sum L + sum M
  | [], M => by simp [sum]
  | e :: r, M => by simp only [List.cons_append, sum, sum_append r M]; omega
theorem carve_al {z : Int} (hz : z % 8 = 0) : ∀ {L : List E}, Al L → Al (carveL z L)
  | [], h => h
  | e :: r, h => by
    have he := h e List.mem_cons_self
    have hr : Al r := fun x hx => h x (List.mem_cons_of_mem _ hx)
    intro x hx
    unfold carveL at hx
    by_cases c : z ≤ e.2
    · rw [if_pos c] at hx
      rcases List.mem_append.1 hx with hx | hx
      · unfold cut at hx
        by_cases d : e.2 = z
        · rw [if_pos d] at hx
          cases hx
        · rw [if_neg d] at hx
          have : x = (e.1 + z, e.2 - z) := by simpa using hx
          subst this
          exact ⟨by show (e.1 + z) % 8 = 0; omega, by show (e.2 - z) % 8 = 0; omega⟩
      · exact hr x hx
    · rw [if_neg c] at hx
      rcases List.mem_cons.1 hx with rfl | hx
      · exact he
      · exact carve_al hz hr x hx
theorem hi_of {A S lo : Int} {L : List E} (h : Norm lo L) (k : ∀ p, Mem p L → p < A + S) : ∀ e ∈ L, e.1 + e.2 ≤ A + S := by
  intro e he
  have h1 := h.pos e he
  have := k (e.1 + e.2 - 1) ⟨e, he, by omega, by omega⟩
  omega
theorem Ok.carve {A S z : Int} {L : List E} (h : Ok A S L) (hz : 0 < z) (h8 : z % 8 = 0) : Ok A S (carveL z L) := by
  have hn := carve_norm hz h.norm
  refine ⟨hn, ?_, carve_al h8 h.al, h.a0, h.a1, h.s0, h.s1, h.a8, h.s8⟩
  by_cases hf : fits z L = true
  · exact hi_of hn fun p m => (h.in_ ((carve_mem hz h.norm hf p).1 m).1).2
  · have : carveI z L = L.length := by
      rcases Nat.lt_or_ge (carveI z L) L.length with c | c
      · exact absurd ((fits_iff z L).2 c) hf
      · exact Nat.le_antisymm (carveI_le z L) c
    rw [(carve_none this).2.2.1]
    exact h.hi

/-! ### given back -/
def join (a b : E) : E := (min a.1 b.1, a.2 + b.2)
def ov (a b : Int) (e : E) : Bool := decide (e.1 < b) && decide (a < e.1 + e.2)
def low (a : Int) (L : List E) : Nat := L.findIdx fun e => decide (a ≤ e.1 + e.2)
def high (b : Int) (L : List E) : Nat := L.findIdx fun e => decide (b < e.1)
def mid (a b : Int) (L : List E) : List E := (L.take (high b L)).drop (low a L)
def giveL (a b : Int) (L : List E) : List E := L.take (low a L) ++ ([(mid a b L).foldl join (a, b - a)] ++ L.drop (high b L))
def bad (a b : Int) (L : List E) : Bool := (mid a b L).any (ov a b)

theorem high_stop {b : Int} {e : E} {r : List E} (h : b < e.1) : high b (e :: r) = 0 := by simp [high, List.findIdx_cons, h]
theorem high_go {b : Int} {e : E} {r : List E} (h : ¬ b < e.1) : high b (e :: r) = high b r + 1 := by simp [high, List.findIdx_cons, h]
theorem low_stop {a : Int} {e : E} {r : List E} (h : a ≤ e.1 + e.2) : low a (e :: r) = 0 := by simp [low, List.findIdx_cons, h]
theorem low_go {a : Int} {e : E} {r : List E} (h : ¬ a ≤ e.1 + e.2) : low a (e :: r) = low a r + 1 := by simp [low, List.findIdx_cons, h]
theorem high_zero {b lo : Int} {L : List E} (h : Norm lo L) (hb : b < lo) : high b L = 0 := by
  cases L with
  | nil => rfl
  | cons e r => exact high_stop (by have := h.1; omega)
theorem low_le_high {a b : Int} (hab : a ≤ b) : ∀ {L : List E} {lo : Int}, Norm lo L → low a L ≤ high b L
  | [], _, _ => Nat.le_refl _
  | e :: r, lo, h => by
    by_cases c : a ≤ e.1 + e.2
    · rw [low_stop c]; exact Nat.zero_le _
    · have := h.2.1
      rw [low_go c, high_go (by omega)]
      exact Nat.succ_le_succ (low_le_high hab h.2.2)
theorem high_le (b : Int) (L : List E) : high b L ≤ L.length := List.findIdx_le_length

/-- What stands from the first extent that touches it on: nothing is ahead of it. -/
structure Put (a b : Int) (J : E) (L R : List E) : Prop where
  norm : Norm J.1 R
  mem : ∀ p, Mem p R ↔ (J.1 ≤ p ∧ p < b) ∨ Mem p L
  sum : sum R = J.2 + sum L
theorem put2 {a b : Int} {J : E} {L : List E} (hab : a < b) (hJ : J.1 + J.2 = b) (hJ1 : J.1 ≤ a) (h : Norm (a + 1) L) (no : ∀ e ∈ L, ov a b e = false) :
    Put a b J L ([(L.take (high b L)).foldl join J] ++ L.drop (high b L)) := by
  cases L with
  | nil =>
    show Put a b J [] [J]
    refine ⟨⟨Int.le_refl _, by omega, trivial⟩, fun p => ?_, rfl⟩
    rw [mem_cons]
    constructor
    · rintro (m | m)
      · exact .inl ⟨m.1, by omega⟩
      · exact .inr m
    · rintro (m | m)
      · exact .inl ⟨m.1, by omega⟩
      · exact .inr m
  | cons e r =>
    obtain ⟨h1, h2, h3⟩ := h
    have ne := no e List.mem_cons_self
    by_cases c : b < e.1
    · rw [high_stop c]
      show Put a b J (e :: r) (J :: e :: r)
      refine ⟨⟨Int.le_refl _, by omega, by omega, h2, h3⟩, fun p => ?_, rfl⟩
      rw [mem_cons (e := J)]
      constructor
      · rintro (m | m)
        · exact .inl ⟨m.1, by omega⟩
        · exact .inr m
      · rintro (m | m)
        · exact .inl ⟨m.1, by omega⟩
        · exact .inr m
    · have eb : e.1 = b := by
        simp only [ov, Bool.and_eq_false_iff, decide_eq_false_iff_not] at ne
        omega
      rw [high_go c, high_zero h3 (by omega)]
      have ej : join J e = (J.1, J.2 + e.2) := by
        unfold join
        congr 1
        rw [Int.min_eq_left]
        omega
      show Put a b J (e :: r) ([join J e] ++ r)
      rw [ej]
      refine ⟨⟨Int.le_refl _, ?_, ?_⟩, fun p => ?_, ?_⟩
      · show 0 < J.2 + e.2
        omega
      · show Norm (J.1 + (J.2 + e.2) + 1) r
        exact h3.mono (by omega)
      · show Mem p ((J.1, J.2 + e.2) :: r) ↔ _
        rw [mem_cons, mem_cons]
        constructor
        · rintro (m | m)
          · have m1 : J.1 ≤ p := m.1
            have m2 : p < J.1 + (J.2 + e.2) := m.2
            by_cases q : p < b
            · exact .inl ⟨m1, q⟩
            · exact .inr (.inl ⟨by omega, by omega⟩)
          · exact .inr (.inr m)
        · rintro (m | m | m)
          · left
            show J.1 ≤ p ∧ p < J.1 + (J.2 + e.2)
            omega
          · left
            show J.1 ≤ p ∧ p < J.1 + (J.2 + e.2)
            omega
          · exact .inr m
      · show J.2 + e.2 + Gm.sum r = J.2 + (e.2 + Gm.sum r)
        omega

theorem give_all {a b : Int} (hab : a < b) : ∀ {L : List E} {lo : Int}, Norm lo L → lo ≤ a → (∀ e ∈ L, ov a b e = false) →
    Norm lo (giveL a b L) ∧ (∀ p, Mem p (giveL a b L) ↔ Mem p L ∨ (a ≤ p ∧ p < b)) ∧ sum (giveL a b L) = sum L + (b - a)
  | [], lo, _, hl, _ => by
    have e : giveL a b [] = [(a, b - a)] := rfl
    rw [e]
    refine ⟨⟨hl, ?_, trivial⟩, fun p => ?_, ?_⟩
    · show 0 < b - a
      omega
    · rw [mem_cons]
      constructor
      · rintro (m | m)
        · have m1 : a ≤ p := m.1
          have m2 : p < a + (b - a) := m.2
          exact .inr ⟨m1, by omega⟩
        · exact .inl m
      · rintro (m | m)
        · exact .inr m
        · left
          show a ≤ p ∧ p < a + (b - a)
          omega
    · show b - a + 0 = 0 + (b - a)
      omega
  | e :: r, lo, h, hl, no => by
    obtain ⟨h1, h2, h3⟩ := h
    have ne := no e List.mem_cons_self
    have nr : ∀ x ∈ r, ov a b x = false := fun x hx => no x (List.mem_cons_of_mem _ hx)
    by_cases c : a ≤ e.1 + e.2
    · have fin : ∀ {J : E} {M : List E}, J.1 + J.2 = b → J.1 ≤ a → lo ≤ J.1 → Norm (a + 1) M → (∀ x ∈ M, ov a b x = false) → giveL a b (e :: r) = [(M.take (high b M)).foldl join J] ++ M.drop (high b M) → (∀ p, ((J.1 ≤ p ∧ p < b) ∨ Mem p M) ↔ (Mem p (e :: r) ∨ (a ≤ p ∧ p < b))) → J.2 + sum M = sum (e :: r) + (b - a) →
          Norm lo (giveL a b (e :: r)) ∧ (∀ p, Mem p (giveL a b (e :: r)) ↔ Mem p (e :: r) ∨ (a ≤ p ∧ p < b)) ∧ sum (giveL a b (e :: r)) = sum (e :: r) + (b - a) := by
        intro J M q1 q2 q3 q4 q5 q6 q7 q8
        have P := put2 hab q1 q2 q4 q5
        rw [q6]
        exact ⟨P.norm.mono q3, fun p => (P.mem p).trans (q7 p), P.sum.trans q8⟩
      by_cases d : e.1 + e.2 = a
      · have ej : join (a, b - a) e = (e.1, b - a + e.2) := by
          unfold join
          congr 1
          show min a e.1 = e.1
          rw [Int.min_eq_right]
          omega
        refine fin (J := (e.1, b - a + e.2)) (M := r) ?_ ?_ h1 (h3.mono (by omega)) nr ?_ (fun p => ?_) ?_
        · show e.1 + (b - a + e.2) = b
          omega
        · show e.1 ≤ a
          omega
        · unfold giveL mid
          rw [low_stop c, high_go (by omega : ¬ b < e.1)]
          simp only [List.take_zero, List.nil_append, List.take_succ_cons, List.drop_zero, List.foldl_cons, List.drop_succ_cons, ej]
        · rw [mem_cons]
          show (e.1 ≤ p ∧ p < b) ∨ Mem p r ↔ _
          constructor
          · rintro (m | m)
            · by_cases q : p < a
              · exact .inl (.inl ⟨m.1, by omega⟩)
              · exact .inr ⟨by omega, m.2⟩
            · exact .inl (.inr m)
          · rintro ((m | m) | m)
            · exact .inl ⟨m.1, by omega⟩
            · exact .inr m
            · exact .inl ⟨by omega, m.2⟩
        · show b - a + e.2 + sum r = e.2 + sum r + (b - a)
          omega
      · have eb : b ≤ e.1 := by
          simp only [ov, Bool.and_eq_false_iff, decide_eq_false_iff_not] at ne
          omega
        refine fin (J := (a, b - a)) (M := e :: r) ?_ (Int.le_refl _) hl ⟨by omega, h2, h3⟩ no ?_ (fun p => ?_) ?_
        · show a + (b - a) = b
          omega
        · unfold giveL mid
          rw [low_stop c]
          simp only [List.take_zero, List.nil_append, List.drop_zero]
        · show (a ≤ p ∧ p < b) ∨ Mem p (e :: r) ↔ _
          exact Or.comm
        · show b - a + sum (e :: r) = sum (e :: r) + (b - a)
          omega
    · have eg : giveL a b (e :: r) = e :: giveL a b r := by
        unfold giveL mid
        rw [low_go c, high_go (by omega : ¬ b < e.1)]
        simp only [List.take_succ_cons, List.drop_succ_cons, List.cons_append]
      obtain ⟨k1, k2, k3⟩ := give_all hab h3 (by omega) nr
      rw [eg]
      refine ⟨⟨h1, h2, k1⟩, fun p => ?_, ?_⟩
      · rw [mem_cons, mem_cons, k2]
        exact (or_assoc).symm
      · show e.2 + sum (giveL a b r) = e.2 + sum r + (b - a)
        omega

theorem high_all {b : Int} : ∀ {L : List E} {lo : Int}, Norm lo L → ∀ e ∈ L.drop (high b L), b < e.1
  | [], _, _, e, he => by simp at he
  | x :: r, lo, h, e, he => by
    by_cases c : b < x.1
    · rw [high_stop c] at he
      rcases List.mem_cons.1 he with rfl | he
      · exact c
      · have := h.2.1
        have := (h.2.2.pos e he).1
        omega
    · rw [high_go c] at he
      exact high_all h.2.2 e (by simpa using he)
theorem low_all {a : Int} : ∀ {L : List E}, ∀ e ∈ L.take (low a L), e.1 + e.2 < a
  | [], e, he => by simp at he
  | x :: r, e, he => by
    by_cases c : a ≤ x.1 + x.2
    · rw [low_stop c] at he
      simp at he
    · rw [low_go c, List.take_succ_cons] at he
      rcases List.mem_cons.1 he with rfl | he
      · omega
      · exact low_all e he
theorem split3 {a b : Int} {L : List E} (h : low a L ≤ high b L) : L = L.take (low a L) ++ (mid a b L ++ L.drop (high b L)) := by
  unfold mid
  rw [List.drop_take]
  conv => lhs; rw [← List.take_append_drop (low a L) L]
  congr 1
  conv => lhs; rw [← List.take_append_drop (high b L - low a L) (L.drop (low a L))]
  rw [List.drop_drop]
  congr 2
  omega
theorem mem_mid {a b : Int} {L : List E} (h : low a L ≤ high b L) {e : E} (he : e ∈ mid a b L) : e ∈ L := by
  rw [split3 h]
  exact List.mem_append_right _ (List.mem_append_left _ he)
theorem bad_iff {a b lo : Int} {L : List E} (hab : a < b) (h : Norm lo L) : bad a b L = true ↔ ∃ e ∈ L, ov a b e = true := by
  have hlh := low_le_high (a := a) (b := b) (by omega) h
  unfold bad
  rw [List.any_eq_true]
  constructor
  · rintro ⟨e, he, ho⟩
    exact ⟨e, mem_mid hlh he, ho⟩
  · rintro ⟨e, he, ho⟩
    refine ⟨e, ?_, ho⟩
    rw [split3 hlh] at he
    simp only [ov, Bool.and_eq_true, decide_eq_true_eq] at ho
    rcases List.mem_append.1 he with he | he
    · have := low_all e he
      omega
    · rcases List.mem_append.1 he with he | he
      · exact he
      · have := high_all h e he
        omega
theorem bad_mem {a b lo : Int} {L : List E} (hab : a < b) (h : Norm lo L) : bad a b L = true ↔ ∃ p, a ≤ p ∧ p < b ∧ Mem p L := by
  rw [bad_iff hab h]
  constructor
  · rintro ⟨e, he, ho⟩
    simp only [ov, Bool.and_eq_true, decide_eq_true_eq] at ho
    have := h.pos e he
    by_cases c : a ≤ e.1
    · exact ⟨e.1, c, ho.1, e, he, Int.le_refl _, by omega⟩
    · exact ⟨a, Int.le_refl _, hab, e, he, by omega, ho.2⟩
  · rintro ⟨p, h1, h2, e, he, h3, h4⟩
    exact ⟨e, he, by simp only [ov, Bool.and_eq_true, decide_eq_true_eq]; omega⟩
theorem no_of_bad {a b lo : Int} {L : List E} (hab : a < b) (h : Norm lo L) (hb : bad a b L = false) : ∀ e ∈ L, ov a b e = false := by
  intro e he
  cases ho : ov a b e with
  | false => rfl
  | true =>
    have := (bad_iff hab h).2 ⟨e, he, ho⟩
    rw [hb] at this
    cases this
theorem fold_al : ∀ {M : List E} {J : E}, Al M → (J.1 % 8 = 0 ∧ J.2 % 8 = 0) → ((M.foldl join J).1 % 8 = 0 ∧ (M.foldl join J).2 % 8 = 0)
  | [], _, _, h => h
  | e :: r, J, h, hj => by
    have he := h e List.mem_cons_self
    refine fold_al (M := r) (J := join J e) (fun x hx => h x (List.mem_cons_of_mem _ hx)) ⟨?_, ?_⟩
    · show (min J.1 e.1) % 8 = 0
      rw [Int.min_def]
      split <;> omega
    · show (J.2 + e.2) % 8 = 0
      omega
theorem Ok.give {A S a b : Int} {L : List E} (h : Ok A S L) (hab : a < b) (ha : A ≤ a) (hb : b ≤ A + S) (a8 : a % 8 = 0) (b8 : b % 8 = 0) (no : bad a b L = false) :
    Ok A S (giveL a b L) ∧ (∀ p, Mem p (giveL a b L) ↔ Mem p L ∨ (a ≤ p ∧ p < b)) ∧ sum (giveL a b L) = sum L + (b - a) := by
  obtain ⟨k1, k2, k3⟩ := give_all hab h.norm ha (no_of_bad hab h.norm no)
  refine ⟨⟨k1, hi_of k1 fun p m => ?_, ?_, h.a0, h.a1, h.s0, h.s1, h.a8, h.s8⟩, k2, k3⟩
  · rcases (k2 p).1 m with m | m
    · exact (h.in_ m).2
    · omega
  · intro e he
    unfold giveL at he
    rcases List.mem_append.1 he with he | he
    · exact h.al e (List.mem_of_mem_take he)
    · rcases List.mem_append.1 he with he | he
      · have : e = (mid a b L).foldl join (a, b - a) := by simpa using he
        subst this
        exact fold_al (fun x hx => h.al x (mem_mid (low_le_high (by omega) h.norm) hx)) ⟨a8, by show (b - a) % 8 = 0; omega⟩
      · exact h.al e (List.mem_of_mem_drop he)

/-! ### words, free or not -/
def grow : List E → List E
  | [] => []
  | [e] => [(e.1, e.2 + 8)]
  | e :: r => e :: grow r
def runs (A : Int) (F : Nat → Bool) : Nat → List E
  | 0 => []
  | i + 1 => if F i then (if i = 0 ∨ F (i - 1) = false then runs A F i ++ [(A + 8 * (i : Int), 8)] else grow (runs A F i)) else runs A F i
theorem grow_snoc : ∀ (L : List E) (e : E), grow (L ++ [e]) = L ++ [(e.1, e.2 + 8)]
  | [], e => rfl
  | x :: r, e => by
    have : x :: r ++ [e] = x :: (r ++ [e]) := rfl
    rw [this]
    have h2 : ∀ M : List E, M ≠ [] → grow (x :: M) = x :: grow M := by
      intro M hM
      cases M with
      | nil => exact absurd rfl hM
      | cons _ _ => rfl
    rw [h2 _ (by simp), grow_snoc r e]
    rfl
theorem norm_snoc : ∀ {L : List E} {lo : Int} {e : E}, Norm lo L → (∀ x ∈ L, x.1 + x.2 < e.1) → lo ≤ e.1 → 0 < e.2 → Norm lo (L ++ [e])
  | [], lo, e, _, _, h1, h2 => ⟨h1, h2, trivial⟩
  | x :: r, lo, e, h, k, h1, h2 => ⟨h.1, h.2.1, norm_snoc h.2.2 (fun y hy => k y (List.mem_cons_of_mem _ hy)) (by have := k x List.mem_cons_self; omega) h2⟩
theorem norm_left : ∀ {L M : List E} {lo : Int}, Norm lo (L ++ M) → Norm lo L
  | [], _, _, _ => trivial
  | x :: r, M, lo, h => ⟨h.1, h.2.1, norm_left h.2.2⟩
theorem norm_last : ∀ {L : List E} {lo : Int} {e : E}, Norm lo (L ++ [e]) → (∀ x ∈ L, x.1 + x.2 < e.1) ∧ lo ≤ e.1 ∧ 0 < e.2
  | [], lo, e, h => ⟨(fun _ hx => by cases hx), h.1, h.2.1⟩
  | x :: r, lo, e, h => by
    obtain ⟨k1, k2, k3⟩ := norm_last (L := r) h.2.2
    have h1 := h.1
    have h2 := h.2.1
    refine ⟨fun y hy => ?_, by omega, k3⟩
    rcases List.mem_cons.1 hy with rfl | hy
    · omega
    · exact k1 y hy
structure Runs (A : Int) (F : Nat → Bool) (i : Nat) (L : List E) : Prop where
  norm : Norm A L
  mem : ∀ p, Mem p L ↔ A ≤ p ∧ p < A + 8 * (i : Int) ∧ F ((p - A) / 8).toNat = true
  al : A % 8 = 0 → Al L
  last : 0 < i → F (i - 1) = true → ∃ M e, L = M ++ [e] ∧ e.1 + e.2 = A + 8 * (i : Int)
  len : L.length ≤ i
theorem runs_ok (A : Int) (F : Nat → Bool) : ∀ i, Runs A F i (runs A F i)
  | 0 => ⟨trivial, fun p => ⟨fun h => absurd h (mem_nil p), fun h => by omega⟩, (fun _ _ h => by cases h), (fun h => by omega), Nat.le_refl _⟩
  | i + 1 => by
    have ih := runs_ok A F i
    have hw : ∀ p, A ≤ p → p < A + 8 * ((i + 1 : Nat) : Int) → ¬ p < A + 8 * (i : Int) → ((p - A) / 8).toNat = i := by
      intro p h1 h2 h3
      omega
    by_cases c : F i = true
    · have hm : ∀ {M : List E}, (∀ p, Mem p M ↔ Mem p (runs A F i) ∨ (A + 8 * (i : Int) ≤ p ∧ p < A + 8 * (i : Int) + 8)) → ∀ p, Mem p M ↔ A ≤ p ∧ p < A + 8 * ((i + 1 : Nat) : Int) ∧ F ((p - A) / 8).toNat = true := by
        intro M h p
        rw [h p, ih.mem p]
        constructor
        · rintro (m | m)
          · exact ⟨m.1, by omega, m.2.2⟩
          · refine ⟨by omega, by omega, ?_⟩
            rw [hw p (by omega) (by omega) (by omega)]
            exact c
        · rintro ⟨m1, m2, m3⟩
          by_cases q : p < A + 8 * (i : Int)
          · exact .inl ⟨m1, q, m3⟩
          · exact .inr ⟨by omega, by omega⟩
      by_cases d : i = 0 ∨ F (i - 1) = false
      · have er : runs A F (i + 1) = runs A F i ++ [(A + 8 * (i : Int), 8)] := by simp only [runs, c, if_true, d]
        rw [er]
        refine ⟨norm_snoc ih.norm (fun x hx => ?_) ?_ ?_, hm fun p => ?_, fun h8 x hx => ?_, fun _ _ => ⟨_, _, rfl, ?_⟩, ?_⟩
        · show x.1 + x.2 < A + 8 * (i : Int)
          have hp := ih.norm.pos x hx
          have m := (ih.mem (x.1 + x.2 - 1)).1 ⟨x, hx, by omega, by omega⟩
          rcases d with d | d
          · omega
          · by_cases q : x.1 + x.2 = A + 8 * (i : Int)
            · have : ((x.1 + x.2 - 1 - A) / 8).toNat = i - 1 := by omega
              rw [this, d] at m
              exact absurd m.2.2 (by decide)
            · omega
        · show A ≤ A + 8 * (i : Int)
          omega
        · show (0 : Int) < 8
          omega
        · rw [mem_append, mem_cons]
          constructor
          · rintro (m | m | m)
            · exact .inl m
            · exact .inr m
            · exact absurd m (mem_nil p)
          · rintro (m | m)
            · exact .inl m
            · exact .inr (.inl m)
        · rcases List.mem_append.1 hx with hx | hx
          · exact ih.al h8 x hx
          · have : x = (A + 8 * (i : Int), 8) := by simpa using hx
            subst this
            exact ⟨by show (A + 8 * (i : Int)) % 8 = 0; omega, by show (8 : Int) % 8 = 0; rfl⟩
        · show A + 8 * (i : Int) + 8 = A + 8 * ((i + 1 : Nat) : Int)
          omega
        · rw [List.length_append]
          have := ih.len
          simp
          omega
      · have er : runs A F (i + 1) = grow (runs A F i) := by simp only [runs, c, if_true, d, if_false]
        obtain ⟨M, e, eL, ee⟩ := ih.last (by omega) (by
          cases h : F (i - 1) with
          | true => rfl
          | false => exact absurd (.inr h) d)
        have hn := ih.norm
        have hal := ih.al
        have hlen := ih.len
        rw [er, eL, grow_snoc]
        rw [eL] at hn hal hlen
        obtain ⟨n1, n2, n3⟩ := norm_last hn
        refine ⟨norm_snoc (norm_left hn) n1 n2 ?_, hm fun p => ?_, fun h8 x hx => ?_, fun _ _ => ⟨_, _, rfl, ?_⟩, ?_⟩
        · show 0 < e.2 + 8
          omega
        · rw [eL, mem_append, mem_append, mem_cons, mem_cons]
          constructor
          · rintro (m | m | m)
            · exact .inl (.inl m)
            · have m1 : e.1 ≤ p := m.1
              have m2 : p < e.1 + (e.2 + 8) := m.2
              by_cases q : p < e.1 + e.2
              · exact .inl (.inr (.inl ⟨m1, q⟩))
              · exact .inr ⟨by omega, by omega⟩
            · exact absurd m (mem_nil p)
          · rintro ((m | m | m) | m)
            · exact .inl m
            · right; left
              show e.1 ≤ p ∧ p < e.1 + (e.2 + 8)
              omega
            · exact absurd m (mem_nil p)
            · right; left
              show e.1 ≤ p ∧ p < e.1 + (e.2 + 8)
              omega
        · rcases List.mem_append.1 hx with hx | hx
          · exact hal h8 x (List.mem_append_left _ hx)
          · have he := hal h8 e (List.mem_append_right _ List.mem_cons_self)
            have : x = (e.1, e.2 + 8) := by simpa using hx
            subst this
            exact ⟨he.1, by show (e.2 + 8) % 8 = 0; omega⟩
        · show e.1 + (e.2 + 8) = A + 8 * ((i + 1 : Nat) : Int)
          omega
        · simp only [List.length_append, List.length_cons, List.length_nil] at hlen ⊢
          omega
    · have er : runs A F (i + 1) = runs A F i := by simp [runs, c]
      rw [er]
      have cf : F i = false := by simpa using c
      refine ⟨ih.norm, fun p => ?_, ih.al, fun _ h => ?_, Nat.le_succ_of_le ih.len⟩
      · rw [ih.mem p]
        constructor
        · rintro ⟨m1, m2, m3⟩
          exact ⟨m1, by omega, m3⟩
        · rintro ⟨m1, m2, m3⟩
          refine ⟨m1, ?_, m3⟩
          by_cases q : p < A + 8 * (i : Int)
          · exact q
          · rw [hw p m1 m2 q, cf] at m3
            cases m3
      · rw [Nat.add_sub_cancel, cf] at h
        cases h

/-- Words from u on, m of them, are made x. -/
def setW (F : Nat → Bool) (u m : Nat) (x : Bool) : Nat → Bool := fun i => if u ≤ i ∧ i < u + m then x else F i
theorem setW_zero (F : Nat → Bool) (u : Nat) (x : Bool) : setW F u 0 x = F := by
  funext i
  unfold setW
  rw [if_neg (by omega)]
theorem setW_step (F : Nat → Bool) (u m i : Nat) (x : Bool) : (if i = u + m then x else setW F u m x i) = setW F u (m + 1) x i := by
  unfold setW
  by_cases h : i = u + m
  · rw [if_pos h, if_pos (by omega)]
  · rw [if_neg h]
    by_cases k : u ≤ i ∧ i < u + m
    · rw [if_pos k, if_pos (by omega)]
    · rw [if_neg k, if_neg (by omega)]
theorem runs_mem (A : Int) (F : Nat → Bool) (n : Nat) (p : Int) : Mem p (runs A F n) ↔ A ≤ p ∧ p < A + 8 * (n : Int) ∧ F ((p - A) / 8).toNat = true := (runs_ok A F n).mem p
theorem Ok.runs {A : Int} {n : Nat} (F : Nat → Bool) (a0 : 0 ≤ A) (a1 : A ≤ 65536) (a8 : A % 8 = 0) (hn : n ≤ 8192) : Ok A (8 * (n : Int)) (runs A F n) := by
  have h := runs_ok A F n
  exact ⟨h.norm, hi_of h.norm fun p m => ((h.mem p).1 m).2.1, h.al a8, a0, a1, by omega, by omega, a8, by omega⟩
theorem eq_runs {A : Int} {n : Nat} {F : Nat → Bool} {L : List E} {lo : Int} (h : Norm lo L) (k : ∀ p, Mem p L ↔ A ≤ p ∧ p < A + 8 * (n : Int) ∧ F ((p - A) / 8).toNat = true) : L = runs A F n :=
  uniq h (runs_ok A F n).norm fun p => (k p).trans (runs_mem A F n p).symm
/-- What is carved of the row of free words. -/
theorem runs_carve {A z : Int} {n u m : Nat} {F : Nat → Bool} (hz : z = 8 * (m : Int)) (hm : 0 < m) (hf : fits z (runs A F n) = true) (hu : carveA z (runs A F n) = A + 8 * (u : Int)) : carveL z (runs A F n) = runs A (setW F u m false) n := by
  have h := runs_ok A F n
  refine eq_runs (carve_norm (by omega) h.norm) fun p => ?_
  rw [carve_mem (by omega) h.norm hf p, h.mem p, hu, hz]
  unfold setW
  constructor
  · rintro ⟨⟨m1, m2, m3⟩, k⟩
    refine ⟨m1, m2, ?_⟩
    rw [if_neg (by omega)]
    exact m3
  · rintro ⟨m1, m2, m3⟩
    by_cases c : u ≤ ((p - A) / 8).toNat ∧ ((p - A) / 8).toNat < u + m
    · rw [if_pos c] at m3
      cases m3
    · rw [if_neg c] at m3
      exact ⟨⟨m1, m2, m3⟩, by omega⟩
theorem runs_give {A a b : Int} {n u m : Nat} {F : Nat → Bool} (ha : a = A + 8 * (u : Int)) (hb : b = a + 8 * (m : Int)) (hm : 0 < m) (hin : u + m ≤ n) (no : bad a b (runs A F n) = false) : giveL a b (runs A F n) = runs A (setW F u m true) n := by
  have h := runs_ok A F n
  have hab : a < b := by omega
  obtain ⟨k1, k2, k3⟩ := give_all hab h.norm (by omega) (no_of_bad hab h.norm no)
  refine eq_runs k1 fun p => ?_
  rw [k2 p, h.mem p]
  unfold setW
  constructor
  · rintro (⟨m1, m2, m3⟩ | k)
    · refine ⟨m1, m2, ?_⟩
      by_cases c : u ≤ ((p - A) / 8).toNat ∧ ((p - A) / 8).toNat < u + m
      · rw [if_pos c]
      · rw [if_neg c]
        exact m3
    · refine ⟨by omega, by omega, ?_⟩
      rw [if_pos (by omega)]
  · rintro ⟨m1, m2, m3⟩
    by_cases c : u ≤ ((p - A) / 8).toNat ∧ ((p - A) / 8).toNat < u + m
    · exact .inr (by omega)
    · rw [if_neg c] at m3
      exact .inl ⟨m1, m2, m3⟩
theorem runs_bad {A a b : Int} {n u m : Nat} {F : Nat → Bool} (ha : a = A + 8 * (u : Int)) (hb : b = a + 8 * (m : Int)) (hm : 0 < m) (hin : u + m ≤ n) : bad a b (runs A F n) = true ↔ ∃ i, i < m ∧ F (u + i) = true := by
  have h := runs_ok A F n
  rw [bad_mem (by omega) h.norm]
  constructor
  · rintro ⟨p, p1, p2, pm⟩
    have hp := (h.mem p).1 pm
    refine ⟨((p - A) / 8).toNat - u, by omega, ?_⟩
    have e : u + (((p - A) / 8).toNat - u) = ((p - A) / 8).toNat := by omega
    rw [e]
    exact hp.2.2
  · rintro ⟨i, i1, i2⟩
    refine ⟨A + 8 * ((u + i : Nat) : Int), by omega, by omega, (h.mem _).2 ⟨by omega, by omega, ?_⟩⟩
    have e : ((A + 8 * ((u + i : Nat) : Int) - A) / 8).toNat = u + i := by omega
    rw [e]
    exact i2
end Go.Proofs.YteakglkagmghpaaGreat.Gm

/-
  What memory says of a row of extents (Ex) and of a ground (Gr): the struct in block B, its row of free extents in a block that is neither B nor K; kept by whatever changes other blocks; what an append makes of such a row.
-/
namespace Go.Proofs.YteakglkagmghpaaGreat.Gr
open Go.ChangeShapes Go.WideShapes Go.ChangeAt Go.RowKit Gm
set_option linter.unusedVariables false

theorem ret_int {k : IntKind} {a b : Int} (h : a = b) : Ending.returned (.int k a) = .returned (.int k b) := by rw [h]
theorem ret_bool {a b : Bool} (h : a = b) : Ending.returned (.bool a) = .returned (.bool b) := by rw [h]
theorem only_drew {a w : World} {row : Option Nat} (h : a.grownBy w row) : a.grownBy w.drew row := ⟨h.os, h.tape, h.output, h.size, h.block⟩
theorem only_drewN {a w : World} {row : Option Nat} (h : a.grownBy w row) (n : Nat) : a.grownBy (w.drewN n) row := ⟨h.os, h.tape, h.output, h.size, h.block⟩
theorem only_trans {a b c : World} {row : Option Nat} (h : a.grownBy b row) (k : b.grownBy c row) : a.grownBy c row :=
  ⟨k.os.trans h.os, k.tape.trans h.tape, k.output.trans h.output, Nat.le_trans h.size k.size, fun i hi hne => (k.block i (Nat.lt_of_lt_of_le hi h.size) hne).trans (h.block i hi hne)⟩
theorem only_wide {a b : World} {row : Option Nat} (h : a.grownBy b none) : a.grownBy b row := ⟨h.os, h.tape, h.output, h.size, fun i hi _ => h.block i hi (by simp)⟩
theorem only_setCell {a w : World} {g : Nat} (h : a.grownBy w (some g)) (o : Nat) (u : Value) : a.grownBy (w.setCell ⟨g, o, none⟩ u) (some g) :=
  ⟨h.os, h.tape, h.output, by simpa [World.setCell] using h.size, fun i hi hne => (Below.heap_setCell w ⟨g, o, none⟩ u i (by rintro rfl; exact hne rfl)).trans (h.block i hi hne)⟩
theorem only_below {a b : World} {row : Option Nat} (h : Below a.heap.size a b) : a.grownBy b row := ⟨h.os, h.tape, h.output, h.size, fun i hi _ => h.block i hi⟩
theorem below_only {a b : World} (h : a.grownBy b none) : Below a.heap.size a b := ⟨h.os, h.tape, h.output, h.size, fun i hi => h.block i hi (by simp)⟩
theorem only_alloc {a w : World} {row : Option Nat} (h : a.grownBy w row) (o : Obj) : a.grownBy (w.alloc o) row :=
  ⟨h.os, h.tape, h.output, Nat.le_trans h.size (by simp), fun i hi hne => (Below.heap_alloc w o i (Nat.lt_of_lt_of_le hi h.size)).trans (h.block i hi hne)⟩

/-- A row of extents: nil, or a row from a block's beginning on. -/
def Ex (w : World) (v : Value) (L : List E) : Prop :=
  (v = .slice none 0 0 ∧ L = []) ∨ ∃ g c, v = .slice (some ⟨g, 0, none⟩) L.length c ∧ L.length ≤ c ∧ c ≤ maxLen ∧ g < w.heap.size ∧
    ∀ i (h : i < L.length), w.cell? ⟨g, i * 2, none⟩ = some (.int .i64 (L[i]).1) ∧ w.cell? ⟨g, i * 2 + 1, none⟩ = some (.int .i64 (L[i]).2)

def flat (L : List E) : List Value := L.flatMap fun e => [.int .i64 e.1, .int .i64 e.2]
theorem flat_len : ∀ L : List E, (flat L).length = L.length * 2
  | [] => rfl
  | e :: r => by simp [flat, List.flatMap_cons] at *; have := flat_len r; simp [flat] at this; omega
theorem flat_append (L M : List E) : flat (L ++ M) = flat L ++ flat M := by simp [flat]
theorem flat_cons (e : E) (r : List E) : flat (e :: r) = .int .i64 e.1 :: .int .i64 e.2 :: flat r := by simp [flat]
theorem flat_get : ∀ (L : List E) (i : Nat) (h : i < L.length), (flat L)[i * 2]? = some (.int .i64 (L[i]).1) ∧ (flat L)[i * 2 + 1]? = some (.int .i64 (L[i]).2)
  | [], i, h => by simp at h
  | e :: r, 0, h => by rw [flat_cons]; exact ⟨rfl, rfl⟩
  | e :: r, i + 1, h => by
    obtain ⟨h1, h2⟩ := flat_get r i (by simpa using h)
    rw [flat_cons, show (i + 1) * 2 = i * 2 + 1 + 1 by omega]
    simpa using ⟨h1, h2⟩
theorem flat_one (L : List E) : ∀ u ∈ flat L, u.oneCell' = true := by
  intro u hu
  obtain ⟨e, _, he⟩ := List.mem_flatMap.1 hu
  have : u = .int .i64 e.1 ∨ u = .int .i64 e.2 := by simpa using he
  rcases this with rfl | rfl <;> rfl
theorem flat_cells {w : World} {g o : Nat} {L : List E} (h : ∀ i (h : i < L.length), w.cell? ⟨g, o + i * 2, none⟩ = some (.int .i64 (L[i]).1) ∧ w.cell? ⟨g, o + i * 2 + 1, none⟩ = some (.int .i64 (L[i]).2)) :
    ∀ j u, (flat L)[j]? = some u → w.cell? ((⟨g, o, none⟩ : Addr).add j) = some u := by
  intro j u hu
  have hj : j < (flat L).length := by
    rcases Nat.lt_or_ge j (flat L).length with c | c
    · exact c
    · rw [List.getElem?_eq_none c] at hu; cases hu
  rw [flat_len] at hj
  rw [Addr.add_lit]
  have hi : j / 2 < L.length := by omega
  obtain ⟨f1, f2⟩ := flat_get L (j / 2) hi
  obtain ⟨c1, c2⟩ := h (j / 2) hi
  rcases Nat.mod_two_eq_zero_or_one j with e | e
  · have : j = j / 2 * 2 := by omega
    rw [← this] at f1 c1
    rw [f1] at hu
    rw [c1]
    exact hu
  · have : j = j / 2 * 2 + 1 := by omega
    rw [← this] at f2
    rw [show o + j / 2 * 2 + 1 = o + j by omega] at c2
    rw [f2] at hu
    rw [c2]
    exact hu

theorem Ex.nil (w : World) : Ex w (.slice none 0 0) [] := .inl ⟨rfl, rfl⟩
theorem Ex.form {w : World} {v : Value} {L : List E} (h : Ex w v L) : ∃ A c, v = .slice A L.length c := by
  rcases h with ⟨rfl, rfl⟩ | ⟨g, c, rfl, _⟩
  · exact ⟨_, _, rfl⟩
  · exact ⟨_, _, rfl⟩
theorem Ex.at_ {w : World} {v : Value} {L : List E} (h : Ex w v L) (hn : 0 < L.length) : ∃ g c, v = .slice (some ⟨g, 0, none⟩) L.length c ∧ L.length ≤ c ∧ c ≤ maxLen ∧ g < w.heap.size ∧
    ∀ i (h : i < L.length), w.cell? ⟨g, i * 2, none⟩ = some (.int .i64 (L[i]).1) ∧ w.cell? ⟨g, i * 2 + 1, none⟩ = some (.int .i64 (L[i]).2) := by
  rcases h with ⟨rfl, rfl⟩ | h
  · simp at hn
  · exact h
theorem Ex.lt {w : World} {v : Value} {L : List E} (h : Ex w v L) {g : Nat} (hg : v.ownBlock = some g) : g < w.heap.size := by
  rcases h with ⟨rfl, rfl⟩ | ⟨g', c, rfl, _, _, hlt, _⟩
  · cases hg
  · injection hg with hg
    subst hg
    exact hlt
theorem Ex.keep {w w' : World} {v : Value} {L : List E} (h : Ex w v L) (hs : w.heap.size ≤ w'.heap.size) (k : ∀ g, v.ownBlock = some g → w'.heap[g]? = w.heap[g]?) : Ex w' v L := by
  rcases h with ⟨rfl, rfl⟩ | ⟨g, c, rfl, h1, h2, hlt, hc⟩
  · exact .nil _
  · have hb := k g rfl
    refine .inr ⟨g, c, rfl, h1, h2, by omega, fun i hi => ?_⟩
    have h1 := World.cell?_of_block (w := w) (w' := w') (a := ⟨g, i * 2, none⟩) hb
    have h2 := World.cell?_of_block (w := w) (w' := w') (a := ⟨g, i * 2 + 1, none⟩) hb
    exact ⟨h1.trans (hc i hi).1, h2.trans (hc i hi).2⟩
theorem Ex.kept {w w' : World} {v : Value} {L : List E} {row : Option Nat} (h : Ex w v L) (k : w.grownBy w' row) (hr : ∀ g, v.ownBlock = some g → row ≠ some g) : Ex w' v L :=
  h.keep k.size fun g hg => k.block g (h.lt hg) fun e => hr g hg e.symm
theorem Ex.below {w w' : World} {v : Value} {L : List E} (h : Ex w v L) (k : Below w.heap.size w w') : Ex w' v L := h.keep k.size fun g hg => k.block g (h.lt hg)
theorem Ex.drew {w : World} {v : Value} {L : List E} (h : Ex w v L) : Ex w.drew v L := h.keep (Nat.le_refl _) fun _ _ => rfl
theorem Ex.drewN {w : World} {v : Value} {L : List E} (h : Ex w v L) (n : Nat) : Ex (w.drewN n) v L := h.keep (Nat.le_refl _) fun _ _ => rfl
theorem Ex.alloc {w : World} {v : Value} {L : List E} (h : Ex w v L) (o : Obj) : Ex (w.alloc o) v L := h.keep (by simp) fun g hg => Below.heap_alloc w o g (h.lt hg)
theorem Ex.setCell {w : World} {v : Value} {L : List E} (h : Ex w v L) {p : Addr} (hp : v.ownBlock ≠ some p.block) (u : Value) : Ex (w.setCell p u) v L :=
  h.keep (by simp [World.setCell]) fun g hg => Below.heap_setCell w p u g (by rintro rfl; exact hp hg)
theorem Ex.own {w : World} {base : Nat} {v : Value} {L : List E} (h : w.ownsRow base 119 2 v L.length (flat L)) : Ex w v L := by
  rcases h.2 with ⟨rfl, h0⟩ | ⟨g, cap, cur, rfl, _, hg, h1, h2, _⟩
  · exact .inl ⟨rfl, List.eq_nil_of_length_eq_zero h0⟩
  · refine .inr ⟨g, cap, rfl, h1, h2, (h.lt g rfl).2, fun i hi => ?_⟩
    have hc := h.cells (g := g) rfl
    have f := flat_get L i hi
    have c1 := hc _ _ f.1
    have c2 := hc _ _ f.2
    rw [Addr.add_lit, Nat.zero_add] at c1 c2
    exact ⟨c1, c2⟩

/-- A row's block holds extents. -/
def Ty (w : World) (v : Value) : Prop := ∀ g, v.ownBlock = some g → ∃ cs fz, w.heap[g]? = some (.cells cs 119 fz)
theorem Ty.keep {w w' : World} {v : Value} (h : Ty w v) (k : ∀ g, v.ownBlock = some g → w'.heap[g]? = w.heap[g]?) : Ty w' v := fun g hg => by
  obtain ⟨cs, fz, e⟩ := h g hg
  exact ⟨cs, fz, (k g hg).trans e⟩
theorem Ty.own {w : World} {base : Nat} {v : Value} {n : Nat} {xs : List Value} (h : w.ownsRow base 119 2 v n xs) : Ty w v := by
  intro g hg
  rcases h.2 with ⟨rfl, _⟩ | ⟨g', cap, cur, rfl, _, e, _⟩
  · cases hg
  · injection hg with hg
    have hg' : g' = g := hg
    subst hg'
    exact ⟨_, _, e⟩

/-- Where a ground's struct lies: in a block of this type with so many cells, from this one on; and what the other cells are. -/
structure Ly where
  T : TypeId
  n : Nat
  o : Nat
  f : Nat → Value
  fits : o + 3 ≤ n
  ne : (T == 119) = false
def Ly.hd (Y : Ly) (A S : Int) (v : Value) : Nat → Value := fun i => if i = Y.o then .int .i64 A else if i = Y.o + 1 then .int .i64 S else if i = Y.o + 2 then v else Y.f i
theorem Ly.hd0 (Y : Ly) (A S : Int) (v : Value) : Y.hd A S v Y.o = .int .i64 A := if_pos rfl
theorem Ly.hd1 (Y : Ly) (A S : Int) (v : Value) : Y.hd A S v (Y.o + 1) = .int .i64 S := by
  unfold Ly.hd
  rw [if_neg (by omega), if_pos rfl]
theorem Ly.hd2 (Y : Ly) (A S : Int) (v : Value) : Y.hd A S v (Y.o + 2) = v := by
  unfold Ly.hd
  rw [if_neg (by omega), if_neg (by omega), if_pos rfl]
theorem Ly.hdf (Y : Ly) (A S : Int) (v : Value) {i : Nat} (h : i < Y.o ∨ Y.o + 3 ≤ i) : Y.hd A S v i = Y.f i := by
  unfold Ly.hd
  rw [if_neg (by omega), if_neg (by omega), if_neg (by omega)]
theorem Ly.cell0 {Y : Ly} {w : World} {B : Nat} {A S : Int} {v : Value} (h : w.rowIs B Y.T Y.n (Y.hd A S v)) : w.cell? ⟨B, Y.o, none⟩ = some (.int .i64 A) := by
  have := h.cell (i := Y.o) (by have := Y.fits; omega)
  rw [Y.hd0] at this
  exact this
theorem Ly.cell1 {Y : Ly} {w : World} {B : Nat} {A S : Int} {v : Value} (h : w.rowIs B Y.T Y.n (Y.hd A S v)) : w.cell? ⟨B, Y.o + 1, none⟩ = some (.int .i64 S) := by
  have := h.cell (i := Y.o + 1) (by have := Y.fits; omega)
  rw [Y.hd1] at this
  exact this
theorem Ly.cell2 {Y : Ly} {w : World} {B : Nat} {A S : Int} {v : Value} (h : w.rowIs B Y.T Y.n (Y.hd A S v)) : w.cell? ⟨B, Y.o + 2, none⟩ = some v := by
  have := h.cell (i := Y.o + 2) (by have := Y.fits; omega)
  rw [Y.hd2] at this
  exact this
/-- A ground of its own. -/
def y0 : Ly := ⟨121, 3, 0, fun _ => undef, by decide, by decide⟩
def Gr (w : World) (Y : Ly) (B K : Nat) (A S : Int) (L : List E) : Prop :=
  ∃ v, w.rowIs B Y.T Y.n (Y.hd A S v) ∧ Ex w v L ∧ v.ownBlock ≠ some B ∧ v.ownBlock ≠ some K ∧ Ty w v

theorem Gr.lt {w : World} {Y : Ly} {B K : Nat} {A S : Int} {L : List E} (h : Gr w Y B K A S L) : B < w.heap.size := by
  obtain ⟨v, h1, _⟩ := h
  exact h1.lt
theorem Gr.keep0 {w w' : World} {Y : Ly} {B K : Nat} {A S : Int} {L : List E} {row : Option Nat} (h : Gr w Y B K A S L) (k : w.grownBy w' row) (h1 : row ≠ some B) (h2 : ∀ v g, w.rowIs B Y.T Y.n (Y.hd A S v) → v.ownBlock = some g → v.ownBlock ≠ some K → Ty w v → row ≠ some g) : Gr w' Y B K A S L := by
  obtain ⟨v, a, b, c, d, t⟩ := h
  exact ⟨v, a.of_block (k.block B a.lt fun e => h1 e.symm), b.kept k fun g hg => h2 v g a hg d t, c, d, t.keep fun g hg => k.block g (b.lt hg) fun e => h2 v g a hg d t e.symm⟩
theorem Gr.keep {w w' : World} {Y : Ly} {B K : Nat} {A S : Int} {L : List E} {row : Option Nat} (h : Gr w Y B K A S L) (k : w.grownBy w' row) (h1 : row ≠ some B) (h2 : row = none ∨ row = some K) : Gr w' Y B K A S L := by
  refine h.keep0 k h1 fun v g _ hg hK _ => ?_
  rcases h2 with rfl | rfl
  · simp
  · intro e
    exact hK (hg.trans e.symm)
theorem Gr.below {w w' : World} {Y : Ly} {B K : Nat} {A S : Int} {L : List E} (h : Gr w Y B K A S L) (k : Below w.heap.size w w') : Gr w' Y B K A S L :=
  h.keep (only_below (row := none) k) (by simp) (.inl rfl)
theorem Gr.drew {w : World} {Y : Ly} {B K : Nat} {A S : Int} {L : List E} (h : Gr w Y B K A S L) : Gr w.drew Y B K A S L := h.below (Below.refl _ _).drew
theorem Gr.alloc {w : World} {Y : Ly} {B K : Nat} {A S : Int} {L : List E} (h : Gr w Y B K A S L) (o : Obj) : Gr (w.alloc o) Y B K A S L := h.below ((Below.refl _ _).alloc (Nat.le_refl _) _)
/-- What is done to another ground. -/
theorem Gr.apart {w w' : World} {Y Y' : Ly} {B B' K K' : Nat} {A S A' S' : Int} {L L' : List E} (h : Gr w Y B K A S L) (h' : Gr w Y' B' K' A' S' L') (k : w.grownBy w' (some B')) (hne : B ≠ B') : Gr w' Y B K A S L := by
  refine h.keep0 k (fun e => by injection e with e; exact hne e.symm) fun v g _ hg _ t e => ?_
  injection e with e
  subst e
  obtain ⟨cs, fz, e1⟩ := t _ hg
  obtain ⟨v', ⟨c, hc, _⟩, _⟩ := h'
  rw [e1] at hc
  injection hc with hc
  injection hc with _ ht
  have hn := Y'.ne
  rw [← ht] at hn
  exact absurd hn (by decide)

theorem info_ext : (Tryz.prog.info? 119).map (fun i => (i.zero, i.size, i.bytes)) = some (some (.agg #[.int .i64 0, .int .i64 0]), 2, 16) := by kernel_rfl
theorem under_exts : Tryz.prog.underlying 68 = some (.slice 119) := by kernel_rfl
end Go.Proofs.YteakglkagmghpaaGreat.Gr

/-
  append over rows of extents: nothing appended; onto a row without room (a new row); onto a row of one's own; two of them, one behind the other.
-/
namespace Go.Proofs.YteakglkagmghpaaGreat.Gr
open Go.ChangeShapes Go.WideShapes Go.ChangeAt Go.RowKit Gm
set_option linter.unusedVariables false

def Tight (w : World) (v : Value) (L : List E) : Prop :=
  (v = .slice none 0 0 ∧ L = []) ∨ ∃ g, v = .slice (some ⟨g, 0, none⟩) L.length L.length ∧ g < w.heap.size ∧
    ∀ i (h : i < L.length), w.cell? ⟨g, i * 2, none⟩ = some (.int .i64 (L[i]).1) ∧ w.cell? ⟨g, i * 2 + 1, none⟩ = some (.int .i64 (L[i]).2)
def Sr (w : World) (v : Value) (M : List E) : Prop := ∃ A c, v = .slice A M.length c ∧ (0 < M.length → ∃ g o, A = some ⟨g, o, none⟩ ∧ g < w.heap.size ∧
    ∀ i (h : i < M.length), w.cell? ⟨g, o + i * 2, none⟩ = some (.int .i64 (M[i]).1) ∧ w.cell? ⟨g, o + i * 2 + 1, none⟩ = some (.int .i64 (M[i]).2))
theorem Tight.ex {w : World} {v : Value} {L : List E} (h : Tight w v L) (hl : L.length ≤ 1000000) : Ex w v L := by
  rcases h with h | ⟨g, h1, h2, h3⟩
  · exact .inl h
  · exact .inr ⟨g, _, h1, Nat.le_refl _, by simp only [maxLen]; omega, h2, h3⟩
theorem Ex.sr {w : World} {v : Value} {L : List E} (h : Ex w v L) : Sr w v L := by
  rcases h with ⟨rfl, rfl⟩ | ⟨g, c, rfl, _, _, h2, h3⟩
  · exact ⟨_, _, rfl, fun h => by simp at h⟩
  · exact ⟨_, _, rfl, fun _ => ⟨g, 0, rfl, h2, fun i hi => by simpa using h3 i hi⟩⟩
theorem Sr.grown {w w' : World} {v : Value} {M : List E} (h : Sr w v M) (k : w.grownBy w' none) : Sr w' v M := by
  obtain ⟨A, c, rfl, h⟩ := h
  refine ⟨A, c, rfl, fun hm => ?_⟩
  obtain ⟨g, o, rfl, hg, hc⟩ := h hm
  refine ⟨g, o, rfl, Nat.lt_of_lt_of_le hg k.size, fun i hi => ?_⟩
  have hb := k.block g hg (by simp)
  exact ⟨(World.cell?_of_block (w := w) (w' := w') (a := ⟨g, o + i * 2, none⟩) hb).trans (hc i hi).1, (World.cell?_of_block (w := w) (w' := w') (a := ⟨g, o + i * 2 + 1, none⟩) hb).trans (hc i hi).2⟩
theorem Tight.drewN {w : World} {v : Value} {L : List E} (h : Tight w v L) (n : Nat) : Tight (w.drewN n) v L := h
theorem Sr.drewN {w : World} {v : Value} {L : List E} (h : Sr w v L) (n : Nat) : Sr (w.drewN n) v L := h
theorem Tight.drew {w : World} {v : Value} {L : List E} (h : Tight w v L) : Tight w.drew v L := h
theorem Sr.drew {w : World} {v : Value} {L : List E} (h : Sr w v L) : Sr w.drew v L := h

abbrev X := 68
theorem app_none (w : World) (A : Option Addr) (n c : Nat) (hnc : n ≤ c) {x : Value} (hx : Sr w x []) :
    (Builtin.append_ #[X, X] X #[.slice A n c, x]).run Tryz.prog w = .ok (.slice A n c) w := by
  obtain ⟨i0, hi, hz0, hz1, hz2⟩ := info_parts info_ext
  obtain ⟨B, d, rfl, _⟩ := hx
  refine run_append_nothing w X X X _ i0 under_exts hi A n c hnc _ ?_
  cases B with
  | none => exact Src.ofNil w under_exts d
  | some b => exact Src.ofSlice w under_exts b 0 d [] (by simp) (fun j u h => by simp at h) (fun u h => by cases h)
theorem app_tight (w : World) {v x : Value} {L M : List E} (h : Tight w v L) (hx : Sr w x M) (hm : 0 < M.length) (hl : L.length + M.length ≤ 1000000) :
    ∃ v' w', (Builtin.append_ #[X, X] X #[v, x]).run Tryz.prog w = .ok v' w' ∧ w'.ownsRow w.heap.size 119 2 v' (L ++ M).length (flat (L ++ M)) ∧ w.grownBy w' none := by
  obtain ⟨i0, hi, hz0, hz1, hz2⟩ := info_parts info_ext
  obtain ⟨B, d, rfl, hb⟩ := hx
  obtain ⟨g', o', rfl, hg', hc'⟩ := hb hm
  rw [flat_append, List.length_append]
  have b1 : L.length + M.length ≤ maxLen := by simp only [maxLen]; omega
  have b2 : (L.length + M.length) * 16 ≤ 140737488355328 := by omega
  rcases h with ⟨rfl, rfl⟩ | ⟨g, rfl, hg, hc⟩
  · obtain ⟨v', w', hrun, r1, r2, _⟩ := run_append_own (P := Tryz.prog) w w.heap.size X X _ i0 _ 2 16 under_exts hi hz0 hz1 hz2 rfl (by omega) (.slice none 0 0) 0 [] (World.ownsRow_nil w _ _ 2) _ M.length d (flat M) (flat_len M) (flat_cells hc') (flat_one M) (by simpa using b1) (by simpa using b2) (Nat.le_refl _)
    exact ⟨v', w', hrun, r1, r2⟩
  · obtain ⟨v', w', hrun, r1, r2⟩ := run_append_arg_grows (P := Tryz.prog) w X X _ i0 _ 2 16 under_exts hi hz0 hz1 hz2 rfl (by omega) ⟨g, 0, none⟩ L.length L.length (flat L) (flat_len L) (flat_cells (o := 0) (by simpa using hc)) _ M.length d (flat M) (flat_len M) (flat_cells hc') (by omega) b1 b2
    exact ⟨v', w', hrun, r1, r2⟩
theorem app_own (w : World) {v x : Value} {L M : List E} {base : Nat} (h : w.ownsRow base 119 2 v L.length (flat L)) (hx : Sr w x M) (hl : L.length + M.length ≤ 1000000) (hb : base ≤ w.heap.size) :
    ∃ v' w', (Builtin.append_ #[X, X] X #[v, x]).run Tryz.prog w = .ok v' w' ∧ w'.ownsRow base 119 2 v' (L ++ M).length (flat (L ++ M)) ∧ w.grownBy w' v.ownBlock ∧ (v'.ownBlock = v.ownBlock ∨ v'.ownBlock = some w.heap.size) := by
  obtain ⟨i0, hi, hz0, hz1, hz2⟩ := info_parts info_ext
  have b1 : L.length + M.length ≤ maxLen := by simp only [maxLen]; omega
  have b2 : (L.length + M.length) * 16 ≤ 140737488355328 := by omega
  by_cases hm : 0 < M.length
  · obtain ⟨B, d, rfl, hb'⟩ := hx
    obtain ⟨g', o', rfl, hg', hc'⟩ := hb' hm
    obtain ⟨v', w', hrun, r1, r2, _, r3⟩ := run_append_own_at (P := Tryz.prog) w base X X _ i0 _ 2 16 under_exts hi hz0 hz1 hz2 rfl (by omega) v L.length (flat L) h _ M.length d (flat M) (flat_len M) (flat_cells hc') (flat_one M) b1 b2 hb
    rw [← flat_append, ← List.length_append] at r1
    exact ⟨v', w', hrun, r1, r2, r3⟩
  · have e : M = [] := List.eq_nil_of_length_eq_zero (by omega)
    subst e
    have hv : ∃ A c, v = .slice A L.length c ∧ L.length ≤ c := by
      rcases h.2 with ⟨rfl, h0⟩ | ⟨g, cap, cur, rfl, _, _, h1, _⟩
      · exact ⟨none, 0, by rw [h0], by omega⟩
      · exact ⟨_, cap, rfl, h1⟩
    obtain ⟨A, c, rfl, hc⟩ := hv
    refine ⟨_, w, app_none w A _ c hc hx, ?_, World.grownBy.refl _ _, .inl rfl⟩
    rw [List.append_nil]
    exact h

theorem app2 (w : World) {va x vb : Value} {La M Lb : List E} (h : Tight w va La) (hx : Sr w x M) (hb : Sr w vb Lb) (hl : La.length + M.length + Lb.length ≤ 1000000) :
    ∃ v1 w1 v2 w2, (Builtin.append_ #[X, X] X #[va, x]).run Tryz.prog w = .ok v1 w1 ∧ (Builtin.append_ #[X, X] X #[v1, vb]).run Tryz.prog w1 = .ok v2 w2 ∧
      Ex w2 v2 (La ++ (M ++ Lb)) ∧ w.grownBy w1 none ∧ w.grownBy w2 none ∧ (∀ g, v2.ownBlock = some g → va.ownBlock = some g ∨ w.heap.size ≤ g ∧ ∃ cs fz, w2.heap[g]? = some (.cells cs 119 fz)) := by
  by_cases hm : 0 < M.length
  · obtain ⟨v1, w1, r1, o1, g1⟩ := app_tight w h hx hm (by omega)
    obtain ⟨v2, w2, r2, o2, g2, a2⟩ := app_own w1 o1 (hb.grown g1) (by rw [List.length_append]; omega) g1.size
    rw [List.append_assoc] at o2
    have hv1 : ∀ k, v1.ownBlock = some k → w.heap.size ≤ k := fun k hk => (o1.lt k hk).1
    refine ⟨v1, w1, v2, w2, r1, r2, Ex.own o2, g1, ⟨g2.os.trans g1.os, g2.tape.trans g1.tape, g2.output.trans g1.output, Nat.le_trans g1.size g2.size, fun i hi _ => ?_⟩, fun g hg => .inr ⟨(o2.lt g hg).1, Ty.own o2 g hg⟩⟩
    exact (g2.block i (Nat.lt_of_lt_of_le hi g1.size) (fun e => by have := hv1 i e.symm; omega)).trans (g1.block i hi (by simp))
  · have e : M = [] := List.eq_nil_of_length_eq_zero (by omega)
    subst e
    have hv : ∃ A, va = .slice A La.length La.length := by
      rcases h with ⟨rfl, rfl⟩ | ⟨g, rfl, _⟩
      · exact ⟨_, rfl⟩
      · exact ⟨_, rfl⟩
    obtain ⟨A, rfl⟩ := hv
    have r1 := app_none w A La.length La.length (Nat.le_refl _) hx
    by_cases hn : 0 < Lb.length
    · obtain ⟨v2, w2, r2, o2, g2⟩ := app_tight w h hb hn (by omega)
      exact ⟨_, w, v2, w2, r1, r2, Ex.own o2, World.grownBy.refl _ _, g2, fun g hg => .inr ⟨(o2.lt g hg).1, Ty.own o2 g hg⟩⟩
    · have e : Lb = [] := List.eq_nil_of_length_eq_zero (by omega)
      subst e
      refine ⟨_, w, _, w, r1, app_none w A La.length La.length (Nat.le_refl _) hb, ?_, World.grownBy.refl _ _, World.grownBy.refl _ _, fun g hg => .inl hg⟩
      rw [List.append_nil, List.append_nil]
      exact h.ex (by omega)
end Go.Proofs.YteakglkagmghpaaGreat.Gr

/-
  Contracts of package ground's small functions: num.Within, end, overlap, join, mayBeBound, mayBeSize.
-/
namespace Go.Proofs.YteakglkagmghpaaGreat.Gr
open Go.ChangeShapes Go.WideShapes Go.ChangeAt Go.RowKit Gm
set_option linter.unusedVariables false
attribute [local go_sem ↓] Go.wp_at_zero Go.wp_at_succ

def withinB (a lo hi : Int) : Bool := decide (lo ≤ a ∧ a ≤ hi)
def boundB (n : Int) : Bool := decide (0 ≤ n ∧ n ≤ 65536 ∧ n % 8 = 0)
def sizeB (z : Int) : Bool := decide (0 < z ∧ z % 8 = 0)
abbrev ext (a s : Int) : Value := .agg #[.int .i64 a, .int .i64 s]

theorem bset {N : Nat} {a w : World} (h : Below N a w) (b o : Nat) (hb : N ≤ b) (u : Value) : Below N a (w.setCell ⟨b, o, none⟩ u) := h.setCell (p := ⟨b, o, none⟩) hb u
set_option maxHeartbeats 400000 in
theorem within_any (a lo hi : Int) (w : World) :
    Calls Tryz.prog 90 #[.int .i64 a, .int .i64 lo, .int .i64 hi] w fun e w' => e = .returned (.bool (withinB a lo hi)) ∧ w = w' := by
  by_cases h1 : lo ≤ a
  · by_cases h2 : a ≤ hi
    all_goals
      go_enter Tryz.func90, Tryz.ntmps90
      go_wp2
      go_ret
      exact ⟨ret_bool (by simp [withinB]; omega), rfl⟩
  · go_enter Tryz.func90, Tryz.ntmps90
    go_wp2
    go_ret
    exact ⟨ret_bool (by simp [withinB]; omega), rfl⟩

theorem tmod8 (a : Int) : a.tmod 8 = 0 ↔ a % 8 = 0 := by
  have h1 := Int.dvd_iff_tmod_eq_zero (a := 8) (b := a)
  have h2 := Int.dvd_iff_emod_eq_zero (a := 8) (b := a)
  exact h1.symm.trans h2

set_option maxHeartbeats 400000 in
theorem bound_any (n : Int) (w : World) :
    Calls Tryz.prog 139 #[.int .i64 n] w fun e w' => e = .returned (.bool (boundB n)) ∧ w = w' := by
  by_cases h : 0 ≤ n ∧ n ≤ 65536
  · have hwi : withinB n 0 65536 = true := decide_eq_true h
    obtain ⟨h1, h2⟩ := h
    by_cases h8 : n % 8 = 0
    · have q : (n % 8 == 0) = true := by simpa using h8
      have K := Lib.hid (show boundB n = true from decide_eq_true ⟨h1, h2, h8⟩)
      clear h8
      go_enter Tryz.func139, Tryz.ntmps139
      go_wp2_with (go_at_call 90; refine (within_any _ _ _ _).mono ?_; rintro e w' ⟨rfl, rfl⟩)
      go_ret
      exact ⟨ret_bool K.out.symm, rfl⟩
    · have q : (n % 8 == 0) = false := by simpa using h8
      have K := Lib.hid (show boundB n = false from decide_eq_false (by omega))
      clear h8
      go_enter Tryz.func139, Tryz.ntmps139
      go_wp2_with (go_at_call 90; refine (within_any _ _ _ _).mono ?_; rintro e w' ⟨rfl, rfl⟩)
      go_ret
      exact ⟨ret_bool K.out.symm, rfl⟩
  · have hwi : withinB n 0 65536 = false := decide_eq_false h
    have K := Lib.hid (show boundB n = false from decide_eq_false (by omega))
    clear h
    go_enter Tryz.func139, Tryz.ntmps139
    go_wp2_with (go_at_call 90; refine (within_any _ _ _ _).mono ?_; rintro e w' ⟨rfl, rfl⟩)
    go_ret
    exact ⟨ret_bool K.out.symm, rfl⟩

set_option maxHeartbeats 400000 in
theorem size_any (z : Int) (w : World) (z1 : -9223372036854775808 ≤ z) (z2 : z ≤ 9223372036854775807) :
    Calls Tryz.prog 169 #[.int .i64 z] w fun e w' => e = .returned (.bool (sizeB z)) ∧ w = w' := by
  by_cases h : 0 < z
  · by_cases h8 : z % 8 = 0
    · have q : (z % 8 == 0) = true := by simpa using h8
      have K := Lib.hid (show sizeB z = true from decide_eq_true ⟨h, h8⟩)
      clear h8
      go_enter Tryz.func169, Tryz.ntmps169
      go_wp2
      go_ret
      exact ⟨ret_bool K.out.symm, rfl⟩
    · have q : (z % 8 == 0) = false := by simpa using h8
      have K := Lib.hid (show sizeB z = false from decide_eq_false (by omega))
      clear h8
      go_enter Tryz.func169, Tryz.ntmps169
      go_wp2
      go_ret
      exact ⟨ret_bool K.out.symm, rfl⟩
  · have K := Lib.hid (show sizeB z = false from decide_eq_false (by omega))
    have q : decide (0 < z) = false := decide_eq_false h
    go_enter Tryz.func169, Tryz.ntmps169
    go_wp2
    go_ret
    exact ⟨ret_bool K.out.symm, rfl⟩

set_option maxHeartbeats 400000 in
theorem end_any (a s : Int) (w : World) (h1 : -1000000 ≤ a) (h2 : a ≤ 1000000) (h3 : -1000000 ≤ s) (h4 : s ≤ 1000000) :
    Calls Tryz.prog 176 #[ext a s] w fun e w' => e = .returned (.int .i64 (a + s)) ∧ Below w.heap.size w w' := by
  go_enter Tryz.func176, Tryz.ntmps176
  go_wp2
  go_ret
  exact ⟨rfl, (Below.refl _ _).alloc (Nat.le_refl _) _⟩

set_option maxHeartbeats 400000 in
theorem join_any (a s b t : Int) (w : World) (h1 : 0 ≤ a) (h2 : a ≤ 1000000) (h3 : 0 ≤ s) (h4 : s ≤ 1000000) (k1 : 0 ≤ b) (k2 : b ≤ 1000000) (k3 : 0 ≤ t) (k4 : t ≤ 1000000) :
    Calls Tryz.prog 179 #[ext a s, ext b t] w fun e w' => e = .returned (ext (join (a, s) (b, t)).1 (join (a, s) (b, t)).2) ∧ Below w.heap.size w w' := by
  have e1 : join (a, s) (b, t) = (min a b, s + t) := rfl
  have E := Lib.hid e1
  clear e1
  by_cases h : b < a
  · have M := Lib.hid (show min a b = b from Int.min_eq_right (by omega))
    go_enter Tryz.func179, Tryz.ntmps179
    go_wp2
    exact bodyPost_ret (v := ext b (s + t)) (by simp [results, Tryz.results179, go_sem]) rfl ⟨by rw [E.out, M.out], (((Below.refl w.heap.size w).alloc (Nat.le_refl _) _).alloc (by simp) _).alloc (by simp only [World.size_alloc]; omega) _⟩
  · have M := Lib.hid (show min a b = a from Int.min_eq_left (by omega))
    go_enter Tryz.func179, Tryz.ntmps179
    go_wp2
    exact bodyPost_ret (v := ext a (s + t)) (by simp [results, Tryz.results179, go_sem]) rfl ⟨by rw [E.out, M.out], (((Below.refl w.heap.size w).alloc (Nat.le_refl _) _).alloc (by simp) _).alloc (by simp only [World.size_alloc]; omega) _⟩

/-- a cell below stays. -/
theorem bel {w w' : World} (h : Below w.heap.size w w') {b o : Nat} {v : Value} (c : w.cell? ⟨b, o, none⟩ = some v) : w'.cell? ⟨b, o, none⟩ = some v := by
  have hb : b < w.heap.size := by
    rcases Nat.lt_or_ge b w.heap.size with hlt | hge
    · exact hlt
    · simp [World.cell?, Array.getElem?_eq_none hge] at c
  exact (h.cell (p := ⟨b, o, none⟩) hb).trans c

def ovB (a s b t : Int) : Bool := decide (a < b + t) && decide (b < a + s)
/-- Two boxes of extents, and what is below them. -/
def Two (N : Nat) (W : World) (a s b t : Int) (w : World) : Prop := (w.cell? ⟨N, 0, none⟩ = some (.int .i64 a) ∧ w.cell? ⟨N, 1, none⟩ = some (.int .i64 s) ∧ w.cell? ⟨N + 1, 0, none⟩ = some (.int .i64 b) ∧ w.cell? ⟨N + 1, 1, none⟩ = some (.int .i64 t)) ∧ Below N W w
theorem Two.bel {N : Nat} {W w w' : World} {a s b t : Int} (h : Two N W a s b t w) (k : Below w.heap.size w w') (hN : W.heap.size = N) : Two N W a s b t w' :=
  ⟨⟨Gr.bel k h.1.1, Gr.bel k h.1.2.1, Gr.bel k h.1.2.2.1, Gr.bel k h.1.2.2.2⟩, h.2.trans (k.mono (by have := h.2.size; omega))⟩
set_option maxRecDepth 4000 in
set_option maxHeartbeats 1000000 in
theorem overlap_any (a s b t : Int) (w : World) (h1 : 0 ≤ a) (h2 : a ≤ 1000000) (h3 : 0 ≤ s) (h4 : s ≤ 1000000) (k1 : 0 ≤ b) (k2 : b ≤ 1000000) (k3 : 0 ≤ t) (k4 : t ≤ 1000000) :
    Calls Tryz.prog 178 #[ext a s, ext b t] w fun e w' => e = .returned (.bool (ovB a s b t)) ∧ Below w.heap.size w w' := by
  have T0 : Two w.heap.size w a s b t ((w.alloc (.cells #[.int .i64 a, .int .i64 s] 119)).alloc (.cells #[.int .i64 b, .int .i64 t] 119)) :=
    ⟨⟨by simp [go_sem], by simp [go_sem], by simp [go_sem], by simp [go_sem]⟩, ((Below.refl _ _).alloc (Nat.le_refl _) _).alloc (by simp) _⟩
  have q2 : decide (a < b + t) = true ∨ decide (a < b + t) = false := by cases decide (a < b + t) <;> simp
  rcases q2 with q2 | q2
  · have K := Lib.hid q2
    have q3 : decide (b < a + s) = true ∨ decide (b < a + s) = false := by cases decide (b < a + s) <;> simp
    rcases q3 with q3 | q3
    all_goals
      have K3 := Lib.hid q3
      go_enter Tryz.func178, Tryz.ntmps178
      go_wp2
      generalize (w.alloc (.cells #[.int .i64 a, .int .i64 s] 119)).alloc (.cells #[.int .i64 b, .int .i64 t] 119) = W0 at *
      have T0d : Two w.heap.size w a s b t W0.drew := ⟨T0.1, T0.2.drew⟩
      obtain ⟨⟨c0, c1, c2, c3⟩, B0⟩ := id T0
      go_region_held3 (fun w' => w'.cell? ⟨w.heap.size, 0, none⟩ = some (.int .i64 a) ∧ w'.cell? ⟨w.heap.size, 1, none⟩ = some (.int .i64 s) ∧ w'.cell? ⟨w.heap.size + 1, 0, none⟩ = some (.int .i64 b) ∧ w'.cell? ⟨w.heap.size + 1, 1, none⟩ = some (.int .i64 t))
        (first | exact T0.1 | exact T0d.1 | exact T1.1 | exact T2.1)
        (first
          | (go_at_call 176; refine (end_any a s _ (by omega) (by omega) (by omega) (by omega)).mono ?_; rintro e W2 ⟨rfl, B2⟩; have T2 := Two.bel (by assumption) B2 rfl)
          | (go_at_call 176; refine (end_any b t _ (by omega) (by omega) (by omega) (by omega)).mono ?_; rintro e W1 ⟨rfl, B1⟩; have T1 := Two.bel (by assumption) B1 rfl))
      all_goals
        go_wp2
        go_ret
        exact ⟨ret_bool (by unfold ovB; rw [K.out, K3.out]; rfl), T2.2⟩
  · have K := Lib.hid q2
    go_enter Tryz.func178, Tryz.ntmps178
    go_wp2
    generalize (w.alloc (.cells #[.int .i64 a, .int .i64 s] 119)).alloc (.cells #[.int .i64 b, .int .i64 t] 119) = W0 at *
    have T0d : Two w.heap.size w a s b t W0.drew := ⟨T0.1, T0.2.drew⟩
    obtain ⟨⟨c0, c1, c2, c3⟩, B0⟩ := id T0
    first
      | go_region_with (go_at_call 176; refine (end_any b t _ (by omega) (by omega) (by omega) (by omega)).mono ?_; rintro e W1 ⟨rfl, B1⟩; have T1 := Two.bel T0d B1 rfl; obtain ⟨⟨d0, d1, d2, d3⟩, BB⟩ := id T1)
      | fail "x"
    all_goals
      go_wp2
      go_ret
      exact ⟨ret_bool (by unfold ovB; rw [K.out]; rfl), T1.2⟩
end Go.Proofs.YteakglkagmghpaaGreat.Gr

/-
  Contracts of package ground: has, the three closures, slices.IndexFunc and first over them.
-/
namespace Go.Proofs.YteakglkagmghpaaGreat.Gr
open Go.ChangeShapes Go.WideShapes Go.ChangeAt Go.RowKit Gm
set_option linter.unusedVariables false
set_option linter.unusedSimpArgs false
attribute [local go_sem ↓] Go.wp_at_zero Go.wp_at_succ

def hasB (A S a z : Int) : Bool := decide (A ≤ a ∧ a ≤ A + S ∧ z ≤ A + S - a)
set_option maxHeartbeats 8000000 in
theorem has_any (w : World) (Y : Ly) (B : Nat) (A S a z : Int) (c0 : w.cell? ⟨B, Y.o, none⟩ = some (.int .i64 A)) (c1 : w.cell? ⟨B, Y.o + 1, none⟩ = some (.int .i64 S)) (h1 : 0 ≤ A) (h2 : A ≤ 65536) (h3 : 0 ≤ S) (h4 : S ≤ 65536) :
    Calls Tryz.prog 174 #[.pointer (some ⟨B, Y.o, none⟩), .int .i64 a, .int .i64 z] w fun e w' => e = .returned (.bool (hasB A S a z)) ∧ Below w.heap.size w w' := by
  by_cases hw : A ≤ a ∧ a ≤ A + S
  · have q : withinB a A (A + S) = true := decide_eq_true hw
    obtain ⟨k1, k2⟩ := hw
    have q3 : decide (z ≤ A + S - a) = true ∨ decide (z ≤ A + S - a) = false := by cases decide (z ≤ A + S - a) <;> simp
    have hB := Lib.hid (show hasB A S a z = decide (z ≤ A + S - a) by unfold hasB; exact decide_eq_decide.2 (by omega))
    have T0d : (w.drew.cell? ⟨B, Y.o, none⟩ = some (.int .i64 A) ∧ w.drew.cell? ⟨B, Y.o + 1, none⟩ = some (.int .i64 S)) := ⟨c0, c1⟩
    rcases q3 with q3 | q3
    all_goals
      have K3 := Lib.hid q3
      have HW := Lib.hid (show IntKind.i64.wrap (A + S - a) = A + S - a from IntWalk.i64_in _ (by omega))
      go_enter Tryz.func174, Tryz.ntmps174
      go_wp2
      go_region_held3 (fun w' => w'.cell? ⟨B, Y.o, none⟩ = some (.int .i64 A) ∧ w'.cell? ⟨B, Y.o + 1, none⟩ = some (.int .i64 S))
        (first | exact ⟨c0, c1⟩ | exact T0d | exact T1 | exact T2 | assumption)
        (first
          | (go_at_call 176; refine (end_any A S w.drew (by omega) (by omega) (by omega) (by omega)).mono ?_; rintro e W1 ⟨rfl, B1⟩; have T1 := And.intro (bel B1 c0) (bel B1 c1))
          | (go_at_call 176; refine (end_any A S W1 (by omega) (by omega) (by omega) (by omega)).mono ?_; rintro e W2 ⟨rfl, B2⟩; have T2 := And.intro (bel B2 T1.1) (bel B2 T1.2))
          | (go_at_call 90; refine (within_any _ _ _ _).mono ?_; rintro e w' ⟨rfl, rfl⟩))
      all_goals
        go_wp2
        go_ret
        exact ⟨ret_bool (by rw [HW.out, hB.out]), ((Below.refl w.heap.size w).drew.trans B1).trans (B2.mono B1.size)⟩
  · have q : withinB a A (A + S) = false := decide_eq_false hw
    have hB := Lib.hid (show hasB A S a z = false by unfold hasB; exact decide_eq_false (by omega))
    clear hw
    go_enter Tryz.func174, Tryz.ntmps174
    go_wp2
    refine wp_region_held_drew (S := (fun w' => w'.cell? ⟨B, Y.o, none⟩ = some (.int .i64 A) ∧ w'.cell? ⟨B, Y.o + 1, none⟩ = some (.int .i64 S))) (by kernel_rfl) ?_ (fun hHeld => ?_)
    · exact ⟨c0, c1⟩
    refine wpAnyH_take (i := 0) (oi := ⟨some 7, _, _, _, _, _⟩) (v := ?_) rfl (by kernel_rfl) (by kernel_rfl) (by kernel_rfl) (fun _ _ _ h => h) (Or.inl ⟨by kernel_rfl, ?_⟩) (by assumption) ?_
    rotate_left
    · intro w hSw
      try dsimp only at hSw
      first | (go_simp; done) | (go_simp; with_reducible rfl) | with_reducible rfl
    simp only [Act.put, List.setIfInBounds_toArray, List.set_cons_zero, List.set_cons_succ]
    refine wpAnyH_take (i := 1) (oi := ⟨some 8, _, _, _, _, _⟩) (v := ?_) rfl (by kernel_rfl) (by kernel_rfl) (by kernel_rfl) (fun _ _ _ h => h) (Or.inl ⟨by kernel_rfl, ?_⟩) (by assumption) ?_
    rotate_left
    · intro w hSw
      try dsimp only at hSw
      first | (go_simp; done) | (go_simp; with_reducible rfl) | with_reducible rfl
    simp only [Act.put, List.setIfInBounds_toArray, List.set_cons_zero, List.set_cons_succ]
    refine wpAnyH_take (i := 2) (oi := ⟨some 9, _, _, _, _, _⟩) (v := ?_) rfl (by kernel_rfl) (by kernel_rfl) (by kernel_rfl) (fun _ _ _ h => h) (Or.inl ⟨by kernel_rfl, ?_⟩) (by assumption) ?_
    rotate_left
    · intro w hSw
      try dsimp only at hSw
      first | (go_simp; done) | (go_simp; with_reducible rfl) | with_reducible rfl
    simp only [Act.put, List.setIfInBounds_toArray, List.set_cons_zero, List.set_cons_succ]
    refine wpAnyH_take (i := 3) (oi := ⟨some 10, _, _, _, _, _⟩) (v := ?_) rfl (by kernel_rfl) (by kernel_rfl) (by kernel_rfl) (fun _ _ _ h => h) (Or.inl ⟨by kernel_rfl, ?_⟩) (by assumption) ?_
    rotate_left
    · intro w hSw
      try dsimp only at hSw
      first | (go_simp; done) | (go_simp; with_reducible rfl) | with_reducible rfl
    simp only [Act.put, List.setIfInBounds_toArray, List.set_cons_zero, List.set_cons_succ]
    refine wpAnyH_take (i := 4) (oi := ⟨some 11, _, _, _, _, _⟩) (v := ?_) rfl (by kernel_rfl) (by kernel_rfl) (by kernel_rfl) (fun _ _ _ h => h) (Or.inl ⟨by kernel_rfl, ?_⟩) (by assumption) ?_
    rotate_left
    · intro w hSw
      try dsimp only at hSw
      first | (go_simp; done) | (go_simp; with_reducible rfl) | with_reducible rfl
    simp only [Act.put, List.setIfInBounds_toArray, List.set_cons_zero, List.set_cons_succ]
    refine wpAnyH_take (i := 5) (oi := ⟨some 12, _, _, _, _, _⟩) (v := ?_) rfl (by kernel_rfl) (by kernel_rfl) (by kernel_rfl) (fun _ _ _ h => h) (Or.inl ⟨by kernel_rfl, ?_⟩) (by assumption) ?_
    rotate_left
    · intro w hSw
      try dsimp only at hSw
      first | (go_simp; done) | (go_simp; with_reducible rfl) | with_reducible rfl
    simp only [Act.put, List.setIfInBounds_toArray, List.set_cons_zero, List.set_cons_succ]
    refine wpAnyH_take (i := 6) (oi := ⟨some 13, _, _, _, _, _⟩) (v := ?_) rfl (by kernel_rfl) (by kernel_rfl) (by kernel_rfl) (fun _ _ _ h => h) (Or.inl ⟨by kernel_rfl, ?_⟩) (by assumption) ?_
    rotate_left
    · intro w hSw
      try dsimp only at hSw
      first | (go_simp; done) | (go_simp; with_reducible rfl) | with_reducible rfl
    simp only [Act.put, List.setIfInBounds_toArray, List.set_cons_zero, List.set_cons_succ]
    refine wpAnyH_take (i := 7) (oi := ⟨some 14, _, _, _, _, _⟩) (v := ?_) rfl (by kernel_rfl) (by kernel_rfl) (by kernel_rfl) (fun _ _ _ h => h) (Or.inl ⟨by kernel_rfl, ?_⟩) (by assumption) ?_
    rotate_left
    · intro w hSw
      try dsimp only at hSw
      first | (go_simp; done) | (go_simp; with_reducible rfl) | with_reducible rfl
    simp only [Act.put, List.setIfInBounds_toArray, List.set_cons_zero, List.set_cons_succ]
    refine wpAnyH_take (i := 8) (oi := ⟨some 15, _, _, _, _, _⟩) (v := ?_) rfl (by kernel_rfl) (by kernel_rfl) (by kernel_rfl) (fun _ _ _ h => h) (Or.inl ⟨by kernel_rfl, ?_⟩) (by assumption) ?_
    rotate_left
    · intro w hSw
      try dsimp only at hSw
      first | (go_simp; done) | (go_simp; with_reducible rfl) | with_reducible rfl
    simp only [Act.put, List.setIfInBounds_toArray, List.set_cons_zero, List.set_cons_succ]
    refine wpAnyH_take (i := 9) (oi := ⟨some 16, _, _, _, _, _⟩) (v := ?_) rfl (by kernel_rfl) (by kernel_rfl) (by kernel_rfl) (fun _ _ _ h => h) (Or.inl ⟨by kernel_rfl, ?_⟩) (by assumption) ?_
    rotate_left
    · intro w hSw
      try dsimp only at hSw
      first | (go_simp; done) | (go_simp; with_reducible rfl) | with_reducible rfl
    simp only [Act.put, List.setIfInBounds_toArray, List.set_cons_zero, List.set_cons_succ]
    refine wpAnyH_ready (rs := [10]) (by kernel_rfl) (by simp) ?_
    refine AllReadyH.cons rfl (fun K hK => ?_) AllReadyH.nil
    go_simp
    go_wp2_with (go_at_call 176; refine (end_any A S _ (by omega) (by omega) (by omega) (by omega)).mono ?_; rintro e W1 ⟨rfl, B1⟩)
    refine hK.out _ _ ?_ (fun hHeld => ?_)
    · exact ⟨bel B1 c0, bel B1 c1⟩
    clear hK K
    refine wpAnyH_ready (rs := [11]) (by kernel_rfl) (by simp) ?_
    refine AllReadyH.cons rfl (fun K hK => ?_) AllReadyH.nil
    go_simp
    go_wp2_with (go_at_call 90; refine (within_any _ _ _ _).mono ?_; rintro e w' ⟨rfl, rfl⟩)
    refine hK.out _ _ ?_ (fun hHeld => ?_)
    · assumption
    clear hK K
    refine wpAnyH_take (i := 12) (oi := ⟨some 19, _, _, _, _, _⟩) (v := ?_) rfl (by kernel_rfl) (by kernel_rfl) (by kernel_rfl) (fun _ _ _ h => h) (Or.inl ⟨by kernel_rfl, ?_⟩) (by assumption) ?_
    rotate_left
    · intro w hSw
      try dsimp only at hSw
      first | (go_simp; done) | (go_simp; with_reducible rfl) | with_reducible rfl
    simp only [Act.put, List.setIfInBounds_toArray, List.set_cons_zero, List.set_cons_succ]
    refine wpAnyH_take (i := 13) (oi := ⟨some 20, _, _, _, _, _⟩) (v := undef) rfl (by kernel_rfl) (by kernel_rfl) (by kernel_rfl) (fun _ _ _ h => h) (Or.inr ⟨by kernel_rfl, rfl⟩) (by assumption) ?_
    simp only [Act.put, List.setIfInBounds_toArray, List.set_cons_zero, List.set_cons_succ]
    refine wpAnyH_take (i := 14) (oi := ⟨some 21, _, _, _, _, _⟩) (v := undef) rfl (by kernel_rfl) (by kernel_rfl) (by kernel_rfl) (fun _ _ _ h => h) (Or.inr ⟨by kernel_rfl, rfl⟩) (by assumption) ?_
    simp only [Act.put, List.setIfInBounds_toArray, List.set_cons_zero, List.set_cons_succ]
    refine wpAnyH_take (i := 15) (oi := ⟨some 22, _, _, _, _, _⟩) (v := undef) rfl (by kernel_rfl) (by kernel_rfl) (by kernel_rfl) (fun _ _ _ h => h) (Or.inr ⟨by kernel_rfl, rfl⟩) (by assumption) ?_
    simp only [Act.put, List.setIfInBounds_toArray, List.set_cons_zero, List.set_cons_succ]
    refine wpAnyH_take (i := 16) (oi := ⟨some 23, _, _, _, _, _⟩) (v := undef) rfl (by kernel_rfl) (by kernel_rfl) (by kernel_rfl) (fun _ _ _ h => h) (Or.inr ⟨by kernel_rfl, rfl⟩) (by assumption) ?_
    simp only [Act.put, List.setIfInBounds_toArray, List.set_cons_zero, List.set_cons_succ]
    refine wpAnyH_take (i := 17) (oi := ⟨some 24, _, _, _, _, _⟩) (v := undef) rfl (by kernel_rfl) (by kernel_rfl) (by kernel_rfl) (fun _ _ _ h => h) (Or.inr ⟨by kernel_rfl, rfl⟩) (by assumption) ?_
    simp only [Act.put, List.setIfInBounds_toArray, List.set_cons_zero, List.set_cons_succ]
    refine wpAnyH_take (i := 18) (oi := ⟨some 25, _, _, _, _, _⟩) (v := undef) rfl (by kernel_rfl) (by kernel_rfl) (by kernel_rfl) (fun _ _ _ h => h) (Or.inr ⟨by kernel_rfl, rfl⟩) (by assumption) ?_
    simp only [Act.put, List.setIfInBounds_toArray, List.set_cons_zero, List.set_cons_succ]
    refine wpAnyH_take (i := 19) (oi := ⟨some 26, _, _, _, _, _⟩) (v := undef) rfl (by kernel_rfl) (by kernel_rfl) (by kernel_rfl) (fun _ _ _ h => h) (Or.inr ⟨by kernel_rfl, rfl⟩) (by assumption) ?_
    simp only [Act.put, List.setIfInBounds_toArray, List.set_cons_zero, List.set_cons_succ]
    refine wpAnyH_take (i := 20) (oi := ⟨some 27, _, _, _, _, _⟩) (v := undef) rfl (by kernel_rfl) (by kernel_rfl) (by kernel_rfl) (fun _ _ _ h => h) (Or.inr ⟨by kernel_rfl, rfl⟩) (by assumption) ?_
    simp only [Act.put, List.setIfInBounds_toArray, List.set_cons_zero, List.set_cons_succ]
    refine wpAnyH_take (i := 21) (oi := ⟨some 28, _, _, _, _, _⟩) (v := undef) rfl (by kernel_rfl) (by kernel_rfl) (by kernel_rfl) (fun _ _ _ h => h) (Or.inr ⟨by kernel_rfl, rfl⟩) (by assumption) ?_
    simp only [Act.put, List.setIfInBounds_toArray, List.set_cons_zero, List.set_cons_succ]
    refine wpAnyH_take (i := 22) (oi := ⟨some 29, _, _, _, _, _⟩) (v := ?_) rfl (by kernel_rfl) (by kernel_rfl) (by kernel_rfl) (fun _ _ _ h => h) (Or.inl ⟨by kernel_rfl, ?_⟩) (by assumption) ?_
    rotate_left
    · intro w hSw
      try dsimp only at hSw
      first | (go_simp; done) | (go_simp; with_reducible rfl) | with_reducible rfl
    simp only [Act.put, List.setIfInBounds_toArray, List.set_cons_zero, List.set_cons_succ]
    refine wpAnyH_take (i := 23) (oi := ⟨some 6, _, _, _, _, _⟩) (v := ?_) rfl (by kernel_rfl) (by kernel_rfl) (by kernel_rfl) (fun _ _ _ h => h) (Or.inl ⟨by kernel_rfl, ?_⟩) (by assumption) ?_
    rotate_left
    · intro w hSw
      try dsimp only at hSw
      first | (go_simp; done) | (go_simp; with_reducible rfl) | with_reducible rfl
    simp only [Act.put, List.setIfInBounds_toArray, List.set_cons_zero, List.set_cons_succ]
    refine wpAnyH_done (by kernel_rfl) ?_ _
    go_wp2
    go_ret
    exact ⟨ret_bool hB.out.symm, (Below.refl w.heap.size w).drew.trans B1⟩
end Go.Proofs.YteakglkagmghpaaGreat.Gr

/-
  Contracts of package ground: the three closures, slices.IndexFunc and first over each of them.
-/
namespace Go.Proofs.YteakglkagmghpaaGreat.Gr
open Go.ChangeShapes Go.WideShapes Go.ChangeAt Go.RowKit Gm
set_option linter.unusedVariables false
set_option linter.unusedSimpArgs false
attribute [local go_sem ↓] Go.wp_at_zero Go.wp_at_succ

theorem cell_lt {w : World} {b o : Nat} {v : Value} (c : w.cell? ⟨b, o, none⟩ = some v) : b < w.heap.size := by
  rcases Nat.lt_or_ge b w.heap.size with hlt | hge
  · exact hlt
  · simp [World.cell?, Array.getElem?_eq_none hge] at c
theorem cell_alloc {w : World} {b o : Nat} {v : Value} (c : w.cell? ⟨b, o, none⟩ = some v) (x : Obj) : (w.alloc x).cell? ⟨b, o, none⟩ = some v :=
  (World.cell?_alloc_lt w x ⟨b, o, none⟩ (cell_lt c)).trans c

set_option maxHeartbeats 400000 in
theorem clo1_any (a s z : Int) (q : Nat) (w : World) (c : w.cell? ⟨q, 0, none⟩ = some (.int .i64 z)) :
    Calls Tryz.prog 171 #[ext a s, .pointer (some ⟨q, 0, none⟩)] w fun e w' => e = .returned (.bool (decide (z ≤ s))) ∧ Below w.heap.size w w' := by
  have c' := cell_alloc c (.cells #[.int .i64 a, .int .i64 s] 119)
  go_enter Tryz.func171, Tryz.ntmps171
  go_wp2
  go_ret
  exact ⟨rfl, (Below.refl _ _).alloc (Nat.le_refl _) _⟩

set_option maxHeartbeats 1000000 in
theorem clo2_any (a s x : Int) (q : Nat) (w : World) (c : w.cell? ⟨q, 0, none⟩ = some (.int .i64 x)) (h1 : 0 ≤ a) (h2 : a ≤ 1000000) (h3 : 0 ≤ s) (h4 : s ≤ 1000000) :
    Calls Tryz.prog 175 #[ext a s, .pointer (some ⟨q, 0, none⟩)] w fun e w' => e = .returned (.bool (decide (x ≤ a + s))) ∧ Below w.heap.size w w' := by
  have c' := cell_alloc c (.cells #[.int .i64 a, .int .i64 s] 119)
  have d0 : (w.alloc (.cells #[.int .i64 a, .int .i64 s] 119)).cell? ⟨w.heap.size, 0, none⟩ = some (.int .i64 a) := by simp [go_sem]
  have d1 : (w.alloc (.cells #[.int .i64 a, .int .i64 s] 119)).cell? ⟨w.heap.size, 1, none⟩ = some (.int .i64 s) := by simp [go_sem]
  have B0 : Below w.heap.size w (w.alloc (.cells #[.int .i64 a, .int .i64 s] 119)) := (Below.refl _ _).alloc (Nat.le_refl _) _
  go_enter Tryz.func175, Tryz.ntmps175
  go_wp2
  generalize w.alloc (.cells #[.int .i64 a, .int .i64 s] 119) = W0 at *
  go_region_held3 (fun w' => w'.cell? ⟨q, 0, none⟩ = some (.int .i64 x) ∧ w'.cell? ⟨w.heap.size, 0, none⟩ = some (.int .i64 a) ∧ w'.cell? ⟨w.heap.size, 1, none⟩ = some (.int .i64 s))
    (first | exact ⟨c', d0, d1⟩ | exact ⟨bel B1 c', bel B1 d0, bel B1 d1⟩)
    ((go_at_call 176; refine (end_any a s _ (by omega) (by omega) (by omega) (by omega)).mono ?_; rintro e W1 ⟨rfl, B1⟩))
  all_goals
    go_wp2
    go_ret
    exact ⟨rfl, B0.drew.trans (B1.mono B0.size)⟩

set_option maxHeartbeats 1000000 in
theorem clo3_any (a s x y : Int) (q : Nat) (w : World) (c : w.cell? ⟨q, 0, none⟩ = some (.int .i64 x)) (k : w.cell? ⟨q, 1, none⟩ = some (.int .i64 y)) (h1 : 0 ≤ x) (h2 : x ≤ 1000000) (h3 : 0 ≤ y) (h4 : y ≤ 1000000) :
    Calls Tryz.prog 177 #[ext a s, .pointer (some ⟨q, 0, none⟩)] w fun e w' => e = .returned (.bool (decide (x + y < a))) ∧ Below w.heap.size w w' := by
  have c' := cell_alloc c (.cells #[.int .i64 a, .int .i64 s] 119)
  have k' := cell_alloc k (.cells #[.int .i64 a, .int .i64 s] 119)
  have d0 : (w.alloc (.cells #[.int .i64 a, .int .i64 s] 119)).cell? ⟨w.heap.size, 0, none⟩ = some (.int .i64 a) := by simp [go_sem]
  have B0 : Below w.heap.size w (w.alloc (.cells #[.int .i64 a, .int .i64 s] 119)) := (Below.refl _ _).alloc (Nat.le_refl _) _
  go_enter Tryz.func177, Tryz.ntmps177
  go_wp2
  generalize w.alloc (.cells #[.int .i64 a, .int .i64 s] 119) = W0 at *
  go_region_held3 (fun w' => w'.cell? ⟨q, 0, none⟩ = some (.int .i64 x) ∧ w'.cell? ⟨q, 1, none⟩ = some (.int .i64 y) ∧ w'.cell? ⟨w.heap.size, 0, none⟩ = some (.int .i64 a))
    (first | exact ⟨c', k', d0⟩ | exact ⟨bel B1 c', bel B1 k', bel B1 d0⟩)
    ((go_at_call 176; refine (end_any x y _ (by omega) (by omega) (by omega) (by omega)).mono ?_; rintro e W1 ⟨rfl, B1⟩))
  all_goals
    go_wp2
    go_ret
    exact ⟨rfl, B0.drew.trans (B1.mono B0.size)⟩

def idxV (P : E → Bool) (L : List E) : Int := if L.findIdx P < L.length then (L.findIdx P : Int) else -1
/-- Where the walk of the row stands: nothing ahead of k is so. -/
theorem findIdx_at {P : E → Bool} {L : List E} {k : Nat} (h : ∀ i (hi : i < L.length), i < k → P L[i] = false) (hk : k < L.length) (hp : P L[k] = true) : L.findIdx P = k := by
  rw [List.findIdx_eq hk]
  exact ⟨hp, fun j hj => by rw [h j (by omega) hj]⟩
theorem findIdx_none {P : E → Bool} {L : List E} (h : ∀ i (hi : i < L.length), i < L.length → P L[i] = false) : L.findIdx P = L.length := by
  rw [List.findIdx_eq_length]
  intro e he
  obtain ⟨i, hi, rfl⟩ := List.mem_iff_getElem.1 he
  exact h i hi hi

set_option maxHeartbeats 2000000 in
theorem idx1_any (w : World) (v : Value) (L : List E) (q : Nat) (z : Int) (hv : Ex w v L) (c0 : w.cell? ⟨q, 0, none⟩ = some (.int .i64 z)) (hl : L.length ≤ 1000000)  :
    Calls Tryz.prog 201 #[v, .func (.func 171) #[] #[.pointer (some ⟨q, 0, none⟩)]] w fun e w' => e = .returned (.int .i64 (idxV (fun e => decide (z ≤ e.2)) L)) ∧ Below w.heap.size w w' := by
  obtain ⟨V, c, rfl⟩ := hv.form
  go_enter Tryz.func201, Tryz.ntmps201
  go_wp2
  go_loopw [8] (fun t wr => ∃ k : Nat, k ≤ L.length ∧ t = .int .i64 k ∧ Below w.heap.size w wr ∧ ∀ i (hi : i < L.length), i < k → (fun e => decide (z ≤ e.2)) L[i] = false) (fun t _ => L.length - (intOf t).toNat)
  case atStart => exact ⟨0, by omega, rfl, Below.refl _ _, fun i _ h => by omega⟩
  case round =>
    obtain ⟨k, hk, rfl, hb, hno⟩ := hrel
    by_cases hlt : k < L.length
    · have hv' := hv.below hb
      obtain ⟨g, c', e, h1, h2, h3, hc⟩ := hv'.at_ (by omega)
      injection e with e1 e2 e3
      subst e1
      clear e2 e3
      obtain ⟨x0, x1⟩ := hc k hlt
      have HNO := Lib.hid hno
      clear hno hc hv'
      have c0k := (hb.cell (p := ⟨q, 0, none⟩) (cell_lt c0)).trans c0
      cases hp : (fun e => decide (z ≤ e.2)) L[k] with
      | true =>
        have HP := Lib.hid hp
        have hp' : decide (z ≤ (L[k]).2) = true := hp
        clear hp
        go_wp2_with (go_at_call 171; refine (clo1_any _ _ z q _ c0k).mono ?_; rintro e W1 ⟨rfl, B1⟩)
        go_ret
        exact ⟨ret_int (by unfold idxV; rw [findIdx_at HNO.out hlt HP.out, if_pos hlt]), hb.trans (B1.mono hb.size)⟩
      | false =>
        have HP := Lib.hid hp
        have hp' : decide (z ≤ (L[k]).2) = false := hp
        clear hp
        go_wp2_with (go_at_call 171; refine (clo1_any _ _ z q _ c0k).mono ?_; rintro e W1 ⟨rfl, B1⟩)
        go_roundw
        case rel =>
          refine ⟨k + 1, by omega, by go_num, hb.trans (B1.mono hb.size), fun i hi h => ?_⟩
          by_cases e : i = k
          · subst e; exact HP.out
          · exact HNO.out i hi (by omega)
        case measure => simp [intOf]; omega
    · obtain rfl : k = L.length := by omega
      have HN := Lib.hid (findIdx_none (P := (fun e => decide (z ≤ e.2))) (L := L) hno)
      clear hno
      go_wp2
      go_ret
      exact ⟨ret_int (by unfold idxV; rw [HN.out, if_neg (by omega)]), hb⟩

set_option maxHeartbeats 2000000 in
theorem idx2_any (w : World) (v : Value) (L : List E) (q : Nat) (x : Int) (hv : Ex w v L) (c0 : w.cell? ⟨q, 0, none⟩ = some (.int .i64 x)) (hl : L.length ≤ 1000000) (hbd : ∀ i (hi : i < L.length), 0 ≤ (L[i]).1 ∧ (L[i]).1 ≤ 1000000 ∧ 0 ≤ (L[i]).2 ∧ (L[i]).2 ≤ 1000000) :
    Calls Tryz.prog 201 #[v, .func (.func 175) #[] #[.pointer (some ⟨q, 0, none⟩)]] w fun e w' => e = .returned (.int .i64 (idxV (fun e => decide (x ≤ e.1 + e.2)) L)) ∧ Below w.heap.size w w' := by
  obtain ⟨V, c, rfl⟩ := hv.form
  go_enter Tryz.func201, Tryz.ntmps201
  go_wp2
  go_loopw [8] (fun t wr => ∃ k : Nat, k ≤ L.length ∧ t = .int .i64 k ∧ Below w.heap.size w wr ∧ ∀ i (hi : i < L.length), i < k → (fun e => decide (x ≤ e.1 + e.2)) L[i] = false) (fun t _ => L.length - (intOf t).toNat)
  case atStart => exact ⟨0, by omega, rfl, Below.refl _ _, fun i _ h => by omega⟩
  case round =>
    obtain ⟨k, hk, rfl, hb, hno⟩ := hrel
    by_cases hlt : k < L.length
    · have hv' := hv.below hb
      obtain ⟨g, c', e, h1, h2, h3, hc⟩ := hv'.at_ (by omega)
      injection e with e1 e2 e3
      subst e1
      clear e2 e3
      obtain ⟨x0, x1⟩ := hc k hlt
      have HNO := Lib.hid hno
      clear hno hc hv'
      have c0k := (hb.cell (p := ⟨q, 0, none⟩) (cell_lt c0)).trans c0
      obtain ⟨b1, b2, b3, b4⟩ := hbd k hlt
      cases hp : (fun e => decide (x ≤ e.1 + e.2)) L[k] with
      | true =>
        have HP := Lib.hid hp
        have hp' : decide (x ≤ (L[k]).1 + (L[k]).2) = true := hp
        clear hp
        go_wp2_with (go_at_call 175; refine (clo2_any _ _ x q _ c0k b1 b2 b3 b4).mono ?_; rintro e W1 ⟨rfl, B1⟩)
        go_ret
        exact ⟨ret_int (by unfold idxV; rw [findIdx_at HNO.out hlt HP.out, if_pos hlt]), hb.trans (B1.mono hb.size)⟩
      | false =>
        have HP := Lib.hid hp
        have hp' : decide (x ≤ (L[k]).1 + (L[k]).2) = false := hp
        clear hp
        go_wp2_with (go_at_call 175; refine (clo2_any _ _ x q _ c0k b1 b2 b3 b4).mono ?_; rintro e W1 ⟨rfl, B1⟩)
        go_roundw
        case rel =>
          refine ⟨k + 1, by omega, by go_num, hb.trans (B1.mono hb.size), fun i hi h => ?_⟩
          by_cases e : i = k
          · subst e; exact HP.out
          · exact HNO.out i hi (by omega)
        case measure => simp [intOf]; omega
    · obtain rfl : k = L.length := by omega
      have HN := Lib.hid (findIdx_none (P := (fun e => decide (x ≤ e.1 + e.2))) (L := L) hno)
      clear hno
      go_wp2
      go_ret
      exact ⟨ret_int (by unfold idxV; rw [HN.out, if_neg (by omega)]), hb⟩

set_option maxHeartbeats 2000000 in
theorem idx3_any (w : World) (v : Value) (L : List E) (q : Nat) (x y : Int) (hv : Ex w v L) (c0 : w.cell? ⟨q, 0, none⟩ = some (.int .i64 x)) (c1 : w.cell? ⟨q, 1, none⟩ = some (.int .i64 y)) (hl : L.length ≤ 1000000) (b1 : 0 ≤ x) (b2 : x ≤ 1000000) (b3 : 0 ≤ y) (b4 : y ≤ 1000000) :
    Calls Tryz.prog 201 #[v, .func (.func 177) #[] #[.pointer (some ⟨q, 0, none⟩)]] w fun e w' => e = .returned (.int .i64 (idxV (fun e => decide (x + y < e.1)) L)) ∧ Below w.heap.size w w' := by
  obtain ⟨V, c, rfl⟩ := hv.form
  go_enter Tryz.func201, Tryz.ntmps201
  go_wp2
  go_loopw [8] (fun t wr => ∃ k : Nat, k ≤ L.length ∧ t = .int .i64 k ∧ Below w.heap.size w wr ∧ ∀ i (hi : i < L.length), i < k → (fun e => decide (x + y < e.1)) L[i] = false) (fun t _ => L.length - (intOf t).toNat)
  case atStart => exact ⟨0, by omega, rfl, Below.refl _ _, fun i _ h => by omega⟩
  case round =>
    obtain ⟨k, hk, rfl, hb, hno⟩ := hrel
    by_cases hlt : k < L.length
    · have hv' := hv.below hb
      obtain ⟨g, c', e, h1, h2, h3, hc⟩ := hv'.at_ (by omega)
      injection e with e1 e2 e3
      subst e1
      clear e2 e3
      obtain ⟨x0, x1⟩ := hc k hlt
      have HNO := Lib.hid hno
      clear hno hc hv'
      have c0k := (hb.cell (p := ⟨q, 0, none⟩) (cell_lt c0)).trans c0
      have c1k := (hb.cell (p := ⟨q, 1, none⟩) (cell_lt c1)).trans c1
      cases hp : (fun e => decide (x + y < e.1)) L[k] with
      | true =>
        have HP := Lib.hid hp
        have hp' : decide (x + y < (L[k]).1) = true := hp
        clear hp
        go_wp2_with (go_at_call 177; refine (clo3_any _ _ x y q _ c0k c1k b1 b2 b3 b4).mono ?_; rintro e W1 ⟨rfl, B1⟩)
        go_ret
        exact ⟨ret_int (by unfold idxV; rw [findIdx_at HNO.out hlt HP.out, if_pos hlt]), hb.trans (B1.mono hb.size)⟩
      | false =>
        have HP := Lib.hid hp
        have hp' : decide (x + y < (L[k]).1) = false := hp
        clear hp
        go_wp2_with (go_at_call 177; refine (clo3_any _ _ x y q _ c0k c1k b1 b2 b3 b4).mono ?_; rintro e W1 ⟨rfl, B1⟩)
        go_roundw
        case rel =>
          refine ⟨k + 1, by omega, by go_num, hb.trans (B1.mono hb.size), fun i hi h => ?_⟩
          by_cases e : i = k
          · subst e; exact HP.out
          · exact HNO.out i hi (by omega)
        case measure => simp [intOf]; omega
    · obtain rfl : k = L.length := by omega
      have HN := Lib.hid (findIdx_none (P := (fun e => decide (x + y < e.1))) (L := L) hno)
      clear hno
      go_wp2
      go_ret
      exact ⟨ret_int (by unfold idxV; rw [HN.out, if_neg (by omega)]), hb⟩

set_option maxHeartbeats 1000000 in
theorem first1_any (w : World) (Y : Ly) (B K : Nat) (A S : Int) (L : List E) (q : Nat) (z : Int) (h : Gr w Y B K A S L) (c0 : w.cell? ⟨q, 0, none⟩ = some (.int .i64 z)) (hl : L.length ≤ 1000000)  :
    Calls Tryz.prog 170 #[.pointer (some ⟨B, Y.o, none⟩), .func (.func 171) #[] #[.pointer (some ⟨q, 0, none⟩)]] w fun e w' => e = .returned (.int .i64 (L.findIdx (fun e => decide (z ≤ e.2)) : Nat)) ∧ Below w.heap.size w w' := by
  obtain ⟨v, h1, hv, _, _⟩ := h
  obtain ⟨V, c, rfl⟩ := hv.form
  have x2 : w.cell? ⟨B, Y.o + 2, none⟩ = some (.slice V L.length c) := Ly.cell2 h1
  have hle : L.findIdx (fun e => decide (z ≤ e.2)) ≤ L.length := List.findIdx_le_length
  by_cases hf : L.findIdx (fun e => decide (z ≤ e.2)) < L.length
  · have E1 := Lib.hid (show idxV (fun e => decide (z ≤ e.2)) L = (L.findIdx (fun e => decide (z ≤ e.2)) : Nat) by unfold idxV; rw [if_pos hf])
    generalize L.findIdx (fun e => decide (z ≤ e.2)) = m at *
    go_enter Tryz.func170, Tryz.ntmps170
    go_wp2_with fail
    refine (idx1_any w _ L q z hv c0 hl).mono ?_
    rintro e w1 ⟨rfl, k1⟩
    rw [E1.out]
    go_wp2
    go_ret
    exact ⟨rfl, k1⟩
  · have E1 := Lib.hid (show idxV (fun e => decide (z ≤ e.2)) L = -1 by unfold idxV; rw [if_neg hf])
    have E2 := Lib.hid (show L.findIdx (fun e => decide (z ≤ e.2)) = L.length by omega)
    have HL := Lib.hid hle
    clear hf hle
    go_enter Tryz.func170, Tryz.ntmps170
    go_wp2_with fail
    refine (idx1_any w _ L q z hv c0 hl).mono ?_
    rintro e w1 ⟨rfl, k1⟩
    have x3 := bel k1 x2
    rw [E1.out]
    go_wp2
    go_ret
    exact ⟨ret_int (by rw [E2.out]), k1⟩

set_option maxHeartbeats 1000000 in
theorem first2_any (w : World) (Y : Ly) (B K : Nat) (A S : Int) (L : List E) (q : Nat) (x : Int) (h : Gr w Y B K A S L) (c0 : w.cell? ⟨q, 0, none⟩ = some (.int .i64 x)) (hl : L.length ≤ 1000000) (hbd : ∀ i (hi : i < L.length), 0 ≤ (L[i]).1 ∧ (L[i]).1 ≤ 1000000 ∧ 0 ≤ (L[i]).2 ∧ (L[i]).2 ≤ 1000000) :
    Calls Tryz.prog 170 #[.pointer (some ⟨B, Y.o, none⟩), .func (.func 175) #[] #[.pointer (some ⟨q, 0, none⟩)]] w fun e w' => e = .returned (.int .i64 (L.findIdx (fun e => decide (x ≤ e.1 + e.2)) : Nat)) ∧ Below w.heap.size w w' := by
  obtain ⟨v, h1, hv, _, _⟩ := h
  obtain ⟨V, c, rfl⟩ := hv.form
  have x2 : w.cell? ⟨B, Y.o + 2, none⟩ = some (.slice V L.length c) := Ly.cell2 h1
  have hle : L.findIdx (fun e => decide (x ≤ e.1 + e.2)) ≤ L.length := List.findIdx_le_length
  by_cases hf : L.findIdx (fun e => decide (x ≤ e.1 + e.2)) < L.length
  · have E1 := Lib.hid (show idxV (fun e => decide (x ≤ e.1 + e.2)) L = (L.findIdx (fun e => decide (x ≤ e.1 + e.2)) : Nat) by unfold idxV; rw [if_pos hf])
    generalize L.findIdx (fun e => decide (x ≤ e.1 + e.2)) = m at *
    go_enter Tryz.func170, Tryz.ntmps170
    go_wp2_with fail
    refine (idx2_any w _ L q x hv c0 hl hbd).mono ?_
    rintro e w1 ⟨rfl, k1⟩
    rw [E1.out]
    go_wp2
    go_ret
    exact ⟨rfl, k1⟩
  · have E1 := Lib.hid (show idxV (fun e => decide (x ≤ e.1 + e.2)) L = -1 by unfold idxV; rw [if_neg hf])
    have E2 := Lib.hid (show L.findIdx (fun e => decide (x ≤ e.1 + e.2)) = L.length by omega)
    have HL := Lib.hid hle
    clear hf hle
    go_enter Tryz.func170, Tryz.ntmps170
    go_wp2_with fail
    refine (idx2_any w _ L q x hv c0 hl hbd).mono ?_
    rintro e w1 ⟨rfl, k1⟩
    have x3 := bel k1 x2
    rw [E1.out]
    go_wp2
    go_ret
    exact ⟨ret_int (by rw [E2.out]), k1⟩

set_option maxHeartbeats 1000000 in
theorem first3_any (w : World) (Y : Ly) (B K : Nat) (A S : Int) (L : List E) (q : Nat) (x y : Int) (h : Gr w Y B K A S L) (c0 : w.cell? ⟨q, 0, none⟩ = some (.int .i64 x)) (c1 : w.cell? ⟨q, 1, none⟩ = some (.int .i64 y)) (hl : L.length ≤ 1000000) (b1 : 0 ≤ x) (b2 : x ≤ 1000000) (b3 : 0 ≤ y) (b4 : y ≤ 1000000) :
    Calls Tryz.prog 170 #[.pointer (some ⟨B, Y.o, none⟩), .func (.func 177) #[] #[.pointer (some ⟨q, 0, none⟩)]] w fun e w' => e = .returned (.int .i64 (L.findIdx (fun e => decide (x + y < e.1)) : Nat)) ∧ Below w.heap.size w w' := by
  obtain ⟨v, h1, hv, _, _⟩ := h
  obtain ⟨V, c, rfl⟩ := hv.form
  have x2 : w.cell? ⟨B, Y.o + 2, none⟩ = some (.slice V L.length c) := Ly.cell2 h1
  have hle : L.findIdx (fun e => decide (x + y < e.1)) ≤ L.length := List.findIdx_le_length
  by_cases hf : L.findIdx (fun e => decide (x + y < e.1)) < L.length
  · have E1 := Lib.hid (show idxV (fun e => decide (x + y < e.1)) L = (L.findIdx (fun e => decide (x + y < e.1)) : Nat) by unfold idxV; rw [if_pos hf])
    generalize L.findIdx (fun e => decide (x + y < e.1)) = m at *
    go_enter Tryz.func170, Tryz.ntmps170
    go_wp2_with fail
    refine (idx3_any w _ L q x y hv c0 c1 hl b1 b2 b3 b4).mono ?_
    rintro e w1 ⟨rfl, k1⟩
    rw [E1.out]
    go_wp2
    go_ret
    exact ⟨rfl, k1⟩
  · have E1 := Lib.hid (show idxV (fun e => decide (x + y < e.1)) L = -1 by unfold idxV; rw [if_neg hf])
    have E2 := Lib.hid (show L.findIdx (fun e => decide (x + y < e.1)) = L.length by omega)
    have HL := Lib.hid hle
    clear hf hle
    go_enter Tryz.func170, Tryz.ntmps170
    go_wp2_with fail
    refine (idx3_any w _ L q x y hv c0 c1 hl b1 b2 b3 b4).mono ?_
    rintro e w1 ⟨rfl, k1⟩
    have x3 := bel k1 x2
    rw [E1.out]
    go_wp2
    go_ret
    exact ⟨ret_int (by rw [E2.out]), k1⟩
end Go.Proofs.YteakglkagmghpaaGreat.Gr

/-
  Contracts of package ground: replace, New, Free.
-/
namespace Go.Proofs.YteakglkagmghpaaGreat.Gr
open Go.ChangeShapes Go.WideShapes Go.ChangeAt Go.RowKit Gm
set_option linter.unusedVariables false
set_option linter.unusedSimpArgs false

theorem Ex.form3 {w : World} {v : Value} {L : List E} (h : Ex w v L) : ∃ V n c, v = .slice V n c := by
  obtain ⟨V, c, e⟩ := h.form
  exact ⟨V, _, c, e⟩
theorem take_tight {w : World} {g : Nat} {L : List E} {low : Nat} (hl : low ≤ L.length) (hg : g < w.heap.size)
    (hc : ∀ i (h : i < L.length), w.cell? ⟨g, i * 2, none⟩ = some (.int .i64 (L[i]).1) ∧ w.cell? ⟨g, i * 2 + 1, none⟩ = some (.int .i64 (L[i]).2)) : Tight w (.slice (some ⟨g, 0, none⟩) low low) (L.take low) := by
  have e : (L.take low).length = low := by rw [List.length_take]; omega
  refine .inr ⟨g, by rw [e], hg, fun i hi => ?_⟩
  rw [List.getElem_take]
  exact hc i (by omega)
theorem drop_sr {w : World} {g : Nat} {L : List E} {high : Nat} (hl : high ≤ L.length) (hg : g < w.heap.size)
    (hc : ∀ i (h : i < L.length), w.cell? ⟨g, i * 2, none⟩ = some (.int .i64 (L[i]).1) ∧ w.cell? ⟨g, i * 2 + 1, none⟩ = some (.int .i64 (L[i]).2)) (d : Nat) : Sr w (.slice (some ⟨g, high * 2, none⟩) (L.length - high) d) (L.drop high) := by
  have e : (L.drop high).length = L.length - high := List.length_drop
  refine ⟨_, d, by rw [e], fun _ => ⟨g, high * 2, rfl, hg, fun i hi => ?_⟩⟩
  rw [List.getElem_drop, ← Nat.add_mul]
  exact hc (high + i) (by omega)
theorem drop_sr_end {w : World} {A : Option Addr} {L : List E} {high : Nat} (hl : high = L.length) (d : Nat) : Sr w (.slice A 0 d) (L.drop high) := by
  have e : L.drop high = [] := List.drop_eq_nil_of_le (by omega)
  rw [e]
  exact ⟨A, d, rfl, fun h => absurd h (by simp)⟩

theorem set_head {w : World} {Y : Ly} {B : Nat} {A S : Int} {v v' : Value} (h : w.rowIs B Y.T Y.n (Y.hd A S v)) : (w.setCell ⟨B, Y.o + 2, none⟩ v').rowIs B Y.T Y.n (Y.hd A S v') := by
  refine (h.set (Y.o + 2) v').congr fun i hi => ?_
  by_cases e : i = Y.o + 2
  · subst e; simp [Y.hd2]
  · unfold Ly.hd
    simp [e]

/-- What replace leaves. -/
theorem repl_end {w w2 : World} {Y : Ly} {B K : Nat} {A S : Int} {v va v2 : Value} {R : List E} {n : Nat} (h1 : w.rowIs B Y.T Y.n (Y.hd A S v)) (hB : v.ownBlock ≠ some B) (hK : v.ownBlock ≠ some K) (hKl : K < w.heap.size)
    (hva : va.ownBlock = none ∨ va.ownBlock = v.ownBlock) (he : Ex w2 v2 R) (hg : (w.drewN n).grownBy w2 none) (ht : Ty w v) (hat : ∀ g, v2.ownBlock = some g → va.ownBlock = some g ∨ (w.drewN n).heap.size ≤ g ∧ ∃ cs fz, w2.heap[g]? = some (.cells cs 119 fz)) :
    Gr (w2.setCell ⟨B, Y.o + 2, none⟩ v2) Y B K A S R ∧ w.grownBy (w2.setCell ⟨B, Y.o + 2, none⟩ v2) (some B) := by
  have hs : (w.drewN n).heap.size = w.heap.size := rfl
  have h2 : w2.rowIs B Y.T Y.n (Y.hd A S v) := h1.of_block (hg.block B h1.lt (by simp))
  have far : ∀ k, k < w.heap.size → v.ownBlock ≠ some k → v2.ownBlock ≠ some k := by
    intro k hk hv e
    rcases hat k e with e' | e'
    · rcases hva with x | x
      · rw [x] at e'; cases e'
      · exact hv (x.symm.trans e')
    · have := e'.1
      omega
  have hb2 := far B h1.lt hB
  have ty2 : Ty w2 v2 := by
    intro g hgv
    rcases hat g hgv with e' | e'
    · rcases hva with x | x
      · rw [x] at e'; cases e'
      · obtain ⟨cs, fz, e⟩ := ht g (x.symm.trans e')
        have hlt : g < w.heap.size := by
          rcases Nat.lt_or_ge g w.heap.size with c | c
          · exact c
          · rw [Array.getElem?_eq_none c] at e; cases e
        exact ⟨cs, fz, (hg.block g hlt (by simp)).trans e⟩
    · exact e'.2
  refine ⟨⟨v2, set_head h2, he.setCell hb2 _, hb2, far K hKl hK, ty2.keep fun g hgv => Below.heap_setCell w2 ⟨B, Y.o + 2, none⟩ v2 g (by rintro rfl; exact hb2 hgv)⟩, only_setCell (only_wide ?_) (Y.o + 2) v2⟩
  exact ⟨hg.os, hg.tape, hg.output, hg.size, hg.block⟩

theorem wpList_run {P : Program} {w : World} {ops : Array Oper} {rest : List Oper} {o : Oper} {a : Act} {Q : Exit → Act → World → Prop} (hgd : o.guard = none) (s x : Operand) (t : TypeId)
    (ho : o.op = .call { callee := .builtin .append, args := #[s, x], argTypes := #[t, t] }) (vs vx : Value) (hs : a.eval s = vs) (hx : a.eval x = vx) {v' : Value} {w' : World}
    (hr : (Builtin.append_ #[t, t] o.type #[vs, vx]).run P w = .ok v' w') (h : wpList P ops Q rest (a.put o.dst v') w') : wpList P ops Q (o :: rest) a w := by
  refine wpList_plain hgd fun K hK => ?_
  unfold Oper.wp execOp
  simp only [ho, resolve, invoke, builtin, Sem.run_bind, Sem.run_pure, Result.andThen_ok, List.map_toArray, List.map_cons, List.map_nil, hs, hx, hr]
  exact hK _ _ h

set_option maxRecDepth 8000 in
set_option maxHeartbeats 2000000 in
theorem replace_any (w : World) (Y : Ly) (B K : Nat) (A S : Int) (L M : List E) (low high : Nat) (x : Value) (h : Gr w Y B K A S L) (hK : K < w.heap.size) (h1 : low ≤ high) (h2 : high ≤ L.length) (hx : Ex w x M) (hM : M.length ≤ 1) (hl : L.length ≤ 200000) :
    Calls Tryz.prog 172 #[.pointer (some ⟨B, Y.o, none⟩), .int .i64 (low : Int), .int .i64 (high : Int), x] w fun e w' => e = .returned (.tuple #[]) ∧ Gr w' Y B K A S (L.take low ++ (M ++ L.drop high)) ∧ w.grownBy w' (some B) := by
  obtain ⟨v, hh, hv, hB, hKv, hty⟩ := h
  have x2 : w.cell? ⟨B, Y.o + 2, none⟩ = some v := Ly.cell2 hh
  have z2 := hh.frozen (Y.o + 2)
  rcases hv with ⟨rfl, rfl⟩ | ⟨g, c, rfl, h3, h4, h5, hc⟩
  · have e2 : high = 0 := by simpa using h2
    subst e2
    have e1 : low = 0 := by omega
    subst e1
    go_enter Tryz.func172, Tryz.ntmps172
    go_wp2
    go_quiet (fail)
    obtain ⟨v1, w1, v2, w2, r1, r2, hE, g1, g2, hat⟩ := app2 (w.drewN nq) (Tight.drewN (w := w) (.inl ⟨rfl, rfl⟩) nq) (hx.sr.drewN nq) (Sr.drewN (w := w) (drop_sr_end (L := []) (high := 0) rfl 0) nq) (by simp; omega)
    obtain ⟨V2, n2, k2, rfl⟩ := hE.form3
    have R := repl_end (K := K) (va := .slice none 0 0) hh hB hKv hK (.inl rfl) hE g2 hty hat
    have y2 : w2.cell? ⟨B, Y.o + 2, none⟩ = some (.slice none 0 0) := (World.cell?_of_block (w := w.drewN nq) (w' := w2) (a := ⟨B, Y.o + 2, none⟩) (g2.block B hh.lt (by simp))).trans x2
    have y3 : w2.frozen? ⟨B, Y.o + 2, none⟩ = false := (World.frozen?_of_block (w := w.drewN nq) (w' := w2) (a := ⟨B, Y.o + 2, none⟩) (g2.block B hh.lt (by simp))).trans z2
    clear hat hE g1 g2
    go_wp2_with (first
      | (at_builtin; refine wpList_run rfl (.tmp 24) (.tmp 25) _ rfl _ _ rfl rfl r1 ?_)
      | (at_builtin; refine wpList_run rfl (.tmp 26) (.tmp 27) _ rfl _ _ rfl rfl r2 ?_))
    go_end0
    exact ⟨rfl, R.1, R.2⟩
  · unfold maxLen at h4
    by_cases hc1 : c = high
    · have e3 : high = L.length := by omega
      subst hc1
      go_enter Tryz.func172, Tryz.ntmps172
      go_wp2
      go_quiet (fail)
      obtain ⟨v1, w1, v2, w2, r1, r2, hE, g1, g2, hat⟩ := app2 (w.drewN nq) (Tight.drewN (w := w) (take_tight (low := low) (by omega) h5 hc) nq) (hx.sr.drewN nq) (Sr.drewN (w := w) (drop_sr_end (L := L) (A := some ⟨g, 0, none⟩) e3 0) nq) (by rw [List.length_take, List.length_drop]; omega)
      obtain ⟨V2, n2, k2, rfl⟩ := hE.form3
      have R := repl_end (K := K) (va := .slice (some ⟨g, 0, none⟩) low low) hh hB hKv hK (.inr rfl) hE g2 hty hat
      have y2 : w2.cell? ⟨B, Y.o + 2, none⟩ = some (.slice (some ⟨g, 0, none⟩) L.length c) := (World.cell?_of_block (w := w.drewN nq) (w' := w2) (a := ⟨B, Y.o + 2, none⟩) (g2.block B hh.lt (by simp))).trans x2
      have y3 : w2.frozen? ⟨B, Y.o + 2, none⟩ = false := (World.frozen?_of_block (w := w.drewN nq) (w' := w2) (a := ⟨B, Y.o + 2, none⟩) (g2.block B hh.lt (by simp))).trans z2
      clear hat hE g1 g2
      go_wp2_with (first
        | (at_builtin; refine wpList_run rfl (.tmp 24) (.tmp 25) _ rfl _ _ rfl rfl r1 ?_)
        | (at_builtin; refine wpList_run rfl (.tmp 26) (.tmp 27) _ rfl _ _ rfl rfl r2 ?_))
      go_end0
      exact ⟨rfl, R.1, R.2⟩
    · have HC := Lib.hid hc
      go_enter Tryz.func172, Tryz.ntmps172
      go_wp2
      go_quiet (fail)
      obtain ⟨v1, w1, v2, w2, r1, r2, hE, g1, g2, hat⟩ := app2 (w.drewN nq) (Tight.drewN (w := w) (take_tight (low := low) (by omega) h5 hc) nq) (hx.sr.drewN nq) (Sr.drewN (w := w) (drop_sr h2 h5 hc (c - high)) nq) (by rw [List.length_take, List.length_drop]; omega)
      obtain ⟨V2, n2, k2, rfl⟩ := hE.form3
      have R := repl_end (K := K) (va := .slice (some ⟨g, 0, none⟩) low low) hh hB hKv hK (.inr rfl) hE g2 hty hat
      have y2 : w2.cell? ⟨B, Y.o + 2, none⟩ = some (.slice (some ⟨g, 0, none⟩) L.length c) := (World.cell?_of_block (w := w.drewN nq) (w' := w2) (a := ⟨B, Y.o + 2, none⟩) (g2.block B hh.lt (by simp))).trans x2
      have y3 : w2.frozen? ⟨B, Y.o + 2, none⟩ = false := (World.frozen?_of_block (w := w.drewN nq) (w' := w2) (a := ⟨B, Y.o + 2, none⟩) (g2.block B hh.lt (by simp))).trans z2
      clear hat hE g1 g2
      go_wp2_with (first
        | (at_builtin; refine wpList_run rfl (.tmp 24) (.tmp 25) _ rfl _ _ rfl rfl r1 ?_)
        | (at_builtin; refine wpList_run rfl (.tmp 26) (.tmp 27) _ rfl _ _ rfl rfl r2 ?_))
      go_end0
      exact ⟨rfl, R.1, R.2⟩

theorem new_gr0 (w : World) (A S : Int) (K : Nat) : Gr (w.alloc (.cells #[.int .i64 A, .int .i64 S, .slice none 0 0] 121)) y0 w.heap.size K A S [] := by
  refine ⟨.slice none 0 0, World.rowIs_alloc w _ _ _ (fun i hi => ?_), .nil _, by simp [Value.ownBlock], by simp [Value.ownBlock], fun g hg => by simp [Value.ownBlock] at hg⟩
  have hi' : i < 3 := hi
  have : i = 0 ∨ i = 1 ∨ i = 2 := by omega
  rcases this with rfl | rfl | rfl <;> rfl
theorem new_gr1 (w : World) (A S : Int) (K : Nat) (hK : K ≤ w.heap.size) : Gr ((w.alloc (.cells #[.int .i64 A, .int .i64 S, .slice (some ⟨w.heap.size + 1, 0, none⟩) 1 1] 121)).alloc (.cells #[.int .i64 A, .int .i64 S] 119)) y0 w.heap.size K A S [(A, S)] := by
  refine ⟨.slice (some ⟨w.heap.size + 1, 0, none⟩) 1 1, (World.rowIs_alloc w _ _ _ (fun i hi => ?_)).alloc _, .inr ⟨_, 1, rfl, Nat.le_refl _, by decide, by simp, fun i hi => ?_⟩, by simp [Value.ownBlock], by simp [Value.ownBlock]; omega, fun g hg => ?_⟩
  · have hi' : i < 3 := hi
    have : i = 0 ∨ i = 1 ∨ i = 2 := by omega
    rcases this with rfl | rfl | rfl <;> rfl
  · have : i = 0 := by simpa using hi
    subst this
    constructor <;> simp [go_sem]
  · injection hg with hg
    have hg' : w.heap.size + 1 = g := hg
    subst hg'
    have := heap_alloc_new (w.alloc (.cells #[.int .i64 A, .int .i64 S, .slice (some ⟨w.heap.size + 1, 0, none⟩) 1 1] 121)) (.cells #[.int .i64 A, .int .i64 S] 119)
    rw [World.size_alloc] at this
    exact ⟨_, _, this⟩

set_option maxHeartbeats 1000000 in
theorem new_any (w : World) (A S : Int) (K : Nat) (hA : boundB A = true) (hS : boundB S = true) (hz : 0 < S) (hK : K ≤ w.heap.size) :
    Calls Tryz.prog 95 #[.int .i64 A, .int .i64 S] w fun e w' => e = .returned (.tuple #[.pointer (some ⟨w.heap.size, 0, none⟩), .int .i64 0]) ∧ Gr w' y0 w.heap.size K A S [(A, S)] ∧ Below w.heap.size w w' := by
  go_enter Tryz.func95, Tryz.ntmps95
  go_wp2_with (go_at_call 139; refine (bound_any _ _).mono ?_; rintro e w' ⟨rfl, rfl⟩)
  go_ret2
  exact ⟨rfl, new_gr1 w A S K hK, ((Below.refl _ _).alloc (Nat.le_refl _) _).alloc (by simp) _⟩
set_option maxHeartbeats 1000000 in
theorem new_zero (w : World) (A : Int) (K : Nat) (hA : boundB A = true) :
    Calls Tryz.prog 95 #[.int .i64 A, .int .i64 0] w fun e w' => e = .returned (.tuple #[.pointer (some ⟨w.heap.size, 0, none⟩), .int .i64 0]) ∧ Gr w' y0 w.heap.size K A 0 [] ∧ Below w.heap.size w w' := by
  have hS : boundB 0 = true := by decide
  go_enter Tryz.func95, Tryz.ntmps95
  go_wp2_with (go_at_call 139; refine (bound_any _ _).mono ?_; rintro e w' ⟨rfl, rfl⟩)
  go_ret2
  exact ⟨rfl, new_gr0 w A 0 K, (Below.refl _ _).alloc (Nat.le_refl _) _⟩
theorem app1 (w : World) {va x : Value} {La M : List E} (h : Tight w va La) (hx : Sr w x M) (hl : La.length + M.length ≤ 1000000) :
    ∃ v1 w1, (Builtin.append_ #[X, X] X #[va, x]).run Tryz.prog w = .ok v1 w1 ∧ Ex w1 v1 (La ++ M) ∧ w.grownBy w1 none ∧ (∀ g, v1.ownBlock = some g → va.ownBlock = some g ∨ w.heap.size ≤ g) := by
  by_cases hm : 0 < M.length
  · obtain ⟨v1, w1, r1, o1, g1⟩ := app_tight w h hx hm hl
    exact ⟨v1, w1, r1, Ex.own o1, g1, fun g hg => .inr (o1.lt g hg).1⟩
  · have e : M = [] := List.eq_nil_of_length_eq_zero (by omega)
    subst e
    have hv : ∃ A, va = .slice A La.length La.length := by
      rcases h with ⟨rfl, rfl⟩ | ⟨g, rfl, _⟩
      · exact ⟨_, rfl⟩
      · exact ⟨_, rfl⟩
    obtain ⟨A, rfl⟩ := hv
    refine ⟨_, w, app_none w A La.length La.length (Nat.le_refl _) hx, ?_, World.grownBy.refl _ _, fun g hg => .inl hg⟩
    rw [List.append_nil]
    exact h.ex (by omega)

/-- A row of one's own that tells L, in blocks from N on. -/
def Told (N : Nat) (L : List E) (w : World) (e : Ending) (w' : World) : Prop := ∃ V c, e = .returned (.slice V L.length c) ∧ Ex w' (.slice V L.length c) L ∧ (∀ g, (Value.slice V L.length c).ownBlock = some g → N ≤ g) ∧ Below w.heap.size w w'
theorem Told.of {N : Nat} {L : List E} {w w' : World} {v : Value} (h : Ex w' v L) (hn : ∀ g, v.ownBlock = some g → N ≤ g) (hb : Below w.heap.size w w') : Told N L w (.returned v) w' := by
  obtain ⟨V, c, rfl⟩ := h.form
  exact ⟨V, c, rfl, h, hn, hb⟩
theorem eql_nil (w : World) : (binOp .eql X (.slice none 0 0) (.slice none 0 0)).run Tryz.prog w = .ok (.bool true) w := Lib.run_eql_slice_nil_nil w 0 0 under_exts
theorem eql_some (a : Addr) (n c : Nat) (w : World) : (binOp .eql X (.slice (some a) n c) (.slice none 0 0)).run Tryz.prog w = .ok (.bool false) w := Lib.run_eql_slice_some_nil w a n c under_exts

set_option maxHeartbeats 1000000 in
theorem clone_any (w : World) (v : Value) (L : List E) (hv : Ex w v L) (hl : L.length ≤ 200000) :
    Calls Tryz.prog 83 #[v] w (Told w.heap.size L w) := by
  rcases id hv with ⟨rfl, rfl⟩ | ⟨g, c, rfl, h3, h4, h5, hc⟩
  · have q := eql_nil
    go_enter Tryz.func83, Tryz.ntmps83
    go_wp2
    go_ret
    exact .of (.nil _) (by simp [Value.ownBlock]) (Below.refl _ _)
  · have q := eql_some ⟨g, 0, none⟩ L.length c
    have hv' := hv.alloc (.cells #[] 119)
    have ht : Tight (w.alloc (.cells #[] 119)) (.slice (some ⟨w.heap.size, 0, none⟩) 0 0) [] := .inr ⟨w.heap.size, rfl, by simp, fun i hi => by simp at hi⟩
    obtain ⟨v1, w1, r1, hE, g1, hat⟩ := app1 _ ht hv'.sr (by simp; omega)
    go_enter Tryz.func83, Tryz.ntmps83
    go_wp2_with (at_builtin; refine wpList_run rfl (.tmp 5) (.tmp 6) _ rfl _ _ rfl rfl r1 ?_)
    go_ret
    refine .of hE (fun k hk => ?_) ((((Below.refl w.heap.size w).alloc (Nat.le_refl _) _)).trans ((below_only g1).mono (by simp)))
    rcases hat k hk with e | e
    · injection e with e
      have e' : w.heap.size = k := e
      omega
    · simp at e
      omega

set_option maxHeartbeats 1000000 in
theorem free_any (w : World) (Y : Ly) (B K : Nat) (A S : Int) (L : List E) (h : Gr w Y B K A S L) (hl : L.length ≤ 200000) :
    Calls Tryz.prog 35 #[.pointer (some ⟨B, Y.o, none⟩)] w (Told w.heap.size L w) := by
  obtain ⟨v, h1, hv, _, _⟩ := h
  obtain ⟨V, c, rfl⟩ := hv.form
  have x2 : w.cell? ⟨B, Y.o + 2, none⟩ = some (.slice V L.length c) := Ly.cell2 h1
  go_enter Tryz.func35, Tryz.ntmps35
  go_wp2_with fail
  refine (clone_any w _ L hv hl).mono ?_
  rintro e w1 ⟨V', c', rfl, hE, hn, hb⟩
  go_wp2
  go_ret
  exact .of hE hn hb
end Go.Proofs.YteakglkagmghpaaGreat.Gr

/-
  Contract of package ground: Carve, for every size.
-/
namespace Go.Proofs.YteakglkagmghpaaGreat.Gr
open Go.ChangeShapes Go.WideShapes Go.ChangeAt Go.RowKit Gm
set_option linter.unusedVariables false
set_option linter.unusedSimpArgs false

def carveB (z : Int) (L : List E) : Bool := sizeB z && fits z L
def carveV (z : Int) (L : List E) : Int := if carveB z L = true then carveA z L else 0
def carveF (z : Int) (L : List E) : List E := if carveB z L = true then carveL z L else L
theorem ret_ib {k : IntKind} {a b : Int} {c d : Bool} (h : a = b) (h' : c = d) : Ending.returned (.tuple #[.int k a, .bool c]) = .returned (.tuple #[.int k b, .bool d]) := by rw [h, h']

theorem Gr.grown {w w' : World} {Y : Ly} {B K : Nat} {A S : Int} {L : List E} (h : Gr w Y B K A S L) (k : w.grownBy w' none) : Gr w' Y B K A S L := h.keep k (by simp) (.inl rfl)

theorem replace_at (w : World) (Y : Ly) (B K : Nat) (A S : Int) (L M : List E) (low high : Nat) (lo hi : Int) (x : Value) (e1 : lo = (low : Int)) (e2 : hi = (high : Int)) (h : Gr w Y B K A S L) (hK : K < w.heap.size) (h1 : low ≤ high) (h2 : high ≤ L.length) (hx : Ex w x M) (hM : M.length ≤ 1) (hl : L.length ≤ 200000) :
    Calls Tryz.prog 172 #[.pointer (some ⟨B, Y.o, none⟩), .int .i64 lo, .int .i64 hi, x] w fun e w' => e = .returned (.tuple #[]) ∧ Gr w' Y B K A S (L.take low ++ (M ++ L.drop high)) ∧ w.grownBy w' (some B) := by
  subst e1
  subst e2
  exact replace_any w Y B K A S L M low high x h hK h1 h2 hx hM hl
/-- A row of one extent that was just made. -/
theorem one_row (w : World) (a s : Int) : Ex (w.alloc (.cells #[.int .i64 a, .int .i64 s] 119)) (.slice (some ⟨w.heap.size, 0, none⟩) 1 1) [(a, s)] := by
  refine .inr ⟨_, 1, rfl, Nat.le_refl _, by decide, by simp, fun i hi => ?_⟩
  have : i = 0 := by simpa using hi
  subst this
  constructor <;> simp [go_sem]

set_option maxHeartbeats 4000000 in
theorem carve_any (w : World) (Y : Ly) (B K : Nat) (A S : Int) (L : List E) (z : Int) (h : Gr w Y B K A S L) (hK : K < w.heap.size) (ok : Ok A S L) (z1 : -9223372036854775808 ≤ z) (z2 : z ≤ 9223372036854775807) :
    Calls Tryz.prog 127 #[.pointer (some ⟨B, Y.o, none⟩), .int .i64 z] w fun e w' => e = .returned (.tuple #[.int .i64 (carveV z L), .bool (carveB z L)]) ∧ Gr w' Y B K A S (carveF z L) ∧ w.grownBy w' (some B) := by
  have hl := ok.len
  have h0 := h.alloc (.cells #[.int .i64 z] 3)
  have g0 : w.grownBy (w.alloc (.cells #[.int .i64 z] 3)) none := only_alloc (World.grownBy.refl _ _) _
  have c0 : (w.alloc (.cells #[.int .i64 z] 3)).cell? ⟨w.heap.size, 0, none⟩ = some (.int .i64 z) := by simp [go_sem]
  have hK0 : K < (w.alloc (.cells #[.int .i64 z] 3)).heap.size := by simp; omega
  by_cases hs : sizeB z = true
  · have ⟨hz, h8⟩ : 0 < z ∧ z % 8 = 0 := of_decide_eq_true hs
    by_cases hi : carveI z L < L.length
    · obtain ⟨k1, k2, k3, k4⟩ := carve_some hi
      have hB := Lib.hid (show carveB z L = true by unfold carveB; rw [hs, k1]; rfl)
      obtain ⟨b1, b2, b3, b4, b5, b6, b7, b8⟩ := ok.at_ hi
      have hlt : L.length ≤ 200000 := by omega
      have K2 := Lib.hid k2
      have K4 := Lib.hid k4
      have K3 := Lib.hid k3
      have k3' : z ≤ (L[carveI z L]).2 := k3
      clear k1 k2 k4 k3
      have HX := Lib.hid (rfl : L[carveI z L] = L[carveI z L])
      generalize hm : carveI z L = m at *
      have HM := Lib.hid hm
      clear hm HX
      go_enter Tryz.func127, Tryz.ntmps127
      go_wp2_with fail
      generalize w.alloc (.cells #[.int .i64 z] 3) = W0 at *
      refine (size_any _ _ z1 z2).mono ?_
      rintro e w' ⟨rfl, rfl⟩
      go_wp2_with fail
      refine (first1_any _ Y B K A S L _ z h0 c0 (by omega)).mono ?_
      rintro e w1 ⟨rfl, k1⟩
      rw [show L.findIdx (fun e => decide (z ≤ e.2)) = m from HM.out]
      have h1 := h0.below k1
      have c1 := bel k1 c0
      have g1 : w.grownBy w1 none := only_trans g0 (only_below k1)
      obtain ⟨v, hh, hv, hvB, hvK⟩ := id h1
      obtain ⟨g, c, rfl, h3, h4, h5, hc⟩ := hv.at_ (by omega)
      obtain ⟨y0, y1⟩ := hc m hi
      have x2 : w1.cell? ⟨B, Y.o + 2, none⟩ = some (.slice (some ⟨g, 0, none⟩) L.length c) := Ly.cell2 hh
      clear hc hh hv hvB hvK
      go_wp2_with fail
      have wr1 : IntKind.i64.wrap ((L[m]).1 + z) = (L[m]).1 + z := IntWalk.i64_in _ (by omega)
      have wr2 : IntKind.i64.wrap ((L[m]).2 - z) = (L[m]).2 - z := IntWalk.i64_in _ (by omega)
      have c1' := cell_alloc c1 (.cells #[.int .i64 0, .int .i64 0] 119)
      have x2' := cell_alloc x2 (.cells #[.int .i64 0, .int .i64 0] 119)
      have y1' := cell_alloc y1 (.cells #[.int .i64 0, .int .i64 0] 119)
      go_region
      clear wr1 wr2
      by_cases d : (L[m]).2 = z
      · have dq : ((L[m]).2 - z == 0) = true := by simp; omega
        have KL := Lib.hid (show carveL z L = L.take m ++ ([] ++ L.drop (m + 1)) by rw [K4.out]; unfold cut; rw [if_pos d])
        have D := Lib.hid d
        clear d
        go_wp2_with fail
        have G2 : w.grownBy (w1.alloc (.cells #[.int .i64 ((L[m]).1 + z), .int .i64 ((L[m]).2 - z)] 119)).drew none := only_drew (only_alloc g1 _)
        have H2 := (h1.alloc (.cells #[.int .i64 ((L[m]).1 + z), .int .i64 ((L[m]).2 - z)] 119)).drew
        generalize (w1.alloc (.cells #[.int .i64 ((L[m]).1 + z), .int .i64 ((L[m]).2 - z)] 119)).drew = W2 at *
        (with_reducible refine (replace_at W2 Y B K A S L [] m (m + 1) (m : Int) ((m : Int) + 1) _ rfl (by omega) H2 (by have := G2.size; omega) (by omega) (by omega) (.nil _) (by simp) hlt).mono ?_)
        rintro e w3 ⟨rfl, h3', g3⟩
        go_wp2
        go_ret2
        exact ⟨ret_ib (by unfold carveV; rw [if_pos hB.out, K2.out]) hB.out.symm, by unfold carveF; rw [if_pos hB.out, KL.out]; exact h3', only_trans (only_wide G2) g3⟩
      · have dq : ((L[m]).2 - z == 0) = false := by simp; omega
        have KL := Lib.hid (show carveL z L = L.take m ++ ([((L[m]).1 + z, (L[m]).2 - z)] ++ L.drop (m + 1)) by rw [K4.out]; unfold cut; rw [if_neg d])
        have D := Lib.hid d
        clear d
        go_wp2_with fail
        have G2 : w.grownBy ((w1.alloc (.cells #[.int .i64 ((L[m]).1 + z), .int .i64 ((L[m]).2 - z)] 119)).alloc (.cells #[.int .i64 ((L[m]).1 + z), .int .i64 ((L[m]).2 - z)] 119)).drew none := only_drew (only_alloc (only_alloc g1 _) _)
        have H2 := ((h1.alloc (.cells #[.int .i64 ((L[m]).1 + z), .int .i64 ((L[m]).2 - z)] 119)).alloc (.cells #[.int .i64 ((L[m]).1 + z), .int .i64 ((L[m]).2 - z)] 119)).drew
        have X2 := (one_row (w1.alloc (.cells #[.int .i64 ((L[m]).1 + z), .int .i64 ((L[m]).2 - z)] 119)) ((L[m]).1 + z) ((L[m]).2 - z)).drew
        rw [World.size_alloc] at X2
        generalize ((w1.alloc (.cells #[.int .i64 ((L[m]).1 + z), .int .i64 ((L[m]).2 - z)] 119)).alloc (.cells #[.int .i64 ((L[m]).1 + z), .int .i64 ((L[m]).2 - z)] 119)).drew = W2 at *
        (with_reducible refine (replace_at W2 Y B K A S L [((L[m]).1 + z, (L[m]).2 - z)] m (m + 1) (m : Int) ((m : Int) + 1) _ rfl (by omega) H2 (by have := G2.size; omega) (by omega) (by omega) X2 (by simp) hlt).mono ?_)
        rintro e w3 ⟨rfl, h3', g3⟩
        go_wp2
        go_ret2
        exact ⟨ret_ib (by unfold carveV; rw [if_pos hB.out, K2.out]) hB.out.symm, by unfold carveF; rw [if_pos hB.out, KL.out]; exact h3', only_trans (only_wide G2) g3⟩
    · have hlt : L.length ≤ 200000 := by omega
      have hm : carveI z L = L.length := Nat.le_antisymm (carveI_le z L) (by omega)
      have hB := Lib.hid (show carveB z L = false by unfold carveB; rw [(carve_none hm).1, Bool.and_false])
      have HM := Lib.hid hm
      clear hm hi
      go_enter Tryz.func127, Tryz.ntmps127
      go_wp2_with fail
      generalize w.alloc (.cells #[.int .i64 z] 3) = W0 at *
      refine (size_any _ _ z1 z2).mono ?_
      rintro e w' ⟨rfl, rfl⟩
      go_wp2_with fail
      refine (first1_any _ Y B K A S L _ z h0 c0 (by omega)).mono ?_
      rintro e w1 ⟨rfl, k1⟩
      rw [show L.findIdx (fun e => decide (z ≤ e.2)) = L.length from HM.out]
      have h1 := h0.below k1
      have g1 : w.grownBy w1 none := only_trans g0 (only_below k1)
      obtain ⟨v, hh, hv, hvB, hvK⟩ := id h1
      obtain ⟨V, c, rfl⟩ := hv.form
      have x2 : w1.cell? ⟨B, Y.o + 2, none⟩ = some (.slice V L.length c) := Ly.cell2 hh
      clear hh hv hvB hvK
      go_wp2
      go_ret2
      exact ⟨ret_ib (by unfold carveV; rw [if_neg (by rw [hB.out]; decide)]) hB.out.symm, by unfold carveF; rw [if_neg (by rw [hB.out]; decide)]; exact h1, only_wide g1⟩
  · have hs' : sizeB z = false := by simpa using hs
    have hB := Lib.hid (show carveB z L = false by unfold carveB; rw [hs']; rfl)
    clear hs
    go_enter Tryz.func127, Tryz.ntmps127
    go_wp2_with fail
    generalize w.alloc (.cells #[.int .i64 z] 3) = W0 at *
    refine (size_any _ _ z1 z2).mono ?_
    rintro e w' ⟨rfl, rfl⟩
    go_wp2
    go_ret2
    exact ⟨ret_ib (by unfold carveV; rw [if_neg (by rw [hB.out]; decide)]) hB.out.symm, by unfold carveF; rw [if_neg (by rw [hB.out]; decide)]; exact h0, only_wide g0⟩
end Go.Proofs.YteakglkagmghpaaGreat.Gr

/-
  Contract of package ground: Give, for every place and size.
-/
namespace Go.Proofs.YteakglkagmghpaaGreat.Gr
open Go.ChangeShapes Go.WideShapes Go.ChangeAt Go.RowKit Gm
set_option linter.unusedVariables false
set_option linter.unusedSimpArgs false

def giveB (A S : Int) (L : List E) (a z : Int) : Bool := sizeB z && (decide (a % 8 = 0) && (hasB A S a z && !bad a (a + z) L))
def giveE (A S : Int) (L : List E) (a z : Int) : Int := if giveB A S L a z = true then 0 else 1
def giveF (A S : Int) (L : List E) (a z : Int) : List E := if giveB A S L a z = true then giveL a (a + z) L else L
theorem give_no {A S : Int} {L : List E} {a z : Int} (h : giveB A S L a z = false) : giveE A S L a z = 1 ∧ giveF A S L a z = L := by
  unfold giveE giveF
  rw [if_neg (by rw [h]; decide), if_neg (by rw [h]; decide)]
  exact ⟨rfl, rfl⟩

theorem sum_le : ∀ {L : List E} {lo hi : Int}, Norm lo L → (∀ e ∈ L, e.1 + e.2 ≤ hi) → lo ≤ hi → 0 ≤ sum L ∧ sum L ≤ hi - lo
  | [], _, _, _, _, h => ⟨Int.le_refl _, by show (0 : Int) ≤ _; omega⟩
  | e :: r, lo, hi, h, k, hl => by
    have h1 := h.1
    have h2 := h.2.1
    have h3 := k e List.mem_cons_self
    by_cases hr : e.1 + e.2 + 1 ≤ hi
    · have ⟨a, b⟩ := sum_le h.2.2 (fun x hx => k x (List.mem_cons_of_mem _ hx)) hr
      show 0 ≤ e.2 + sum r ∧ e.2 + sum r ≤ hi - lo
      omega
    · cases r with
      | nil =>
        show 0 ≤ e.2 + 0 ∧ e.2 + 0 ≤ hi - lo
        omega
      | cons f s =>
        have h4 := h.2.2.1
        have h5 := h.2.2.2.1
        have h6 := k f (List.mem_cons_of_mem _ List.mem_cons_self)
        omega
theorem sum_nonneg : ∀ {L : List E}, (∀ e ∈ L, 0 < e.2) → 0 ≤ sum L
  | [], _ => Int.le_refl _
  | e :: r, h => by
    have := h e List.mem_cons_self
    have := sum_nonneg (fun x hx => h x (List.mem_cons_of_mem _ hx))
    show 0 ≤ e.2 + sum r
    omega
theorem fold_bd : ∀ {M : List E} {J : E}, (∀ e ∈ M, 0 ≤ e.1) → 0 ≤ J.1 → 0 ≤ (M.foldl join J).1 ∧ (M.foldl join J).1 ≤ J.1 ∧ (M.foldl join J).2 = J.2 + sum M
  | [], J, _, h => ⟨h, Int.le_refl _, by show J.2 = J.2 + 0; omega⟩
  | e :: r, J, h, hj => by
    have he := h e List.mem_cons_self
    have h1 : (join J e).1 = min J.1 e.1 := rfl
    have ⟨a, b, c⟩ := fold_bd (M := r) (J := join J e) (fun x hx => h x (List.mem_cons_of_mem _ hx)) (by rw [h1]; omega)
    rw [h1] at b
    refine ⟨a, by show (r.foldl join (join J e)).1 ≤ J.1; omega, ?_⟩
    show (r.foldl join (join J e)).2 = J.2 + (e.2 + sum r)
    rw [c]
    show J.2 + e.2 + sum r = _
    omega
theorem mid_bd {A S a b : Int} {L : List E} (ok : Ok A S L) (hab : a ≤ b) (ha : 0 ≤ a) (ha' : a ≤ 131072) (hz : 0 ≤ b - a) (hz' : b - a ≤ 131072) (k : Nat) :
    0 ≤ (((mid a b L).take k).foldl join (a, b - a)).1 ∧ (((mid a b L).take k).foldl join (a, b - a)).1 ≤ 1000000 ∧ 0 ≤ (((mid a b L).take k).foldl join (a, b - a)).2 ∧ (((mid a b L).take k).foldl join (a, b - a)).2 ≤ 1000000 := by
  have hlh := low_le_high hab ok.norm
  have hin : ∀ e ∈ (mid a b L).take k, e ∈ L := fun e he => mem_mid hlh (List.mem_of_mem_take he)
  have ⟨f1, f2, f3⟩ := fold_bd (M := (mid a b L).take k) (J := (a, b - a)) (fun e he => (ok.mem (hin e he)).1) ha
  have e1 : sum L = sum (L.take (low a L)) + (sum ((mid a b L).take k) + sum ((mid a b L).drop k) + sum (L.drop (high b L))) := by
    rw [← sum_append ((mid a b L).take k), List.take_append_drop, ← sum_append (mid a b L), ← sum_append (L.take (low a L)), ← split3 hlh]
  have p1 : 0 ≤ sum (L.take (low a L)) := sum_nonneg fun e he => (ok.mem (List.mem_of_mem_take he)).2.2.1
  have p2 : 0 ≤ sum ((mid a b L).take k) := sum_nonneg fun e he => (ok.mem (hin e he)).2.2.1
  have p3 : 0 ≤ sum ((mid a b L).drop k) := sum_nonneg fun e he => (ok.mem (mem_mid hlh (List.mem_of_mem_drop he))).2.2.1
  have p4 : 0 ≤ sum (L.drop (high b L)) := sum_nonneg fun e he => (ok.mem (List.mem_of_mem_drop he)).2.2.1
  have ⟨_, p5⟩ := sum_le ok.norm ok.hi (by have := ok.s0; omega)
  have p6 := ok.s1
  have f2' : (((mid a b L).take k).foldl join (a, b - a)).1 ≤ a := f2
  have f3' : (((mid a b L).take k).foldl join (a, b - a)).2 = b - a + sum ((mid a b L).take k) := f3
  refine ⟨f1, by omega, by omega, by omega⟩
theorem fold_step {M : List E} {J : E} {k : Nat} (h : k < M.length) : (M.take (k + 1)).foldl join J = join ((M.take k).foldl join J) M[k] := by
  rw [List.take_succ_eq_append_getElem h, List.foldl_append]
  rfl
theorem mid_len {a b : Int} {L : List E} (h : low a L ≤ high b L) : (mid a b L).length = high b L - low a L := by
  unfold mid
  have := high_le b L
  rw [List.length_drop, List.length_take]
  omega
theorem mid_get {a b : Int} {L : List E} {k : Nat} (h : k < (mid a b L).length) (h' : low a L + k < L.length) : (mid a b L)[k] = L[low a L + k] := by
  simp only [mid, List.getElem_drop, List.getElem_take]
theorem any_of {M : List E} {P : E → Bool} {k : Nat} (h : k < M.length) (hp : P M[k] = true) : M.any P = true := List.any_eq_true.2 ⟨_, List.getElem_mem h, hp⟩
theorem any_no {M : List E} {P : E → Bool} (h : ∀ i (hi : i < M.length), i < M.length → P M[i] = false) : M.any P = false := by
  rw [List.any_eq_false]
  intro e he
  obtain ⟨i, hi, rfl⟩ := List.mem_iff_getElem.1 he
  rw [h i hi hi]
  decide

theorem slice_mid (V : Option Addr) (n c lo hi : Nat) (h1 : lo ≤ hi) (h2 : hi ≤ n) (h3 : n ≤ c) (hV : V = none → n = 0 ∧ c = 0) (hV' : ∀ x, V = some x → ∃ g, x = ⟨g, 0, none⟩) :
    ∃ V' c', (∀ W, (Instr.slice X (.slice V n c) (some (.int .i64 (lo : Int))) (some (.int .i64 (hi : Int))) none).run Tryz.prog W = .ok (.slice V' (hi - lo) c') W) ∧
      (∀ W, (Instr.sliceAt X (.slice V n c) (some (.int .i64 (lo : Int))) (some (.int .i64 (hi : Int))) none).run Tryz.prog W = .ok (.slice V' (hi - lo) c') W) ∧ (lo < hi → ∃ g, V = some ⟨g, 0, none⟩ ∧ V' = some ⟨g, lo * 2, none⟩) := by
  obtain ⟨i0, hi0, hz0, hz1, hz2⟩ := info_parts info_ext
  have hel : Tryz.prog.elem X = 119 := by kernel_rfl
  have hu : Tryz.prog.underlying X = some (.slice (Tryz.prog.elem X)) := by rw [hel]; exact under_exts
  have hsz : ∀ W, (sizeOf (Tryz.prog.elem X)).run Tryz.prog W = .ok 2 W := by
    intro W
    rw [hel]
    simp [sizeOf, typeInfo, hi0, hz1]
  have run : ∀ W, (Instr.slice X (.slice V n c) (some (.int .i64 (lo : Int))) (some (.int .i64 (hi : Int))) none).run Tryz.prog W = .ok (.slice (if c = lo then V else V.map (·.add (lo * 2))) (hi - lo) (c - lo)) W := by
    intro W
    rw [run_slice_lh W X V n c hu .i64 .i64 lo hi (by omega) (by omega) (by omega), hsz]
    simp [Result.andThen, sliced]
  refine ⟨_, _, run, fun W => (run_sliceAt_slice W X _ _ _ _ hu).trans (run W), fun hlt => ?_⟩
  cases V with
  | none => have := (hV rfl).1; omega
  | some x =>
    obtain ⟨g, rfl⟩ := hV' x rfl
    refine ⟨g, rfl, ?_⟩
    rw [if_neg (by omega)]
    simp [Addr.add_lit]
end Go.Proofs.YteakglkagmghpaaGreat.Gr

/-
  Contract of package ground: Give, for every place and size: the walk.
-/
namespace Go.Proofs.YteakglkagmghpaaGreat.Gr
open Go.ChangeShapes Go.WideShapes Go.ChangeAt Go.RowKit Gm
set_option linter.unusedVariables false
set_option linter.unusedSimpArgs false

/-- A local struct of two integers. -/
structure Bx (w : World) (b : Nat) (x y : Int) : Prop where
  c0 : w.cell? ⟨b, 0, none⟩ = some (.int .i64 x)
  c1 : w.cell? ⟨b, 1, none⟩ = some (.int .i64 y)
  fz : ∀ o, w.frozen? ⟨b, o, none⟩ = false
theorem Bx.lt {w : World} {b : Nat} {x y : Int} (h : Bx w b x y) : b < w.heap.size := cell_lt h.c0
theorem Bx.new (w : World) (x y : Int) (t : TypeId) : Bx (w.alloc (.cells #[.int .i64 x, .int .i64 y] t)) w.heap.size x y := ⟨by simp [go_sem], by simp [go_sem], fun o => by simp⟩
theorem Bx.bel {w w' : World} {b : Nat} {x y : Int} (h : Bx w b x y) (k : Below w.heap.size w w') : Bx w' b x y := ⟨Gr.bel k h.c0, Gr.bel k h.c1, fun o => (k.frozen (p := ⟨b, o, none⟩) h.lt).trans (h.fz o)⟩
theorem Bx.alloc {w : World} {b : Nat} {x y : Int} (h : Bx w b x y) (o : Obj) : Bx (w.alloc o) b x y := h.bel ((Below.refl _ _).alloc (Nat.le_refl _) _)
theorem Bx.drew {w : World} {b : Nat} {x y : Int} (h : Bx w b x y) : Bx w.drew b x y := ⟨h.c0, h.c1, h.fz⟩
theorem Bx.put {w : World} {b : Nat} {x y : Int} (h : Bx w b x y) (x' y' : Int) : Bx ((w.setCell ⟨b, 0, none⟩ (.int .i64 x')).setCell ⟨b, 1, none⟩ (.int .i64 y')) b x' y' :=
  ⟨by simp [go_sem, h.c0], by simp [go_sem, h.c1], fun o => by simp [h.fz o]⟩

set_option maxHeartbeats 2000000 in
theorem give_ref (w : World) (Y : Ly) (B K : Nat) (A S : Int) (L : List E) (a z : Int) (h : Gr w Y B K A S L) (hK : K < w.heap.size) (ok : Ok A S L) (a1 : -9223372036854775808 ≤ a) (a2 : a ≤ 9223372036854775807) (z1 : -9223372036854775808 ≤ z) (z2 : z ≤ 9223372036854775807)
    (hno : sizeB z = false ∨ (sizeB z = true ∧ ¬ a % 8 = 0) ∨ (sizeB z = true ∧ a % 8 = 0 ∧ hasB A S a z = false)) :
    Calls Tryz.prog 131 #[.pointer (some ⟨B, Y.o, none⟩), .int .i64 a, .int .i64 z] w fun e w' => e = .returned (.int .i64 (giveE A S L a z)) ∧ Gr w' Y B K A S (giveF A S L a z) ∧ w.grownBy w' (some B) := by
  have h0 := h.alloc (.cells #[.int .i64 a] 3)
  have g0 : w.grownBy (w.alloc (.cells #[.int .i64 a] 3)) none := only_alloc (World.grownBy.refl _ _) _
  have c0 : (w.alloc (.cells #[.int .i64 a] 3)).cell? ⟨w.heap.size, 0, none⟩ = some (.int .i64 a) := by simp [go_sem]
  have e8 := tmod8 a
  rcases hno with hs | ⟨hs, h8⟩ | ⟨hs, h8, hh⟩
  · have ⟨E1, E2⟩ := give_no (show giveB A S L a z = false by unfold giveB; rw [hs]; rfl)
    have E1 := Lib.hid E1
    have E2 := Lib.hid E2
    clear e8
    go_enter Tryz.func131, Tryz.ntmps131
    go_wp2_with fail
    generalize w.alloc (.cells #[.int .i64 a] 3) = W0 at *
    refine (size_any _ _ z1 z2).mono ?_
    rintro e w' ⟨rfl, rfl⟩
    go_wp2
    go_ret
    exact ⟨ret_int E1.out.symm, by rw [E2.out]; exact h0, only_wide g0⟩
  · have ⟨E1, E2⟩ := give_no (show giveB A S L a z = false by unfold giveB; rw [hs, decide_eq_false h8]; rfl)
    have E1 := Lib.hid E1
    have E2 := Lib.hid E2
    have q1 : (a.tmod 8 != 0) = true := by simp; exact fun e => h8 (e8.1 e)
    have q2 : (a % 8 != 0) = true := by simpa using h8
    clear e8 h8
    go_enter Tryz.func131, Tryz.ntmps131
    go_wp2_with fail
    generalize w.alloc (.cells #[.int .i64 a] 3) = W0 at *
    refine (size_any _ _ z1 z2).mono ?_
    rintro e w' ⟨rfl, rfl⟩
    go_wp2
    go_ret
    exact ⟨ret_int E1.out.symm, by rw [E2.out]; exact h0, only_wide g0⟩
  · have ⟨E1, E2⟩ := give_no (show giveB A S L a z = false by unfold giveB; rw [hs, decide_eq_true h8, hh]; rfl)
    have E1 := Lib.hid E1
    have E2 := Lib.hid E2
    have q1 : (a.tmod 8 != 0) = false := by simp; exact e8.2 h8
    have q2 : (a % 8 != 0) = false := by simpa using h8
    obtain ⟨v, hr, hv, _, _⟩ := id h0
    have y0 := Ly.cell0 hr
    have y1 := Ly.cell1 hr
    have HH := Lib.hid hh
    clear e8 h8 hr hv hh
    go_enter Tryz.func131, Tryz.ntmps131
    go_wp2_with fail
    generalize w.alloc (.cells #[.int .i64 a] 3) = W0 at *
    refine (size_any _ _ z1 z2).mono ?_
    rintro e w' ⟨rfl, rfl⟩
    go_wp2_with fail
    refine (has_any W0 Y B A S a z y0 y1 ok.a0 ok.a1 ok.s0 ok.s1).mono ?_
    rintro e w1 ⟨rfl, k1⟩
    rw [HH.out]
    go_wp2
    go_ret
    exact ⟨ret_int E1.out.symm, by rw [E2.out]; exact h0.below k1, only_wide (only_trans g0 (only_below k1))⟩

set_option maxHeartbeats 8000000 in
theorem give_go (w : World) (Y : Ly) (B K : Nat) (A S : Int) (L : List E) (a z : Int) (h : Gr w Y B K A S L) (hK : K < w.heap.size) (ok : Ok A S L) (hs : sizeB z = true) (h8 : a % 8 = 0) (hh : hasB A S a z = true) :
    Calls Tryz.prog 131 #[.pointer (some ⟨B, Y.o, none⟩), .int .i64 a, .int .i64 z] w fun e w' => e = .returned (.int .i64 (giveE A S L a z)) ∧ Gr w' Y B K A S (giveF A S L a z) ∧ w.grownBy w' (some B) := by
  have ⟨s1, s2⟩ : 0 < z ∧ z % 8 = 0 := of_decide_eq_true hs
  have ⟨t1, t2, t3⟩ : A ≤ a ∧ a ≤ A + S ∧ z ≤ A + S - a := of_decide_eq_true hh
  have o1 := ok.a0
  have o2 := ok.a1
  have o3 := ok.s1
  have hl := ok.len
  have h0 := h.alloc (.cells #[.int .i64 a] 3)
  have g0 : w.grownBy (w.alloc (.cells #[.int .i64 a] 3)) none := only_alloc (World.grownBy.refl _ _) _
  have c0 : (w.alloc (.cells #[.int .i64 a] 3)).cell? ⟨w.heap.size, 0, none⟩ = some (.int .i64 a) := by simp [go_sem]
  have q2 : (a % 8 != 0) = false := by simpa using h8
  obtain ⟨v, hr, hv, _, _⟩ := id h0
  have y0 := Ly.cell0 hr
  have y1 := Ly.cell1 hr
  have HH := Lib.hid hh
  have H8 := Lib.hid h8
  have HS := Lib.hid hs
  have hlh : low a L ≤ high (a + z) L := low_le_high (by omega) ok.norm
  have hhl := high_le (a + z) L
  clear hr hv hh h8
  go_enter Tryz.func131, Tryz.ntmps131
  go_wp2_with fail
  generalize w.alloc (.cells #[.int .i64 a] 3) = W0 at *
  refine (size_any _ _ (by omega) (by omega)).mono ?_
  rintro e w' ⟨rfl, rfl⟩
  go_wp2_with fail
  refine (has_any W0 Y B A S a z y0 y1 ok.a0 ok.a1 ok.s0 ok.s1).mono ?_
  rintro e w1 ⟨rfl, k1⟩
  rw [HH.out]
  have h1 := h0.below k1
  have c1 := bel k1 c0
  have g1 : w.grownBy w1 none := only_trans g0 (only_below k1)
  clear y0 y1
  go_wp2_with fail
  have h2 := h1.alloc (.cells #[.int .i64 a, .int .i64 z] 119)
  have c2 := cell_alloc c1 (.cells #[.int .i64 a, .int .i64 z] 119)
  have g2 : w.grownBy (w1.alloc (.cells #[.int .i64 a, .int .i64 z] 119)) none := only_alloc g1 _
  have d0 : (w1.alloc (.cells #[.int .i64 a, .int .i64 z] 119)).cell? ⟨w1.heap.size, 0, none⟩ = some (.int .i64 a) := by simp [go_sem]
  have d1 : (w1.alloc (.cells #[.int .i64 a, .int .i64 z] 119)).cell? ⟨w1.heap.size, 1, none⟩ = some (.int .i64 z) := by simp [go_sem]
  generalize w1.alloc (.cells #[.int .i64 a, .int .i64 z] 119) = W2 at *
  refine (first2_any W2 Y B K A S L w.heap.size a h2 c2 (by omega) (fun i hi => by have := ok.at_ hi; omega)).mono ?_
  rintro e w3 ⟨rfl, k3⟩
  rw [show L.findIdx (fun e => decide (a ≤ e.1 + e.2)) = low a L from rfl]
  have h3 := h2.below k3
  have d0' := bel k3 d0
  have d1' := bel k3 d1
  have g3 : w.grownBy w3 none := only_trans g2 (only_below k3)
  clear d0 d1
  go_wp2_with fail
  refine (first3_any w3 Y B K A S L w1.heap.size a z h3 d0' d1' (by omega) (by omega) (by omega) (by omega) (by omega)).mono ?_
  rintro e w4 ⟨rfl, k4⟩
  rw [show L.findIdx (fun e => decide (a + z < e.1)) = high (a + z) L from rfl]
  have h4 := h3.below k4
  have d0 := bel k4 d0'
  have d1 := bel k4 d1'
  have g4 : w.grownBy w4 none := only_trans g3 (only_below k4)
  clear d0' d1'
  obtain ⟨v, hr, hv, hvB, hvK⟩ := id h4
  have hform : ∃ V c, v = .slice V L.length c ∧ L.length ≤ c ∧ (V = none → L.length = 0 ∧ c = 0) ∧ (∀ x, V = some x → ∃ g, x = ⟨g, 0, none⟩) := by
    rcases hv with ⟨rfl, rfl⟩ | ⟨g, c, rfl, x1, _⟩
    · exact ⟨none, 0, rfl, Nat.le_refl _, fun _ => ⟨rfl, rfl⟩, fun x hx => by cases hx⟩
    · exact ⟨_, c, rfl, x1, (fun hx => by cases hx), fun x hx => ⟨g, by injection hx with hx; exact hx.symm⟩⟩
  obtain ⟨V, c, rfl, n1, n2, n3⟩ := hform
  obtain ⟨V', c', sl1, sl2, sl3⟩ := slice_mid V L.length c (low a L) (high (a + z) L) hlh hhl n1 n2 n3
  have x2 : (w4.alloc (.cells #[.int .i64 a, .int .i64 z] 119)).cell? ⟨B, Y.o + 2, none⟩ = some (.slice V L.length c) := cell_alloc (Ly.cell2 hr) (.cells #[.int .i64 a, .int .i64 z] 119)
  have SL3 := Lib.hid sl3
  have N2 := Lib.hid n2
  have N3 := Lib.hid n3
  clear n2 n3 sl3
  have e4 := Bx.new w4 a z 119
  have d00 := cell_alloc d0 (.cells #[.int .i64 a, .int .i64 z] 119)
  have d10 := cell_alloc d1 (.cells #[.int .i64 a, .int .i64 z] 119)
  have B5 : Below w4.heap.size w4 (w4.alloc (.cells #[.int .i64 a, .int .i64 z] 119)) := (Below.refl _ _).alloc (Nat.le_refl _) _
  have z5 : w4.heap.size < (w4.alloc (.cells #[.int .i64 a, .int .i64 z] 119)).heap.size := by simp
  go_wp2_with fail
  generalize w4.alloc (.cells #[.int .i64 a, .int .i64 z] 119) = W5 at *
  have hml := mid_len hlh
  have HML := Lib.hid hml
  clear hml
  go_loopw [46] (fun t wr => ∃ k : Nat, k ≤ high (a + z) L - low a L ∧ t = .int .i64 k ∧ Below w4.heap.size w4 wr ∧ w4.heap.size < wr.heap.size ∧
      Bx wr w4.heap.size (((mid a (a + z) L).take k).foldl join (a, a + z - a)).1 (((mid a (a + z) L).take k).foldl join (a, a + z - a)).2 ∧
      Hid (∀ i (hi : i < (mid a (a + z) L).length), i < k → ov a (a + z) (mid a (a + z) L)[i] = false)) (fun t _ => high (a + z) L - low a L - (intOf t).toNat)
  case atStart => exact ⟨0, by omega, rfl, B5, z5, by rw [show a + z - a = z by omega]; exact e4, Lib.hid (fun i _ h => by omega)⟩
  case round =>
    obtain ⟨k, hk, rfl, hb, hz, hJ, hno⟩ := hrel
    by_cases hlt : k < high (a + z) L - low a L
    · obtain ⟨g, rfl, rfl⟩ := SL3.out (by omega)
      have hkl : low a L + k < L.length := by omega
      obtain ⟨g', c'', e1, _, _, hg, hc⟩ := (hv.below hb).at_ (by omega)
      injection e1 with e2 e3 e4
      injection e2 with e2
      injection e2 with e2
      subst e2
      clear e3 e4
      obtain ⟨x0, x1⟩ := hc (low a L + k) hkl
      rw [Nat.add_mul] at x0 x1
      have hkm : k < (mid a (a + z) L).length := by rw [HML.out]; exact hlt
      have HX := Lib.hid (mid_get hkm hkl)
      obtain ⟨b1, b2, b3, b4, b5, b6, b7, b8⟩ := ok.at_ hkl
      have f0 := (hb.cell (p := ⟨w1.heap.size, 0, none⟩) (cell_lt d0)).trans d0
      have f1 := (hb.cell (p := ⟨w1.heap.size, 1, none⟩) (cell_lt d1)).trans d1
      have MB := mid_bd ok (a := a) (b := a + z) (by omega) (by omega) (by omega) (by omega) (by omega) k
      have FS := Lib.hid (fold_step (J := (a, a + z - a)) hkm)
      generalize hj : ((mid a (a + z) L).take k).foldl join (a, a + z - a) = J at *
      obtain ⟨m1, m2, m3, m4⟩ := MB
      have HJ := Lib.hid hj
      clear hj hc
      rw [HX.out] at FS
      have hov : ov a (a + z) (mid a (a + z) L)[k] = ovB (L[low a L + k]).1 (L[low a L + k]).2 a z := by rw [HX.out]; rfl
      generalize L[low a L + k] = y at *
      have HOV := Lib.hid hov
      clear hov
      have B6 : Below w4.heap.size w4 (wr.alloc (.cells #[.int .i64 y.1, .int .i64 y.2] 119)) := hb.alloc (by omega) _
      have q0 := cell_alloc f0 (.cells #[.int .i64 y.1, .int .i64 y.2] 119)
      have q1 := cell_alloc f1 (.cells #[.int .i64 y.1, .int .i64 y.2] 119)
      have p0 := hJ.alloc (.cells #[.int .i64 y.1, .int .i64 y.2] 119)
      have r0 := Bx.new wr y.1 y.2 119
      have z6 : wr.heap.size ≤ (wr.alloc (.cells #[.int .i64 y.1, .int .i64 y.2] 119)).heap.size := by simp
      go_wp2_with fail
      generalize wr.alloc (.cells #[.int .i64 y.1, .int .i64 y.2] 119) = W6 at *
      clear f0 f1 x0 x1
      refine (overlap_any y.1 y.2 a z W6 (by omega) (by omega) (by omega) (by omega) (by omega) (by omega) (by omega) (by omega)).mono ?_
      rintro e w7 ⟨rfl, k7⟩
      have B7 := B6.trans (k7.mono (by omega))
      cases hq : ovB y.1 y.2 a z with
      | true =>
        have ⟨E1, E2⟩ := give_no (show giveB A S L a z = false by unfold giveB bad; rw [any_of hkm (HOV.out.trans hq)]; simp)
        have E1 := Lib.hid E1
        have E2 := Lib.hid E2
        clear hq
        go_wp2
        go_ret
        exact ⟨ret_int E1.out.symm, by rw [E2.out]; exact h4.below B7, only_wide (only_trans g4 (only_below B7))⟩
      | false =>
        have HQ := Lib.hid hq
        clear hq
        have p7 := p0.bel k7
        have r7 := r0.bel k7
        obtain ⟨t0, t1', _⟩ := id p7
        obtain ⟨u0, u1, _⟩ := id r7
        go_wp2_with fail
        refine (join_any J.1 J.2 y.1 y.2 w7 m1 m2 m3 m4 (by omega) (by omega) (by omega) (by omega)).mono ?_
        rintro e w8 ⟨rfl, k8⟩
        have p8 := p7.bel k8
        have B8 := B7.trans (k8.mono B7.size)
        obtain ⟨n0, n1', n2'⟩ := id p8
        have fz0 := n2' 0
        have fz1 := n2' 1
        clear t0 t1' u0 u1 n2'
        go_wp2_with fail
        go_roundw
        case rel =>
          refine ⟨k + 1, by omega, by go_num, bset (bset B8 w4.heap.size 0 (Nat.le_refl _) _) w4.heap.size 1 (Nat.le_refl _) _, ?_, ?_, Lib.hid (fun i hi h => ?_)⟩
          · have := k8.size
            have := k7.size
            simp [World.setCell]
            omega
          · rw [FS.out]
            exact p8.put _ _
          · by_cases e : i = k
            · subst e
              exact HOV.out.trans HQ.out
            · exact hno.out i hi (by omega)
        case measure => simp [intOf]; omega
    · obtain rfl : k = high (a + z) L - low a L := by omega
      have hbad : bad a (a + z) L = false := by
        unfold bad
        refine any_no fun i hi _ => hno.out i hi ?_
        rw [HML.out] at hi
        exact hi
      have HB := Lib.hid (show giveB A S L a z = true by unfold giveB; rw [HS.out, decide_eq_true H8.out, HH.out, hbad]; rfl)
      have htk : (mid a (a + z) L).take (high (a + z) L - low a L) = mid a (a + z) L := List.take_of_length_le (by rw [HML.out]; exact Nat.le_refl _)
      have HG := Lib.hid (show giveL a (a + z) L = L.take (low a L) ++ ([((((mid a (a + z) L).take (high (a + z) L - low a L)).foldl join (a, a + z - a)).1, (((mid a (a + z) L).take (high (a + z) L - low a L)).foldl join (a, a + z - a)).2)] ++ L.drop (high (a + z) L)) by rw [htk]; rfl)
      clear htk hbad hlt
      generalize ((mid a (a + z) L).take (high (a + z) L - low a L)).foldl join (a, a + z - a) = J at *
      obtain ⟨t0, t1', _⟩ := id hJ
      have h6 := (h4.below hb).alloc (.cells #[.int .i64 J.1, .int .i64 J.2] 119)
      have g6 : w.grownBy (wr.alloc (.cells #[.int .i64 J.1, .int .i64 J.2] 119)) none := only_alloc (only_trans g4 (only_below hb)) _
      have X6 := one_row wr J.1 J.2
      go_wp2_with fail
      generalize wr.alloc (.cells #[.int .i64 J.1, .int .i64 J.2] 119) = W6 at *
      (with_reducible refine (replace_at W6 Y B K A S L [(J.1, J.2)] (low a L) (high (a + z) L) (low a L : Nat) (high (a + z) L : Nat) _ rfl rfl h6 (by have := g6.size; omega) hlh hhl X6 (by simp) (by omega)).mono ?_)
      rintro e w9 ⟨rfl, h9, g9⟩
      go_wp2
      go_ret
      exact ⟨ret_int (by unfold giveE; rw [if_pos HB.out]), by unfold giveF; rw [if_pos HB.out, HG.out]; exact h9, only_trans (only_wide g6) g9⟩

theorem give_any (w : World) (Y : Ly) (B K : Nat) (A S : Int) (L : List E) (a z : Int) (h : Gr w Y B K A S L) (hK : K < w.heap.size) (ok : Ok A S L) (a1 : -9223372036854775808 ≤ a) (a2 : a ≤ 9223372036854775807) (z1 : -9223372036854775808 ≤ z) (z2 : z ≤ 9223372036854775807) :
    Calls Tryz.prog 131 #[.pointer (some ⟨B, Y.o, none⟩), .int .i64 a, .int .i64 z] w fun e w' => e = .returned (.int .i64 (giveE A S L a z)) ∧ Gr w' Y B K A S (giveF A S L a z) ∧ w.grownBy w' (some B) := by
  cases hs : sizeB z with
  | false => exact give_ref w Y B K A S L a z h hK ok a1 a2 z1 z2 (.inl hs)
  | true =>
    by_cases h8 : a % 8 = 0
    · cases hh : hasB A S a z with
      | false => exact give_ref w Y B K A S L a z h hK ok a1 a2 z1 z2 (.inr (.inr ⟨hs, h8, hh⟩))
      | true => exact give_go w Y B K A S L a z h hK ok hs h8 hh
    · exact give_ref w Y B K A S L a z h hK ok a1 a2 z1 z2 (.inr (.inl ⟨hs, h8⟩))
end Go.Proofs.YteakglkagmghpaaGreat.Gr

/-
  New at whatever may be; Same at two rows that are the same.
-/
namespace Go.Proofs.YteakglkagmghpaaGreat.Gr
open Go.ChangeShapes Go.WideShapes Go.ChangeAt Go.RowKit Gm
set_option linter.unusedVariables false
set_option linter.unusedSimpArgs false

def newL (A S : Int) : List E := if S = 0 then [] else [(A, S)]
theorem bound_ok {A : Int} (h : boundB A = true) : 0 ≤ A ∧ A ≤ 65536 ∧ A % 8 = 0 := of_decide_eq_true h
theorem new_at (w : World) (A S : Int) (K : Nat) (hA : boundB A = true) (hS : boundB S = true) (hK : K ≤ w.heap.size) :
    Calls Tryz.prog 95 #[.int .i64 A, .int .i64 S] w fun e w' => e = .returned (.tuple #[.pointer (some ⟨w.heap.size, 0, none⟩), .int .i64 0]) ∧ Gr w' y0 w.heap.size K A S (newL A S) ∧ Below w.heap.size w w' ∧ w.heap.size < w'.heap.size := by
  by_cases h : S = 0
  · subst h
    exact (new_zero w A K hA).mono fun e w' ⟨a, b, c⟩ => ⟨a, by unfold newL; rw [if_pos rfl]; exact b, c, b.lt⟩
  · have := bound_ok hS
    exact (new_any w A S K hA hS (by omega) hK).mono fun e w' ⟨a, b, c⟩ => ⟨a, by unfold newL; rw [if_neg h]; exact b, c, b.lt⟩

theorem Ex.cell {w : World} {V : Option Addr} {n c : Nat} {L : List E} (h : Ex w (.slice V n c) L) {k : Nat} (hk : k < L.length) : ∃ g, V = some ⟨g, 0, none⟩ ∧ g < w.heap.size ∧ w.cell? ⟨g, k * 2, none⟩ = some (.int .i64 (L[k]).1) ∧ w.cell? ⟨g, k * 2 + 1, none⟩ = some (.int .i64 (L[k]).2) := by
  obtain ⟨g, c', e, _, _, hg, hc⟩ := h.at_ (by omega)
  injection e with e1
  exact ⟨g, e1, hg, (hc k hk).1, (hc k hk).2⟩

set_option maxHeartbeats 2000000 in
theorem same_yes (w : World) (V U : Option Addr) (c d : Nat) (L : List E) (hu : Ex w (.slice V L.length c) L) (hv : Ex w (.slice U L.length d) L) (hl : L.length ≤ 200000) :
    Calls Tryz.prog 34 #[.slice V L.length c, .slice U L.length d] w fun e w' => e = .returned (.bool true) ∧ Below w.heap.size w w' := by
  go_enter Tryz.func34, Tryz.ntmps34
  go_wp2
  go_loopw [5] (fun t wr => ∃ k : Nat, k ≤ L.length ∧ t = .int .i64 k ∧ Below w.heap.size w wr) (fun t _ => L.length - (intOf t).toNat)
  case atStart => exact ⟨0, by omega, rfl, Below.refl _ _⟩
  case round =>
    obtain ⟨k, hk, rfl, hb⟩ := hrel
    by_cases hlt : k < L.length
    · obtain ⟨g, rfl, _, x0, x1⟩ := (hu.below hb).cell hlt
      obtain ⟨g', rfl, _, y0, y1⟩ := (hv.below hb).cell hlt
      go_wp2
      go_region
      all_goals
        go_wp2
        go_roundw
        case rel => exact ⟨k + 1, by omega, by go_num, hb.drew⟩
        case measure => simp [intOf]; omega
    · go_wp2
      go_ret
      exact ⟨rfl, hb⟩

end Go.Proofs.YteakglkagmghpaaGreat.Gr
