/-
  Plain mathematics of rows of extents: a row in order, without touching ones, is told by its points; what a carved and a given extent makes of a row; the row of free words.
-/
namespace Go.Proofs.Ytkkmhapfhnnooaa.Gm
set_option linter.unusedVariables false

abbrev E := Int × Int

def Norm : Int → List E → Prop
  | _, [] => True
  | lo, e :: r => lo ≤ e.1 ∧ 0 < e.2 ∧ Norm (e.1 + e.2 + 1) r
def Mem (p : Int) (L : List E) : Prop := ∃ e ∈ L, e.1 ≤ p ∧ p < e.1 + e.2
def sum : List E → Int
  | [] => 0
  | e :: r => e.2 + sum r
def Al (L : List E) : Prop := ∀ e ∈ L, e.1 % 8 = 0 ∧ e.2 % 8 = 0

theorem Norm.mono {lo lo' : Int} {L : List E} (h : Norm lo L) (hl : lo' ≤ lo) : Norm lo' L := by
  cases L with
  | nil => trivial
  | cons e r => exact ⟨Int.le_trans hl h.1, h.2⟩
theorem mem_nil (p : Int) : ¬ Mem p [] := fun ⟨_, h, _⟩ => by cases h
theorem mem_cons {p : Int} {e : E} {r : List E} : Mem p (e :: r) ↔ (e.1 ≤ p ∧ p < e.1 + e.2) ∨ Mem p r := by
  constructor
  · rintro ⟨x, hx, h⟩
    rcases List.mem_cons.1 hx with rfl | hx
    · exact .inl h
    · exact .inr ⟨x, hx, h⟩
  · rintro (h | ⟨x, hx, h⟩)
    · exact ⟨e, List.mem_cons_self, h⟩
    · exact ⟨x, List.mem_cons_of_mem _ hx, h⟩
theorem mem_append {p : Int} {L M : List E} : Mem p (L ++ M) ↔ Mem p L ∨ Mem p M := by
  constructor
  · rintro ⟨x, hx, h⟩
    rcases List.mem_append.1 hx with hx | hx
    · exact .inl ⟨x, hx, h⟩
    · exact .inr ⟨x, hx, h⟩
  · rintro (⟨x, hx, h⟩ | ⟨x, hx, h⟩)
    · exact ⟨x, List.mem_append_left _ hx, h⟩
    · exact ⟨x, List.mem_append_right _ hx, h⟩
theorem Norm.pos : ∀ {L : List E} {lo : Int}, Norm lo L → ∀ e ∈ L, lo ≤ e.1 ∧ 0 < e.2
  | [], _, _, e, h => by cases h
  | x :: r, lo, h, e, he => by
    rcases List.mem_cons.1 he with rfl | he
    · exact ⟨h.1, h.2.1⟩
    · have := Norm.pos h.2.2 e he
      have := h.1
      have := h.2.1
      exact ⟨by omega, by omega⟩
theorem Norm.ge {L : List E} {lo p : Int} (h : Norm lo L) (m : Mem p L) : lo ≤ p := by
  obtain ⟨e, he, h1, h2⟩ := m
  have := (h.pos e he).1
  omega

theorem uniq : ∀ {L M : List E} {lo lo' : Int}, Norm lo L → Norm lo' M → (∀ p, Mem p L ↔ Mem p M) → L = M
  | [], [], _, _, _, _, _ => rfl
  | [], f :: s, _, _, _, k, h => absurd ((h f.1).2 (mem_cons.2 (.inl ⟨Int.le_refl _, by have := k.2.1; omega⟩))) (mem_nil _)
  | e :: r, [], _, _, k, _, h => absurd ((h e.1).1 (mem_cons.2 (.inl ⟨Int.le_refl _, by have := k.2.1; omega⟩))) (mem_nil _)
  | e :: r, f :: s, lo, lo', hl, hm, h => by
    obtain ⟨a1, a2, a3⟩ := hl
    obtain ⟨b1, b2, b3⟩ := hm
    have e1 : e.1 = f.1 := by
      have i1 := (h e.1).1 (mem_cons.2 (.inl ⟨Int.le_refl _, by omega⟩))
      have i2 := (h f.1).2 (mem_cons.2 (.inl ⟨Int.le_refl _, by omega⟩))
      rcases mem_cons.1 i1 with i1 | i1
      · rcases mem_cons.1 i2 with i2 | i2
        · omega
        · have := a3.ge i2
          omega
      · have := b3.ge i1
        rcases mem_cons.1 i2 with i2 | i2
        · omega
        · have := a3.ge i2
          omega
    have e2 : e.2 = f.2 := by
      rcases Int.lt_trichotomy e.2 f.2 with c | c | c
      · have i1 := (h (e.1 + e.2)).2 (mem_cons.2 (.inl ⟨by omega, by omega⟩))
        rcases mem_cons.1 i1 with i1 | i1
        · omega
        · have := a3.ge i1
          omega
      · exact c
      · have i1 := (h (f.1 + f.2)).1 (mem_cons.2 (.inl ⟨by omega, by omega⟩))
        rcases mem_cons.1 i1 with i1 | i1
        · omega
        · have := b3.ge i1
          omega
    have ef : e = f := Prod.ext e1 e2
    subst ef
    congr 1
    refine uniq a3 b3 fun p => ?_
    constructor
    · intro m
      have := a3.ge m
      rcases mem_cons.1 ((h p).1 (mem_cons.2 (.inr m))) with i | i
      · omega
      · exact i
    · intro m
      have := b3.ge m
      rcases mem_cons.1 ((h p).2 (mem_cons.2 (.inr m))) with i | i
      · omega
      · exact i

/-- What a row of free extents of the ground from A on, of S bytes, is. -/
structure Ok (A S : Int) (L : List E) : Prop where
  norm : Norm A L
  hi : ∀ e ∈ L, e.1 + e.2 ≤ A + S
  al : Al L
  a0 : 0 ≤ A
  a1 : A ≤ 65536
  s0 : 0 ≤ S
  s1 : S ≤ 65536
  a8 : A % 8 = 0
  s8 : S % 8 = 0
theorem Ok.mem {A S : Int} {L : List E} (h : Ok A S L) {e : E} (he : e ∈ L) : 0 ≤ e.1 ∧ e.1 ≤ 131072 ∧ 0 < e.2 ∧ e.2 ≤ 131072 ∧ A ≤ e.1 ∧ e.1 + e.2 ≤ A + S ∧ e.1 % 8 = 0 ∧ e.2 % 8 = 0 := by
  have h1 := h.norm.pos e he
  have h2 := h.hi e he
  have h3 := h.al e he
  have := h.a0
  have := h.a1
  have := h.s1
  exact ⟨by omega, by omega, by omega, by omega, by omega, by omega, by omega, by omega⟩
theorem Ok.at_ {A S : Int} {L : List E} (h : Ok A S L) {i : Nat} (hi : i < L.length) : 0 ≤ (L[i]).1 ∧ (L[i]).1 ≤ 131072 ∧ 0 < (L[i]).2 ∧ (L[i]).2 ≤ 131072 ∧ A ≤ (L[i]).1 ∧ (L[i]).1 + (L[i]).2 ≤ A + S ∧ (L[i]).1 % 8 = 0 ∧ (L[i]).2 % 8 = 0 :=
  h.mem (List.getElem_mem hi)
theorem Ok.in_ {A S p : Int} {L : List E} (h : Ok A S L) (m : Mem p L) : A ≤ p ∧ p < A + S := by
  obtain ⟨e, he, h1, h2⟩ := m
  have := h.mem he
  omega
theorem len_le : ∀ {L : List E} {lo hi : Int}, Norm lo L → (∀ e ∈ L, e.1 + e.2 ≤ hi) → lo ≤ hi → (L.length : Int) ≤ hi - lo
  | [], _, _, _, _, h => by simp; omega
  | e :: r, lo, hi, h, k, hl => by
    have h1 := h.1
    have h2 := h.2.1
    have h3 := k e List.mem_cons_self
    by_cases hr : e.1 + e.2 + 1 ≤ hi
    · have := len_le h.2.2 (fun x hx => k x (List.mem_cons_of_mem _ hx)) hr
      simp only [List.length_cons]
      omega
    · cases r with
      | nil => simp; omega
      | cons f s =>
        have h4 := h.2.2.1
        have h5 := h.2.2.2.1
        have h6 := k f (List.mem_cons_of_mem _ List.mem_cons_self)
        omega
theorem Ok.len {A S : Int} {L : List E} (h : Ok A S L) : L.length ≤ 65536 := by
  have h1 := len_le h.norm h.hi (by have := h.s0; omega)
  have := h.s1
  omega

/-! ### carved -/
def cut (z : Int) (e : E) : List E := if e.2 = z then [] else [(e.1 + z, e.2 - z)]
def carveL (z : Int) : List E → List E
  | [] => []
  | e :: r => if z ≤ e.2 then cut z e ++ r else e :: carveL z r
def carveA (z : Int) : List E → Int
  | [] => 0
  | e :: r => if z ≤ e.2 then e.1 else carveA z r
def fits (z : Int) : List E → Bool
  | [] => false
  | e :: r => if z ≤ e.2 then true else fits z r
def carveI (z : Int) (L : List E) : Nat := L.findIdx fun e => decide (z ≤ e.2)

theorem carve_some {z : Int} : ∀ {L : List E} (h : carveI z L < L.length), fits z L = true ∧ carveA z L = (L[carveI z L]).1 ∧ z ≤ (L[carveI z L]).2 ∧ carveL z L = L.take (carveI z L) ++ (cut z (L[carveI z L]) ++ L.drop (carveI z L + 1))
  | [], h => by simp at h
  | e :: r, h => by
    by_cases c : z ≤ e.2
    · have e0 : carveI z (e :: r) = 0 := by simp [carveI, List.findIdx_cons, c]
      simp [e0, fits, carveA, carveL, c]
    · have e1 : carveI z (e :: r) = carveI z r + 1 := by simp [carveI, List.findIdx_cons, c]
      have h' : carveI z r < r.length := by rw [e1] at h; simpa using h
      obtain ⟨k1, k2, k3, k4⟩ := carve_some h'
      simp [e1, fits, carveA, carveL, c, k1, k2, k3, k4]
theorem carve_none {z : Int} : ∀ {L : List E} (h : carveI z L = L.length), fits z L = false ∧ carveA z L = 0 ∧ carveL z L = L ∧ ∀ e ∈ L, e.2 < z
  | [], _ => ⟨rfl, rfl, rfl, fun _ h => by cases h⟩
  | e :: r, h => by
    by_cases c : z ≤ e.2
    · simp [carveI, List.findIdx_cons, c] at h
    · have e1 : carveI z (e :: r) = carveI z r + 1 := by simp [carveI, List.findIdx_cons, c]
      have h' : carveI z r = r.length := by rw [e1] at h; simpa using h
      obtain ⟨k1, k2, k3, k4⟩ := carve_none h'
      simp only [fits, carveA, carveL, c, if_false, k1, k2, k3, true_and]
      intro x hx
      rcases List.mem_cons.1 hx with rfl | hx
      · omega
      · exact k4 x hx
theorem carveI_le (z : Int) (L : List E) : carveI z L ≤ L.length := List.findIdx_le_length
theorem fits_iff (z : Int) (L : List E) : fits z L = true ↔ carveI z L < L.length := by
  constructor
  · intro h
    rcases Nat.lt_or_ge (carveI z L) L.length with c | c
    · exact c
    · have := (carve_none (Nat.le_antisymm (carveI_le z L) c)).1
      rw [h] at this
      cases this
  · intro h
    exact (carve_some h).1
theorem carveI_least {z : Int} {L : List E} {i : Nat} (h : i < carveI z L) (hi : i < L.length) : (L[i]).2 < z := by
  have := List.not_of_lt_findIdx (p := fun e : E => decide (z ≤ e.2)) h
  simp at this
  omega

theorem carve_norm {z : Int} (hz : 0 < z) : ∀ {L : List E} {lo : Int}, Norm lo L → Norm lo (carveL z L)
  | [], _, _ => trivial
  | e :: r, lo, h => by
    obtain ⟨h1, h2, h3⟩ := h
    unfold carveL
    by_cases c : z ≤ e.2
    · rw [if_pos c]
      unfold cut
      by_cases d : e.2 = z
      · rw [if_pos d]
        exact h3.mono (by omega)
      · rw [if_neg d]
        refine ⟨?_, ?_, ?_⟩
        · show lo ≤ e.1 + z
          omega
        · show 0 < e.2 - z
          omega
        · show Norm (e.1 + z + (e.2 - z) + 1) r
          exact h3.mono (by omega)
    · rw [if_neg c]
      exact ⟨h1, h2, carve_norm hz h3⟩
theorem cut_mem {z : Int} {e : E} (c : z ≤ e.2) (hz : 0 < z) {p : Int} : Mem p (cut z e) ↔ e.1 + z ≤ p ∧ p < e.1 + e.2 := by
  unfold cut
  by_cases d : e.2 = z
  · rw [if_pos d]
    exact ⟨fun h => absurd h (mem_nil _), fun h => by omega⟩
  · rw [if_neg d, mem_cons]
    constructor
    · rintro (h | h)
      · have h1 : e.1 + z ≤ p := h.1
        have h2 : p < e.1 + z + (e.2 - z) := h.2
        omega
      · exact absurd h (mem_nil _)
    · intro h
      left
      show e.1 + z ≤ p ∧ p < e.1 + z + (e.2 - z)
      omega
theorem carve_mem {z : Int} (hz : 0 < z) : ∀ {L : List E} {lo : Int}, Norm lo L → fits z L = true → ∀ p, Mem p (carveL z L) ↔ Mem p L ∧ ¬ (carveA z L ≤ p ∧ p < carveA z L + z)
  | [], _, _, h, _ => by cases h
  | e :: r, lo, h, hf, p => by
    obtain ⟨h1, h2, h3⟩ := h
    by_cases c : z ≤ e.2
    · simp only [carveL, carveA, c, if_true, mem_append, mem_cons, cut_mem c hz]
      have hr : Mem p r → e.1 + e.2 + 1 ≤ p := fun m => h3.ge m
      constructor
      · rintro (m | m)
        · exact ⟨.inl ⟨by omega, by omega⟩, by omega⟩
        · have := hr m
          exact ⟨.inr m, by omega⟩
      · rintro ⟨m | m, k⟩
        · exact .inl ⟨by omega, by omega⟩
        · exact .inr m
    · have hf' : fits z r = true := by simpa [fits, c] using hf
      have ih := carve_mem hz h3 hf' p
      simp only [carveL, carveA, c, if_false, mem_cons, ih]
      obtain ⟨k1, k2, k3, k4⟩ := carve_some ((fits_iff z r).1 hf')
      have hge := (h3.pos _ (List.getElem_mem ((fits_iff z r).1 hf'))).1
      rw [← k2] at hge
      constructor
      · rintro (m | m)
        · exact ⟨.inl m, by omega⟩
        · exact ⟨.inr m.1, m.2⟩
      · rintro ⟨m | m, k⟩
        · exact .inl m
        · exact .inr ⟨m, k⟩
theorem carve_in {z : Int} {L : List E} (hf : fits z L = true) : ∃ e ∈ L, carveA z L = e.1 ∧ z ≤ e.2 := by
  have h := (fits_iff z L).1 hf
  obtain ⟨k1, k2, k3, k4⟩ := carve_some h
  exact ⟨_, List.getElem_mem h, k2, k3⟩
theorem carve_sub {z : Int} {L : List E} (hf : fits z L = true) {p : Int} (h1 : carveA z L ≤ p) (h2 : p < carveA z L + z) : Mem p L := by
  obtain ⟨e, he, k1, k2⟩ := carve_in hf
  exact ⟨e, he, by omega, by omega⟩
theorem sum_append : ∀ (L M : List E), sum (L ++ M) = sum L + sum M
  | [], M => by simp [sum]
  | e :: r, M => by simp only [List.cons_append, sum, sum_append r M]; omega
theorem carve_sum {z : Int} : ∀ {L : List E}, fits z L = true → sum (carveL z L) = sum L - z
  | [], h => by cases h
  | e :: r, h => by
    by_cases c : z ≤ e.2
    · simp only [carveL, c, if_true, sum_append, sum, cut]
      by_cases d : e.2 = z
      · simp only [d, if_true, sum]; omega
      · simp only [d, if_false, sum]; omega
    · have hf' : fits z r = true := by simpa [fits, c] using h
      have := carve_sum hf'
      simp only [carveL, c, if_false, sum, this]
      omega
theorem carve_al {z : Int} (hz : z % 8 = 0) : ∀ {L : List E}, Al L → Al (carveL z L)
  | [], h => h
  | e :: r, h => by
    have he := h e List.mem_cons_self
    have hr : Al r := fun x hx => h x (List.mem_cons_of_mem _ hx)
    intro x hx
    unfold carveL at hx
    by_cases c : z ≤ e.2
    · rw [if_pos c] at hx
      rcases List.mem_append.1 hx with hx | hx
      · unfold cut at hx
        by_cases d : e.2 = z
        · rw [if_pos d] at hx
          cases hx
        · rw [if_neg d] at hx
          have : x = (e.1 + z, e.2 - z) := by simpa using hx
          subst this
          exact ⟨by show (e.1 + z) % 8 = 0; omega, by show (e.2 - z) % 8 = 0; omega⟩
      · exact hr x hx
    · rw [if_neg c] at hx
      rcases List.mem_cons.1 hx with rfl | hx
      · exact he
      · exact carve_al hz hr x hx
theorem hi_of {A S lo : Int} {L : List E} (h : Norm lo L) (k : ∀ p, Mem p L → p < A + S) : ∀ e ∈ L, e.1 + e.2 ≤ A + S := by
  intro e he
  have h1 := h.pos e he
  have := k (e.1 + e.2 - 1) ⟨e, he, by omega, by omega⟩
  omega
theorem Ok.carve {A S z : Int} {L : List E} (h : Ok A S L) (hz : 0 < z) (h8 : z % 8 = 0) : Ok A S (carveL z L) := by
  have hn := carve_norm hz h.norm
  refine ⟨hn, ?_, carve_al h8 h.al, h.a0, h.a1, h.s0, h.s1, h.a8, h.s8⟩
  by_cases hf : fits z L = true
  · exact hi_of hn fun p m => (h.in_ ((carve_mem hz h.norm hf p).1 m).1).2
  · have : carveI z L = L.length := by
      rcases Nat.lt_or_ge (carveI z L) L.length with c | c
      · exact absurd ((fits_iff z L).2 c) hf
      · exact Nat.le_antisymm (carveI_le z L) c
    rw [(carve_none this).2.2.1]
    exact h.hi

/-! ### given back -/
def join (a b : E) : E := (min a.1 b.1, a.2 + b.2)
def ov (a b : Int) (e : E) : Bool := decide (e.1 < b) && decide (a < e.1 + e.2)
def low (a : Int) (L : List E) : Nat := L.findIdx fun e => decide (a ≤ e.1 + e.2)
def high (b : Int) (L : List E) : Nat := L.findIdx fun e => decide (b < e.1)
def mid (a b : Int) (L : List E) : List E := (L.take (high b L)).drop (low a L)
def giveL (a b : Int) (L : List E) : List E := L.take (low a L) ++ ([(mid a b L).foldl join (a, b - a)] ++ L.drop (high b L))
def bad (a b : Int) (L : List E) : Bool := (mid a b L).any (ov a b)

theorem high_nil (b : Int) : high b [] = 0 := rfl
theorem high_stop {b : Int} {e : E} {r : List E} (h : b < e.1) : high b (e :: r) = 0 := by simp [high, List.findIdx_cons, h]
theorem high_go {b : Int} {e : E} {r : List E} (h : ¬ b < e.1) : high b (e :: r) = high b r + 1 := by simp [high, List.findIdx_cons, h]
theorem low_stop {a : Int} {e : E} {r : List E} (h : a ≤ e.1 + e.2) : low a (e :: r) = 0 := by simp [low, List.findIdx_cons, h]
theorem low_go {a : Int} {e : E} {r : List E} (h : ¬ a ≤ e.1 + e.2) : low a (e :: r) = low a r + 1 := by simp [low, List.findIdx_cons, h]
theorem high_zero {b lo : Int} {L : List E} (h : Norm lo L) (hb : b < lo) : high b L = 0 := by
  cases L with
  | nil => rfl
  | cons e r => exact high_stop (by have := h.1; omega)
theorem low_le_high {a b : Int} (hab : a ≤ b) : ∀ {L : List E} {lo : Int}, Norm lo L → low a L ≤ high b L
  | [], _, _ => Nat.le_refl _
  | e :: r, lo, h => by
    by_cases c : a ≤ e.1 + e.2
    · rw [low_stop c]; exact Nat.zero_le _
    · have := h.2.1
      rw [low_go c, high_go (by omega)]
      exact Nat.succ_le_succ (low_le_high hab h.2.2)
theorem low_le (a : Int) (L : List E) : low a L ≤ L.length := List.findIdx_le_length
theorem high_le (b : Int) (L : List E) : high b L ≤ L.length := List.findIdx_le_length

/-- What stands from the first extent that touches it on: nothing is ahead of it. -/
structure Put (a b : Int) (J : E) (L R : List E) : Prop where
  norm : Norm J.1 R
  mem : ∀ p, Mem p R ↔ (J.1 ≤ p ∧ p < b) ∨ Mem p L
  sum : sum R = J.2 + sum L
theorem put2 {a b : Int} {J : E} {L : List E} (hab : a < b) (hJ : J.1 + J.2 = b) (hJ1 : J.1 ≤ a) (h : Norm (a + 1) L) (no : ∀ e ∈ L, ov a b e = false) :
    Put a b J L ([(L.take (high b L)).foldl join J] ++ L.drop (high b L)) := by
  cases L with
  | nil =>
    show Put a b J [] [J]
    refine ⟨⟨Int.le_refl _, by omega, trivial⟩, fun p => ?_, rfl⟩
    rw [mem_cons]
    constructor
    · rintro (m | m)
      · exact .inl ⟨m.1, by omega⟩
      · exact .inr m
    · rintro (m | m)
      · exact .inl ⟨m.1, by omega⟩
      · exact .inr m
  | cons e r =>
    obtain ⟨h1, h2, h3⟩ := h
    have ne := no e List.mem_cons_self
    by_cases c : b < e.1
    · rw [high_stop c]
      show Put a b J (e :: r) (J :: e :: r)
      refine ⟨⟨Int.le_refl _, by omega, by omega, h2, h3⟩, fun p => ?_, rfl⟩
      rw [mem_cons (e := J)]
      constructor
      · rintro (m | m)
        · exact .inl ⟨m.1, by omega⟩
        · exact .inr m
      · rintro (m | m)
        · exact .inl ⟨m.1, by omega⟩
        · exact .inr m
    · have eb : e.1 = b := by
        simp only [ov, Bool.and_eq_false_iff, decide_eq_false_iff_not] at ne
        omega
      rw [high_go c, high_zero h3 (by omega)]
      have ej : join J e = (J.1, J.2 + e.2) := by
        unfold join
        congr 1
        rw [Int.min_eq_left]
        omega
      show Put a b J (e :: r) ([join J e] ++ r)
      rw [ej]
      refine ⟨⟨Int.le_refl _, ?_, ?_⟩, fun p => ?_, ?_⟩
      · show 0 < J.2 + e.2
        omega
      · show Norm (J.1 + (J.2 + e.2) + 1) r
        exact h3.mono (by omega)
      · show Mem p ((J.1, J.2 + e.2) :: r) ↔ _
        rw [mem_cons, mem_cons]
        constructor
        · rintro (m | m)
          · have m1 : J.1 ≤ p := m.1
            have m2 : p < J.1 + (J.2 + e.2) := m.2
            by_cases q : p < b
            · exact .inl ⟨m1, q⟩
            · exact .inr (.inl ⟨by omega, by omega⟩)
          · exact .inr (.inr m)
        · rintro (m | m | m)
          · left
            show J.1 ≤ p ∧ p < J.1 + (J.2 + e.2)
            omega
          · left
            show J.1 ≤ p ∧ p < J.1 + (J.2 + e.2)
            omega
          · exact .inr m
      · show J.2 + e.2 + Gm.sum r = J.2 + (e.2 + Gm.sum r)
        omega

theorem give_all {a b : Int} (hab : a < b) : ∀ {L : List E} {lo : Int}, Norm lo L → lo ≤ a → (∀ e ∈ L, ov a b e = false) →
    Norm lo (giveL a b L) ∧ (∀ p, Mem p (giveL a b L) ↔ Mem p L ∨ (a ≤ p ∧ p < b)) ∧ sum (giveL a b L) = sum L + (b - a)
  | [], lo, _, hl, _ => by
    have e : giveL a b [] = [(a, b - a)] := rfl
    rw [e]
    refine ⟨⟨hl, ?_, trivial⟩, fun p => ?_, ?_⟩
    · show 0 < b - a
      omega
    · rw [mem_cons]
      constructor
      · rintro (m | m)
        · have m1 : a ≤ p := m.1
          have m2 : p < a + (b - a) := m.2
          exact .inr ⟨m1, by omega⟩
        · exact .inl m
      · rintro (m | m)
        · exact .inr m
        · left
          show a ≤ p ∧ p < a + (b - a)
          omega
    · show b - a + 0 = 0 + (b - a)
      omega
  | e :: r, lo, h, hl, no => by
    obtain ⟨h1, h2, h3⟩ := h
    have ne := no e List.mem_cons_self
    have nr : ∀ x ∈ r, ov a b x = false := fun x hx => no x (List.mem_cons_of_mem _ hx)
    by_cases c : a ≤ e.1 + e.2
    · have fin : ∀ {J : E} {M : List E}, J.1 + J.2 = b → J.1 ≤ a → lo ≤ J.1 → Norm (a + 1) M → (∀ x ∈ M, ov a b x = false) → giveL a b (e :: r) = [(M.take (high b M)).foldl join J] ++ M.drop (high b M) → (∀ p, ((J.1 ≤ p ∧ p < b) ∨ Mem p M) ↔ (Mem p (e :: r) ∨ (a ≤ p ∧ p < b))) → J.2 + sum M = sum (e :: r) + (b - a) →
          Norm lo (giveL a b (e :: r)) ∧ (∀ p, Mem p (giveL a b (e :: r)) ↔ Mem p (e :: r) ∨ (a ≤ p ∧ p < b)) ∧ sum (giveL a b (e :: r)) = sum (e :: r) + (b - a) := by
        intro J M q1 q2 q3 q4 q5 q6 q7 q8
        have P := put2 hab q1 q2 q4 q5
        rw [q6]
        exact ⟨P.norm.mono q3, fun p => (P.mem p).trans (q7 p), P.sum.trans q8⟩
      by_cases d : e.1 + e.2 = a
      · have ej : join (a, b - a) e = (e.1, b - a + e.2) := by
          unfold join
          congr 1
          show min a e.1 = e.1
          rw [Int.min_eq_right]
          omega
        refine fin (J := (e.1, b - a + e.2)) (M := r) ?_ ?_ h1 (h3.mono (by omega)) nr ?_ (fun p => ?_) ?_
        · show e.1 + (b - a + e.2) = b
          omega
        · show e.1 ≤ a
          omega
        · unfold giveL mid
          rw [low_stop c, high_go (by omega : ¬ b < e.1)]
          simp only [List.take_zero, List.nil_append, List.take_succ_cons, List.drop_zero, List.foldl_cons, List.drop_succ_cons, ej]
        · rw [mem_cons]
          show (e.1 ≤ p ∧ p < b) ∨ Mem p r ↔ _
          constructor
          · rintro (m | m)
            · by_cases q : p < a
              · exact .inl (.inl ⟨m.1, by omega⟩)
              · exact .inr ⟨by omega, m.2⟩
            · exact .inl (.inr m)
          · rintro ((m | m) | m)
            · exact .inl ⟨m.1, by omega⟩
            · exact .inr m
            · exact .inl ⟨by omega, m.2⟩
        · show b - a + e.2 + sum r = e.2 + sum r + (b - a)
          omega
      · have eb : b ≤ e.1 := by
          simp only [ov, Bool.and_eq_false_iff, decide_eq_false_iff_not] at ne
          omega
        refine fin (J := (a, b - a)) (M := e :: r) ?_ (Int.le_refl _) hl ⟨by omega, h2, h3⟩ no ?_ (fun p => ?_) ?_
        · show a + (b - a) = b
          omega
        · unfold giveL mid
          rw [low_stop c]
          simp only [List.take_zero, List.nil_append, List.drop_zero]
        · show (a ≤ p ∧ p < b) ∨ Mem p (e :: r) ↔ _
          exact Or.comm
        · show b - a + sum (e :: r) = sum (e :: r) + (b - a)
          omega
    · have eg : giveL a b (e :: r) = e :: giveL a b r := by
        unfold giveL mid
        rw [low_go c, high_go (by omega : ¬ b < e.1)]
        simp only [List.take_succ_cons, List.drop_succ_cons, List.cons_append]
      obtain ⟨k1, k2, k3⟩ := give_all hab h3 (by omega) nr
      rw [eg]
      refine ⟨⟨h1, h2, k1⟩, fun p => ?_, ?_⟩
      · rw [mem_cons, mem_cons, k2]
        exact (or_assoc).symm
      · show e.2 + sum (giveL a b r) = e.2 + sum r + (b - a)
        omega

theorem high_all {b : Int} : ∀ {L : List E} {lo : Int}, Norm lo L → ∀ e ∈ L.drop (high b L), b < e.1
  | [], _, _, e, he => by simp at he
  | x :: r, lo, h, e, he => by
    by_cases c : b < x.1
    · rw [high_stop c] at he
      rcases List.mem_cons.1 he with rfl | he
      · exact c
      · have := h.2.1
        have := (h.2.2.pos e he).1
        omega
    · rw [high_go c] at he
      exact high_all h.2.2 e (by simpa using he)
theorem low_all {a : Int} : ∀ {L : List E}, ∀ e ∈ L.take (low a L), e.1 + e.2 < a
  | [], e, he => by simp at he
  | x :: r, e, he => by
    by_cases c : a ≤ x.1 + x.2
    · rw [low_stop c] at he
      simp at he
    · rw [low_go c, List.take_succ_cons] at he
      rcases List.mem_cons.1 he with rfl | he
      · omega
      · exact low_all e he
theorem split3 {a b : Int} {L : List E} (h : low a L ≤ high b L) : L = L.take (low a L) ++ (mid a b L ++ L.drop (high b L)) := by
  unfold mid
  rw [List.drop_take]
  conv => lhs; rw [← List.take_append_drop (low a L) L]
  congr 1
  conv => lhs; rw [← List.take_append_drop (high b L - low a L) (L.drop (low a L))]
  rw [List.drop_drop]
  congr 2
  omega
theorem mem_mid {a b : Int} {L : List E} (h : low a L ≤ high b L) {e : E} (he : e ∈ mid a b L) : e ∈ L := by
  rw [split3 h]
  exact List.mem_append_right _ (List.mem_append_left _ he)
theorem bad_iff {a b lo : Int} {L : List E} (hab : a < b) (h : Norm lo L) : bad a b L = true ↔ ∃ e ∈ L, ov a b e = true := by
  have hlh := low_le_high (a := a) (b := b) (by omega) h
  unfold bad
  rw [List.any_eq_true]
  constructor
  · rintro ⟨e, he, ho⟩
    exact ⟨e, mem_mid hlh he, ho⟩
  · rintro ⟨e, he, ho⟩
    refine ⟨e, ?_, ho⟩
    rw [split3 hlh] at he
    simp only [ov, Bool.and_eq_true, decide_eq_true_eq] at ho
    rcases List.mem_append.1 he with he | he
    · have := low_all e he
      omega
    · rcases List.mem_append.1 he with he | he
      · exact he
      · have := high_all h e he
        omega
theorem bad_mem {a b lo : Int} {L : List E} (hab : a < b) (h : Norm lo L) : bad a b L = true ↔ ∃ p, a ≤ p ∧ p < b ∧ Mem p L := by
  rw [bad_iff hab h]
  constructor
  · rintro ⟨e, he, ho⟩
    simp only [ov, Bool.and_eq_true, decide_eq_true_eq] at ho
    have := h.pos e he
    by_cases c : a ≤ e.1
    · exact ⟨e.1, c, ho.1, e, he, Int.le_refl _, by omega⟩
    · exact ⟨a, Int.le_refl _, hab, e, he, by omega, ho.2⟩
  · rintro ⟨p, h1, h2, e, he, h3, h4⟩
    exact ⟨e, he, by simp only [ov, Bool.and_eq_true, decide_eq_true_eq]; omega⟩
theorem no_of_bad {a b lo : Int} {L : List E} (hab : a < b) (h : Norm lo L) (hb : bad a b L = false) : ∀ e ∈ L, ov a b e = false := by
  intro e he
  cases ho : ov a b e with
  | false => rfl
  | true =>
    have := (bad_iff hab h).2 ⟨e, he, ho⟩
    rw [hb] at this
    cases this
theorem fold_al : ∀ {M : List E} {J : E}, Al M → (J.1 % 8 = 0 ∧ J.2 % 8 = 0) → ((M.foldl join J).1 % 8 = 0 ∧ (M.foldl join J).2 % 8 = 0)
  | [], _, _, h => h
  | e :: r, J, h, hj => by
    have he := h e List.mem_cons_self
    refine fold_al (M := r) (J := join J e) (fun x hx => h x (List.mem_cons_of_mem _ hx)) ⟨?_, ?_⟩
    · show (min J.1 e.1) % 8 = 0
      rw [Int.min_def]
      split <;> omega
    · show (J.2 + e.2) % 8 = 0
      omega
theorem Ok.give {A S a b : Int} {L : List E} (h : Ok A S L) (hab : a < b) (ha : A ≤ a) (hb : b ≤ A + S) (a8 : a % 8 = 0) (b8 : b % 8 = 0) (no : bad a b L = false) :
    Ok A S (giveL a b L) ∧ (∀ p, Mem p (giveL a b L) ↔ Mem p L ∨ (a ≤ p ∧ p < b)) ∧ sum (giveL a b L) = sum L + (b - a) := by
  obtain ⟨k1, k2, k3⟩ := give_all hab h.norm ha (no_of_bad hab h.norm no)
  refine ⟨⟨k1, hi_of k1 fun p m => ?_, ?_, h.a0, h.a1, h.s0, h.s1, h.a8, h.s8⟩, k2, k3⟩
  · rcases (k2 p).1 m with m | m
    · exact (h.in_ m).2
    · omega
  · intro e he
    unfold giveL at he
    rcases List.mem_append.1 he with he | he
    · exact h.al e (List.mem_of_mem_take he)
    · rcases List.mem_append.1 he with he | he
      · have : e = (mid a b L).foldl join (a, b - a) := by simpa using he
        subst this
        exact fold_al (fun x hx => h.al x (mem_mid (low_le_high (by omega) h.norm) hx)) ⟨a8, by show (b - a) % 8 = 0; omega⟩
      · exact h.al e (List.mem_of_mem_drop he)

/-! ### words, free or not -/
def grow : List E → List E
  | [] => []
  | [e] => [(e.1, e.2 + 8)]
  | e :: r => e :: grow r
def runs (A : Int) (F : Nat → Bool) : Nat → List E
  | 0 => []
  | i + 1 => if F i then (if i = 0 ∨ F (i - 1) = false then runs A F i ++ [(A + 8 * (i : Int), 8)] else grow (runs A F i)) else runs A F i
theorem grow_snoc : ∀ (L : List E) (e : E), grow (L ++ [e]) = L ++ [(e.1, e.2 + 8)]
  | [], e => rfl
  | x :: r, e => by
    have : x :: r ++ [e] = x :: (r ++ [e]) := rfl
    rw [this]
    have h2 : ∀ M : List E, M ≠ [] → grow (x :: M) = x :: grow M := by
      intro M hM
      cases M with
      | nil => exact absurd rfl hM
      | cons _ _ => rfl
    rw [h2 _ (by simp), grow_snoc r e]
    rfl
theorem norm_snoc : ∀ {L : List E} {lo : Int} {e : E}, Norm lo L → (∀ x ∈ L, x.1 + x.2 < e.1) → lo ≤ e.1 → 0 < e.2 → Norm lo (L ++ [e])
  | [], lo, e, _, _, h1, h2 => ⟨h1, h2, trivial⟩
  | x :: r, lo, e, h, k, h1, h2 => ⟨h.1, h.2.1, norm_snoc h.2.2 (fun y hy => k y (List.mem_cons_of_mem _ hy)) (by have := k x List.mem_cons_self; omega) h2⟩
theorem norm_left : ∀ {L M : List E} {lo : Int}, Norm lo (L ++ M) → Norm lo L
  | [], _, _, _ => trivial
  | x :: r, M, lo, h => ⟨h.1, h.2.1, norm_left h.2.2⟩
theorem norm_last : ∀ {L : List E} {lo : Int} {e : E}, Norm lo (L ++ [e]) → (∀ x ∈ L, x.1 + x.2 < e.1) ∧ lo ≤ e.1 ∧ 0 < e.2
  | [], lo, e, h => ⟨(fun _ hx => by cases hx), h.1, h.2.1⟩
  | x :: r, lo, e, h => by
    obtain ⟨k1, k2, k3⟩ := norm_last (L := r) h.2.2
    have h1 := h.1
    have h2 := h.2.1
    refine ⟨fun y hy => ?_, by omega, k3⟩
    rcases List.mem_cons.1 hy with rfl | hy
    · omega
    · exact k1 y hy
structure Runs (A : Int) (F : Nat → Bool) (i : Nat) (L : List E) : Prop where
  norm : Norm A L
  mem : ∀ p, Mem p L ↔ A ≤ p ∧ p < A + 8 * (i : Int) ∧ F ((p - A) / 8).toNat = true
  al : A % 8 = 0 → Al L
  last : 0 < i → F (i - 1) = true → ∃ M e, L = M ++ [e] ∧ e.1 + e.2 = A + 8 * (i : Int)
  len : L.length ≤ i
theorem runs_ok (A : Int) (F : Nat → Bool) : ∀ i, Runs A F i (runs A F i)
  | 0 => ⟨trivial, fun p => ⟨fun h => absurd h (mem_nil p), fun h => by omega⟩, (fun _ _ h => by cases h), (fun h => by omega), Nat.le_refl _⟩
  | i + 1 => by
    have ih := runs_ok A F i
    have hw : ∀ p, A ≤ p → p < A + 8 * ((i + 1 : Nat) : Int) → ¬ p < A + 8 * (i : Int) → ((p - A) / 8).toNat = i := by
      intro p h1 h2 h3
      omega
    by_cases c : F i = true
    · have hm : ∀ {M : List E}, (∀ p, Mem p M ↔ Mem p (runs A F i) ∨ (A + 8 * (i : Int) ≤ p ∧ p < A + 8 * (i : Int) + 8)) → ∀ p, Mem p M ↔ A ≤ p ∧ p < A + 8 * ((i + 1 : Nat) : Int) ∧ F ((p - A) / 8).toNat = true := by
        intro M h p
        rw [h p, ih.mem p]
        constructor
        · rintro (m | m)
          · exact ⟨m.1, by omega, m.2.2⟩
          · refine ⟨by omega, by omega, ?_⟩
            rw [hw p (by omega) (by omega) (by omega)]
            exact c
        · rintro ⟨m1, m2, m3⟩
          by_cases q : p < A + 8 * (i : Int)
          · exact .inl ⟨m1, q, m3⟩
          · exact .inr ⟨by omega, by omega⟩
      by_cases d : i = 0 ∨ F (i - 1) = false
      · have er : runs A F (i + 1) = runs A F i ++ [(A + 8 * (i : Int), 8)] := by simp only [runs, c, if_true, d]
        rw [er]
        refine ⟨norm_snoc ih.norm (fun x hx => ?_) ?_ ?_, hm fun p => ?_, fun h8 x hx => ?_, fun _ _ => ⟨_, _, rfl, ?_⟩, ?_⟩
        · show x.1 + x.2 < A + 8 * (i : Int)
          have hp := ih.norm.pos x hx
          have m := (ih.mem (x.1 + x.2 - 1)).1 ⟨x, hx, by omega, by omega⟩
          rcases d with d | d
          · omega
          · by_cases q : x.1 + x.2 = A + 8 * (i : Int)
            · have : ((x.1 + x.2 - 1 - A) / 8).toNat = i - 1 := by omega
              rw [this, d] at m
              exact absurd m.2.2 (by decide)
            · omega
        · show A ≤ A + 8 * (i : Int)
          omega
        · show (0 : Int) < 8
          omega
        · rw [mem_append, mem_cons]
          constructor
          · rintro (m | m | m)
            · exact .inl m
            · exact .inr m
            · exact absurd m (mem_nil p)
          · rintro (m | m)
            · exact .inl m
            · exact .inr (.inl m)
        · rcases List.mem_append.1 hx with hx | hx
          · exact ih.al h8 x hx
          · have : x = (A + 8 * (i : Int), 8) := by simpa using hx
            subst this
            exact ⟨by show (A + 8 * (i : Int)) % 8 = 0; omega, by show (8 : Int) % 8 = 0; rfl⟩
        · show A + 8 * (i : Int) + 8 = A + 8 * ((i + 1 : Nat) : Int)
          omega
        · rw [List.length_append]
          have := ih.len
          simp
          omega
      · have er : runs A F (i + 1) = grow (runs A F i) := by simp only [runs, c, if_true, d, if_false]
        obtain ⟨M, e, eL, ee⟩ := ih.last (by omega) (by
          cases h : F (i - 1) with
          | true => rfl
          | false => exact absurd (.inr h) d)
        have hn := ih.norm
        have hal := ih.al
        have hlen := ih.len
        rw [er, eL, grow_snoc]
        rw [eL] at hn hal hlen
        obtain ⟨n1, n2, n3⟩ := norm_last hn
        refine ⟨norm_snoc (norm_left hn) n1 n2 ?_, hm fun p => ?_, fun h8 x hx => ?_, fun _ _ => ⟨_, _, rfl, ?_⟩, ?_⟩
        · show 0 < e.2 + 8
          omega
        · rw [eL, mem_append, mem_append, mem_cons, mem_cons]
          constructor
          · rintro (m | m | m)
            · exact .inl (.inl m)
            · have m1 : e.1 ≤ p := m.1
              have m2 : p < e.1 + (e.2 + 8) := m.2
              by_cases q : p < e.1 + e.2
              · exact .inl (.inr (.inl ⟨m1, q⟩))
              · exact .inr ⟨by omega, by omega⟩
            · exact absurd m (mem_nil p)
          · rintro ((m | m | m) | m)
            · exact .inl m
            · right; left
              show e.1 ≤ p ∧ p < e.1 + (e.2 + 8)
              omega
            · exact absurd m (mem_nil p)
            · right; left
              show e.1 ≤ p ∧ p < e.1 + (e.2 + 8)
              omega
        · rcases List.mem_append.1 hx with hx | hx
          · exact hal h8 x (List.mem_append_left _ hx)
          · have he := hal h8 e (List.mem_append_right _ List.mem_cons_self)
            have : x = (e.1, e.2 + 8) := by simpa using hx
            subst this
            exact ⟨he.1, by show (e.2 + 8) % 8 = 0; omega⟩
        · show e.1 + (e.2 + 8) = A + 8 * ((i + 1 : Nat) : Int)
          omega
        · simp only [List.length_append, List.length_cons, List.length_nil] at hlen ⊢
          omega
    · have er : runs A F (i + 1) = runs A F i := by simp [runs, c]
      rw [er]
      have cf : F i = false := by simpa using c
      refine ⟨ih.norm, fun p => ?_, ih.al, fun _ h => ?_, Nat.le_succ_of_le ih.len⟩
      · rw [ih.mem p]
        constructor
        · rintro ⟨m1, m2, m3⟩
          exact ⟨m1, by omega, m3⟩
        · rintro ⟨m1, m2, m3⟩
          refine ⟨m1, ?_, m3⟩
          by_cases q : p < A + 8 * (i : Int)
          · exact q
          · rw [hw p m1 m2 q, cf] at m3
            cases m3
      · rw [Nat.add_sub_cancel, cf] at h
        cases h

/-- Words from u on, m of them, are made x. -/
def setW (F : Nat → Bool) (u m : Nat) (x : Bool) : Nat → Bool := fun i => if u ≤ i ∧ i < u + m then x else F i
theorem setW_zero (F : Nat → Bool) (u : Nat) (x : Bool) : setW F u 0 x = F := by
  funext i
  unfold setW
  rw [if_neg (by omega)]
theorem setW_step (F : Nat → Bool) (u m i : Nat) (x : Bool) : (if i = u + m then x else setW F u m x i) = setW F u (m + 1) x i := by
  unfold setW
  by_cases h : i = u + m
  · rw [if_pos h, if_pos (by omega)]
  · rw [if_neg h]
    by_cases k : u ≤ i ∧ i < u + m
    · rw [if_pos k, if_pos (by omega)]
    · rw [if_neg k, if_neg (by omega)]
theorem runs_mem (A : Int) (F : Nat → Bool) (n : Nat) (p : Int) : Mem p (runs A F n) ↔ A ≤ p ∧ p < A + 8 * (n : Int) ∧ F ((p - A) / 8).toNat = true := (runs_ok A F n).mem p
theorem Ok.runs {A : Int} {n : Nat} (F : Nat → Bool) (a0 : 0 ≤ A) (a1 : A ≤ 65536) (a8 : A % 8 = 0) (hn : n ≤ 8192) : Ok A (8 * (n : Int)) (runs A F n) := by
  have h := runs_ok A F n
  exact ⟨h.norm, hi_of h.norm fun p m => ((h.mem p).1 m).2.1, h.al a8, a0, a1, by omega, by omega, a8, by omega⟩
theorem eq_runs {A : Int} {n : Nat} {F : Nat → Bool} {L : List E} {lo : Int} (h : Norm lo L) (k : ∀ p, Mem p L ↔ A ≤ p ∧ p < A + 8 * (n : Int) ∧ F ((p - A) / 8).toNat = true) : L = runs A F n :=
  uniq h (runs_ok A F n).norm fun p => (k p).trans (runs_mem A F n p).symm
/-- What is carved of the row of free words. -/
theorem runs_carve {A z : Int} {n u m : Nat} {F : Nat → Bool} (hz : z = 8 * (m : Int)) (hm : 0 < m) (hf : fits z (runs A F n) = true) (hu : carveA z (runs A F n) = A + 8 * (u : Int)) : carveL z (runs A F n) = runs A (setW F u m false) n := by
  have h := runs_ok A F n
  refine eq_runs (carve_norm (by omega) h.norm) fun p => ?_
  rw [carve_mem (by omega) h.norm hf p, h.mem p, hu, hz]
  unfold setW
  constructor
  · rintro ⟨⟨m1, m2, m3⟩, k⟩
    refine ⟨m1, m2, ?_⟩
    rw [if_neg (by omega)]
    exact m3
  · rintro ⟨m1, m2, m3⟩
    by_cases c : u ≤ ((p - A) / 8).toNat ∧ ((p - A) / 8).toNat < u + m
    · rw [if_pos c] at m3
      cases m3
    · rw [if_neg c] at m3
      exact ⟨⟨m1, m2, m3⟩, by omega⟩
theorem runs_give {A a b : Int} {n u m : Nat} {F : Nat → Bool} (ha : a = A + 8 * (u : Int)) (hb : b = a + 8 * (m : Int)) (hm : 0 < m) (hin : u + m ≤ n) (no : bad a b (runs A F n) = false) : giveL a b (runs A F n) = runs A (setW F u m true) n := by
  have h := runs_ok A F n
  have hab : a < b := by omega
  obtain ⟨k1, k2, k3⟩ := give_all hab h.norm (by omega) (no_of_bad hab h.norm no)
  refine eq_runs k1 fun p => ?_
  rw [k2 p, h.mem p]
  unfold setW
  constructor
  · rintro (⟨m1, m2, m3⟩ | k)
    · refine ⟨m1, m2, ?_⟩
      by_cases c : u ≤ ((p - A) / 8).toNat ∧ ((p - A) / 8).toNat < u + m
      · rw [if_pos c]
      · rw [if_neg c]
        exact m3
    · refine ⟨by omega, by omega, ?_⟩
      rw [if_pos (by omega)]
  · rintro ⟨m1, m2, m3⟩
    by_cases c : u ≤ ((p - A) / 8).toNat ∧ ((p - A) / 8).toNat < u + m
    · exact .inr (by omega)
    · rw [if_neg c] at m3
      exact .inl ⟨m1, m2, m3⟩
theorem runs_bad {A a b : Int} {n u m : Nat} {F : Nat → Bool} (ha : a = A + 8 * (u : Int)) (hb : b = a + 8 * (m : Int)) (hm : 0 < m) (hin : u + m ≤ n) : bad a b (runs A F n) = true ↔ ∃ i, i < m ∧ F (u + i) = true := by
  have h := runs_ok A F n
  rw [bad_mem (by omega) h.norm]
  constructor
  · rintro ⟨p, p1, p2, pm⟩
    have hp := (h.mem p).1 pm
    refine ⟨((p - A) / 8).toNat - u, by omega, ?_⟩
    have e : u + (((p - A) / 8).toNat - u) = ((p - A) / 8).toNat := by omega
    rw [e]
    exact hp.2.2
  · rintro ⟨i, i1, i2⟩
    refine ⟨A + 8 * ((u + i : Nat) : Int), by omega, by omega, (h.mem _).2 ⟨by omega, by omega, ?_⟩⟩
    have e : ((A + 8 * ((u + i : Nat) : Int) - A) / 8).toNat = u + i := by omega
    rw [e]
    exact i2
theorem runs_all {A : Int} {n : Nat} (hn : 0 < n) : runs A (fun _ => true) n = [(A, 8 * (n : Int))] := by
  symm
  refine eq_runs (lo := A) ⟨Int.le_refl _, by show 0 < 8 * (n : Int); omega, trivial⟩ fun p => ?_
  rw [mem_cons]
  constructor
  · rintro (m | m)
    · exact ⟨m.1, m.2, rfl⟩
    · exact absurd m (mem_nil p)
  · rintro ⟨m1, m2, _⟩
    exact .inl ⟨m1, m2⟩
theorem runs_congr {A : Int} {n : Nat} {F G : Nat → Bool} (h : ∀ i, i < n → F i = G i) : runs A F n = runs A G n := by
  refine eq_runs (runs_ok A F n).norm fun p => ?_
  rw [runs_mem]
  constructor
  · rintro ⟨a, b, c⟩
    refine ⟨a, b, ?_⟩
    rw [← h _ (by omega)]
    exact c
  · rintro ⟨a, b, c⟩
    refine ⟨a, b, ?_⟩
    rw [h _ (by omega)]
    exact c
end Go.Proofs.Ytkkmhapfhnnooaa.Gm
