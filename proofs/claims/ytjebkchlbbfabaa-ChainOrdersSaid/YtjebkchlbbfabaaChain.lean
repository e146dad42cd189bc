/-
  Layer 9 in plain mathematics: entries as pairs (a scope, whether it is counted), where one allocates, what is reached, parents, what is above what; and what is so of entries that a thread may have.
-/
import Derived.Test.YtjebkchlbbfabaaProg
namespace Go.Proofs.Ytjebkchlbbfabaa.Chain
set_option linter.unusedVariables false

abbrev E := Int × Bool
def hit (s : Int) (e : E) : Bool := e.2 && e.1 == s
def lastV (L : List E) : E := L.getLastD (0, false)
def areaV (L : List E) : Int := (lastV L).1
def idx (L : List E) (s : Int) : Nat := L.findIdx (hit s)
def inP (L : List E) (s : Int) : Prop := idx L s < L.length
instance (L : List E) (s : Int) : Decidable (inP L s) := inferInstanceAs (Decidable (_ < _))
def entV (L : List E) (s : Int) : Int := if inP L s then (idx L s : Int) else -1
def reachV (L : List E) (s : Int) : Bool := s == 0 || L.any (hit s)
def parV (L : List E) (s : Int) : Int := if inP L s then areaV (L.take (idx L s)) else -1
def up (L : List E) : Nat → Int → Int
  | 0, s => s
  | k + 1, s => parV L (up L k s)
def comes (L : List E) (s b : Int) : Nat → Bool
  | 0 => false
  | n + 1 => comes L s b n || up L (n + 1) b == s
def aboveV (L : List E) (s b : Int) : Bool := s == 0 || (s == b || comes L s b 8)
def pushE (L : List E) : Int := if 6 ≤ L.length then 24 else 0
def pushL (L : List E) (e : E) : List E := if 6 ≤ L.length then [] else L ++ [e]
def popE (L : List E) : Int := if L.length = 0 then 23 else 0

theorem inP_iff {L : List E} {s : Int} : inP L s ↔ L.any (hit s) = true := by
  unfold inP idx
  rw [List.findIdx_lt_length, List.any_eq_true]
theorem reach_iff {L : List E} {s : Int} : reachV L s = true ↔ s = 0 ∨ inP L s := by
  unfold reachV
  rw [Bool.or_eq_true, inP_iff]
  simp
theorem ent_nonneg (L : List E) (s : Int) : decide (0 ≤ entV L s) = L.any (hit s) := by
  unfold entV
  by_cases h : inP L s
  · rw [if_pos h, inP_iff.1 h]
    exact decide_eq_true (by omega)
  · have h' : L.any (hit s) = false := by
      cases e : L.any (hit s)
      · rfl
      · exact absurd (inP_iff.2 e) h
    rw [if_neg h, h']
    decide
theorem idx_of {L : List E} {s : Int} {i : Nat} (hi : i < L.length) (h : hit s L[i] = true) (hb : ∀ j (hj : j < L.length), j < i → hit s L[j] = false) : idx L s = i := by
  unfold idx
  rw [List.findIdx_eq hi]
  exact ⟨h, fun j hj => hb j (by omega) hj⟩
theorem idx_none {L : List E} {s : Int} (hb : ∀ j (hj : j < L.length), j < L.length → hit s L[j] = false) : ¬ inP L s := by
  rw [inP_iff, List.any_eq_true]
  rintro ⟨x, hx, h⟩
  obtain ⟨i, hi, rfl⟩ := List.mem_iff_getElem.1 hx
  rw [hb i hi hi] at h
  cases h

theorem last_snoc (L : List E) (e : E) : lastV (L ++ [e]) = e := by simp [lastV, List.getLastD_eq_getLast?]
theorem area_snoc (L : List E) (e : E) : areaV (L ++ [e]) = e.1 := by rw [areaV, last_snoc]
theorem last_at {L : List E} (h : 0 < L.length) : lastV L = L[L.length - 1] := by
  rw [lastV, List.getLastD_eq_getLast?, List.getLast?_eq_getElem?, List.getElem?_eq_getElem (by omega)]
  rfl
theorem area_at {L : List E} (h : 0 < L.length) : areaV L = (L[L.length - 1]).1 := by rw [areaV, last_at h]
theorem area_nil : areaV [] = 0 := rfl
theorem idx_app_in {L M : List E} {s : Int} (h : inP L s) : idx (L ++ M) s = idx L s := by
  unfold inP at h
  unfold idx at *
  rw [List.findIdx_append, if_pos h]
theorem inP_app {L M : List E} {s : Int} (h : inP L s) : inP (L ++ M) s := by
  have := idx_app_in (M := M) h
  unfold inP at *
  rw [this, List.length_append]
  omega
theorem par_app_in {L M : List E} {s : Int} (h : inP L s) : parV (L ++ M) s = parV L s := by
  unfold parV
  rw [if_pos h, if_pos (inP_app h), idx_app_in h]
  unfold inP at h
  rw [List.take_append_of_le_length (by omega)]
theorem app_new {L : List E} {s : Int} {e : E} (h : ¬ inP L s) (he : hit s e = true) : inP (L ++ [e]) s ∧ idx (L ++ [e]) s = L.length ∧ parV (L ++ [e]) s = areaV L := by
  have h1 : idx (L ++ [e]) s = L.length := by
    unfold inP at h
    unfold idx at *
    rw [List.findIdx_append, if_neg h]
    simp [List.findIdx_cons, he]
  have h2 : inP (L ++ [e]) s := by
    unfold inP
    rw [h1]
    simp
  refine ⟨h2, h1, ?_⟩
  unfold parV
  rw [if_pos h2, h1, List.take_left']
  rfl
theorem app_no {L : List E} {s : Int} {e : E} (h : ¬ inP L s) (he : hit s e = false) : ¬ inP (L ++ [e]) s := by
  rw [inP_iff] at *
  simpa [he] using h
theorem par_none {L : List E} {s : Int} (h : ¬ inP L s) : parV L s = -1 := if_neg h

theorem up_add (L : List E) (s : Int) (i : Nat) : ∀ j, up L (j + i) s = up L j (up L i s)
  | 0 => by rw [Nat.zero_add]; rfl
  | j + 1 => by
    rw [show j + 1 + i = j + i + 1 by omega]
    show parV L (up L (j + i) s) = parV L (up L j (up L i s))
    rw [up_add L s i j]
theorem comes_iff {L : List E} {s b : Int} : ∀ {n : Nat}, comes L s b n = true ↔ ∃ k, k < n ∧ up L (k + 1) b = s
  | 0 => by simp [comes]
  | n + 1 => by
    unfold comes
    rw [Bool.or_eq_true, comes_iff, beq_iff_eq]
    constructor
    · rintro (⟨k, h, e⟩ | e)
      · exact ⟨k, by omega, e⟩
      · exact ⟨n, by omega, e⟩
    · rintro ⟨k, h, e⟩
      by_cases hk : k = n
      · subst hk; exact .inr e
      · exact .inl ⟨k, by omega, e⟩
theorem above_iff {L : List E} {s b : Int} : aboveV L s b = true ↔ s = 0 ∨ s = b ∨ ∃ k, k < 8 ∧ up L (k + 1) b = s := by
  unfold aboveV
  rw [Bool.or_eq_true, Bool.or_eq_true, comes_iff, beq_iff_eq, beq_iff_eq]
theorem up_congr {L M : List E} {Q : Int → Prop} (h : ∀ s, Q s → parV M s = parV L s ∧ Q (parV L s)) {s : Int} (hs : Q s) : ∀ k, up M k s = up L k s ∧ Q (up L k s)
  | 0 => ⟨rfl, hs⟩
  | k + 1 => by
    obtain ⟨h1, h2⟩ := up_congr h hs k
    have h3 := h _ h2
    refine ⟨?_, h3.2⟩
    show parV M (up M k s) = parV L (up L k s)
    rw [h1, h3.1]
theorem above_congr {L M : List E} {s b : Int} (h : ∀ k, up M k b = up L k b) : aboveV M s b = aboveV L s b := by
  have hc : ∀ n, comes M s b n = comes L s b n := by
    intro n
    induction n with
    | zero => rfl
    | succ n ih => unfold comes; rw [ih, h]
  unfold aboveV
  rw [hc]

/-- Whether an entry may come behind others. -/
def okE (p : List E) (e : E) : Bool := (e.2 && decide (0 < e.1) && (parV p e.1 == -1 || parV p e.1 == areaV p)) || (!e.2 && reachV p e.1)
def stepV (p : List E) (e : E) : List E := if p.length < 5 ∧ okE p (e.1 % 8, e.2) = true then p ++ [(e.1 % 8, e.2)] else p
def fitV (L : List E) : List E := L.foldl stepV []
inductive Fits : List E → Prop
  | nil : Fits []
  | snoc {L : List E} {e : E} : Fits L → 0 ≤ e.1 → e.1 ≤ 7 → okE L e = true → Fits (L ++ [e])
theorem step_fits {p : List E} (e : E) (h : Fits p) (hl : p.length ≤ 5) : Fits (stepV p e) ∧ (stepV p e).length ≤ 5 := by
  unfold stepV
  split
  · rename_i c
    exact ⟨.snoc h (by dsimp only; omega) (by dsimp only; omega) c.2, by simp; omega⟩
  · exact ⟨h, hl⟩
theorem fold_fits : ∀ (l p : List E), Fits p → p.length ≤ 5 → Fits (l.foldl stepV p) ∧ (l.foldl stepV p).length ≤ 5
  | [], p, h, hl => ⟨h, hl⟩
  | e :: t, p, h, hl => fold_fits t _ (step_fits e h hl).1 (step_fits e h hl).2
theorem fit_fits (L : List E) : Fits (fitV L) ∧ (fitV L).length ≤ 5 := fold_fits L [] .nil (by simp)
theorem fold_full : ∀ (l p : List E), 5 ≤ p.length → l.foldl stepV p = p
  | [], p, h => rfl
  | e :: t, p, h => by
    have hs : stepV p e = p := if_neg (by omega)
    rw [List.foldl_cons, hs]
    exact fold_full t p h
theorem fit_take {L : List E} {k : Nat} (hk : k < L.length) : fitV (L.take (k + 1)) = stepV (fitV (L.take k)) L[k] := by
  unfold fitV
  rw [List.take_succ_eq_append_getElem hk, List.foldl_append]
  rfl
theorem fit_full {L : List E} {k : Nat} (h : 5 ≤ (fitV (L.take k)).length) : fitV L = fitV (L.take k) := by
  have e : fitV L = (L.drop k).foldl stepV (fitV (L.take k)) := by
    unfold fitV
    rw [← List.foldl_append, List.take_append_drop]
  rw [e, fold_full _ _ h]

theorem fits_range {L : List E} (h : Fits L) : ∀ s, inP L s → 1 ≤ s ∧ s ≤ 7 := by
  induction h with
  | nil => intro s hs; simp [inP] at hs
  | @snoc L e _ h0 h7 ok ih =>
    intro s hs
    by_cases c : inP L s
    · exact ih s c
    · cases he : hit s e with
      | false => exact absurd hs (app_no c he)
      | true =>
        simp only [hit, Bool.and_eq_true, beq_iff_eq] at he
        obtain ⟨e1, e2⟩ := he
        have hp : 0 < e.1 := by
          unfold okE at ok
          rw [e1] at ok
          simp only [Bool.true_and, Bool.not_true, Bool.false_and, Bool.or_false, Bool.and_eq_true, decide_eq_true_eq] at ok
          exact ok.1
        omega
theorem fits_area {L : List E} (h : Fits L) : areaV L = 0 ∨ inP L (areaV L) := by
  induction h with
  | nil => exact .inl rfl
  | @snoc L e _ h0 h7 ok ih =>
    rw [area_snoc]
    cases he : e.2 with
    | true =>
      right
      by_cases c : inP L e.1
      · exact inP_app c
      · exact (app_new c (by simp [hit, he])).1
    | false =>
      unfold okE at ok
      rw [he] at ok
      simp only [Bool.false_and, Bool.not_false, Bool.true_and, Bool.false_or] at ok
      rcases reach_iff.1 ok with c | c
      · exact .inl c
      · exact .inr (inP_app c)
theorem fits_par {L : List E} (h : Fits L) : ∀ s, inP L s → parV L s = 0 ∨ inP L (parV L s) ∧ idx L (parV L s) < idx L s := by
  induction h with
  | nil => intro s hs; simp [inP] at hs
  | @snoc L e hf h0 h7 ok ih =>
    intro s hs
    by_cases c : inP L s
    · rw [par_app_in c, idx_app_in c]
      rcases ih s c with k | ⟨k1, k2⟩
      · exact .inl k
      · exact .inr ⟨inP_app k1, by rw [idx_app_in k1]; exact k2⟩
    · cases he : hit s e with
      | false => exact absurd hs (app_no c he)
      | true =>
        obtain ⟨n1, n2, n3⟩ := app_new c he
        rw [n3, n2]
        rcases fits_area hf with k | k
        · exact .inl k
        · refine .inr ⟨inP_app k, ?_⟩
          rw [idx_app_in k]
          exact k
theorem fits_up {L : List E} (h : Fits L) {b : Int} : ∀ {k : Nat}, 1 ≤ up L (k + 1) b → inP L (up L (k + 1) b) ∧ inP L b ∧ idx L (up L (k + 1) b) + (k + 1) ≤ idx L b := by
  intro k
  induction k with
  | zero =>
    intro ha
    have ha' : 1 ≤ parV L b := ha
    have hb : inP L b := by
      by_cases c : inP L b
      · exact c
      · rw [par_none c] at ha'; omega
    rcases fits_par h b hb with c | c
    · omega
    · exact ⟨c.1, hb, by show idx L (parV L b) + 1 ≤ _; omega⟩
  | succ k ih =>
    intro ha
    have ha' : 1 ≤ parV L (up L (k + 1) b) := ha
    have hb : inP L (up L (k + 1) b) := by
      by_cases c : inP L (up L (k + 1) b)
      · exact c
      · rw [par_none c] at ha'; omega
    obtain ⟨i1, i2, i3⟩ := ih (fits_range h _ hb).1
    rcases fits_par h _ hb with c | c
    · omega
    · exact ⟨c.1, i2, by show idx L (parV L (up L (k + 1) b)) + _ ≤ _; omega⟩
/-- What is above another one, of entries that a thread may have. -/
theorem fits_above {L : List E} (h : Fits L) {a b : Int} (ha : 1 ≤ a) (hne : a ≠ b) (hab : aboveV L a b = true) : ∃ k, up L (k + 1) b = a ∧ inP L a ∧ inP L b ∧ idx L a + (k + 1) ≤ idx L b := by
  rcases above_iff.1 hab with e | e | ⟨k, _, e⟩
  · omega
  · exact absurd e hne
  · obtain ⟨i1, i2, i3⟩ := fits_up h (b := b) (k := k) (by rw [e]; exact ha)
    rw [e] at i1 i3
    exact ⟨k, e, i1, i2, i3⟩
theorem above_self (L : List E) (a : Int) : aboveV L a a = true := above_iff.2 (.inr (.inl rfl))
theorem above_zero (L : List E) (a : Int) : aboveV L 0 a = true := above_iff.2 (.inl rfl)
theorem above_one {L : List E} (h : Fits L) {a b : Int} (ha : 0 ≤ a) (hb : 0 ≤ b) (h1 : aboveV L a b = true) (h2 : aboveV L b a = true) : a = b := by
  by_cases hne : a = b
  · exact hne
  · exfalso
    by_cases a0 : a = 0
    · obtain ⟨k, _, _, i2, _⟩ := fits_above h (a := b) (b := a) (by omega) (fun e => hne e.symm) h2
      have := (fits_range h _ i2).1
      omega
    · by_cases b0 : b = 0
      · obtain ⟨k, _, _, i2, _⟩ := fits_above h (a := a) (b := b) (by omega) hne h1
        have := (fits_range h _ i2).1
        omega
      · obtain ⟨k, _, _, _, i3⟩ := fits_above h (a := a) (b := b) (by omega) hne h1
        obtain ⟨k', _, _, _, i3'⟩ := fits_above h (a := b) (b := a) (by omega) (fun e => hne e.symm) h2
        omega
theorem above_trans {L : List E} (h : Fits L) (hl : L.length ≤ 5) {a b c : Int} (ha : 0 ≤ a) (hb : 0 ≤ b) (h1 : aboveV L a b = true) (h2 : aboveV L b c = true) : aboveV L a c = true := by
  by_cases a0 : a = 0
  · subst a0; exact above_zero _ _
  · by_cases ab : a = b
    · subst ab; exact h2
    · by_cases bc : b = c
      · subst bc; exact h1
      · obtain ⟨k, e, i1, i2, i3⟩ := fits_above h (a := a) (b := b) (by omega) ab h1
        have := (fits_range h _ i2).1
        obtain ⟨j, e', j1, j2, j3⟩ := fits_above h (a := b) (b := c) (by omega) bc h2
        refine above_iff.2 (.inr (.inr ⟨k + (j + 1), ?_, ?_⟩))
        · unfold inP at j2
          omega
        · rw [show k + (j + 1) + 1 = k + 1 + (j + 1) by omega, up_add, e', e]
theorem above_reach {L : List E} (h : Fits L) {a b : Int} (ha : 0 ≤ a) (hr : reachV L b = true) (h1 : aboveV L a b = true) : reachV L a = true := by
  by_cases a0 : a = 0
  · exact reach_iff.2 (.inl a0)
  · by_cases ab : a = b
    · subst ab; exact hr
    · obtain ⟨k, e, i1, i2, i3⟩ := fits_above h (a := a) (b := b) (by omega) ab h1
      exact reach_iff.2 (.inr i1)
/-- An entry more leaves what was above what is reached. -/
theorem above_push {L : List E} (h : Fits L) {s : Int} (hs : 1 ≤ s) {a b : Int} (hr : reachV L b = true) : aboveV (L ++ [(s, true)]) a b = aboveV L a b := by
  have hz : ∀ x, ¬ inP L x → x ≠ s → parV (L ++ [(s, true)]) x = -1 := fun x hx hne => par_none (app_no hx (by simp only [hit, Bool.true_and, beq_eq_false_iff_ne]; exact fun e => hne e.symm))
  have n0 : ∀ x, x ≤ 0 → ¬ inP L x := fun x hx hi => by have := (fits_range h _ hi).1; omega
  have key : ∀ x, (inP L x ∨ x = 0 ∨ x = -1) → parV (L ++ [(s, true)]) x = parV L x ∧ (inP L (parV L x) ∨ parV L x = 0 ∨ parV L x = -1) := by
    rintro x (c | c)
    · refine ⟨par_app_in c, ?_⟩
      rcases fits_par h x c with k | k
      · exact .inr (.inl k)
      · exact .inl k.1
    · have hx := n0 x (by omega)
      rw [hz x hx (by omega), par_none hx]
      exact ⟨rfl, .inr (.inr rfl)⟩
  refine above_congr fun k => (up_congr key ?_ k).1
  rcases reach_iff.1 hr with c | c
  · exact .inr (.inl c)
  · exact .inl c
theorem par_push {L : List E} {s : Int} (h : reachV L s = false) : parV (L ++ [(s, true)]) s = areaV L ∧ aboveV (L ++ [(s, true)]) (areaV L) s = true := by
  have hn : ¬ inP L s := fun c => by rw [reach_iff.2 (.inr c)] at h; cases h
  have e := (app_new hn (e := (s, true)) (by simp [hit])).2.2
  exact ⟨e, above_iff.2 (.inr (.inr ⟨0, by omega, e⟩))⟩
theorem reach_app {L M : List E} {s : Int} (h : reachV L s = true) : reachV (L ++ M) s = true := by
  rcases reach_iff.1 h with c | c
  · exact reach_iff.2 (.inl c)
  · exact reach_iff.2 (.inr (inP_app c))
theorem reach_push (L : List E) (s : Int) : reachV (L ++ [(s, true)]) s = true := by simp [reachV, hit]
/-- An entry that is not counted. -/
theorem in_par (L : List E) (s x : Int) : parV (L ++ [(s, false)]) x = parV L x := by
  by_cases c : inP L x
  · exact par_app_in c
  · rw [par_none c, par_none (app_no c (by simp [hit]))]
theorem in_reach (L : List E) (s x : Int) : reachV (L ++ [(s, false)]) x = reachV L x := by simp [reachV, hit]
theorem in_above (L : List E) (s a b : Int) : aboveV (L ++ [(s, false)]) a b = aboveV L a b :=
  above_congr fun k => (up_congr (Q := fun _ => True) (fun x _ => ⟨in_par L s x, trivial⟩) trivial k).1
end Go.Proofs.Ytjebkchlbbfabaa.Chain
