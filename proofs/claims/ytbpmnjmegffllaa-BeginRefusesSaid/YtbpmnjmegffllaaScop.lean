/-
  Plain mathematics of the forest of scopes: what each is and has, and what is free; what each call makes of it, and tells; what is so of all that there may be.
-/
import Derived.Test.YtbpmnjmegffllaaGrou
import Derived.Test.YtbpmnjmegffllaaCtls
import Derived.Test.YtbpmnjmegffllaaBase
import Derived.Test.YtbpmnjmegffllaaNump
import Derived.Laws.CopyRow
import Derived.Laws.MakeOwn
import Derived.Deep.RegionLaw
namespace Go.Proofs.Ytbpmnjmegffllaa.Sco
open Gm
set_option linter.unusedVariables false
set_option maxRecDepth 8000

/-- A scope: its state, count, parent and epoch; where its extent begins, and its size. -/
structure Cx where
  s : Int
  c : Int
  p : Int
  e : Int
  a : Int
  z : Int
def Cx.turn (x : Cx) (v : Ctl.R) : Cx := ⟨v.s, v.c, v.p, v.e, x.a, x.z⟩
/-- All scopes, and what is free. -/
structure Fo where
  R : List Cx
  L : List E
/-- What a call tells (a number, an error, whether it is drained), and leaves. -/
structure Re where
  v : Int
  x : Int
  d : Bool
  F : Fo

def upz (z : Int) : Int := (z + 7) / 8 * 8
def fr (x : Cx) : Bool := decide (x.s = 0)
def made (x : Cx) (a z : Int) : Cx := ⟨1, x.c, x.p, x.e, a, z⟩
def createV (F : Fo) (z : Int) : Re :=
  if z < 1 ∨ 8192 < z then ⟨0, 1, false, F⟩
  else match F.R[F.R.findIdx fr]? with
    | none => ⟨0, 13, false, F⟩
    | some x => if Gr.carveB (upz z) F.L = true then ⟨(F.R.findIdx fr : Nat), 0, false, ⟨F.R.set (F.R.findIdx fr) (made x (carveA (upz z) F.L) (upz z)), carveL (upz z) F.L⟩⟩ else ⟨0, 14, false, F⟩
/-- The scope of a number, but the immortal one. -/
def look (R : List Cx) (i : Int) : Option Cx := if 1 ≤ i then R[i.toNat]? else none
def turnV (F : Fo) (i : Int) (f : Cx → Ctl.R) : Re :=
  match look F.R i with
  | none => ⟨0, 11, false, F⟩
  | some x => if (f x).x = 0 then ⟨0, 0, decide ((f x).s = 3), ⟨F.R.set i.toNat (x.turn (f x)), F.L⟩⟩ else ⟨0, (f x).x, false, F⟩
def unV (s c p e : Int) : Ctl.R := if s = 0 then Ctl.no 11 else if s = 1 then ⟨0, c, p, (e + 1) % 16777216, 0⟩ else Ctl.no 12
def unF (x : Cx) : Ctl.R := unV x.s x.c x.p x.e
def enF (f : Int) (x : Cx) : Ctl.R := Ctl.entV x.s x.c x.p x.e f
def leF (x : Cx) : Ctl.R := Ctl.leV x.s x.c x.p x.e
def opF (x : Cx) : Ctl.R := Ctl.opV x.s x.c x.p x.e
def hoF (x : Cx) : Ctl.R := Ctl.hoV x.s x.c x.p x.e
def gone (x : Cx) : Cx := ⟨0, x.c, x.p, (x.e + 1) % 16777216, 0, 0⟩
def destroyV (F : Fo) (i : Int) : Re :=
  match look F.R i with
  | none => ⟨0, 11, false, F⟩
  | some x => if x.s = 0 then ⟨0, 11, false, F⟩ else if x.s = 1 then ⟨0, 0, false, ⟨F.R.set i.toNat (gone x), giveL x.a (x.a + x.z) F.L⟩⟩ else ⟨0, 12, false, F⟩

/-- What is so of all that there may be: so many scopes; the immortal one's extent; the heap. -/
structure Inv (n : Nat) (A S I J : Int) (F : Fo) : Prop where
  len : F.R.length = n
  n1 : 1 ≤ n
  n8 : n ≤ 8
  ok : Ok A S F.L
  zero : F.R[0]? = some ⟨2, 1, -1, 0, I, J⟩
  right : ∀ (i : Nat) (x : Cx), F.R[i]? = some x → Ctl.rightB x.s x.c x.p x.e = true
  ext : ∀ (i : Nat) (x : Cx), F.R[i]? = some x → 1 ≤ i → (x.s = 0 ∧ x.a = 0 ∧ x.z = 0) ∨ (x.s ≠ 0 ∧ 0 < x.z ∧ x.z % 8 = 0 ∧ x.a % 8 = 0 ∧ A ≤ x.a ∧ x.a + x.z ≤ A + S)
  apartL : ∀ (i : Nat) (x : Cx) (p : Int), F.R[i]? = some x → 1 ≤ i → x.a ≤ p → p < x.a + x.z → ¬ Mem p F.L
  apart : ∀ (i j : Nat) (x y : Cx) (p : Int), F.R[i]? = some x → F.R[j]? = some y → 1 ≤ i → 1 ≤ j → i ≠ j → x.a ≤ p → p < x.a + x.z → ¬ (y.a ≤ p ∧ p < y.a + y.z)
  cover : ∀ p : Int, A ≤ p → p < A + S → Mem p F.L ∨ ∃ (i : Nat) (x : Cx), F.R[i]? = some x ∧ 1 ≤ i ∧ x.a ≤ p ∧ p < x.a + x.z

theorem look_in {R : List Cx} {i : Int} {x : Cx} (h : look R i = some x) : 1 ≤ i ∧ i < R.length ∧ R[i.toNat]? = some x := by
  unfold look at h
  split at h
  · have := (List.getElem?_eq_some_iff.1 h).1
    exact ⟨by assumption, by omega, h⟩
  · cases h
theorem look_out {R : List Cx} {i : Int} (h : look R i = none) : i < 1 ∨ R.length ≤ i := by
  unfold look at h
  split at h
  · have := List.getElem?_eq_none_iff.1 h
    omega
  · omega
theorem rightI {s c p e : Int} (h : Ctl.rightB s c p e = true) : 0 ≤ e ∧ e ≤ 16777215 ∧ (((s = 0 ∨ s = 1) ∧ c = 0 ∧ p = -1) ∨ (s = 2 ∧ 1 ≤ c ∧ c ≤ 7 ∧ -1 ≤ p ∧ p ≤ 7) ∨ (s = 3 ∧ c = 0 ∧ -1 ≤ p ∧ p ≤ 7)) := of_decide_eq_true h
theorem get_set {R : List Cx} {k i : Nat} {y x : Cx} (h : (R.set k y)[i]? = some x) : (i = k ∧ x = y ∧ k < R.length) ∨ (i ≠ k ∧ R[i]? = some x) := by
  rw [List.getElem?_set] at h
  split at h
  · rename_i e
    split at h
    · injection h with h
      exact .inl ⟨e.symm, h.symm, by assumption⟩
    · cases h
  · rename_i e
    exact .inr ⟨fun q => e q.symm, h⟩
theorem set_get {R : List Cx} {k : Nat} {y : Cx} (h : k < R.length) : (R.set k y)[k]? = some y := by
  rw [List.getElem?_set, if_pos rfl, if_pos h]
theorem set_other {R : List Cx} {k i : Nat} {y : Cx} (h : i ≠ k) : (R.set k y)[i]? = R[i]? := by
  rw [List.getElem?_set, if_neg (fun e => h e.symm)]

theorem right_made {x : Cx} {a z : Int} (h : Ctl.rightB x.s x.c x.p x.e = true) (h0 : x.s = 0) : Ctl.rightB (made x a z).s (made x a z).c (made x a z).p (made x a z).e = true := by
  have := rightI h
  exact decide_eq_true (by show 0 ≤ x.e ∧ x.e ≤ 16777215 ∧ ((((1 : Int) = 0 ∨ (1 : Int) = 1) ∧ x.c = 0 ∧ x.p = -1) ∨ ((1 : Int) = 2 ∧ 1 ≤ x.c ∧ x.c ≤ 7 ∧ -1 ≤ x.p ∧ x.p ≤ 7) ∨ ((1 : Int) = 3 ∧ x.c = 0 ∧ -1 ≤ x.p ∧ x.p ≤ 7)); omega)
theorem right_gone {x : Cx} (h : Ctl.rightB x.s x.c x.p x.e = true) (h0 : x.s = 1) : Ctl.rightB (gone x).s (gone x).c (gone x).p (gone x).e = true := by
  have := rightI h
  exact decide_eq_true (by show 0 ≤ (x.e + 1) % 16777216 ∧ (x.e + 1) % 16777216 ≤ 16777215 ∧ ((((0 : Int) = 0 ∨ (0 : Int) = 1) ∧ x.c = 0 ∧ x.p = -1) ∨ ((0 : Int) = 2 ∧ 1 ≤ x.c ∧ x.c ≤ 7 ∧ -1 ≤ x.p ∧ x.p ≤ 7) ∨ ((0 : Int) = 3 ∧ x.c = 0 ∧ -1 ≤ x.p ∧ x.p ≤ 7)); omega)

/-- What change tells. -/
def chV (F : Fo) (i : Int) (f : Cx → Ctl.R) : Ctl.R := match look F.R i with | none => Ctl.no 11 | some x => f x
/-- What is refused is told without anything else. -/
def Clean (f : Cx → Ctl.R) : Prop := ∀ x, (f x).x ≠ 0 → f x = Ctl.no (f x).x
theorem clean_un : Clean unF := by
  intro x h
  have e : unF x = if x.s = 0 then Ctl.no 11 else if x.s = 1 then ⟨0, x.c, x.p, (x.e + 1) % 16777216, 0⟩ else Ctl.no 12 := rfl
  rw [e] at h ⊢
  by_cases h0 : x.s = 0
  · rw [if_pos h0]
    rfl
  · rw [if_neg h0] at h ⊢
    by_cases h1 : x.s = 1
    · rw [if_pos h1] at h
      exact absurd rfl h
    · rw [if_neg h1]
      rfl
theorem clean_en (f : Int) : Clean (enF f) := by
  intro x h
  have hx : (enF f x) = Ctl.entV x.s x.c x.p x.e f := rfl
  rw [hx] at h ⊢
  rcases Ctl.ent_cases x.s x.c x.p x.e f with ⟨hr, he⟩ | ⟨hr, hf, he⟩ | ⟨hr, f1, f2, h1, he⟩ | ⟨hr, f1, f2, h1, he⟩ | ⟨hr, f1, f2, h1, he⟩ | ⟨hr, f1, f2, h1, hp, he⟩ | ⟨hr, f1, f2, h1, h2, h3, he⟩ | ⟨hr, f1, f2, h1, h2, hc1, hc2, he⟩
  all_goals rw [he] at h ⊢
  all_goals first
    | rfl
    | exact absurd rfl h
theorem clean_le : Clean leF := by
  intro x h
  have e : leF x = if Ctl.rightB x.s x.c x.p x.e = true then (if x.s = 2 then (if x.c = 1 then ⟨3, 0, x.p, x.e, 0⟩ else ⟨2, x.c - 1, x.p, x.e, 0⟩) else Ctl.no 11) else Ctl.no 1 := rfl
  rw [e] at h ⊢
  by_cases h0 : Ctl.rightB x.s x.c x.p x.e = true
  · rw [if_pos h0] at h ⊢
    by_cases h1 : x.s = 2
    · rw [if_pos h1] at h
      first
        | exact absurd rfl h
        | (by_cases h2 : x.c = 1
           · rw [if_pos h2] at h
             exact absurd rfl h
           · rw [if_neg h2] at h
             exact absurd rfl h)
    · rw [if_neg h1]
      rfl
  · rw [if_neg h0]
    rfl
theorem clean_op : Clean opF := by
  intro x h
  have e : opF x = if Ctl.rightB x.s x.c x.p x.e = true then (if x.s = 3 then ⟨1, 0, -1, (x.e + 1) % 16777216, 0⟩ else Ctl.no 11) else Ctl.no 1 := rfl
  rw [e] at h ⊢
  by_cases h0 : Ctl.rightB x.s x.c x.p x.e = true
  · rw [if_pos h0] at h ⊢
    by_cases h1 : x.s = 3
    · rw [if_pos h1] at h
      first
        | exact absurd rfl h
        | (by_cases h2 : x.c = 1
           · rw [if_pos h2] at h
             exact absurd rfl h
           · rw [if_neg h2] at h
             exact absurd rfl h)
    · rw [if_neg h1]
      rfl
  · rw [if_neg h0]
    rfl
theorem clean_ho : Clean hoF := by
  intro x h
  have e : hoF x = if Ctl.rightB x.s x.c x.p x.e = true then (if x.s = 3 then ⟨2, 1, x.p, x.e, 0⟩ else Ctl.no 11) else Ctl.no 1 := rfl
  rw [e] at h ⊢
  by_cases h0 : Ctl.rightB x.s x.c x.p x.e = true
  · rw [if_pos h0] at h ⊢
    by_cases h1 : x.s = 3
    · rw [if_pos h1] at h
      first
        | exact absurd rfl h
        | (by_cases h2 : x.c = 1
           · rw [if_pos h2] at h
             exact absurd rfl h
           · rw [if_neg h2] at h
             exact absurd rfl h)
    · rw [if_neg h1]
      rfl
  · rw [if_neg h0]
    rfl

/-- What a turn of a scope's word must keep. -/
def Fine (f : Cx → Ctl.R) : Prop := ∀ x : Cx, Ctl.rightB x.s x.c x.p x.e = true → (f x).x = 0 → x.s ≠ 0 ∧ (f x).s ≠ 0 ∧ Ctl.rightB (f x).s (f x).c (f x).p (f x).e = true
theorem fine_en (f : Int) : Fine (enF f) := by
  intro x h h0
  have := rightI h
  have hx : (enF f x) = Ctl.entV x.s x.c x.p x.e f := rfl
  rw [hx] at h0 ⊢
  rcases Ctl.ent_cases x.s x.c x.p x.e f with ⟨hr, he⟩ | ⟨hr, hf, he⟩ | ⟨hr, f1, f2, h1, he⟩ | ⟨hr, f1, f2, h1, he⟩ | ⟨hr, f1, f2, h1, he⟩ | ⟨hr, f1, f2, h1, hp, he⟩ | ⟨hr, f1, f2, h1, h2, h3, he⟩ | ⟨hr, f1, f2, h1, h2, hc1, hc2, he⟩
  all_goals rw [he] at h0 ⊢
  all_goals first
    | (exact absurd h0 (by show ¬ (1 : Int) = 0; decide))
    | (exact absurd h0 (by show ¬ (11 : Int) = 0; decide))
    | (exact absurd h0 (by show ¬ (10 : Int) = 0; decide))
    | (exact absurd h0 (by show ¬ (15 : Int) = 0; decide))
    | (exact absurd h0 (by show ¬ (16 : Int) = 0; decide))
    | (refine ⟨by omega, by show ¬ (2 : Int) = 0; decide, decide_eq_true ?_⟩; show 0 ≤ x.e ∧ x.e ≤ 16777215 ∧ _; refine ⟨by omega, by omega, .inr (.inl ?_)⟩; refine ⟨rfl, ?_, ?_, ?_, ?_⟩ <;> dsimp only <;> omega)
theorem fine_le : Fine leF := by
  intro x h h0
  have := rightI h
  have hx : leF x = Ctl.leV x.s x.c x.p x.e := rfl
  have e : Ctl.leV x.s x.c x.p x.e = if x.s = 2 then (if x.c = 1 then ⟨3, 0, x.p, x.e, 0⟩ else ⟨2, x.c - 1, x.p, x.e, 0⟩) else Ctl.no 11 := by unfold Ctl.leV; rw [if_pos h]
  rw [hx, e] at h0 ⊢
  by_cases h2 : x.s = 2
  · rw [if_pos h2] at h0 ⊢
    by_cases h1 : x.c = 1
    · rw [if_pos h1]
      exact ⟨by omega, by show ¬ (3 : Int) = 0; decide, show Ctl.rightB 3 0 x.p x.e = true from decide_eq_true (by omega)⟩
    · rw [if_neg h1]
      exact ⟨by omega, by show ¬ (2 : Int) = 0; decide, show Ctl.rightB 2 (x.c - 1) x.p x.e = true from decide_eq_true (by omega)⟩
  · rw [if_neg h2] at h0
    exact absurd h0 (by show ¬ (11 : Int) = 0; decide)
theorem fine_op : Fine opF := by
  intro x h h0
  have := rightI h
  have hx : opF x = Ctl.opV x.s x.c x.p x.e := rfl
  have e : Ctl.opV x.s x.c x.p x.e = if x.s = 3 then ⟨1, 0, -1, (x.e + 1) % 16777216, 0⟩ else Ctl.no 11 := by unfold Ctl.opV; rw [if_pos h]
  rw [hx, e] at h0 ⊢
  by_cases h2 : x.s = 3
  · rw [if_pos h2]
    exact ⟨by omega, by show ¬ (1 : Int) = 0; decide, show Ctl.rightB 1 0 (-1) ((x.e + 1) % 16777216) = true from decide_eq_true (by omega)⟩
  · rw [if_neg h2] at h0
    exact absurd h0 (by show ¬ (11 : Int) = 0; decide)
theorem fine_ho : Fine hoF := by
  intro x h h0
  have := rightI h
  have hx : hoF x = Ctl.hoV x.s x.c x.p x.e := rfl
  have e : Ctl.hoV x.s x.c x.p x.e = if x.s = 3 then ⟨2, 1, x.p, x.e, 0⟩ else Ctl.no 11 := by unfold Ctl.hoV; rw [if_pos h]
  rw [hx, e] at h0 ⊢
  by_cases h2 : x.s = 3
  · rw [if_pos h2]
    exact ⟨by omega, by show ¬ (2 : Int) = 0; decide, show Ctl.rightB 2 1 x.p x.e = true from decide_eq_true (by omega)⟩
  · rw [if_neg h2] at h0
    exact absurd h0 (by show ¬ (11 : Int) = 0; decide)

section
variable {n : Nat} {A S I J : Int} {F : Fo}
theorem Inv.turn (h : Inv n A S I J F) (i : Int) {f : Cx → Ctl.R} (hf : Fine f) : Inv n A S I J (turnV F i f).F := by
  unfold turnV
  cases hl : look F.R i with
  | none => exact h
  | some x =>
    obtain ⟨h1, h2, h3⟩ := look_in hl
    by_cases h0 : (f x).x = 0
    · simp only [h0, if_true]
      have hx := h.right _ x h3
      obtain ⟨f1, f2, f3⟩ := hf x hx h0
      have hk : i.toNat < F.R.length := by omega
      have same : ∀ (j : Nat) (y : Cx), (F.R.set i.toNat (x.turn (f x)))[j]? = some y → ∃ y' : Cx, F.R[j]? = some y' ∧ y.a = y'.a ∧ y.z = y'.z ∧ (j ≠ i.toNat → y = y') ∧ (j = i.toNat → y' = x ∧ y = x.turn (f x)) := by
        intro j y hy
        rcases get_set hy with ⟨rfl, rfl, _⟩ | ⟨hne, hy⟩
        · exact ⟨x, h3, rfl, rfl, fun e => absurd rfl e, fun _ => ⟨rfl, rfl⟩⟩
        · exact ⟨y, hy, rfl, rfl, fun _ => rfl, fun e => absurd e hne⟩
      refine ⟨by rw [List.length_set]; exact h.len, h.n1, h.n8, h.ok, ?_, ?_, ?_, ?_, ?_, ?_⟩
      · rw [set_other (by omega)]
        exact h.zero
      · intro j y hy
        rcases get_set hy with ⟨rfl, rfl, _⟩ | ⟨hne, hy⟩
        · exact f3
        · exact h.right j y hy
      · intro j y hy hj
        rcases get_set hy with ⟨rfl, rfl, _⟩ | ⟨hne, hy⟩
        · rcases h.ext _ x h3 (by omega) with k | ⟨_, k⟩
          · exact absurd k.1 f1
          · exact .inr ⟨f2, k⟩
        · exact h.ext j y hy hj
      · intro j y p hy hj p1 p2
        obtain ⟨y', hy', e1, e2, _⟩ := same j y hy
        exact h.apartL j y' p hy' hj (by omega) (by omega)
      · intro j k y u p hy hu hj hk' hne p1 p2
        obtain ⟨y', hy', e1, e2, _⟩ := same j y hy
        obtain ⟨u', hu', e3, e4, _⟩ := same k u hu
        have := h.apart j k y' u' p hy' hu' hj hk' hne (by omega) (by omega)
        omega
      · intro p p1 p2
        rcases h.cover p p1 p2 with m | ⟨j, y, hy, hj, q1, q2⟩
        · exact .inl m
        · right
          by_cases e : j = i.toNat
          · subst e
            rw [h3] at hy
            injection hy with hy
            subst hy
            exact ⟨i.toNat, x.turn (f x), set_get hk, hj, q1, q2⟩
          · exact ⟨j, y, by rw [set_other e]; exact hy, hj, q1, q2⟩
    · simp only [h0, if_false]
      exact h

theorem fr_at {R : List Cx} {x : Cx} (h : R[R.findIdx fr]? = some x) : x.s = 0 := by
  obtain ⟨h1, h2⟩ := List.getElem?_eq_some_iff.1 h
  have := List.findIdx_getElem (w := h1)
  rw [h2] at this
  exact of_decide_eq_true this
theorem Inv.fr_pos (h : Inv n A S I J F) : 1 ≤ F.R.findIdx fr := by
  rcases Nat.eq_zero_or_pos (F.R.findIdx fr) with e | e
  · have hz := h.zero
    have := fr_at (R := F.R) (x := ⟨2, 1, -1, 0, I, J⟩) (by rw [e]; exact hz)
    exact absurd this (by show ¬ (2 : Int) = 0; decide)
  · exact e
theorem upz_all {z : Int} (h : ¬ (z < 1 ∨ 8192 < z)) : 0 < upz z ∧ upz z % 8 = 0 ∧ z ≤ upz z ∧ upz z < z + 8 ∧ upz z ≤ 8192 := by
  unfold upz
  omega
theorem carveB_fits {z : Int} {L : List E} (h : Gr.carveB z L = true) : 0 < z ∧ z % 8 = 0 ∧ fits z L = true := by
  unfold Gr.carveB at h
  rw [Bool.and_eq_true] at h
  have : 0 < z ∧ z % 8 = 0 := of_decide_eq_true h.1
  exact ⟨this.1, this.2, h.2⟩
theorem Inv.create (h : Inv n A S I J F) (z : Int) : Inv n A S I J (createV F z).F := by
  unfold createV
  by_cases hz : z < 1 ∨ 8192 < z
  · rw [if_pos hz]
    exact h
  · rw [if_neg hz]
    cases hl : F.R[F.R.findIdx fr]? with
    | none => exact h
    | some x =>
      by_cases hb : Gr.carveB (upz z) F.L = true
      · simp only [hb, if_true]
        obtain ⟨b1, b2, b3⟩ := carveB_fits hb
        have hs := fr_at hl
        have hp := h.fr_pos
        have hk := (List.getElem?_eq_some_iff.1 hl).1
        have hin := carve_in b3
        have hsub := fun p => carve_sub (z := upz z) b3 (p := p)
        have hmem := carve_mem b1 h.ok.norm b3
        obtain ⟨e, he, he1, he2⟩ := hin
        have hE := h.ok.mem he
        generalize F.R.findIdx fr = k at *
        generalize carveA (upz z) F.L = a at *
        have inL : ∀ p, a ≤ p → p < a + upz z → Mem p F.L := fun p p1 p2 => hsub p p1 p2
        have xe : x.a = 0 ∧ x.z = 0 := by
          rcases h.ext k x hl hp with q | q
          · exact q.2
          · exact absurd hs q.1
        refine ⟨by rw [List.length_set]; exact h.len, h.n1, h.n8, h.ok.carve b1 b2, ?_, ?_, ?_, ?_, ?_, ?_⟩
        · rw [set_other (by omega)]
          exact h.zero
        · intro j y hy
          rcases get_set hy with ⟨rfl, rfl, _⟩ | ⟨hne, hy⟩
          · exact right_made (h.right _ x hl) hs
          · exact h.right j y hy
        · intro j y hy hj
          rcases get_set hy with ⟨rfl, rfl, _⟩ | ⟨hne, hy⟩
          · refine .inr ⟨by show ¬ (1 : Int) = 0; decide, b1, b2, ?_, ?_, ?_⟩
            · show a % 8 = 0
              omega
            · show A ≤ a
              omega
            · show a + upz z ≤ A + S
              omega
          · exact h.ext j y hy hj
        · intro j y p hy hj p1 p2 m
          obtain ⟨m1, m2⟩ := (hmem p).1 m
          rcases get_set hy with ⟨rfl, rfl, _⟩ | ⟨hne, hy'⟩
          · exact m2 ⟨p1, p2⟩
          · exact h.apartL j y p hy' hj p1 p2 m1
        · intro j i y u p hy hu hj hi hne p1 p2 q
          rcases get_set hy with ⟨rfl, rfl, _⟩ | ⟨hne1, hy⟩
          · rcases get_set hu with ⟨rfl, rfl, _⟩ | ⟨hne2, hu⟩
            · exact hne rfl
            · exact h.apartL i u p hu hi q.1 q.2 (inL p p1 p2)
          · rcases get_set hu with ⟨rfl, rfl, _⟩ | ⟨hne2, hu⟩
            · exact h.apartL j y p (by assumption) hj p1 p2 (inL p q.1 q.2)
            · exact h.apart j i y u p (by assumption) (by assumption) hj hi hne p1 p2 q
        · intro p p1 p2
          rcases h.cover p p1 p2 with m | ⟨j, y, hy, hj, q1, q2⟩
          · by_cases c : a ≤ p ∧ p < a + upz z
            · exact .inr ⟨k, made x a (upz z), set_get hk, hp, c.1, c.2⟩
            · exact .inl ((hmem p).2 ⟨m, c⟩)
          · right
            by_cases e : j = k
            · subst e
              rw [hl] at hy
              injection hy with hy
              subst hy
              omega
            · exact ⟨j, y, by rw [set_other e]; exact hy, hj, q1, q2⟩
      · simp only [hb]
        exact h

/-- What is given back of a scope that is not free. -/
theorem Inv.back (h : Inv n A S I J F) {i : Nat} {x : Cx} (hx : F.R[i]? = some x) (hi : 1 ≤ i) (hs : x.s ≠ 0) : 0 < x.z ∧ x.z % 8 = 0 ∧ x.a % 8 = 0 ∧ A ≤ x.a ∧ x.a + x.z ≤ A + S ∧ bad x.a (x.a + x.z) F.L = false := by
  rcases h.ext i x hx hi with q | ⟨_, q1, q2, q3, q4, q5⟩
  · exact absurd q.1 hs
  · refine ⟨q1, q2, q3, q4, q5, ?_⟩
    cases hb : bad x.a (x.a + x.z) F.L with
    | false => rfl
    | true =>
      obtain ⟨p, p1, p2, m⟩ := (bad_mem (by omega) h.ok.norm).1 hb
      exact absurd m (h.apartL i x p hx hi p1 p2)
theorem Inv.destroy (h : Inv n A S I J F) (i : Int) : Inv n A S I J (destroyV F i).F := by
  unfold destroyV
  cases hl : look F.R i with
  | none => exact h
  | some x =>
    obtain ⟨h1, h2, h3⟩ := look_in hl
    by_cases s0 : x.s = 0
    · simp only [s0, if_true]
      exact h
    · by_cases s1 : x.s = 1
      · obtain ⟨b1, b2, b3, b4, b5, b6⟩ := h.back h3 (by omega) s0
        have hk : i.toNat < F.R.length := by omega
        obtain ⟨o1, o2, o3⟩ := h.ok.give (a := x.a) (b := x.a + x.z) (by omega) b4 b5 b3 (by omega) b6
        simp only [s1, if_true]
        simp only [show ¬ ((1 : Int) = 0) by decide, if_false]
        refine ⟨by rw [List.length_set]; exact h.len, h.n1, h.n8, o1, ?_, ?_, ?_, ?_, ?_, ?_⟩
        · rw [set_other (by omega)]
          exact h.zero
        · intro j y hy
          rcases get_set hy with ⟨rfl, rfl, _⟩ | ⟨hne, hy⟩
          · exact right_gone (h.right _ x h3) s1
          · exact h.right j y hy
        · intro j y hy hj
          rcases get_set hy with ⟨rfl, rfl, _⟩ | ⟨hne, hy⟩
          · exact .inl ⟨rfl, rfl, rfl⟩
          · exact h.ext j y hy hj
        · intro j y p hy hj p1 p2 m
          rcases get_set hy with ⟨rfl, rfl, _⟩ | ⟨hne, hy⟩
          · have q1 : (0 : Int) ≤ p := p1
            have q2 : p < (0 : Int) + 0 := p2
            omega
          · rcases (o2 p).1 m with m | m
            · exact h.apartL j y p hy hj p1 p2 m
            · exact h.apart j i.toNat y x p hy h3 hj (by omega) hne p1 p2 m
        · intro j k y u p hy hu hj hk' hne p1 p2 q
          rcases get_set hy with ⟨rfl, rfl, _⟩ | ⟨hne1, hy⟩
          · have q1 : (0 : Int) ≤ p := p1
            have q2 : p < (0 : Int) + 0 := p2
            omega
          · rcases get_set hu with ⟨rfl, rfl, _⟩ | ⟨hne2, hu⟩
            · have q1 : (0 : Int) ≤ p := q.1
              have q2 : p < (0 : Int) + 0 := q.2
              omega
            · exact h.apart j k y u p hy hu hj hk' hne p1 p2 q
        · intro p p1 p2
          rcases h.cover p p1 p2 with m | ⟨j, y, hy, hj, q1, q2⟩
          · exact .inl ((o2 p).2 (.inl m))
          · by_cases e : j = i.toNat
            · subst e
              rw [h3] at hy
              injection hy with hy
              subst hy
              exact .inl ((o2 p).2 (.inr ⟨q1, q2⟩))
            · exact .inr ⟨j, y, by rw [set_other e]; exact hy, hj, q1, q2⟩
      · simp only [s0, s1, if_false]
        exact h
end
/-- The beginning: all of the heap is free, and no scope but the immortal one. -/
def start (n : Nat) (A S I J : Int) : Fo := ⟨⟨2, 1, -1, 0, I, J⟩ :: List.replicate (n - 1) ⟨0, 0, -1, 0, 0, 0⟩, if 0 < S then [(A, S)] else []⟩
theorem start_inv {n : Nat} {A S I J : Int} (n1 : 1 ≤ n) (n8 : n ≤ 8) (a0 : 0 ≤ A) (a1 : A ≤ 65536) (s0 : 0 ≤ S) (s1 : S ≤ 65536) (a8 : A % 8 = 0) (s8 : S % 8 = 0) : Inv n A S I J (start n A S I J) := by
  have hget : ∀ (i : Nat) (x : Cx), (start n A S I J).R[i]? = some x → 1 ≤ i → x = ⟨0, 0, -1, 0, 0, 0⟩ := by
    intro i x hx hi
    obtain ⟨k, rfl⟩ : ∃ k, i = k + 1 := ⟨i - 1, by omega⟩
    have : (List.replicate (n - 1) (⟨0, 0, -1, 0, 0, 0⟩ : Cx))[k]? = some x := by simpa [start] using hx
    exact List.eq_of_mem_replicate (List.mem_of_getElem? this)
  have hL : ∀ p, Mem p (start n A S I J).L ↔ A ≤ p ∧ p < A + S := by
    intro p
    unfold start
    by_cases c : 0 < S
    · simp only [c, if_true]
      rw [mem_cons]
      constructor
      · rintro (m | m)
        · exact m
        · exact absurd m (mem_nil p)
      · exact fun m => .inl m
    · simp only [c, if_false]
      exact ⟨fun m => absurd m (mem_nil p), fun m => by omega⟩
  refine ⟨by simp [start]; omega, n1, n8, ?_, rfl, ?_, ?_, ?_, ?_, ?_⟩
  · unfold start
    by_cases c : 0 < S
    · simp only [c, if_true]
      refine ⟨⟨Int.le_refl _, c, trivial⟩, fun e he => ?_, fun e he => ?_, a0, a1, s0, s1, a8, s8⟩
      · have : e = (A, S) := by simpa using he
        subst this
        exact Int.le_refl _
      · have : e = (A, S) := by simpa using he
        subst this
        exact ⟨a8, s8⟩
    · simp only [c, if_false]
      exact ⟨trivial, fun e he => absurd he List.not_mem_nil, fun e he => absurd he List.not_mem_nil, a0, a1, s0, s1, a8, s8⟩
  · intro i x hx
    rcases Nat.eq_zero_or_pos i with rfl | hi
    · have : x = ⟨2, 1, -1, 0, I, J⟩ := by
        have e : (start n A S I J).R[0]? = some ⟨2, 1, -1, 0, I, J⟩ := rfl
        rw [e] at hx
        injection hx with hx
        exact hx.symm
      subst this
      show Ctl.rightB 2 1 (-1) 0 = true
      decide
    · rw [hget i x hx hi]
      exact decide_eq_true (by decide)
  · intro i x hx hi
    rw [hget i x hx hi]
    exact .inl ⟨rfl, rfl, rfl⟩
  · intro i x p hx hi p1 p2
    rw [hget i x hx hi] at p1 p2
    have q1 : (0 : Int) ≤ p := p1
    have q2 : p < (0 : Int) + 0 := p2
    omega
  · intro i j x y p hx hy hi hj hne p1 p2
    rw [hget i x hx hi] at p1 p2
    have q1 : (0 : Int) ≤ p := p1
    have q2 : p < (0 : Int) + 0 := p2
    omega
  · intro p p1 p2
    exact .inl ((hL p).2 ⟨p1, p2⟩)
end Go.Proofs.Ytbpmnjmegffllaa.Sco

/-
  The forest of scopes in memory: kinds of rows; what changes but so many blocks; the struct with its ground, and the row of records.
-/
namespace Go.Proofs.Ytbpmnjmegffllaa.Sco
open Go.ChangeShapes Go.WideShapes Go.ChangeAt Go.RowKit
open Slic Gm
set_option linter.unusedVariables false
set_option maxRecDepth 8000

def kC : Kd Cx := { X := 132, T := 37, m := 4, by_ := 32, z := .agg #[.int .i64 0, .int .i64 0, .int .i64 0, .int .i64 0], enc := fun x => [.int .i64 x.s, .int .i64 x.c, .int .i64 x.p, .int .i64 x.e], len := fun _ => rfl, one := fun _ u h => by simp at h; rcases h with rfl | rfl | rfl | rfl <;> rfl, pos := by decide, small := by decide, zs := rfl, under := by kernel_rfl, info := by kernel_rfl, elem := by kernel_rfl }
def kX : Kd Cx := { X := 44, T := 60, m := 2, by_ := 16, z := .agg #[.int .i64 0, .int .i64 0], enc := fun x => [.int .i64 x.a, .int .i64 x.z], len := fun _ => rfl, one := fun _ u h => by simp at h; rcases h with rfl | rfl <;> rfl, pos := by decide, small := by decide, zs := rfl, under := by kernel_rfl, info := by kernel_rfl, elem := by kernel_rfl }

/-- Nothing changes but these blocks, and new ones. -/
structure Only (X : List Nat) (w w' : World) : Prop where
  os : w'.os = w.os
  tape : w'.tape = w.tape
  output : w'.output = w.output
  size : w.heap.size ≤ w'.heap.size
  block : ∀ i, i < w.heap.size → i ∉ X → w'.heap[i]? = w.heap[i]?
theorem Only.refl (X : List Nat) (w : World) : Only X w w := ⟨rfl, rfl, rfl, Nat.le_refl _, fun _ _ _ => rfl⟩
theorem Only.trans {X : List Nat} {a b c : World} (h : Only X a b) (k : Only X b c) : Only X a c :=
  ⟨k.os.trans h.os, k.tape.trans h.tape, k.output.trans h.output, Nat.le_trans h.size k.size, fun i hi hx => (k.block i (Nat.lt_of_lt_of_le hi h.size) hx).trans (h.block i hi hx)⟩
theorem Only.mono {X Y : List Nat} {a b : World} (h : Only X a b) (k : ∀ x ∈ X, x ∈ Y) : Only Y a b := ⟨h.os, h.tape, h.output, h.size, fun i hi hx => h.block i hi fun e => hx (k i e)⟩
theorem Only.below {X : List Nat} {a b : World} (h : Below a.heap.size a b) : Only X a b := ⟨h.os, h.tape, h.output, h.size, fun i hi _ => h.block i hi⟩
theorem Only.grown {X : List Nat} {a b : World} {g : Nat} (h : a.grownBy b (some g)) (hg : g ∈ X) : Only X a b := ⟨h.os, h.tape, h.output, h.size, fun i hi hx => h.block i hi fun e => by injection e with e; exact hx (e ▸ hg)⟩
theorem Only.put {X : List Nat} (w : World) (g o : Nat) (v : Value) (hg : g ∈ X) : Only X w (w.setCell ⟨g, o, none⟩ v) :=
  Only.grown (g := g) ⟨rfl, rfl, rfl, by simp, fun k _ hk => heap_setCell_other w ⟨g, o, none⟩ k v (fun e => hk (by simp [e]))⟩ hg
theorem Only.below_of {X : List Nat} {N : Nat} {w0 w w' : World} (h : Only X w w') (k : Below N w0 w) (hN : N ≤ w.heap.size) (hX : ∀ x ∈ X, N ≤ x) : Below N w0 w' :=
  ⟨h.os.trans k.os, h.tape.trans k.tape, h.output.trans k.output, Nat.le_trans k.size h.size, fun i hi => (h.block i (by omega) (fun e => by have := hX i e; omega)).trans (k.block i hi)⟩
theorem Only.cell {X : List Nat} {w w' : World} (h : Only X w w') {b : Nat} (hb : b < w.heap.size) (hx : b ∉ X) (o : Nat) : w'.cell? ⟨b, o, none⟩ = w.cell? ⟨b, o, none⟩ := by
  simp only [World.cell?, h.block b hb hx]
theorem Only.frozen {X : List Nat} {w w' : World} (h : Only X w w') {b : Nat} (hb : b < w.heap.size) (hx : b ∉ X) (o : Nat) : w'.frozen? ⟨b, o, none⟩ = w.frozen? ⟨b, o, none⟩ := by
  simp only [World.frozen?, h.block b hb hx]

/-- A block's type. -/
def isT (w : World) (b : Nat) (t : TypeId) : Prop := ∃ cs, w.heap[b]? = some (.cells cs t (0, 0))
theorem isT.ne {w : World} {b b' : Nat} {t t' : TypeId} (h : isT w b t) (h' : isT w b' t') (hne : (t == t') = false) : b ≠ b' := by
  rintro rfl
  obtain ⟨c, h⟩ := h
  obtain ⟨c', h'⟩ := h'
  rw [h] at h'
  injection h' with h'
  injection h' with _ h'
  subst h'
  simp at hne
theorem isT.row {w : World} {b n : Nat} {t : TypeId} {f : Nat → Value} (h : w.rowIs b t n f) : isT w b t := by
  obtain ⟨c, h, _⟩ := h
  exact ⟨c, h⟩
theorem isT.own {α : Type} {K : Kd α} {w : World} {base g n c : Nat} {L : List α} (h : Own K w base (.slice (some ⟨g, 0, none⟩) n c) L) : isT w g K.T := by
  rcases h.2 with ⟨e, _⟩ | ⟨g', cap, cur, e, _, hg, _⟩
  · cases e
  · injection e with e
    injection e with e
    injection e with e
    subst e
    exact ⟨cur, hg⟩

section
variable {w w' : World} {B g K n : Nat} {A S : Int} {F : Fo}
theorem own_block {α : Type} {Q : Kd α} {w w' : World} {base g n c : Nat} {L : List α} (h : Own Q w base (.slice (some ⟨g, 0, none⟩) n c) L) (k : w'.heap[g]? = w.heap[g]?) : Own Q w' base (.slice (some ⟨g, 0, none⟩) n c) L := by
  refine ⟨h.1, ?_⟩
  rcases h.2 with hn | ⟨g', cap, cur, e, hb, hgg, rest⟩
  · exact .inl hn
  · refine .inr ⟨g', cap, cur, e, hb, ?_, rest⟩
    injection e with e
    injection e with e
    injection e with e
    subst e
    exact k.trans hgg
theorem set_read {R : List Cx} {i : Nat} {x : Cx} (h : R[i]? = some x) (y : Cx) : (R.set i y)[i]? = some y := set_get (List.getElem?_eq_some_iff.1 h).1
end
end Go.Proofs.Ytbpmnjmegffllaa.Sco

/-
  Contracts of package scopes: has, Ctl, Extent, Free, unmade, an entrance's enter.
-/
namespace Go.Proofs.Ytbpmnjmegffllaa.Sco
open Go.ChangeShapes Go.WideShapes Go.ChangeAt Go.RowKit
open Slic Gm
set_option linter.unusedVariables false
set_option maxRecDepth 8000
attribute [local go_sem ↓] Go.wp_at_zero Go.wp_at_succ

abbrev ptr (B : Nat) : Value := .pointer (some ⟨B, 0, none⟩)
abbrev tellR (r : Ctl.R) : Ending := .returned (.tuple #[.agg #[.int .i64 r.s, .int .i64 r.c, .int .i64 r.p, .int .i64 r.e], .int .i64 r.x])

section
variable {w w' : World} {B g K n : Nat} {A S : Int} {F : Fo}
theorem within_yes {i : Int} (h1 : 0 ≤ i) (h2 : i < n) : Ctl.withinB i 0 ((n : Int) - 1) = true := decide_eq_true (by omega)
theorem within_no {i : Int} (h : i < 0 ∨ (n : Int) ≤ i) : Ctl.withinB i 0 ((n : Int) - 1) = false := decide_eq_false (by omega)

/-- What Ctl and Extent tell. -/
def seeC (R : List Cx) (i : Int) : Ctl.R := if 0 ≤ i then (match R[i.toNat]? with | none => Ctl.no 11 | some x => ⟨x.s, x.c, x.p, x.e, 0⟩) else Ctl.no 11
def seeX (R : List Cx) (i : Int) : Int × Int × Int := if 0 ≤ i then (match R[i.toNat]? with | none => (0, 0, 11) | some x => (x.a, x.z, 0)) else (0, 0, 11)
abbrev tellX (r : Int × Int × Int) : Ending := .returned (.tuple #[.agg #[.int .i64 r.1, .int .i64 r.2.1], .int .i64 r.2.2])
theorem see_out {R : List Cx} {i : Int} (h : i < 0 ∨ (R.length : Int) ≤ i) : seeC R i = Ctl.no 11 ∧ seeX R i = (0, 0, 11) := by
  unfold seeC seeX
  by_cases c : 0 ≤ i
  · rw [if_pos c, if_pos c, List.getElem?_eq_none (by omega)]
    exact ⟨rfl, rfl⟩
  · rw [if_neg c, if_neg c]
    exact ⟨rfl, rfl⟩
theorem see_in {R : List Cx} {k : Nat} {x : Cx} (h : R[k]? = some x) : seeC R (k : Int) = ⟨x.s, x.c, x.p, x.e, 0⟩ ∧ seeX R (k : Int) = (x.a, x.z, 0) := by
  unfold seeC seeX
  rw [if_pos (by omega), if_pos (by omega), Int.toNat_natCast, h]
  exact ⟨rfl, rfl⟩

theorem un_cases (s c p e : Int) : (s = 0 ∧ unV s c p e = Ctl.no 11) ∨ (s = 1 ∧ unV s c p e = ⟨0, c, p, (e + 1) % 16777216, 0⟩) ∨ (s ≠ 0 ∧ s ≠ 1 ∧ unV s c p e = Ctl.no 12) := by
  unfold unV
  by_cases h0 : s = 0
  · exact .inl ⟨h0, if_pos h0⟩
  · by_cases h1 : s = 1
    · exact .inr (.inl ⟨h1, by rw [if_neg h0, if_pos h1]⟩)
    · exact .inr (.inr ⟨h0, h1, by rw [if_neg h0, if_neg h1]⟩)
end
end Go.Proofs.Ytbpmnjmegffllaa.Sco

/-
  Contracts of package scopes: change, by each way in which a scope's word turns.
-/
namespace Go.Proofs.Ytbpmnjmegffllaa.Sco
open Go.ChangeShapes Go.WideShapes Go.ChangeAt Go.RowKit
open Slic Gm
set_option linter.unusedVariables false
set_option maxRecDepth 8000
set_option linter.unusedSimpArgs false
attribute [local go_sem ↓] Go.wp_at_zero Go.wp_at_succ
section
variable {w w' : World} {B g K n : Nat} {A S : Int} {F : Fo}
theorem far4 {W : World} {g b : Nat} (hne : b ≠ g) (a0 a1 a2 a3 : Nat) (v0 v1 v2 v3 : Value) : (((((W.setCell ⟨g, a0, none⟩ v0).setCell ⟨g, a1, none⟩ v1).setCell ⟨g, a2, none⟩ v2).setCell ⟨g, a3, none⟩ v3).drew).heap[b]? = W.heap[b]? :=
  (heap_setCell_other _ ⟨g, a3, none⟩ b v3 hne).trans ((heap_setCell_other _ ⟨g, a2, none⟩ b v2 hne).trans ((heap_setCell_other _ ⟨g, a1, none⟩ b v1 hne).trans (heap_setCell_other _ ⟨g, a0, none⟩ b v0 hne)))
theorem cell_eq {W W' : World} {b o : Nat} {v : Value} (h : W'.heap[b]? = W.heap[b]?) (c : W.cell? ⟨b, o, none⟩ = some v) : W'.cell? ⟨b, o, none⟩ = some v := (World.cell?_of_block (w := W) (w' := W') (a := ⟨b, o, none⟩) h).trans c
theorem froz_eq {W W' : World} {b o : Nat} {v : Bool} (h : W'.heap[b]? = W.heap[b]?) (c : W.frozen? ⟨b, o, none⟩ = v) : W'.frozen? ⟨b, o, none⟩ = v := (World.frozen?_of_block (w := W) (w' := W') (a := ⟨b, o, none⟩) h).trans c
theorem froz_alloc {W : World} {b o : Nat} (h : W.frozen? ⟨b, o, none⟩ = false) (hb : b < W.heap.size) (x : Obj) : (W.alloc x).frozen? ⟨b, o, none⟩ = false := froz_eq (Below.heap_alloc W x b hb) h
theorem read4 {w1 : World} {b : Nat} {u0 u1 u2 u3 : Value} (a c d e : Value) (o : Obj) (D0 : w1.cell? ⟨b, 0, none⟩ = some u0) (D1 : w1.cell? ⟨b, 1, none⟩ = some u1) (D2 : w1.cell? ⟨b, 2, none⟩ = some u2) (D3 : w1.cell? ⟨b, 3, none⟩ = some u3) :
    (((((w1.setCell ⟨b, 0, none⟩ a).setCell ⟨b, 1, none⟩ c).setCell ⟨b, 2, none⟩ d).setCell ⟨b, 3, none⟩ e).alloc o).cell? ⟨b, 0, none⟩ = some a ∧ (((((w1.setCell ⟨b, 0, none⟩ a).setCell ⟨b, 1, none⟩ c).setCell ⟨b, 2, none⟩ d).setCell ⟨b, 3, none⟩ e).alloc o).cell? ⟨b, 1, none⟩ = some c ∧
    (((((w1.setCell ⟨b, 0, none⟩ a).setCell ⟨b, 1, none⟩ c).setCell ⟨b, 2, none⟩ d).setCell ⟨b, 3, none⟩ e).alloc o).cell? ⟨b, 2, none⟩ = some d ∧ (((((w1.setCell ⟨b, 0, none⟩ a).setCell ⟨b, 1, none⟩ c).setCell ⟨b, 2, none⟩ d).setCell ⟨b, 3, none⟩ e).alloc o).cell? ⟨b, 3, none⟩ = some e :=
  ⟨Gr.cell_alloc (by simp [go_sem, D0, D1, D2, D3]) o, Gr.cell_alloc (by simp [go_sem, D0, D1, D2, D3]) o, Gr.cell_alloc (by simp [go_sem, D0, D1, D2, D3]) o, Gr.cell_alloc (by simp [go_sem, D0, D1, D2, D3]) o⟩
end
end Go.Proofs.Ytbpmnjmegffllaa.Sco

/-
  Contracts of package scopes: change, by each way in which a scope's word turns.
-/
namespace Go.Proofs.Ytbpmnjmegffllaa.Sco
open Go.ChangeShapes Go.WideShapes Go.ChangeAt Go.RowKit
open Slic Gm
set_option linter.unusedVariables false
set_option maxRecDepth 8000
set_option linter.unusedSimpArgs false
attribute [local go_sem ↓] Go.wp_at_zero Go.wp_at_succ
section
variable {w w' : World} {B g K n : Nat} {A S : Int} {F : Fo}
end
end Go.Proofs.Ytbpmnjmegffllaa.Sco

/-
  Contracts of package scopes: Create, Destroy, Enter, Leave, Open, Hold.
-/
namespace Go.Proofs.Ytbpmnjmegffllaa.Sco
open Go.ChangeShapes Go.WideShapes Go.ChangeAt Go.RowKit
open Slic Gm
set_option linter.unusedVariables false
set_option maxRecDepth 8000
set_option linter.unusedSimpArgs false
attribute [local go_sem ↓] Go.wp_at_zero Go.wp_at_succ

def idxR (R : List Cx) : Int := if R.findIdx fr < R.length then (R.findIdx fr : Int) else -1
theorem find_at {R : List Cx} {k : Nat} (h : ∀ i (hi : i < R.length), i < k → fr R[i] = false) (hk : k < R.length) (hp : fr R[k] = true) : R.findIdx fr = k := by
  rw [List.findIdx_eq hk]
  exact ⟨hp, fun j hj => by rw [h j (by omega) hj]⟩
theorem find_none {R : List Cx} (h : ∀ i (hi : i < R.length), i < R.length → fr R[i] = false) : R.findIdx fr = R.length := by
  rw [List.findIdx_eq_length]
  intro e he
  obtain ⟨i, hi, rfl⟩ := List.mem_iff_getElem.1 he
  exact h i hi hi

section
variable {w w' : World} {B g K n : Nat} {A S : Int} {F : Fo}
end
end Go.Proofs.Ytbpmnjmegffllaa.Sco

/-
  Contracts of package scopes: Destroy, Enter, Leave, Open, Hold.
-/
namespace Go.Proofs.Ytbpmnjmegffllaa.Sco
open Go.ChangeShapes Go.WideShapes Go.ChangeAt Go.RowKit
open Slic Gm
set_option linter.unusedVariables false
set_option maxRecDepth 8000
set_option linter.unusedSimpArgs false
attribute [local go_sem ↓] Go.wp_at_zero Go.wp_at_succ
section
variable {w w' : World} {B g K n : Nat} {A S I J : Int} {F : Fo}
theorem ch_turn (F : Fo) (i : Int) {f : Cx → Ctl.R} : (chV F i f).x = (turnV F i f).x ∧ ((chV F i f).x ≠ 0 → (turnV F i f).F = F) := by
  unfold chV turnV
  cases look F.R i with
  | none => exact ⟨rfl, fun _ => rfl⟩
  | some x =>
    by_cases h0 : (f x).x = 0
    · simp only [h0, if_true]
      exact ⟨trivial, fun h => absurd rfl h⟩
    · simp only [h0, if_false]
      exact ⟨trivial, fun _ => trivial⟩
theorem ret_bi {k : IntKind} {a b : Int} {c d : Bool} (h : a = b) (h' : c = d) : Ending.returned (.tuple #[.bool c, .int k a]) = .returned (.tuple #[.bool d, .int k b]) := by rw [h, h']
theorem leave_d (F : Fo) (i : Int) : decide ((chV F i leF).s = 3) = (turnV F i leF).d := by
  have hc := clean_le
  unfold chV turnV
  cases look F.R i with
  | none => rfl
  | some x =>
    by_cases h0 : (leF x).x = 0
    · simp only [h0, if_true]
    · have h1 := hc x h0
      simp only [h0, if_false]
      have h2 : (leF x).s = 0 := by rw [h1]; rfl
      exact decide_eq_false (by rw [h2]; decide)
end
end Go.Proofs.Ytbpmnjmegffllaa.Sco

/-
  copy between slices of any element, onto a row of one's own (run_copyK; a law for the walk, a step for a drawn region); slices.Repeat of one record.
-/
namespace Go.Proofs.Ytbpmnjmegffllaa.Sco
open Go.ChangeShapes Go.WideShapes Go.ChangeAt Go.RowKit
open Slic Gm
set_option linter.unusedVariables false
set_option maxRecDepth 8000
set_option linter.unusedSimpArgs false
attribute [local go_sem ↓] Go.wp_at_zero Go.wp_at_succ

section
variable {α : Type} {Q : Kd α}
theorem flat_take (L : List α) (i : Nat) (h : i ≤ L.length) : (Q.flat L).take (i * Q.m) = Q.flat (L.take i) := by
  conv => lhs; rw [← List.take_append_drop i L, flat_append]
  have e : (Q.flat (L.take i)).length = i * Q.m := by rw [flat_len, List.length_take, Nat.min_eq_left h]
  rw [← e, List.take_left]
theorem flat_drop (L : List α) (i : Nat) (h : i ≤ L.length) : (Q.flat L).drop (i * Q.m) = Q.flat (L.drop i) := by
  conv => lhs; rw [← List.take_append_drop i L, flat_append]
  have e : (Q.flat (L.take i)).length = i * Q.m := by rw [flat_len, List.length_take, Nat.min_eq_left h]
  rw [← e, List.drop_left]
theorem take_splice (l cs : List Value) (o N : Nat) (h : o + cs.length ≤ N) (hN : N ≤ l.length) : (l.take o ++ cs ++ l.drop (o + cs.length)).take N = (l.take N).take o ++ cs ++ (l.take N).drop (o + cs.length) := by
  rw [List.take_append, List.take_of_length_le (by simp; omega), List.take_take, Nat.min_eq_left (by omega), List.drop_take]
  congr 2
  simp
  omega
/-- What is copied onto a row. -/
def over (L M : List α) (off k : Nat) : List α := L.take off ++ M.take k ++ L.drop (off + k)
theorem over_len (L M : List α) (off k : Nat) (h : off + k ≤ L.length) (hk : k ≤ M.length) : (over L M off k).length = L.length := by
  unfold over
  simp
  omega
theorem run_copyK (w : World) {base g n c : Nat} {L : List α} (h : Own Q w base (.slice (some ⟨g, 0, none⟩) n c) L) (hn : L.length = n) {x : Value} {M : List α} (hx : Sr Q w x M) (off dLen dCap : Nat) (hd : off + dLen ≤ n) (ty : TypeId) (hpos : 0 < M.length) :
    ∃ w', (Builtin.copy_ #[Q.X, Q.X] ty #[.slice (some ⟨g, off * Q.m, none⟩) dLen dCap, x]).run Try.prog w = .ok (goInt (min M.length dLen : Nat)) w' ∧ Own Q w' base (.slice (some ⟨g, 0, none⟩) n c) (over L M off (min M.length dLen)) ∧ w.grownBy w' (some g) := by
  obtain ⟨i0, hi, hz0, hz1, hz2⟩ := info_parts Q.info
  obtain ⟨A, d, rfl, x1, x2, x3, hx'⟩ := hx
  obtain ⟨g', o', rfl, hg', hc'⟩ := hx' hpos
  subst hn
  have hsrc := flat_cells hc'
  rcases h.2 with ⟨e, _⟩ | ⟨g1, cap, cur, e, hb, hgg, r1, r2, r3, r4⟩
  · cases e
  injection e with e1 e2 e3
  injection e1 with e1
  injection e1 with e1
  subst e1 e3
  have hk : min M.length dLen ≤ M.length := Nat.min_le_left _ _
  have hk2 : off + min M.length dLen ≤ L.length := by have := Nat.min_le_right M.length dLen; omega
  generalize hkk : min M.length dLen = k at *
  have cl : (Q.flat (M.take k)).length = k * Q.m := by rw [flat_len, List.length_take, Nat.min_eq_left hk]
  have hN : off * Q.m + k * Q.m ≤ L.length * Q.m := by rw [← Nat.add_mul]; exact Nat.mul_le_mul_right _ hk2
  have hcur : L.length * Q.m ≤ cur.size := by rw [r3]; exact Nat.mul_le_mul_right _ r1
  have hl := run_loadCells_list (P := Try.prog) w ⟨g', o', none⟩ (Q.flat (M.take k)) (fun j v hv => hsrc j v (by
    have hj : j < k * Q.m := by
      rcases Nat.lt_or_ge j (k * Q.m) with q | q
      · exact q
      · rw [List.getElem?_eq_none (by rw [cl]; exact q)] at hv; cases hv
    rw [← flat_take M k hk, List.getElem?_take, if_pos hj] at hv
    exact hv))
  have hst := run_storeCells_at Try.prog g (off * Q.m) Q.T (Q.flat (M.take k)) 0 cur w hgg (by rw [cl]; omega) (flat_one _)
  rw [Nat.add_zero, cl] at hst
  rw [cl] at hl
  have ol := over_len L M off k hk2 hk
  rw [List.append_assoc] at hst
  refine ⟨w.setRow g (cur.toList.take (off * Q.m) ++ (Q.flat (M.take k) ++ cur.toList.drop (off * Q.m + k * Q.m))).toArray, ?_, ?_, ⟨rfl, rfl, rfl, by simp [World.setRow], fun j hj hne => setRow_other w g j _ (fun e => hne (by rw [e]))⟩⟩
  · have hmin : Nat.min M.length dLen = k := hkk
    simp [Builtin.copy_, run_underlying Q.under, Builtin.lenOf, Builtin.firstCells, sizeOf, typeInfo, hi, hz1, hmin, hl, hst]
  · unfold Own
    rw [ol]
    refine ⟨by rw [flat_len, ol], .inr ⟨g, c, _, rfl, hb, setRow_heap w g cur _ Q.T _ hgg, r1, r2, ?_, ?_⟩⟩
    · simp [cl]
      omega
    · have := take_splice cur.toList (Q.flat (M.take k)) (off * Q.m) (L.length * Q.m) (by rw [cl]; exact hN) (by simpa using hcur)
      rw [cl] at this
      rw [List.append_assoc] at this
      rw [List.toList_toArray, this, r4, flat_take L off (by omega), ← Nat.add_mul, flat_drop L (off + k) hk2]
      unfold over
      rw [flat_append, flat_append]
theorem wpList_copyK {w : World} {ops : Array Oper} {rest : List Oper} {o : Oper} {a : Act} {P : Exit → Act → World → Prop} (hgd : o.guard = none) (s x : Operand)
    (ho : o.op = .call { callee := .builtin .copy, args := #[s, x], argTypes := #[Q.X, Q.X] }) {base g n c : Nat} {L : List α} (h : Own Q w base (.slice (some ⟨g, 0, none⟩) n c) L) (hn : L.length = n) {y : Value} {M : List α} (hx : Sr Q w y M) (off dLen dCap : Nat) (hd : off + dLen ≤ n) (hpos : 0 < M.length) (k : Nat) (hk : min M.length dLen = k)
    (hs : a.eval s = .slice (some ⟨g, off * Q.m, none⟩) dLen dCap) (hy : a.eval x = y)
    (hK : ∀ w', Own Q w' base (.slice (some ⟨g, 0, none⟩) n c) (over L M off k) → w.grownBy w' (some g) → wpList Try.prog ops P rest (a.put o.dst (goInt (k : Nat))) w') : wpList Try.prog ops P (o :: rest) a w := by
  subst hk
  obtain ⟨w', hrun, r1, r2⟩ := run_copyK w h hn hx off dLen dCap hd o.type hpos
  refine wpList_plain hgd fun J hJ => ?_
  unfold Oper.wp
  simp [execOp, ho, resolve, invoke, builtin, hs, hy, hrun, Result.andThen]
  exact hJ _ _ (by simpa using hK w' r1 r2)
theorem step_copyK {ops : Array Oper} {o : Oper} {a : Act} {w : World} {J : Act → World → Prop} {P : Exit → Act → World → Prop} {E : Prop} (hgd : o.guard = none) (s x : Operand)
    (ho : o.op = .call { callee := .builtin .copy, args := #[s, x], argTypes := #[Q.X, Q.X] }) {base g n c : Nat} {L : List α} (h : Own Q w base (.slice (some ⟨g, 0, none⟩) n c) L) (hn : L.length = n) {y : Value} {M : List α} (hx : Sr Q w y M) (off dLen dCap : Nat) (hd : off + dLen ≤ n) (hpos : 0 < M.length) (k : Nat) (hk : min M.length dLen = k)
    (hs : a.eval s = .slice (some ⟨g, off * Q.m, none⟩) dLen dCap) (hy : a.eval x = y)
    (hK : ∀ w', Own Q w' base (.slice (some ⟨g, 0, none⟩) n c) (over L M off k) → w.grownBy w' (some g) → J (a.put o.dst (goInt (k : Nat))) w') : if Region.wanted o (yielded ops a.tmps) = true then Oper.wp Try.prog o a w J P else E := by
  have hw : Region.wanted o (yielded ops a.tmps) = true := by simp [Region.wanted, hgd]
  rw [if_pos hw]
  subst hk
  obtain ⟨w', hrun, r1, r2⟩ := run_copyK w h hn hx off dLen dCap hd o.type hpos
  unfold Oper.wp
  simp [execOp, ho, resolve, invoke, builtin, hs, hy, hrun, Result.andThen]
  exact hK w' r1 r2
end

def z0 : Cx := ⟨0, 0, 0, 0, 0, 0⟩
theorem made_zero (n : Nat) : (madeCells #[.int .i64 0, .int .i64 0, .int .i64 0, .int .i64 0, .int .i64 0, .int .i64 0] (n * 6)).toList = List.replicate (n * 6) (.int .i64 0) := by
  rw [List.eq_replicate_iff]
  refine ⟨by simp [madeCells], fun b hb => ?_⟩
  simp only [madeCells, Array.toList_map, List.mem_map] at hb
  obtain ⟨i, _, rfl⟩ := hb
  have : i % 6 = 0 ∨ i % 6 = 1 ∨ i % 6 = 2 ∨ i % 6 = 3 ∨ i % 6 = 4 ∨ i % 6 = 5 := by omega
  rcases this with h | h | h | h | h | h <;> simp [h]
theorem mul_hi (n : Int) (n1 : 1 ≤ n) (n8 : n ≤ 8) : IntKind.u64.wrap (n / 4294967296 / 4294967296 + IntKind.u64.wrap (bits .and .u64 (n / 4294967296) 4294967295 + n / 4294967296) / 4294967296) = 0 := by
  rw [show n / 4294967296 = 0 by omega]
  decide
theorem slice_lo (Q : Kd Cx) (g n c lo : Nat) (hlo : lo ≤ n) (hn : n ≤ c) (hc : lo < c) : (∀ W, (Instr.slice Q.X (.slice (some ⟨g, 0, none⟩) n c) (some (.int .i64 (lo : Int))) none none).run Try.prog W = .ok (.slice (some ⟨g, lo * Q.m, none⟩) (n - lo) (c - lo)) W) ∧
    (∀ W, (Instr.sliceAt Q.X (.slice (some ⟨g, 0, none⟩) n c) (some (.int .i64 (lo : Int))) none none).run Try.prog W = .ok (.slice (some ⟨g, lo * Q.m, none⟩) (n - lo) (c - lo)) W) := by
  have run : ∀ W, (Instr.slice Q.X (.slice (some ⟨g, 0, none⟩) n c) (some (.int .i64 (lo : Int))) none none).run Try.prog W = .ok (.slice (some ⟨g, lo * Q.m, none⟩) (n - lo) (c - lo)) W := by
    intro W
    rw [run_slice_l W Q.X _ n c (under_X Q) .i64 lo (by omega) (by omega), size_X Q]
    simp [Result.andThen, sliced, Nat.ne_of_gt hc, Addr.add_lit]
  exact ⟨run, fun W => (run_sliceAt_slice W Q.X _ _ _ _ (under_X Q)).trans (run W)⟩
theorem over_rep (x : Cx) (n k m : Nat) (hm : k + m ≤ n) (hmk : m ≤ k) : over (List.replicate k x ++ List.replicate (n - k) z0) (List.replicate k x) k m = List.replicate (k + m) x ++ List.replicate (n - (k + m)) z0 := by
  have e1 : (List.replicate k x ++ List.replicate (n - k) z0).take k = List.replicate k x := by rw [List.take_append_of_le_length (by simp)]; simp
  have e2 : (List.replicate k x).take m = List.replicate m x := by rw [List.take_replicate, Nat.min_eq_left hmk]
  have e3 : (List.replicate k x ++ List.replicate (n - k) z0).drop (k + m) = List.replicate (n - (k + m)) z0 := by
    rw [List.drop_append, List.drop_replicate, List.drop_replicate, List.length_replicate, show k - (k + m) = 0 by omega, show n - k - (k + m - k) = n - (k + m) by omega]
    rfl
  unfold over
  rw [e1, e2, e3, List.replicate_append_replicate]

end Go.Proofs.Ytbpmnjmegffllaa.Sco

/-
  Contract of package scopes: New, at every plan that may be.
-/
namespace Go.Proofs.Ytbpmnjmegffllaa.Sco
open Go.ChangeShapes Go.WideShapes Go.ChangeAt Go.RowKit
open Slic Gm Held
set_option linter.unusedVariables false
set_option maxRecDepth 8000
set_option linter.unusedSimpArgs false
attribute [local go_sem ↓] Go.wp_at_zero Go.wp_at_succ

def free0 : Cx := ⟨0, 0, -1, 0, 0, 0⟩
theorem start_set (n : Nat) (hn : 1 ≤ n) (A S I J : Int) : (List.replicate n free0).set 0 ⟨2, 1, -1, 0, I, J⟩ = (start n A S I J).R := by
  obtain ⟨m, rfl⟩ : ∃ m, n = m + 1 := ⟨n - 1, by omega⟩
  rfl
theorem start_L (n : Nat) (A S I J : Int) (hS : 0 ≤ S) : Gr.newL A S = (start n A S I J).L := by
  unfold Gr.newL start
  by_cases h : S = 0
  · rw [if_pos h]
    simp only [h]
    rfl
  · rw [if_neg h]
    simp only [show 0 < S by omega, if_true]
end Go.Proofs.Ytbpmnjmegffllaa.Sco
