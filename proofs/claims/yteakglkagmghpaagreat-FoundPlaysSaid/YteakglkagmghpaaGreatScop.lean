/-
  Plain mathematics of the forest of scopes: what each is and has, and what is free; what each call makes of it, and tells; what is so of all that there may be.
-/
import Derived.Test.YteakglkagmghpaaGreatGrou
import Derived.Test.YteakglkagmghpaaGreatCtls
import Derived.Test.YteakglkagmghpaaGreatBase
import Derived.Test.YteakglkagmghpaaGreatNump
import Derived.Laws.CopyRow
import Derived.Laws.MakeOwn
import Derived.Deep.RegionLaw
namespace Go.Proofs.YteakglkagmghpaaGreat.Sco
open Gm
set_option linter.unusedVariables false
set_option maxRecDepth 8000

/-- A scope: its state, count, parent and epoch; where its extent begins, and its size. -/
structure Cx where
  s : Int
  c : Int
  p : Int
  e : Int
  a : Int
  z : Int
def Cx.turn (x : Cx) (v : Ctl.R) : Cx := ⟨v.s, v.c, v.p, v.e, x.a, x.z⟩
/-- All scopes, and what is free. -/
structure Fo where
  R : List Cx
  L : List E
/-- What a call tells (a number, an error, whether it is drained), and leaves. -/
structure Re where
  v : Int
  x : Int
  d : Bool
  F : Fo

def upz (z : Int) : Int := (z + 7) / 8 * 8
def fr (x : Cx) : Bool := decide (x.s = 0)
def made (x : Cx) (a z : Int) : Cx := ⟨1, x.c, x.p, x.e, a, z⟩
def createV (F : Fo) (z : Int) : Re :=
  if z < 1 ∨ 8192 < z then ⟨0, 1, false, F⟩
  else match F.R[F.R.findIdx fr]? with
    | none => ⟨0, 13, false, F⟩
    | some x => if Gr.carveB (upz z) F.L = true then ⟨(F.R.findIdx fr : Nat), 0, false, ⟨F.R.set (F.R.findIdx fr) (made x (carveA (upz z) F.L) (upz z)), carveL (upz z) F.L⟩⟩ else ⟨0, 14, false, F⟩
/-- The scope of a number, but the immortal one. -/
def look (R : List Cx) (i : Int) : Option Cx := if 1 ≤ i then R[i.toNat]? else none
def turnV (F : Fo) (i : Int) (f : Cx → Ctl.R) : Re :=
  match look F.R i with
  | none => ⟨0, 11, false, F⟩
  | some x => if (f x).x = 0 then ⟨0, 0, decide ((f x).s = 3), ⟨F.R.set i.toNat (x.turn (f x)), F.L⟩⟩ else ⟨0, (f x).x, false, F⟩
def unV (s c p e : Int) : Ctl.R := if s = 0 then Ctl.no 11 else if s = 1 then ⟨0, c, p, (e + 1) % 16777216, 0⟩ else Ctl.no 12
def unF (x : Cx) : Ctl.R := unV x.s x.c x.p x.e
def enF (f : Int) (x : Cx) : Ctl.R := Ctl.entV x.s x.c x.p x.e f
def leF (x : Cx) : Ctl.R := Ctl.leV x.s x.c x.p x.e
def opF (x : Cx) : Ctl.R := Ctl.opV x.s x.c x.p x.e
def hoF (x : Cx) : Ctl.R := Ctl.hoV x.s x.c x.p x.e
def gone (x : Cx) : Cx := ⟨0, x.c, x.p, (x.e + 1) % 16777216, 0, 0⟩
def destroyV (F : Fo) (i : Int) : Re :=
  match look F.R i with
  | none => ⟨0, 11, false, F⟩
  | some x => if x.s = 0 then ⟨0, 11, false, F⟩ else if x.s = 1 then ⟨0, 0, false, ⟨F.R.set i.toNat (gone x), giveL x.a (x.a + x.z) F.L⟩⟩ else ⟨0, 12, false, F⟩

/-- What is so of all that there may be: so many scopes; the immortal one's extent; the heap. -/
structure Inv (n : Nat) (A S I J : Int) (F : Fo) : Prop where
  len : F.R.length = n
  n1 : 1 ≤ n
  n8 : n ≤ 8
  ok : Ok A S F.L
  zero : F.R[0]? = some ⟨2, 1, -1, 0, I, J⟩
  right : ∀ (i : Nat) (x : Cx), F.R[i]? = some x → Ctl.rightB x.s x.c x.p x.e = true
  ext : ∀ (i : Nat) (x : Cx), F.R[i]? = some x → 1 ≤ i → (x.s = 0 ∧ x.a = 0 ∧ x.z = 0) ∨ (x.s ≠ 0 ∧ 0 < x.z ∧ x.z % 8 = 0 ∧ x.a % 8 = 0 ∧ A ≤ x.a ∧ x.a + x.z ≤ A + S)
  apartL : ∀ (i : Nat) (x : Cx) (p : Int), F.R[i]? = some x → 1 ≤ i → x.a ≤ p → p < x.a + x.z → ¬ Mem p F.L
  apart : ∀ (i j : Nat) (x y : Cx) (p : Int), F.R[i]? = some x → F.R[j]? = some y → 1 ≤ i → 1 ≤ j → i ≠ j → x.a ≤ p → p < x.a + x.z → ¬ (y.a ≤ p ∧ p < y.a + y.z)
  cover : ∀ p : Int, A ≤ p → p < A + S → Mem p F.L ∨ ∃ (i : Nat) (x : Cx), F.R[i]? = some x ∧ 1 ≤ i ∧ x.a ≤ p ∧ p < x.a + x.z

theorem look_in {R : List Cx} {i : Int} {x : Cx} (h : look R i = some x) : 1 ≤ i ∧ i < R.length ∧ R[i.toNat]? = some x := by
  unfold look at h
  split at h
  · have := (List.getElem?_eq_some_iff.1 h).1
    exact ⟨by assumption, by omega, h⟩
  · cases h
theorem look_out {R : List Cx} {i : Int} (h : look R i = none) : i < 1 ∨ R.length ≤ i := by
  unfold look at h
  split at h
  · have := List.getElem?_eq_none_iff.1 h
    omega
  · omega
theorem rightI {s c p e : Int} (h : Ctl.rightB s c p e = true) : 0 ≤ e ∧ e ≤ 16777215 ∧ (((s = 0 ∨ s = 1) ∧ c = 0 ∧ p = -1) ∨ (s = 2 ∧ 1 ≤ c ∧ c ≤ 7 ∧ -1 ≤ p ∧ p ≤ 7) ∨ (s = 3 ∧ c = 0 ∧ -1 ≤ p ∧ p ≤ 7)) := of_decide_eq_true h
theorem get_set {R : List Cx} {k i : Nat} {y x : Cx} (h : (R.set k y)[i]? = some x) : (i = k ∧ x = y ∧ k < R.length) ∨ (i ≠ k ∧ R[i]? = some x) := by
  rw [List.getElem?_set] at h
  split at h
  · rename_i e
    split at h
    · injection h with h
      exact .inl ⟨e.symm, h.symm, by assumption⟩
    · cases h
  · rename_i e
    exact .inr ⟨fun q => e q.symm, h⟩
theorem set_get {R : List Cx} {k : Nat} {y : Cx} (h : k < R.length) : (R.set k y)[k]? = some y := by
  rw [List.getElem?_set, if_pos rfl, if_pos h]
theorem set_other {R : List Cx} {k i : Nat} {y : Cx} (h : i ≠ k) : (R.set k y)[i]? = R[i]? := by
  rw [List.getElem?_set, if_neg (fun e => h e.symm)]

theorem right_made {x : Cx} {a z : Int} (h : Ctl.rightB x.s x.c x.p x.e = true) (h0 : x.s = 0) : Ctl.rightB (made x a z).s (made x a z).c (made x a z).p (made x a z).e = true := by
  have := rightI h
  exact decide_eq_true (by show 0 ≤ x.e ∧ x.e ≤ 16777215 ∧ ((((1 : Int) = 0 ∨ (1 : Int) = 1) ∧ x.c = 0 ∧ x.p = -1) ∨ ((1 : Int) = 2 ∧ 1 ≤ x.c ∧ x.c ≤ 7 ∧ -1 ≤ x.p ∧ x.p ≤ 7) ∨ ((1 : Int) = 3 ∧ x.c = 0 ∧ -1 ≤ x.p ∧ x.p ≤ 7)); omega)
theorem right_gone {x : Cx} (h : Ctl.rightB x.s x.c x.p x.e = true) (h0 : x.s = 1) : Ctl.rightB (gone x).s (gone x).c (gone x).p (gone x).e = true := by
  have := rightI h
  exact decide_eq_true (by show 0 ≤ (x.e + 1) % 16777216 ∧ (x.e + 1) % 16777216 ≤ 16777215 ∧ ((((0 : Int) = 0 ∨ (0 : Int) = 1) ∧ x.c = 0 ∧ x.p = -1) ∨ ((0 : Int) = 2 ∧ 1 ≤ x.c ∧ x.c ≤ 7 ∧ -1 ≤ x.p ∧ x.p ≤ 7) ∨ ((0 : Int) = 3 ∧ x.c = 0 ∧ -1 ≤ x.p ∧ x.p ≤ 7)); omega)

/-- What change tells. -/
def chV (F : Fo) (i : Int) (f : Cx → Ctl.R) : Ctl.R := match look F.R i with | none => Ctl.no 11 | some x => f x
/-- What is refused is told without anything else. -/
def Clean (f : Cx → Ctl.R) : Prop := ∀ x, (f x).x ≠ 0 → f x = Ctl.no (f x).x
theorem clean_un : Clean unF := by
  intro x h
  have e : unF x = if x.s = 0 then Ctl.no 11 else if x.s = 1 then ⟨0, x.c, x.p, (x.e + 1) % 16777216, 0⟩ else Ctl.no 12 := rfl
  rw [e] at h ⊢
  by_cases h0 : x.s = 0
  · rw [if_pos h0]
    rfl
  · rw [if_neg h0] at h ⊢
    by_cases h1 : x.s = 1
    · rw [if_pos h1] at h
      exact absurd rfl h
    · rw [if_neg h1]
      rfl
/-- What a turn of a scope's word must keep. -/
def Fine (f : Cx → Ctl.R) : Prop := ∀ x : Cx, Ctl.rightB x.s x.c x.p x.e = true → (f x).x = 0 → x.s ≠ 0 ∧ (f x).s ≠ 0 ∧ Ctl.rightB (f x).s (f x).c (f x).p (f x).e = true
theorem fine_en (f : Int) : Fine (enF f) := by
  intro x h h0
  have := rightI h
  have hx : (enF f x) = Ctl.entV x.s x.c x.p x.e f := rfl
  rw [hx] at h0 ⊢
  rcases Ctl.ent_cases x.s x.c x.p x.e f with ⟨hr, he⟩ | ⟨hr, hf, he⟩ | ⟨hr, f1, f2, h1, he⟩ | ⟨hr, f1, f2, h1, he⟩ | ⟨hr, f1, f2, h1, he⟩ | ⟨hr, f1, f2, h1, hp, he⟩ | ⟨hr, f1, f2, h1, h2, h3, he⟩ | ⟨hr, f1, f2, h1, h2, hc1, hc2, he⟩
  all_goals rw [he] at h0 ⊢
  all_goals first
    | (exact absurd h0 (by show ¬ (1 : Int) = 0; decide))
    | (exact absurd h0 (by show ¬ (11 : Int) = 0; decide))
    | (exact absurd h0 (by show ¬ (10 : Int) = 0; decide))
    | (exact absurd h0 (by show ¬ (15 : Int) = 0; decide))
    | (exact absurd h0 (by show ¬ (16 : Int) = 0; decide))
    | (refine ⟨by omega, by show ¬ (2 : Int) = 0; decide, decide_eq_true ?_⟩; show 0 ≤ x.e ∧ x.e ≤ 16777215 ∧ _; refine ⟨by omega, by omega, .inr (.inl ?_)⟩; refine ⟨rfl, ?_, ?_, ?_, ?_⟩ <;> dsimp only <;> omega)
theorem fine_le : Fine leF := by
  intro x h h0
  have := rightI h
  have hx : leF x = Ctl.leV x.s x.c x.p x.e := rfl
  have e : Ctl.leV x.s x.c x.p x.e = if x.s = 2 then (if x.c = 1 then ⟨3, 0, x.p, x.e, 0⟩ else ⟨2, x.c - 1, x.p, x.e, 0⟩) else Ctl.no 11 := by unfold Ctl.leV; rw [if_pos h]
  rw [hx, e] at h0 ⊢
  by_cases h2 : x.s = 2
  · rw [if_pos h2] at h0 ⊢
    by_cases h1 : x.c = 1
    · rw [if_pos h1]
      exact ⟨by omega, by show ¬ (3 : Int) = 0; decide, show Ctl.rightB 3 0 x.p x.e = true from decide_eq_true (by omega)⟩
    · rw [if_neg h1]
      exact ⟨by omega, by show ¬ (2 : Int) = 0; decide, show Ctl.rightB 2 (x.c - 1) x.p x.e = true from decide_eq_true (by omega)⟩
  · rw [if_neg h2] at h0
    exact absurd h0 (by show ¬ (11 : Int) = 0; decide)
theorem fine_op : Fine opF := by
  intro x h h0
  have := rightI h
  have hx : opF x = Ctl.opV x.s x.c x.p x.e := rfl
  have e : Ctl.opV x.s x.c x.p x.e = if x.s = 3 then ⟨1, 0, -1, (x.e + 1) % 16777216, 0⟩ else Ctl.no 11 := by unfold Ctl.opV; rw [if_pos h]
  rw [hx, e] at h0 ⊢
  by_cases h2 : x.s = 3
  · rw [if_pos h2]
    exact ⟨by omega, by show ¬ (1 : Int) = 0; decide, show Ctl.rightB 1 0 (-1) ((x.e + 1) % 16777216) = true from decide_eq_true (by omega)⟩
  · rw [if_neg h2] at h0
    exact absurd h0 (by show ¬ (11 : Int) = 0; decide)
section
variable {n : Nat} {A S I J : Int} {F : Fo}
theorem Inv.turn (h : Inv n A S I J F) (i : Int) {f : Cx → Ctl.R} (hf : Fine f) : Inv n A S I J (turnV F i f).F := by
  unfold turnV
  cases hl : look F.R i with
  | none => exact h
  | some x =>
    obtain ⟨h1, h2, h3⟩ := look_in hl
    by_cases h0 : (f x).x = 0
    · simp only [h0, if_true]
      have hx := h.right _ x h3
      obtain ⟨f1, f2, f3⟩ := hf x hx h0
      have hk : i.toNat < F.R.length := by omega
      have same : ∀ (j : Nat) (y : Cx), (F.R.set i.toNat (x.turn (f x)))[j]? = some y → ∃ y' : Cx, F.R[j]? = some y' ∧ y.a = y'.a ∧ y.z = y'.z ∧ (j ≠ i.toNat → y = y') ∧ (j = i.toNat → y' = x ∧ y = x.turn (f x)) := by
        intro j y hy
        rcases get_set hy with ⟨rfl, rfl, _⟩ | ⟨hne, hy⟩
        · exact ⟨x, h3, rfl, rfl, fun e => absurd rfl e, fun _ => ⟨rfl, rfl⟩⟩
        · exact ⟨y, hy, rfl, rfl, fun _ => rfl, fun e => absurd e hne⟩
      refine ⟨by rw [List.length_set]; exact h.len, h.n1, h.n8, h.ok, ?_, ?_, ?_, ?_, ?_, ?_⟩
      · rw [set_other (by omega)]
        exact h.zero
      · intro j y hy
        rcases get_set hy with ⟨rfl, rfl, _⟩ | ⟨hne, hy⟩
        · exact f3
        · exact h.right j y hy
      · intro j y hy hj
        rcases get_set hy with ⟨rfl, rfl, _⟩ | ⟨hne, hy⟩
        · rcases h.ext _ x h3 (by omega) with k | ⟨_, k⟩
          · exact absurd k.1 f1
          · exact .inr ⟨f2, k⟩
        · exact h.ext j y hy hj
      · intro j y p hy hj p1 p2
        obtain ⟨y', hy', e1, e2, _⟩ := same j y hy
        exact h.apartL j y' p hy' hj (by omega) (by omega)
      · intro j k y u p hy hu hj hk' hne p1 p2
        obtain ⟨y', hy', e1, e2, _⟩ := same j y hy
        obtain ⟨u', hu', e3, e4, _⟩ := same k u hu
        have := h.apart j k y' u' p hy' hu' hj hk' hne (by omega) (by omega)
        omega
      · intro p p1 p2
        rcases h.cover p p1 p2 with m | ⟨j, y, hy, hj, q1, q2⟩
        · exact .inl m
        · right
          by_cases e : j = i.toNat
          · subst e
            rw [h3] at hy
            injection hy with hy
            subst hy
            exact ⟨i.toNat, x.turn (f x), set_get hk, hj, q1, q2⟩
          · exact ⟨j, y, by rw [set_other e]; exact hy, hj, q1, q2⟩
    · simp only [h0, if_false]
      exact h

theorem fr_at {R : List Cx} {x : Cx} (h : R[R.findIdx fr]? = some x) : x.s = 0 := by
  obtain ⟨h1, h2⟩ := List.getElem?_eq_some_iff.1 h
  have := List.findIdx_getElem (w := h1)
  rw [h2] at this
  exact of_decide_eq_true this
theorem Inv.fr_pos (h : Inv n A S I J F) : 1 ≤ F.R.findIdx fr := by
  rcases Nat.eq_zero_or_pos (F.R.findIdx fr) with e | e
  · have hz := h.zero
    have := fr_at (R := F.R) (x := ⟨2, 1, -1, 0, I, J⟩) (by rw [e]; exact hz)
    exact absurd this (by show ¬ (2 : Int) = 0; decide)
  · exact e
theorem upz_all {z : Int} (h : ¬ (z < 1 ∨ 8192 < z)) : 0 < upz z ∧ upz z % 8 = 0 ∧ z ≤ upz z ∧ upz z < z + 8 ∧ upz z ≤ 8192 := by
  unfold upz
  omega
theorem carveB_fits {z : Int} {L : List E} (h : Gr.carveB z L = true) : 0 < z ∧ z % 8 = 0 ∧ fits z L = true := by
  unfold Gr.carveB at h
  rw [Bool.and_eq_true] at h
  have : 0 < z ∧ z % 8 = 0 := of_decide_eq_true h.1
  exact ⟨this.1, this.2, h.2⟩
theorem Inv.create (h : Inv n A S I J F) (z : Int) : Inv n A S I J (createV F z).F := by
  unfold createV
  by_cases hz : z < 1 ∨ 8192 < z
  · rw [if_pos hz]
    exact h
  · rw [if_neg hz]
    cases hl : F.R[F.R.findIdx fr]? with
    | none => exact h
    | some x =>
      by_cases hb : Gr.carveB (upz z) F.L = true
      · simp only [hb, if_true]
        obtain ⟨b1, b2, b3⟩ := carveB_fits hb
        have hs := fr_at hl
        have hp := h.fr_pos
        have hk := (List.getElem?_eq_some_iff.1 hl).1
        have hin := carve_in b3
        have hsub := fun p => carve_sub (z := upz z) b3 (p := p)
        have hmem := carve_mem b1 h.ok.norm b3
        obtain ⟨e, he, he1, he2⟩ := hin
        have hE := h.ok.mem he
        generalize F.R.findIdx fr = k at *
        generalize carveA (upz z) F.L = a at *
        have inL : ∀ p, a ≤ p → p < a + upz z → Mem p F.L := fun p p1 p2 => hsub p p1 p2
        have xe : x.a = 0 ∧ x.z = 0 := by
          rcases h.ext k x hl hp with q | q
          · exact q.2
          · exact absurd hs q.1
        refine ⟨by rw [List.length_set]; exact h.len, h.n1, h.n8, h.ok.carve b1 b2, ?_, ?_, ?_, ?_, ?_, ?_⟩
        · rw [set_other (by omega)]
          exact h.zero
        · intro j y hy
          rcases get_set hy with ⟨rfl, rfl, _⟩ | ⟨hne, hy⟩
          · exact right_made (h.right _ x hl) hs
          · exact h.right j y hy
        · intro j y hy hj
          rcases get_set hy with ⟨rfl, rfl, _⟩ | ⟨hne, hy⟩
          · refine .inr ⟨by show ¬ (1 : Int) = 0; decide, b1, b2, ?_, ?_, ?_⟩
            · show a % 8 = 0
              omega
            · show A ≤ a
              omega
            · show a + upz z ≤ A + S
              omega
          · exact h.ext j y hy hj
        · intro j y p hy hj p1 p2 m
          obtain ⟨m1, m2⟩ := (hmem p).1 m
          rcases get_set hy with ⟨rfl, rfl, _⟩ | ⟨hne, hy'⟩
          · exact m2 ⟨p1, p2⟩
          · exact h.apartL j y p hy' hj p1 p2 m1
        · intro j i y u p hy hu hj hi hne p1 p2 q
          rcases get_set hy with ⟨rfl, rfl, _⟩ | ⟨hne1, hy⟩
          · rcases get_set hu with ⟨rfl, rfl, _⟩ | ⟨hne2, hu⟩
            · exact hne rfl
            · exact h.apartL i u p hu hi q.1 q.2 (inL p p1 p2)
          · rcases get_set hu with ⟨rfl, rfl, _⟩ | ⟨hne2, hu⟩
            · exact h.apartL j y p (by assumption) hj p1 p2 (inL p q.1 q.2)
            · exact h.apart j i y u p (by assumption) (by assumption) hj hi hne p1 p2 q
        · intro p p1 p2
          rcases h.cover p p1 p2 with m | ⟨j, y, hy, hj, q1, q2⟩
          · by_cases c : a ≤ p ∧ p < a + upz z
            · exact .inr ⟨k, made x a (upz z), set_get hk, hp, c.1, c.2⟩
            · exact .inl ((hmem p).2 ⟨m, c⟩)
          · right
            by_cases e : j = k
            · subst e
              rw [hl] at hy
              injection hy with hy
              subst hy
              omega
            · exact ⟨j, y, by rw [set_other e]; exact hy, hj, q1, q2⟩
      · simp only [hb]
        exact h

/-- What is given back of a scope that is not free. -/
theorem Inv.back (h : Inv n A S I J F) {i : Nat} {x : Cx} (hx : F.R[i]? = some x) (hi : 1 ≤ i) (hs : x.s ≠ 0) : 0 < x.z ∧ x.z % 8 = 0 ∧ x.a % 8 = 0 ∧ A ≤ x.a ∧ x.a + x.z ≤ A + S ∧ bad x.a (x.a + x.z) F.L = false := by
  rcases h.ext i x hx hi with q | ⟨_, q1, q2, q3, q4, q5⟩
  · exact absurd q.1 hs
  · refine ⟨q1, q2, q3, q4, q5, ?_⟩
    cases hb : bad x.a (x.a + x.z) F.L with
    | false => rfl
    | true =>
      obtain ⟨p, p1, p2, m⟩ := (bad_mem (by omega) h.ok.norm).1 hb
      exact absurd m (h.apartL i x p hx hi p1 p2)
theorem Inv.destroy (h : Inv n A S I J F) (i : Int) : Inv n A S I J (destroyV F i).F := by
  unfold destroyV
  cases hl : look F.R i with
  | none => exact h
  | some x =>
    obtain ⟨h1, h2, h3⟩ := look_in hl
    by_cases s0 : x.s = 0
    · simp only [s0, if_true]
      exact h
    · by_cases s1 : x.s = 1
      · obtain ⟨b1, b2, b3, b4, b5, b6⟩ := h.back h3 (by omega) s0
        have hk : i.toNat < F.R.length := by omega
        obtain ⟨o1, o2, o3⟩ := h.ok.give (a := x.a) (b := x.a + x.z) (by omega) b4 b5 b3 (by omega) b6
        simp only [s1, if_true]
        simp only [show ¬ ((1 : Int) = 0) by decide, if_false]
        refine ⟨by rw [List.length_set]; exact h.len, h.n1, h.n8, o1, ?_, ?_, ?_, ?_, ?_, ?_⟩
        · rw [set_other (by omega)]
          exact h.zero
        · intro j y hy
          rcases get_set hy with ⟨rfl, rfl, _⟩ | ⟨hne, hy⟩
          · exact right_gone (h.right _ x h3) s1
          · exact h.right j y hy
        · intro j y hy hj
          rcases get_set hy with ⟨rfl, rfl, _⟩ | ⟨hne, hy⟩
          · exact .inl ⟨rfl, rfl, rfl⟩
          · exact h.ext j y hy hj
        · intro j y p hy hj p1 p2 m
          rcases get_set hy with ⟨rfl, rfl, _⟩ | ⟨hne, hy⟩
          · have q1 : (0 : Int) ≤ p := p1
            have q2 : p < (0 : Int) + 0 := p2
            omega
          · rcases (o2 p).1 m with m | m
            · exact h.apartL j y p hy hj p1 p2 m
            · exact h.apart j i.toNat y x p hy h3 hj (by omega) hne p1 p2 m
        · intro j k y u p hy hu hj hk' hne p1 p2 q
          rcases get_set hy with ⟨rfl, rfl, _⟩ | ⟨hne1, hy⟩
          · have q1 : (0 : Int) ≤ p := p1
            have q2 : p < (0 : Int) + 0 := p2
            omega
          · rcases get_set hu with ⟨rfl, rfl, _⟩ | ⟨hne2, hu⟩
            · have q1 : (0 : Int) ≤ p := q.1
              have q2 : p < (0 : Int) + 0 := q.2
              omega
            · exact h.apart j k y u p hy hu hj hk' hne p1 p2 q
        · intro p p1 p2
          rcases h.cover p p1 p2 with m | ⟨j, y, hy, hj, q1, q2⟩
          · exact .inl ((o2 p).2 (.inl m))
          · by_cases e : j = i.toNat
            · subst e
              rw [h3] at hy
              injection hy with hy
              subst hy
              exact .inl ((o2 p).2 (.inr ⟨q1, q2⟩))
            · exact .inr ⟨j, y, by rw [set_other e]; exact hy, hj, q1, q2⟩
      · simp only [s0, s1, if_false]
        exact h
end
/-- The beginning: all of the heap is free, and no scope but the immortal one. -/
def start (n : Nat) (A S I J : Int) : Fo := ⟨⟨2, 1, -1, 0, I, J⟩ :: List.replicate (n - 1) ⟨0, 0, -1, 0, 0, 0⟩, if 0 < S then [(A, S)] else []⟩
theorem start_inv {n : Nat} {A S I J : Int} (n1 : 1 ≤ n) (n8 : n ≤ 8) (a0 : 0 ≤ A) (a1 : A ≤ 65536) (s0 : 0 ≤ S) (s1 : S ≤ 65536) (a8 : A % 8 = 0) (s8 : S % 8 = 0) : Inv n A S I J (start n A S I J) := by
  have hget : ∀ (i : Nat) (x : Cx), (start n A S I J).R[i]? = some x → 1 ≤ i → x = ⟨0, 0, -1, 0, 0, 0⟩ := by
    intro i x hx hi
    obtain ⟨k, rfl⟩ : ∃ k, i = k + 1 := ⟨i - 1, by omega⟩
    have : (List.replicate (n - 1) (⟨0, 0, -1, 0, 0, 0⟩ : Cx))[k]? = some x := by simpa [start] using hx
    exact List.eq_of_mem_replicate (List.mem_of_getElem? this)
  have hL : ∀ p, Mem p (start n A S I J).L ↔ A ≤ p ∧ p < A + S := by
    intro p
    unfold start
    by_cases c : 0 < S
    · simp only [c, if_true]
      rw [mem_cons]
      constructor
      · rintro (m | m)
        · exact m
        · exact absurd m (mem_nil p)
      · exact fun m => .inl m
    · simp only [c, if_false]
      exact ⟨fun m => absurd m (mem_nil p), fun m => by omega⟩
  refine ⟨by simp [start]; omega, n1, n8, ?_, rfl, ?_, ?_, ?_, ?_, ?_⟩
  · unfold start
    by_cases c : 0 < S
    · simp only [c, if_true]
      refine ⟨⟨Int.le_refl _, c, trivial⟩, fun e he => ?_, fun e he => ?_, a0, a1, s0, s1, a8, s8⟩
      · have : e = (A, S) := by simpa using he
        subst this
        exact Int.le_refl _
      · have : e = (A, S) := by simpa using he
        subst this
        exact ⟨a8, s8⟩
    · simp only [c, if_false]
      exact ⟨trivial, fun e he => absurd he List.not_mem_nil, fun e he => absurd he List.not_mem_nil, a0, a1, s0, s1, a8, s8⟩
  · intro i x hx
    rcases Nat.eq_zero_or_pos i with rfl | hi
    · have : x = ⟨2, 1, -1, 0, I, J⟩ := by
        have e : (start n A S I J).R[0]? = some ⟨2, 1, -1, 0, I, J⟩ := rfl
        rw [e] at hx
        injection hx with hx
        exact hx.symm
      subst this
      show Ctl.rightB 2 1 (-1) 0 = true
      decide
    · rw [hget i x hx hi]
      exact decide_eq_true (by decide)
  · intro i x hx hi
    rw [hget i x hx hi]
    exact .inl ⟨rfl, rfl, rfl⟩
  · intro i x p hx hi p1 p2
    rw [hget i x hx hi] at p1 p2
    have q1 : (0 : Int) ≤ p := p1
    have q2 : p < (0 : Int) + 0 := p2
    omega
  · intro i j x y p hx hy hi hj hne p1 p2
    rw [hget i x hx hi] at p1 p2
    have q1 : (0 : Int) ≤ p := p1
    have q2 : p < (0 : Int) + 0 := p2
    omega
  · intro p p1 p2
    exact .inl ((hL p).2 ⟨p1, p2⟩)
end Go.Proofs.YteakglkagmghpaaGreat.Sco

/-
  The forest of scopes in memory: kinds of rows; what changes but so many blocks; the struct with its ground, and the row of records.
-/
namespace Go.Proofs.YteakglkagmghpaaGreat.Sco
open Go.ChangeShapes Go.WideShapes Go.ChangeAt Go.RowKit
open Slic Gm
set_option linter.unusedVariables false
set_option maxRecDepth 8000

def kD : Kd Cx := { X := 117, T := 197, m := 6, by_ := 48, z := .agg #[.int .i64 0, .int .i64 0, .int .i64 0, .int .i64 0, .int .i64 0, .int .i64 0], enc := fun x => [.int .i64 x.s, .int .i64 x.c, .int .i64 x.p, .int .i64 x.e, .int .i64 x.a, .int .i64 x.z], len := fun _ => rfl, one := fun _ u h => by simp at h; rcases h with rfl | rfl | rfl | rfl | rfl | rfl <;> rfl, pos := by decide, small := by decide, zs := rfl, under := by kernel_rfl, info := by kernel_rfl, elem := by kernel_rfl }
def kC : Kd Cx := { X := 67, T := 64, m := 4, by_ := 32, z := .agg #[.int .i64 0, .int .i64 0, .int .i64 0, .int .i64 0], enc := fun x => [.int .i64 x.s, .int .i64 x.c, .int .i64 x.p, .int .i64 x.e], len := fun _ => rfl, one := fun _ u h => by simp at h; rcases h with rfl | rfl | rfl | rfl <;> rfl, pos := by decide, small := by decide, zs := rfl, under := by kernel_rfl, info := by kernel_rfl, elem := by kernel_rfl }
def kX : Kd Cx := { X := 68, T := 119, m := 2, by_ := 16, z := .agg #[.int .i64 0, .int .i64 0], enc := fun x => [.int .i64 x.a, .int .i64 x.z], len := fun _ => rfl, one := fun _ u h => by simp at h; rcases h with rfl | rfl <;> rfl, pos := by decide, small := by decide, zs := rfl, under := by kernel_rfl, info := by kernel_rfl, elem := by kernel_rfl }

/-- Nothing changes but these blocks, and new ones. -/
structure Only (X : List Nat) (w w' : World) : Prop where
  os : w'.os = w.os
  tape : w'.tape = w.tape
  output : w'.output = w.output
  size : w.heap.size ≤ w'.heap.size
  block : ∀ i, i < w.heap.size → i ∉ X → w'.heap[i]? = w.heap[i]?
theorem Only.refl (X : List Nat) (w : World) : Only X w w := ⟨rfl, rfl, rfl, Nat.le_refl _, fun _ _ _ => rfl⟩
theorem Only.trans {X : List Nat} {a b c : World} (h : Only X a b) (k : Only X b c) : Only X a c :=
  ⟨k.os.trans h.os, k.tape.trans h.tape, k.output.trans h.output, Nat.le_trans h.size k.size, fun i hi hx => (k.block i (Nat.lt_of_lt_of_le hi h.size) hx).trans (h.block i hi hx)⟩
theorem Only.mono {X Y : List Nat} {a b : World} (h : Only X a b) (k : ∀ x ∈ X, x ∈ Y) : Only Y a b := ⟨h.os, h.tape, h.output, h.size, fun i hi hx => h.block i hi fun e => hx (k i e)⟩
theorem Only.below {X : List Nat} {a b : World} (h : Below a.heap.size a b) : Only X a b := ⟨h.os, h.tape, h.output, h.size, fun i hi _ => h.block i hi⟩
theorem Only.grown {X : List Nat} {a b : World} {g : Nat} (h : a.grownBy b (some g)) (hg : g ∈ X) : Only X a b := ⟨h.os, h.tape, h.output, h.size, fun i hi hx => h.block i hi fun e => by injection e with e; exact hx (e ▸ hg)⟩
theorem Only.put {X : List Nat} (w : World) (g o : Nat) (v : Value) (hg : g ∈ X) : Only X w (w.setCell ⟨g, o, none⟩ v) :=
  Only.grown (g := g) ⟨rfl, rfl, rfl, by simp, fun k _ hk => heap_setCell_other w ⟨g, o, none⟩ k v (fun e => hk (by simp [e]))⟩ hg
theorem Only.below_of {X : List Nat} {N : Nat} {w0 w w' : World} (h : Only X w w') (k : Below N w0 w) (hN : N ≤ w.heap.size) (hX : ∀ x ∈ X, N ≤ x) : Below N w0 w' :=
  ⟨h.os.trans k.os, h.tape.trans k.tape, h.output.trans k.output, Nat.le_trans k.size h.size, fun i hi => (h.block i (by omega) (fun e => by have := hX i e; omega)).trans (k.block i hi)⟩
theorem Only.cell {X : List Nat} {w w' : World} (h : Only X w w') {b : Nat} (hb : b < w.heap.size) (hx : b ∉ X) (o : Nat) : w'.cell? ⟨b, o, none⟩ = w.cell? ⟨b, o, none⟩ := by
  simp only [World.cell?, h.block b hb hx]
theorem Only.frozen {X : List Nat} {w w' : World} (h : Only X w w') {b : Nat} (hb : b < w.heap.size) (hx : b ∉ X) (o : Nat) : w'.frozen? ⟨b, o, none⟩ = w.frozen? ⟨b, o, none⟩ := by
  simp only [World.frozen?, h.block b hb hx]

/-- A block's type. -/
def isT (w : World) (b : Nat) (t : TypeId) : Prop := ∃ cs, w.heap[b]? = some (.cells cs t (0, 0))
theorem isT.ne {w : World} {b b' : Nat} {t t' : TypeId} (h : isT w b t) (h' : isT w b' t') (hne : (t == t') = false) : b ≠ b' := by
  rintro rfl
  obtain ⟨c, h⟩ := h
  obtain ⟨c', h'⟩ := h'
  rw [h] at h'
  injection h' with h'
  injection h' with _ h'
  subst h'
  simp at hne
theorem isT.row {w : World} {b n : Nat} {t : TypeId} {f : Nat → Value} (h : w.rowIs b t n f) : isT w b t := by
  obtain ⟨c, h, _⟩ := h
  exact ⟨c, h⟩
theorem isT.own {α : Type} {K : Kd α} {w : World} {base g n c : Nat} {L : List α} (h : Own K w base (.slice (some ⟨g, 0, none⟩) n c) L) : isT w g K.T := by
  rcases h.2 with ⟨e, _⟩ | ⟨g', cap, cur, e, _, hg, _⟩
  · cases e
  · injection e with e
    injection e with e
    injection e with e
    subst e
    exact ⟨cur, hg⟩

/-- What the struct lies at the beginning of: a block of this type with so many cells; and what the other cells are. -/
structure Fr where
  T : TypeId
  m : Nat
  f : Nat → Value
  fits : 4 ≤ m
  ne : (T == 119) = false
  nr : (T == 197) = false
/-- A forest of its own. -/
def yS : Fr := ⟨123, 4, fun _ => undef, by decide, by decide, by decide⟩
/-- The struct: its row of records, and its ground. -/
def ly (Y : Fr) (g n : Nat) : Gr.Ly := ⟨Y.T, Y.m, 1, fun i => if i = 0 then .slice (some ⟨g, 0, none⟩) n n else Y.f i, Y.fits, Y.ne⟩
structure Sc (w : World) (Y : Fr) (B g K n : Nat) (A S : Int) (F : Fo) : Prop where
  len : F.R.length = n
  gr : Gr.Gr w (ly Y g n) B K A S F.L
  row : Own kD w 0 (.slice (some ⟨g, 0, none⟩) n n) F.R
section
variable {w w' : World} {Y : Fr} {B g K n : Nat} {A S : Int} {F : Fo}
theorem Sc.tB (h : Sc w Y B g K n A S F) : isT w B Y.T := by
  obtain ⟨v, hr, _⟩ := h.gr
  exact isT.row hr
theorem Sc.tg (h : Sc w Y B g K n A S F) : isT w g 197 := isT.own h.row
theorem Sc.ne (h : Sc w Y B g K n A S F) : B ≠ g := h.tB.ne h.tg Y.nr
theorem Sc.ltB (h : Sc w Y B g K n A S F) : B < w.heap.size := h.gr.lt
theorem Sc.ltg (h : Sc w Y B g K n A S F) : g < w.heap.size := (h.row.lt g rfl).2
/-- The row, as the struct has it. -/
theorem Sc.all (h : Sc w Y B g K n A S F) : w.cell? ⟨B, 0, none⟩ = some (.slice (some ⟨g, 0, none⟩) n n) := by
  obtain ⟨v, hr, _⟩ := h.gr
  have := hr.cell (i := 0) (Nat.lt_of_lt_of_le (by decide) Y.fits)
  rw [Gr.Ly.hdf _ _ _ _ (.inl (show 0 < 1 by decide))] at this
  exact this
theorem Sc.at (h : Sc w Y B g K n A S F) {i : Nat} {x : Cx} (hx : F.R[i]? = some x) :
    (w.cell? ⟨g, i * 6, none⟩ = some (.int .i64 x.s) ∧ w.cell? ⟨g, i * 6 + 1, none⟩ = some (.int .i64 x.c) ∧ w.cell? ⟨g, i * 6 + 2, none⟩ = some (.int .i64 x.p) ∧ w.cell? ⟨g, i * 6 + 3, none⟩ = some (.int .i64 x.e) ∧ w.cell? ⟨g, i * 6 + 4, none⟩ = some (.int .i64 x.a) ∧ w.cell? ⟨g, i * 6 + 5, none⟩ = some (.int .i64 x.z)) ∧ ∀ o, w.frozen? ⟨g, o, none⟩ = false := by
  obtain ⟨hi, hx⟩ := List.getElem?_eq_some_iff.1 hx
  have hr := h.row
  rw [← h.len] at hr
  obtain ⟨g', c, e, _, _, _, _, hf, hc⟩ := hr.form (by omega)
  injection e with e
  injection e with e
  injection e with e
  subst e
  have hq := fun j u => hc i j u hi
  rw [hx] at hq
  exact ⟨⟨hq 0 _ rfl, hq 1 _ rfl, hq 2 _ rfl, hq 3 _ rfl, hq 4 _ rfl, hq 5 _ rfl⟩, hf⟩
theorem own_block {α : Type} {Q : Kd α} {w w' : World} {base g n c : Nat} {L : List α} (h : Own Q w base (.slice (some ⟨g, 0, none⟩) n c) L) (k : w'.heap[g]? = w.heap[g]?) : Own Q w' base (.slice (some ⟨g, 0, none⟩) n c) L := by
  refine ⟨h.1, ?_⟩
  rcases h.2 with hn | ⟨g', cap, cur, e, hb, hgg, rest⟩
  · exact .inl hn
  · refine .inr ⟨g', cap, cur, e, hb, ?_, rest⟩
    injection e with e
    injection e with e
    injection e with e
    subst e
    exact k.trans hgg
theorem Sc.only_gr {X : List Nat} (h : Sc w Y B g K n A S F) (k : Only X w w') (hB : B ∉ X) (hX : ∀ x ∈ X, x = K ∨ ∃ t, isT w x t ∧ (t == 119) = false) : Gr.Gr w' (ly Y g n) B K A S F.L := by
  · obtain ⟨v, a, b, c, d, t⟩ := h.gr
    have hv : ∀ q, v.ownBlock = some q → q ∉ X := by
      intro q hq hqX
      rcases hX q hqX with rfl | ⟨t', ⟨cs, e1⟩, e2⟩
      · exact d hq
      · obtain ⟨cs', fz, e3⟩ := t q hq
        rw [e1] at e3
        injection e3 with e3
        injection e3 with _ e3
        subst e3
        simp at e2
    exact ⟨v, a.of_block (k.block B a.lt hB), b.keep k.size fun q hq => k.block q (b.lt hq) (hv q hq), c, d, t.keep fun q hq => k.block q (b.lt hq) (hv q hq)⟩
theorem Sc.only {X : List Nat} (h : Sc w Y B g K n A S F) (k : Only X w w') (hB : B ∉ X) (hg : g ∉ X) (hX : ∀ x ∈ X, x = K ∨ ∃ t, isT w x t ∧ (t == 119) = false) : Sc w' Y B g K n A S F := by
  refine ⟨h.len, ?_, ?_⟩
  · exact h.only_gr k hB hX
  · exact own_block h.row (k.block g h.ltg hg)
theorem Sc.below (h : Sc w Y B g K n A S F) (k : Below w.heap.size w w') : Sc w' Y B g K n A S F :=
  h.only (X := []) (Only.below k) List.not_mem_nil List.not_mem_nil (fun x hx => absurd hx List.not_mem_nil)
theorem Sc.alloc' (h : Sc w Y B g K n A S F) (o : Obj) : Sc (w.alloc o) Y B g K n A S F := h.below (below_one w o)
/-- The ground alone has changed. -/
theorem Sc.ground {L' : List E} (h : Sc w Y B g K n A S F) (hg : Gr.Gr w' (ly Y g n) B K A S L') (k : w.grownBy w' (some B)) : Sc w' Y B g K n A S ⟨F.R, L'⟩ :=
  ⟨h.len, hg, own_block h.row (k.block g h.ltg (fun e => by injection e with e; exact h.ne e.symm))⟩
/-- A stretch of stores into the row, and into what is new: what has changed since. -/
structure Cg (w0 w : World) (g n : Nat) (R : List Cx) : Prop where
  lt : g < w0.heap.size
  len : R.length = n
  only : Only [g] w0 w
  row : Own kD w 0 (.slice (some ⟨g, 0, none⟩) n n) R
theorem Sc.cg (h : Sc w Y B g K n A S F) : Cg w w g n F.R := ⟨h.ltg, h.len, Only.refl _ _, h.row⟩
theorem Cg.call {w0 w w' : World} {g n : Nat} {R : List Cx} (h : Cg w0 w g n R) (k : Below w.heap.size w w') : Cg w0 w' g n R :=
  ⟨h.lt, h.len, h.only.trans (Only.below k), own_block h.row (k.block g (Nat.lt_of_lt_of_le h.lt h.only.size))⟩
theorem Cg.alloc {w0 w : World} {g n : Nat} {R : List Cx} (h : Cg w0 w g n R) (o : Obj) : Cg w0 (w.alloc o) g n R := h.call (below_one w o)
theorem Cg.drew {w0 w : World} {g n : Nat} {R : List Cx} (h : Cg w0 w g n R) : Cg w0 w.drew g n R := h.call (Below.refl _ _).drew
theorem Cg.loc {w0 w : World} {g n : Nat} {R : List Cx} (h : Cg w0 w g n R) {b : Nat} (hb : w0.heap.size ≤ b) (o : Nat) (v : Value) : Cg w0 (w.setCell ⟨b, o, none⟩ v) g n R := by
  have hg := h.lt
  have hk : ∀ k, k < w0.heap.size → (w.setCell ⟨b, o, none⟩ v).heap[k]? = w.heap[k]? := fun k hk => heap_setCell_other w ⟨b, o, none⟩ k v (by show k ≠ b; omega)
  exact ⟨hg, h.len, ⟨h.only.os, h.only.tape, h.only.output, by simpa [World.setCell] using h.only.size, fun i hi hx => (hk i hi).trans (h.only.block i hi hx)⟩, own_block h.row (hk g hg)⟩
theorem Cg.put {w0 w : World} {g n : Nat} {R : List Cx} (h : Cg w0 w g n R) (i j : Nat) {x : Cx} (y : Cx) (v : Value) (hx : R[i]? = some x) (hj : j < 6) (hy : kD.enc y = (kD.enc x).set j v) : Cg w0 (w.setCell ⟨g, i * 6 + j, none⟩ v) g n (R.set i y) := by
  obtain ⟨hi, hx⟩ := List.getElem?_eq_some_iff.1 hx
  refine ⟨h.lt, by rw [List.length_set]; exact h.len, h.only.trans (Only.put w g _ v (by simp)), ?_⟩
  have hr := h.row
  have e := h.len
  subst e
  exact (hr.put i j hi hj y v (by rw [hx]; exact hy)).1
theorem set_read {R : List Cx} {i : Nat} {x : Cx} (h : R[i]? = some x) (y : Cx) : (R.set i y)[i]? = some y := set_get (List.getElem?_eq_some_iff.1 h).1
/-- A word is stored. -/
theorem Cg.put4 {w0 w : World} {g n : Nat} {R : List Cx} (h : Cg w0 w g n R) (i : Nat) {x : Cx} (hx : R[i]? = some x) (s c p e : Int) :
    Cg w0 ((((w.setCell ⟨g, i * 6, none⟩ (.int .i64 s)).setCell ⟨g, i * 6 + 1, none⟩ (.int .i64 c)).setCell ⟨g, i * 6 + 2, none⟩ (.int .i64 p)).setCell ⟨g, i * 6 + 3, none⟩ (.int .i64 e)) g n (R.set i ⟨s, c, p, e, x.a, x.z⟩) := by
  have h1 := h.put i 0 ⟨s, x.c, x.p, x.e, x.a, x.z⟩ (.int .i64 s) hx (by decide) rfl
  have h2 := h1.put i 1 ⟨s, c, x.p, x.e, x.a, x.z⟩ (.int .i64 c) (set_read hx _) (by decide) rfl
  rw [List.set_set] at h2
  have h3 := h2.put i 2 ⟨s, c, p, x.e, x.a, x.z⟩ (.int .i64 p) (set_read hx _) (by decide) rfl
  rw [List.set_set] at h3
  have h4 := h3.put i 3 ⟨s, c, p, e, x.a, x.z⟩ (.int .i64 e) (set_read hx _) (by decide) rfl
  rw [List.set_set] at h4
  exact h4
/-- An extent is stored. -/
theorem Cg.put2 {w0 w : World} {g n : Nat} {R : List Cx} (h : Cg w0 w g n R) (i : Nat) {x : Cx} (hx : R[i]? = some x) (a z : Int) :
    Cg w0 ((w.setCell ⟨g, i * 6 + 4, none⟩ (.int .i64 a)).setCell ⟨g, i * 6 + 5, none⟩ (.int .i64 z)) g n (R.set i ⟨x.s, x.c, x.p, x.e, a, z⟩) := by
  have h1 := h.put i 4 ⟨x.s, x.c, x.p, x.e, a, x.z⟩ (.int .i64 a) hx (by decide) rfl
  have h2 := h1.put i 5 ⟨x.s, x.c, x.p, x.e, a, z⟩ (.int .i64 z) (set_read hx _) (by decide) rfl
  rw [List.set_set] at h2
  exact h2
/-- A state is stored. -/
theorem Cg.put1 {w0 w : World} {g n : Nat} {R : List Cx} (h : Cg w0 w g n R) (i : Nat) {x : Cx} (hx : R[i]? = some x) (s : Int) :
    Cg w0 (w.setCell ⟨g, i * 6, none⟩ (.int .i64 s)) g n (R.set i ⟨s, x.c, x.p, x.e, x.a, x.z⟩) :=
  h.put i 0 ⟨s, x.c, x.p, x.e, x.a, x.z⟩ (.int .i64 s) hx (by decide) rfl
theorem Sc.of_cg {R : List Cx} (h : Sc w Y B g K n A S F) (k : Cg w w' g n R) : Sc w' Y B g K n A S ⟨R, F.L⟩ :=
  ⟨k.len, h.only_gr k.only (by simp; exact h.ne) (fun x hx => .inr ⟨197, (List.mem_singleton.1 hx).symm ▸ h.tg, by decide⟩), k.row⟩

/-- One cell of a record is stored. -/
theorem Sc.put (h : Sc w Y B g K n A S F) (i j : Nat) {x : Cx} (y : Cx) (v : Value) (hx : F.R[i]? = some x) (hj : j < 6) (hy : kD.enc y = (kD.enc x).set j v) : Sc (w.setCell ⟨g, i * 6 + j, none⟩ v) Y B g K n A S ⟨F.R.set i y, F.L⟩ := by
  have G : Only [g] w (w.setCell ⟨g, i * 6 + j, none⟩ v) := Only.put w g _ v (by simp)
  obtain ⟨hi, hx⟩ := List.getElem?_eq_some_iff.1 hx
  refine ⟨by show (F.R.set i y).length = n; rw [List.length_set]; exact h.len, ?_, ?_⟩
  · exact (h.only_gr G (by simp; exact h.ne) (fun x hx => .inr ⟨197, (List.mem_singleton.1 hx).symm ▸ h.tg, by decide⟩))
  · have hr := h.row
    have e := h.len
    subst e
    exact (hr.put i j hi hj y v (by rw [hx]; exact hy)).1
end
end Go.Proofs.YteakglkagmghpaaGreat.Sco

/-
  Contracts of package scopes: has, Ctl, Extent, Free, unmade, an entrance's enter.
-/
namespace Go.Proofs.YteakglkagmghpaaGreat.Sco
open Go.ChangeShapes Go.WideShapes Go.ChangeAt Go.RowKit
open Slic Gm
set_option linter.unusedVariables false
set_option maxRecDepth 8000
attribute [local go_sem ↓] Go.wp_at_zero Go.wp_at_succ

abbrev ptr (B : Nat) : Value := .pointer (some ⟨B, 0, none⟩)
abbrev tellR (r : Ctl.R) : Ending := .returned (.tuple #[.agg #[.int .i64 r.s, .int .i64 r.c, .int .i64 r.p, .int .i64 r.e], .int .i64 r.x])

section
variable {w w' : World} {Y : Fr} {B g K n : Nat} {A S : Int} {F : Fo}
set_option maxHeartbeats 1000000 in
theorem has_any (h : Sc w Y B g K n A S F) (n8 : n ≤ 8) (i : Int) :
    Calls Tryz.prog 116 #[ptr B, .int .i64 i] w fun e w' => e = .returned (.bool (Ctl.withinB i 0 ((n : Int) - 1))) ∧ w = w' := by
  have c0 := h.all
  have wr : IntKind.i64.wrap ((n : Int) - 1) = (n : Int) - 1 := IntWalk.i64_in _ (by omega)
  go_enter Tryz.func116, Tryz.ntmps116
  go_wp2_with (go_at_call 90; refine (Ctl.within_any _ _ _ _).mono ?_; rintro e w' ⟨rfl, rfl⟩)
  go_ret
  exact ⟨rfl, rfl⟩
theorem within_yes {i : Int} (h1 : 0 ≤ i) (h2 : i < n) : Ctl.withinB i 0 ((n : Int) - 1) = true := decide_eq_true (by omega)
theorem within_no {i : Int} (h : i < 0 ∨ (n : Int) ≤ i) : Ctl.withinB i 0 ((n : Int) - 1) = false := decide_eq_false (by omega)

/-- What Ctl and Extent tell. -/
def seeC (R : List Cx) (i : Int) : Ctl.R := if 0 ≤ i then (match R[i.toNat]? with | none => Ctl.no 11 | some x => ⟨x.s, x.c, x.p, x.e, 0⟩) else Ctl.no 11
def seeX (R : List Cx) (i : Int) : Int × Int × Int := if 0 ≤ i then (match R[i.toNat]? with | none => (0, 0, 11) | some x => (x.a, x.z, 0)) else (0, 0, 11)
theorem see_in {R : List Cx} {k : Nat} {x : Cx} (h : R[k]? = some x) : seeC R (k : Int) = ⟨x.s, x.c, x.p, x.e, 0⟩ ∧ seeX R (k : Int) = (x.a, x.z, 0) := by
  unfold seeC seeX
  rw [if_pos (by omega), if_pos (by omega), Int.toNat_natCast, h]
  exact ⟨rfl, rfl⟩

theorem un_cases (s c p e : Int) : (s = 0 ∧ unV s c p e = Ctl.no 11) ∨ (s = 1 ∧ unV s c p e = ⟨0, c, p, (e + 1) % 16777216, 0⟩) ∨ (s ≠ 0 ∧ s ≠ 1 ∧ unV s c p e = Ctl.no 12) := by
  unfold unV
  by_cases h0 : s = 0
  · exact .inl ⟨h0, if_pos h0⟩
  · by_cases h1 : s = 1
    · exact .inr (.inl ⟨h1, by rw [if_neg h0, if_pos h1]⟩)
    · exact .inr (.inr ⟨h0, h1, by rw [if_neg h0, if_neg h1]⟩)
set_option maxHeartbeats 1000000 in
theorem unmade_any (s c p e : Int) (w : World) (e0 : 0 ≤ e) (e1 : e ≤ 16777215) :
    Calls Tryz.prog 212 #[.agg #[.int .i64 s, .int .i64 c, .int .i64 p, .int .i64 e]] w fun z w' => z = tellR (unV s c p e) ∧ Below w.heap.size w w' := by
  rcases un_cases s c p e with ⟨rfl, he⟩ | ⟨rfl, he⟩ | ⟨h0, h1, he⟩
  · have HE := Lib.hid he
    clear he
    go_enter Tryz.func212, Tryz.ntmps212
    go_wp2
    refine bodyPost_ret (v := .tuple #[.agg #[.int .i64 0, .int .i64 0, .int .i64 0, .int .i64 0], .int .i64 11]) (by simp [results, Tryz.results212, go_sem]) rfl ⟨?_, ?_⟩
    · rw [HE.out]
      rfl
    · first | exact below_one w _ | exact ((Below.refl _ _).alloc (Nat.le_refl _) _).alloc (by simp) _ | exact Gr.bset (Gr.bset (Gr.bset (Gr.bset (((Below.refl _ _).alloc (Nat.le_refl _) _).alloc (by simp) _) _ _ (by omega) _) _ _ (by omega) _) _ _ (by omega) _) _ _ (by omega) _
  · have HE := Lib.hid he
    clear he
    have q : Int.tmod (e + 1) 16777216 = (e + 1) % 16777216 := Int.tmod_eq_emod_of_nonneg (by omega)
    go_enter Tryz.func212, Tryz.ntmps212
    go_wp2
    refine bodyPost_ret (v := .tuple #[.agg #[.int .i64 0, .int .i64 c, .int .i64 p, .int .i64 ((e + 1) % 16777216)], .int .i64 0]) (by simp [results, Tryz.results212, go_sem]) rfl ⟨?_, ?_⟩
    · rw [HE.out]
    · first | exact below_one w _ | exact ((Below.refl _ _).alloc (Nat.le_refl _) _).alloc (by simp) _ | exact Gr.bset (Gr.bset (Gr.bset (Gr.bset (Gr.bset (Gr.bset (((Below.refl _ _).alloc (Nat.le_refl _) _).alloc (by simp) _) _ _ (by omega) _) _ _ (by omega) _) _ _ (by omega) _) _ _ (by omega) _) _ _ (by omega) _) _ _ (by omega) _
  · have HE := Lib.hid he
    have q0 : (s == 0) = false := by simpa using h0
    have q1 : (s == 1) = false := by simpa using h1
    clear he h0 h1
    go_enter Tryz.func212, Tryz.ntmps212
    go_wp2
    refine bodyPost_ret (v := .tuple #[.agg #[.int .i64 0, .int .i64 0, .int .i64 0, .int .i64 0], .int .i64 12]) (by simp [results, Tryz.results212, go_sem]) rfl ⟨?_, ?_⟩
    · rw [HE.out]
      rfl
    · first | exact below_one w _ | exact ((Below.refl _ _).alloc (Nat.le_refl _) _).alloc (by simp) _ | exact Gr.bset (Gr.bset (Gr.bset (Gr.bset (((Below.refl _ _).alloc (Nat.le_refl _) _).alloc (by simp) _) _ _ (by omega) _) _ _ (by omega) _) _ _ (by omega) _) _ _ (by omega) _
end
end Go.Proofs.YteakglkagmghpaaGreat.Sco

/-
  Contracts of package scopes: change, by each way in which a scope's word turns.
-/
namespace Go.Proofs.YteakglkagmghpaaGreat.Sco
open Go.ChangeShapes Go.WideShapes Go.ChangeAt Go.RowKit
open Slic Gm
set_option linter.unusedVariables false
set_option maxRecDepth 8000
set_option linter.unusedSimpArgs false
attribute [local go_sem ↓] Go.wp_at_zero Go.wp_at_succ
section
variable {w w' : World} {Y : Fr} {B g K n : Nat} {A S : Int} {F : Fo}
theorem far4 {W : World} {g b : Nat} (hne : b ≠ g) (a0 a1 a2 a3 : Nat) (v0 v1 v2 v3 : Value) : (((((W.setCell ⟨g, a0, none⟩ v0).setCell ⟨g, a1, none⟩ v1).setCell ⟨g, a2, none⟩ v2).setCell ⟨g, a3, none⟩ v3).drew).heap[b]? = W.heap[b]? :=
  (heap_setCell_other _ ⟨g, a3, none⟩ b v3 hne).trans ((heap_setCell_other _ ⟨g, a2, none⟩ b v2 hne).trans ((heap_setCell_other _ ⟨g, a1, none⟩ b v1 hne).trans (heap_setCell_other _ ⟨g, a0, none⟩ b v0 hne)))
theorem cell_eq {W W' : World} {b o : Nat} {v : Value} (h : W'.heap[b]? = W.heap[b]?) (c : W.cell? ⟨b, o, none⟩ = some v) : W'.cell? ⟨b, o, none⟩ = some v := (World.cell?_of_block (w := W) (w' := W') (a := ⟨b, o, none⟩) h).trans c
theorem froz_eq {W W' : World} {b o : Nat} {v : Bool} (h : W'.heap[b]? = W.heap[b]?) (c : W.frozen? ⟨b, o, none⟩ = v) : W'.frozen? ⟨b, o, none⟩ = v := (World.frozen?_of_block (w := W) (w' := W') (a := ⟨b, o, none⟩) h).trans c
theorem froz_alloc {W : World} {b o : Nat} (h : W.frozen? ⟨b, o, none⟩ = false) (hb : b < W.heap.size) (x : Obj) : (W.alloc x).frozen? ⟨b, o, none⟩ = false := froz_eq (Below.heap_alloc W x b hb) h
theorem read4 {w1 : World} {b : Nat} {u0 u1 u2 u3 : Value} (a c d e : Value) (o : Obj) (D0 : w1.cell? ⟨b, 0, none⟩ = some u0) (D1 : w1.cell? ⟨b, 1, none⟩ = some u1) (D2 : w1.cell? ⟨b, 2, none⟩ = some u2) (D3 : w1.cell? ⟨b, 3, none⟩ = some u3) :
    (((((w1.setCell ⟨b, 0, none⟩ a).setCell ⟨b, 1, none⟩ c).setCell ⟨b, 2, none⟩ d).setCell ⟨b, 3, none⟩ e).alloc o).cell? ⟨b, 0, none⟩ = some a ∧ (((((w1.setCell ⟨b, 0, none⟩ a).setCell ⟨b, 1, none⟩ c).setCell ⟨b, 2, none⟩ d).setCell ⟨b, 3, none⟩ e).alloc o).cell? ⟨b, 1, none⟩ = some c ∧
    (((((w1.setCell ⟨b, 0, none⟩ a).setCell ⟨b, 1, none⟩ c).setCell ⟨b, 2, none⟩ d).setCell ⟨b, 3, none⟩ e).alloc o).cell? ⟨b, 2, none⟩ = some d ∧ (((((w1.setCell ⟨b, 0, none⟩ a).setCell ⟨b, 1, none⟩ c).setCell ⟨b, 2, none⟩ d).setCell ⟨b, 3, none⟩ e).alloc o).cell? ⟨b, 3, none⟩ = some e :=
  ⟨Gr.cell_alloc (by simp [go_sem, D0, D1, D2, D3]) o, Gr.cell_alloc (by simp [go_sem, D0, D1, D2, D3]) o, Gr.cell_alloc (by simp [go_sem, D0, D1, D2, D3]) o, Gr.cell_alloc (by simp [go_sem, D0, D1, D2, D3]) o⟩
end
end Go.Proofs.YteakglkagmghpaaGreat.Sco

/-
  Contracts of package scopes: change, by each way in which a scope's word turns.
-/
namespace Go.Proofs.YteakglkagmghpaaGreat.Sco
open Go.ChangeShapes Go.WideShapes Go.ChangeAt Go.RowKit
open Slic Gm
set_option linter.unusedVariables false
set_option maxRecDepth 8000
set_option linter.unusedSimpArgs false
attribute [local go_sem ↓] Go.wp_at_zero Go.wp_at_succ
section
variable {w w' : World} {Y : Fr} {B g K n : Nat} {A S : Int} {F : Fo}
set_option maxRecDepth 8000 in
set_option maxHeartbeats 4000000 in
theorem chg_un (h : Sc w Y B g K n A S F) (n8 : n ≤ 8) (i : Int) (hr : ∀ (i : Nat) (x : Cx), F.R[i]? = some x → Ctl.rightB x.s x.c x.p x.e = true) :
    Calls Tryz.prog 211 #[ptr B, .int .i64 i, .func (.func 212) #[] #[]] w fun e w' => e = tellR (chV F i unF) ∧ Sc w' Y B g K n A S (turnV F i unF).F ∧ Only [g] w w' := by
  have hs := h.below (below_one w (.cells #[.int .i64 0, .int .i64 0, .int .i64 0, .int .i64 0] 64))
  have hB := h.ltB
  have hg := h.ltg
  have k0 := below_one w (.cells #[.int .i64 0, .int .i64 0, .int .i64 0, .int .i64 0] 64)
  cases hl : look F.R i with
  | none =>
    have hi := look_out hl
    rw [h.len] at hi
    have E1 := Lib.hid (show chV F i unF = Ctl.no 11 by unfold chV; rw [hl])
    have E2 := Lib.hid (show (turnV F i unF).F = F by unfold turnV; rw [hl])
    by_cases h0 : i = 0
    · subst h0
      clear hi hl
      go_enter Tryz.func211, Tryz.ntmps211
      go_wp2
      refine bodyPost_ret (v := .tuple #[.agg #[.int .i64 0, .int .i64 0, .int .i64 0, .int .i64 0], .int .i64 11]) (by simp [results, Tryz.results211, go_sem]) rfl ⟨?_, ?_, ?_⟩
      · rw [E1.out]
        rfl
      · rw [E2.out]
        exact hs
      · exact Only.below k0
    · have q : (i == 0) = false := by simpa using h0
      have hw := within_no (n := n) (i := i) (by omega)
      clear hi h0 hl
      go_enter Tryz.func211, Tryz.ntmps211
      go_wp2_with (go_at_call 116; refine (has_any hs n8 _).mono ?_; rintro e w' ⟨rfl, rfl⟩)
      refine bodyPost_ret (v := .tuple #[.agg #[.int .i64 0, .int .i64 0, .int .i64 0, .int .i64 0], .int .i64 11]) (by simp [results, Tryz.results211, go_sem]) rfl ⟨?_, ?_, ?_⟩
      · rw [E1.out]
        rfl
      · rw [E2.out]
        exact hs
      · exact Only.below k0
  | some x =>
    obtain ⟨i1, i2, hx⟩ := look_in hl
    rw [h.len] at i2
    obtain ⟨k, rfl⟩ : ∃ k : Nat, i = k := ⟨i.toNat, by omega⟩
    rw [Int.toNat_natCast] at hx
    have hk : k < n := by omega
    have hw := within_yes (n := n) (i := (k : Int)) (by omega) i2
    have q : ((k : Int) == 0) = false := by simp; omega
    obtain ⟨⟨x0, x1, x2, x3, x4, x5⟩, hf⟩ := hs.at hx
    have c0 := hs.all
    have C0 := h.cg.alloc (.cells #[.int .i64 0, .int .i64 0, .int .i64 0, .int .i64 0] 64)
    have f0 := hf (k * 6)
    have f1 := hf (k * 6 + 1)
    have f2 := hf (k * 6 + 2)
    have f3 := hf (k * 6 + 3)
    have E1 := Lib.hid (show chV F (k : Int) unF = unV x.s x.c x.p x.e by unfold chV; rw [hl]; rfl)
    have HL := Lib.hid hl
    clear x4 x5 hf hl i1 i2
    go_enter Tryz.func211, Tryz.ntmps211
    go_wp2_with (go_at_call 116; refine (has_any hs n8 _).mono ?_; rintro e w' ⟨rfl, rfl⟩)
    refine (unmade_any x.s x.c x.p x.e _ (rightI (hr k x hx)).1 (rightI (hr k x hx)).2.1).mono ?_
    rintro e w1 ⟨rfl, k1⟩
    have HV := Lib.hid (show unF x = unV x.s x.c x.p x.e from rfl)
    generalize hv : unV x.s x.c x.p x.e = v at *
    have D0 : w1.cell? ⟨w.heap.size, 0, none⟩ = some (.int .i64 0) := Gr.bel k1 (by simp [go_sem])
    have D1 : w1.cell? ⟨w.heap.size, 1, none⟩ = some (.int .i64 0) := Gr.bel k1 (by simp [go_sem])
    have D2 : w1.cell? ⟨w.heap.size, 2, none⟩ = some (.int .i64 0) := Gr.bel k1 (by simp [go_sem])
    have D3 : w1.cell? ⟨w.heap.size, 3, none⟩ = some (.int .i64 0) := Gr.bel k1 (by simp [go_sem])
    obtain ⟨_, qf⟩ := Ctl.bcell k1
    have g0 : w1.frozen? ⟨w.heap.size, 0, none⟩ = false := by rw [qf _ _ (by simp)]; simp [go_sem]
    have g1 : w1.frozen? ⟨w.heap.size, 1, none⟩ = false := by rw [qf _ _ (by simp)]; simp [go_sem]
    have g2 : w1.frozen? ⟨w.heap.size, 2, none⟩ = false := by rw [qf _ _ (by simp)]; simp [go_sem]
    have g3 : w1.frozen? ⟨w.heap.size, 3, none⟩ = false := by rw [qf _ _ (by simp)]; simp [go_sem]
    have C1 := C0.call k1
    have Z1 : w.heap.size < w1.heap.size := by have := k1.size; simp at this; omega
    have S2 := (hs.below k1).alloc' (.cells #[.int .i64 v.s, .int .i64 v.c, .int .i64 v.p, .int .i64 v.e] 64)
    have C2 := C1.alloc (.cells #[.int .i64 v.s, .int .i64 v.c, .int .i64 v.p, .int .i64 v.e] 64)
    clear x0 x1 x2 x3 c0 f0 f1 f2 f3 k1 qf hs C0 k0
    obtain ⟨⟨x0, x1, x2, x3, x4, x5⟩, hf⟩ := S2.at hx
    have c0 := S2.all
    have f0 := hf (k * 6)
    have f1 := hf (k * 6 + 1)
    have f2 := hf (k * 6 + 2)
    have f3 := hf (k * 6 + 3)
    have d0 := Gr.cell_alloc D0 (.cells #[.int .i64 v.s, .int .i64 v.c, .int .i64 v.p, .int .i64 v.e] 64)
    have d1 := Gr.cell_alloc D1 (.cells #[.int .i64 v.s, .int .i64 v.c, .int .i64 v.p, .int .i64 v.e] 64)
    have d2 := Gr.cell_alloc D2 (.cells #[.int .i64 v.s, .int .i64 v.c, .int .i64 v.p, .int .i64 v.e] 64)
    have d3 := Gr.cell_alloc D3 (.cells #[.int .i64 v.s, .int .i64 v.c, .int .i64 v.p, .int .i64 v.e] 64)
    have HVV := Lib.hid hv
    clear x4 x5 hf hv
    have Bn : B ≠ g := h.ne
    by_cases hx0 : v.x = 0
    · have q2 : (v.x != 0) = false := by simpa using hx0
      have E3 := Lib.hid (show (turnV F (k : Int) unF).F = ⟨F.R.set k (x.turn v), F.L⟩ by unfold turnV; rw [HL.out]; simp only [HV.out, Int.toNat_natCast]; rw [if_pos hx0])
      have HX := Lib.hid hx0
      clear hx0
      go_wp2_with fail
      go_region
      all_goals
        have C3 := (C2.put4 k hx v.s v.c v.p v.e).drew
        have F1 := far4 (W := (w1.alloc (.cells #[.int .i64 v.s, .int .i64 v.c, .int .i64 v.p, .int .i64 v.e] 64))) (g := g) (b := w.heap.size) (by omega) (k * 6) (k * 6 + 1) (k * 6 + 2) (k * 6 + 3) (.int .i64 v.s) (.int .i64 v.c) (.int .i64 v.p) (.int .i64 v.e)
        have F2 := far4 (W := (w1.alloc (.cells #[.int .i64 v.s, .int .i64 v.c, .int .i64 v.p, .int .i64 v.e] 64))) (g := g) (b := w1.heap.size) (by omega) (k * 6) (k * 6 + 1) (k * 6 + 2) (k * 6 + 3) (.int .i64 v.s) (.int .i64 v.c) (.int .i64 v.p) (.int .i64 v.e)
        have e0 := cell_eq F1 d0
        have e1 := cell_eq F1 d1
        have e2 := cell_eq F1 d2
        have e3 := cell_eq F1 d3
        have u0 := cell_eq (o := 0) (v := .int .i64 v.s) F2 (by simp [go_sem])
        have u1 := cell_eq (o := 1) (v := .int .i64 v.c) F2 (by simp [go_sem])
        have u2 := cell_eq (o := 2) (v := .int .i64 v.p) F2 (by simp [go_sem])
        have u3 := cell_eq (o := 3) (v := .int .i64 v.e) F2 (by simp [go_sem])
        have k0 := froz_eq (o := 0) (v := false) F1 (froz_alloc g0 Z1 _)
        have k1 := froz_eq (o := 1) (v := false) F1 (froz_alloc g1 Z1 _)
        have k2 := froz_eq (o := 2) (v := false) F1 (froz_alloc g2 Z1 _)
        have k3 := froz_eq (o := 3) (v := false) F1 (froz_alloc g3 Z1 _)
        clear F1 F2 f0 f1 f2 f3 d0 d1 d2 d3 x0 x1 x2 x3 c0 D0 D1 D2 D3 g0 g1 g2 g3 S2 C2 C1
        generalize (((((w1.alloc (.cells #[.int .i64 v.s, .int .i64 v.c, .int .i64 v.p, .int .i64 v.e] 64)).setCell ⟨g, k * 6, none⟩ (.int .i64 v.s)).setCell ⟨g, k * 6 + 1, none⟩ (.int .i64 v.c)).setCell ⟨g, k * 6 + 2, none⟩ (.int .i64 v.p)).setCell ⟨g, k * 6 + 3, none⟩ (.int .i64 v.e)).drew = W3 at *
        go_wp2
        refine bodyPost_ret (v := .tuple #[.agg #[.int .i64 v.s, .int .i64 v.c, .int .i64 v.p, .int .i64 v.e], .int .i64 0]) (by simp [results, Tryz.results211, go_sem, e0, e1, e2, e3]) rfl ⟨?_, ?_, ?_⟩
        · rw [E1.out]
          show _ = Ending.returned (.tuple #[.agg #[.int .i64 v.s, .int .i64 v.c, .int .i64 v.p, .int .i64 v.e], .int .i64 v.x])
          rw [HX.out]
        · rw [E3.out]
          exact h.of_cg ((((C3.loc (Nat.le_refl _) _ _).loc (Nat.le_refl _) _ _).loc (Nat.le_refl _) _ _).loc (Nat.le_refl _) _ _)
        · exact (((((C3.loc (Nat.le_refl _) _ _).loc (Nat.le_refl _) _ _).loc (Nat.le_refl _) _ _).loc (Nat.le_refl _) _ _).only).mono (fun _ h => h)
    · have q2 : (v.x != 0) = true := by simpa using hx0
      have E3 := Lib.hid (show (turnV F (k : Int) unF).F = F by unfold turnV; rw [HL.out]; simp only [HV.out]; rw [if_neg hx0])
      have E4 := Lib.hid (show v = Ctl.no v.x by have := clean_un x; rw [HV.out] at this; exact this hx0)
      clear hx0
      obtain ⟨r0, r1, r2, r3⟩ := read4 (.int .i64 0) (.int .i64 0) (.int .i64 0) (.int .i64 0) (.cells #[.int .i64 v.s, .int .i64 v.c, .int .i64 v.p, .int .i64 v.e] 64) D0 D1 D2 D3
      go_wp2
      refine bodyPost_ret (v := .tuple #[.agg #[.int .i64 0, .int .i64 0, .int .i64 0, .int .i64 0], .int .i64 v.x]) (by simp [results, Tryz.results211, go_sem, r0, r1, r2, r3]) rfl ⟨?_, ?_, ?_⟩
      · rw [E1.out, E4.out]
        rfl
      · rw [E3.out]
        exact h.of_cg (((((C1.loc (Nat.le_refl _) _ _).loc (Nat.le_refl _) _ _).loc (Nat.le_refl _) _ _).loc (Nat.le_refl _) _ _).alloc _)
      · exact ((((((C1.loc (Nat.le_refl _) _ _).loc (Nat.le_refl _) _ _).loc (Nat.le_refl _) _ _).loc (Nat.le_refl _) _ _).alloc _).only).mono (fun _ h => h)
end
end Go.Proofs.YteakglkagmghpaaGreat.Sco

/-
  Contracts of package scopes: Create, Destroy, Enter, Leave, Open, Hold.
-/
namespace Go.Proofs.YteakglkagmghpaaGreat.Sco
open Go.ChangeShapes Go.WideShapes Go.ChangeAt Go.RowKit
open Slic Gm
set_option linter.unusedVariables false
set_option maxRecDepth 8000
set_option linter.unusedSimpArgs false
attribute [local go_sem ↓] Go.wp_at_zero Go.wp_at_succ

set_option maxHeartbeats 400000 in
theorem isfree_any (x : Cx) (w : World) :
    Calls Tryz.prog 210 #[.agg #[.int .i64 x.s, .int .i64 x.c, .int .i64 x.p, .int .i64 x.e, .int .i64 x.a, .int .i64 x.z]] w fun e w' => e = .returned (.bool (fr x)) ∧ Below w.heap.size w w' := by
  have q : (x.s == 0) = fr x := by unfold fr; exact Bool.beq_eq_decide_eq _ _
  generalize fr x = b at *
  go_enter Tryz.func210, Tryz.ntmps210
  go_wp2
  go_ret
  exact ⟨rfl, below_one w _⟩

def idxR (R : List Cx) : Int := if R.findIdx fr < R.length then (R.findIdx fr : Int) else -1
theorem find_at {R : List Cx} {k : Nat} (h : ∀ i (hi : i < R.length), i < k → fr R[i] = false) (hk : k < R.length) (hp : fr R[k] = true) : R.findIdx fr = k := by
  rw [List.findIdx_eq hk]
  exact ⟨hp, fun j hj => by rw [h j (by omega) hj]⟩
theorem find_none {R : List Cx} (h : ∀ i (hi : i < R.length), i < R.length → fr R[i] = false) : R.findIdx fr = R.length := by
  rw [List.findIdx_eq_length]
  intro e he
  obtain ⟨i, hi, rfl⟩ := List.mem_iff_getElem.1 he
  exact h i hi hi

section
variable {w w' : World} {Y : Fr} {B g K n : Nat} {A S : Int} {F : Fo}
set_option maxHeartbeats 2000000 in
theorem idx_any (h : Sc w Y B g K n A S F) (n8 : n ≤ 8) :
    Calls Tryz.prog 209 #[.slice (some ⟨g, 0, none⟩) n n, .func (.func 210) #[] #[]] w fun e w' => e = .returned (.int .i64 (idxR F.R)) ∧ Below w.heap.size w w' := by
  have hn := h.len
  go_enter Tryz.func209, Tryz.ntmps209
  go_wp2
  go_loopw [8] (fun t wr => ∃ k : Nat, k ≤ n ∧ t = .int .i64 k ∧ Below w.heap.size w wr ∧ Hid (∀ i (hi : i < F.R.length), i < k → fr F.R[i] = false)) (fun t _ => n - (intOf t).toNat)
  case atStart => exact ⟨0, by omega, rfl, Below.refl _ _, Lib.hid (fun i _ h => by omega)⟩
  case round =>
    obtain ⟨k, hk, rfl, hb, hno⟩ := hrel
    by_cases hlt : k < n
    · have hx : F.R[k]? = some F.R[k] := List.getElem?_eq_getElem (by omega)
      obtain ⟨⟨x0, x1, x2, x3, x4, x5⟩, _⟩ := (h.below hb).at hx
      have HX := Lib.hid hx
      clear hx
      have hkl : k < F.R.length := by omega
      cases hp : fr F.R[k] with
      | true =>
        have HP := Lib.hid hp
        go_wp2_with (go_at_call 210; refine (isfree_any F.R[k] _).mono ?_; rintro e W1 ⟨rfl, B1⟩; rw [HP.out])
        go_ret
        exact ⟨ret_int (by unfold idxR; rw [find_at hno.out hkl HP.out, if_pos hkl]), hb.trans (B1.mono hb.size)⟩
      | false =>
        have HP := Lib.hid hp
        go_wp2_with (go_at_call 210; refine (isfree_any F.R[k] _).mono ?_; rintro e W1 ⟨rfl, B1⟩; rw [HP.out])
        go_roundw
        case rel =>
          refine ⟨k + 1, by omega, by go_num, hb.trans (B1.mono hb.size), Lib.hid fun i hi h => ?_⟩
          by_cases e : i = k
          · subst e; exact HP.out
          · exact hno.out i hi (by omega)
        case measure => simp [intOf]; omega
    · obtain rfl : k = n := by omega
      have HN := Lib.hid (find_none (R := F.R) (fun i hi _ => hno.out i hi (by omega)))
      go_wp2
      go_ret
      exact ⟨ret_int (by unfold idxR; rw [HN.out, if_neg (by omega)]), hb⟩

set_option maxRecDepth 8000 in
set_option maxHeartbeats 4000000 in
theorem create_any (h : Sc w Y B g K n A S F) (n8 : n ≤ 8) (ok : Ok A S F.L) (hK : K < w.heap.size) (z : Int) (z1 : -9223372036854775808 ≤ z) (z2 : z ≤ 9223372036854775807) :
    Calls Tryz.prog 184 #[ptr B, .int .i64 z] w fun e w' => e = .returned (.tuple #[.int .i64 (createV F z).v, .int .i64 (createV F z).x]) ∧ Sc w' Y B g K n A S (createV F z).F ∧ Only [B, g] w w' := by
  have c0 := h.all
  by_cases hz : z < 1 ∨ 8192 < z
  · have E := Lib.hid (show createV F z = ⟨0, 1, false, F⟩ by unfold createV; rw [if_pos hz])
    have hw : Ctl.withinB z 1 8192 = false := decide_eq_false (by omega)
    clear hz
    go_enter Tryz.func184, Tryz.ntmps184
    go_wp2_with (go_at_call 90; refine (Ctl.within_any _ _ _ _).mono ?_; rintro e w' ⟨rfl, rfl⟩)
    go_ret2
    rw [E.out]
    exact ⟨rfl, h, Only.refl _ _⟩
  · have hw : Ctl.withinB z 1 8192 = true := decide_eq_true (by omega)
    obtain ⟨u1, u2, u3, u4, u5⟩ := upz_all hz
    have uV : Num.upV z = upz z := Num.upV_ok z (by omega) (by omega)
    have hup := Num.up_ok z w (by omega) (by omega)
    rw [uV] at hup
    cases hl : F.R[F.R.findIdx fr]? with
    | none =>
      have E := Lib.hid (show createV F z = ⟨0, 13, false, F⟩ by unfold createV; rw [if_neg hz, hl])
      have hi := Lib.hid (show idxR F.R = -1 by unfold idxR; rw [if_neg (by have := List.getElem?_eq_none_iff.1 hl; omega)])
      clear hz hl
      go_enter Tryz.func184, Tryz.ntmps184
      go_wp2_with (first
        | (go_at_call 90; refine (Ctl.within_any _ _ _ _).mono ?_; rintro e w' ⟨rfl, rfl⟩)
        | (go_at_call 126; refine hup.mono ?_; rintro e w' ⟨rfl, rfl⟩)
        | (go_at_call 209; refine (idx_any h n8).mono ?_; rintro e w1 ⟨rfl, k1⟩; rw [hi.out]))
      go_ret2
      rw [E.out]
      exact ⟨rfl, h.below k1, Only.below k1⟩
    | some x =>
      have hkl := (List.getElem?_eq_some_iff.1 hl).1
      have hi := Lib.hid (show idxR F.R = (F.R.findIdx fr : Nat) by unfold idxR; rw [if_pos hkl])
      have EC := Lib.hid (show createV F z = if Gr.carveB (upz z) F.L = true then ⟨(F.R.findIdx fr : Nat), 0, false, ⟨F.R.set (F.R.findIdx fr) (made x (carveA (upz z) F.L) (upz z)), carveL (upz z) F.L⟩⟩ else ⟨0, 14, false, F⟩ by unfold createV; rw [if_neg hz, hl])
      rw [h.len] at hkl
      generalize F.R.findIdx fr = k at *
      cases hb : Gr.carveB (upz z) F.L with
      | false =>
        have E := Lib.hid (show createV F z = ⟨0, 14, false, F⟩ by rw [EC.out, if_neg (by rw [hb]; decide)])
        have HB := Lib.hid hb
        have HV := Lib.hid (show Gr.carveV (upz z) F.L = 0 by unfold Gr.carveV; rw [if_neg (by rw [hb]; decide)])
        have HF := Lib.hid (show Gr.carveF (upz z) F.L = F.L by unfold Gr.carveF; rw [if_neg (by rw [hb]; decide)])
        clear hz hl hb
        go_enter Tryz.func184, Tryz.ntmps184
        go_wp2_with (first
          | (go_at_call 90; refine (Ctl.within_any _ _ _ _).mono ?_; rintro e w' ⟨rfl, rfl⟩)
          | (go_at_call 126; refine hup.mono ?_; rintro e w' ⟨rfl, rfl⟩)
          | (go_at_call 209; refine (idx_any h n8).mono ?_; rintro e w1 ⟨rfl, k1⟩; rw [hi.out]; have h1 := h.below k1; have c1 := h1.all; have hK1 := Nat.lt_of_lt_of_le hK k1.size)
          | (go_at_call 127; refine (Gr.carve_any w1 (ly Y g n) B K A S F.L (upz z) h1.gr hK1 ok (by omega) (by omega)).mono ?_; rintro e w2 ⟨rfl, g2, k2⟩; rw [HB.out, HV.out]))
        go_ret2
        rw [E.out]
        rw [HF.out] at g2
        exact ⟨rfl, h1.ground g2 k2, (Only.below k1).trans (Only.grown k2 (by simp))⟩
      | true =>
        have E := Lib.hid (show createV F z = ⟨(k : Nat), 0, false, ⟨F.R.set k (made x (carveA (upz z) F.L) (upz z)), carveL (upz z) F.L⟩⟩ by rw [EC.out, if_pos hb])
        have HB := Lib.hid hb
        have HV := Lib.hid (show Gr.carveV (upz z) F.L = carveA (upz z) F.L by unfold Gr.carveV; rw [if_pos hb])
        have HF := Lib.hid (show Gr.carveF (upz z) F.L = carveL (upz z) F.L by unfold Gr.carveF; rw [if_pos hb])
        have HL := Lib.hid hl
        have n1 : B ≠ g := h.ne
        have n2 : g ≠ B := fun e => h.ne e.symm
        clear hz hl hb
        go_enter Tryz.func184, Tryz.ntmps184
        go_wp2_with (first
          | (go_at_call 90; refine (Ctl.within_any _ _ _ _).mono ?_; rintro e w' ⟨rfl, rfl⟩)
          | (go_at_call 126; refine hup.mono ?_; rintro e w' ⟨rfl, rfl⟩)
          | (go_at_call 209; refine (idx_any h n8).mono ?_; rintro e w1 ⟨rfl, k1⟩; rw [hi.out]; have h1 := h.below k1; have c1 := h1.all; have hK1 := Nat.lt_of_lt_of_le hK k1.size)
          | fail)
        refine (Gr.carve_any w1 (ly Y g n) B K A S F.L (upz z) h1.gr hK1 ok (by omega) (by omega)).mono ?_
        rintro e w2 ⟨rfl, g2, k2⟩
        rw [HB.out, HV.out]
        rw [HF.out] at g2
        have h2 := h1.ground g2 k2
        obtain ⟨⟨x0, x1, x2, x3, x4, x5⟩, hf⟩ := h2.at HL.out
        have c2 := h2.all
        have f0 := hf (k * 6)
        have f4 := hf (k * 6 + 4)
        have f5 := hf (k * 6 + 5)
        have C2 := (h2.cg.put1 k HL.out 1).put2 k (set_read HL.out _) (carveA (upz z) F.L) (upz z)
        rw [List.set_set] at C2
        clear c0 c1 x1 x2 x3 hf
        go_wp2
        go_ret2
        rw [E.out]
        exact ⟨rfl, h2.of_cg C2, ((Only.below k1).trans (Only.grown k2 (by simp))).trans (C2.only.mono (by simp))⟩
end
end Go.Proofs.YteakglkagmghpaaGreat.Sco

/-
  Contracts of package scopes: Destroy, Enter, Leave, Open, Hold.
-/
namespace Go.Proofs.YteakglkagmghpaaGreat.Sco
open Go.ChangeShapes Go.WideShapes Go.ChangeAt Go.RowKit
open Slic Gm
set_option linter.unusedVariables false
set_option maxRecDepth 8000
set_option linter.unusedSimpArgs false
attribute [local go_sem ↓] Go.wp_at_zero Go.wp_at_succ
section
variable {w w' : World} {Y : Fr} {B g K n : Nat} {A S I J : Int} {F : Fo}
theorem ch_turn (F : Fo) (i : Int) {f : Cx → Ctl.R} : (chV F i f).x = (turnV F i f).x ∧ ((chV F i f).x ≠ 0 → (turnV F i f).F = F) := by
  unfold chV turnV
  cases look F.R i with
  | none => exact ⟨rfl, fun _ => rfl⟩
  | some x =>
    by_cases h0 : (f x).x = 0
    · simp only [h0, if_true]
      exact ⟨trivial, fun h => absurd rfl h⟩
    · simp only [h0, if_false]
      exact ⟨trivial, fun _ => trivial⟩
set_option maxRecDepth 8000 in
set_option maxHeartbeats 4000000 in
theorem destroy_any (h : Sc w Y B g K n A S F) (v : Inv n A S I J F) (hK : K < w.heap.size) (i : Int) :
    Calls Tryz.prog 185 #[ptr B, .int .i64 i] w fun e w' => e = .returned (.int .i64 (destroyV F i).x) ∧ Sc w' Y B g K n A S (destroyV F i).F ∧ Only [B, g] w w' := by
  have n8 := v.n8
  have hg := h.ltg
  have hc := chg_un h n8 i v.right
  have no : ∀ y : Int, chV F i unF = Ctl.no y → y ≠ 0 → (turnV F i unF).F = F → destroyV F i = ⟨0, y, false, F⟩ →
      Calls Tryz.prog 185 #[ptr B, .int .i64 i] w fun e w' => e = .returned (.int .i64 (destroyV F i).x) ∧ Sc w' Y B g K n A S (destroyV F i).F ∧ Only [B, g] w w' := by
    intro y e1 y0 e2 e3
    rw [e1, e2] at hc
    have E3 := Lib.hid e3
    have q : ((Ctl.no y).x != 0) = true := by simpa [Ctl.no] using y0
    clear e1 e2 e3 y0
    go_enter Tryz.func185, Tryz.ntmps185
    go_wp2_with fail
    refine hc.mono ?_
    rintro e w1 ⟨rfl, h1, o1⟩
    go_wp2
    go_ret
    rw [E3.out]
    exact ⟨rfl, h1.alloc' _, (o1.mono (by simp)).trans (Only.below (below_one w1 _))⟩
  cases hl : look F.R i with
  | none =>
    have e1 : chV F i unF = Ctl.no 11 := by unfold chV; rw [hl]
    have e3 : destroyV F i = ⟨0, 11, false, F⟩ := by unfold destroyV; rw [hl]
    exact no 11 e1 (by decide) ((ch_turn F i).2 (by rw [e1]; decide)) e3
  | some x =>
    have e0 : chV F i unF = unV x.s x.c x.p x.e := by unfold chV; rw [hl]; rfl
    rcases un_cases x.s x.c x.p x.e with ⟨hs, he⟩ | ⟨hs, he⟩ | ⟨hs, hs', he⟩
    · have e3 : destroyV F i = ⟨0, 11, false, F⟩ := by unfold destroyV; rw [hl]; simp only [hs, if_true]
      rw [he] at e0
      exact no 11 e0 (by decide) ((ch_turn F i).2 (by rw [e0]; decide)) e3
    · have e3 : destroyV F i = ⟨0, 0, false, ⟨F.R.set i.toNat (gone x), giveL x.a (x.a + x.z) F.L⟩⟩ := by
        unfold destroyV; rw [hl]; simp only [hs, if_true]; simp only [show ¬ ((1 : Int) = 0) by decide, if_false]
      rw [he] at e0
      have e4 : (turnV F i unF).F = ⟨F.R.set i.toNat ⟨0, x.c, x.p, (x.e + 1) % 16777216, x.a, x.z⟩, F.L⟩ := by
        unfold turnV; rw [hl]
        have e5 : unF x = ⟨0, x.c, x.p, (x.e + 1) % 16777216, 0⟩ := he
        simp only [e5, if_true]
        rfl
      obtain ⟨i1, i2, hx⟩ := look_in hl
      rw [h.len] at i2
      obtain ⟨k, rfl⟩ : ∃ k : Nat, i = k := ⟨i.toNat, by omega⟩
      rw [Int.toNat_natCast] at hx e3 e4
      have hk : k < n := by omega
      obtain ⟨b1, b2, b3, b4, b5, b6⟩ := v.back hx (by omega) (by rw [hs]; decide)
      have o1 := v.ok.a0
      have o2 := v.ok.a1
      have o3 := v.ok.s0
      have o4 := v.ok.s1
      have GB : Gr.giveB A S F.L x.a x.z = true := by
        unfold Gr.giveB Gr.sizeB Gr.hasB
        rw [decide_eq_true (by omega), decide_eq_true (by omega), decide_eq_true (by omega), b6]
        rfl
      have GE := Lib.hid (show Gr.giveE A S F.L x.a x.z = 0 by unfold Gr.giveE; rw [if_pos GB])
      have GF := Lib.hid (show Gr.giveF A S F.L x.a x.z = giveL x.a (x.a + x.z) F.L by unfold Gr.giveF; rw [if_pos GB])
      rw [e0, e4] at hc
      have E3 := Lib.hid e3
      have n1 : B ≠ g := h.ne
      have n2 : g ≠ B := fun e => h.ne e.symm
      have OK := v.ok
      have hB := h.ltB
      clear e0 e3 e4 GB b2 b3 b6 no he hl v hs
      go_enter Tryz.func185, Tryz.ntmps185
      go_wp2_with fail
      refine hc.mono ?_
      rintro e w1 ⟨rfl, h1, o1⟩
      have hx1 := set_read hx ⟨0, x.c, x.p, (x.e + 1) % 16777216, x.a, x.z⟩
      have h2 := h1.alloc' (.cells #[.int .i64 0, .int .i64 x.c, .int .i64 x.p, .int .i64 ((x.e + 1) % 16777216)] 64)
      have O2 := o1.trans (Only.below (below_one w1 (.cells #[.int .i64 0, .int .i64 x.c, .int .i64 x.p, .int .i64 ((x.e + 1) % 16777216)] 64)))
      obtain ⟨⟨x0, x1, x2, x3, x4, x5⟩, hf⟩ := h2.at hx1
      have c2 := h2.all
      have f4 := hf (k * 6 + 4)
      have f5 := hf (k * 6 + 5)
      have h3 := h2.alloc' (.cells #[.int .i64 x.a, .int .i64 x.z] 119)
      have O3 := O2.trans (Only.below (below_one (w1.alloc (.cells #[.int .i64 0, .int .i64 x.c, .int .i64 x.p, .int .i64 ((x.e + 1) % 16777216)] 64)) (.cells #[.int .i64 x.a, .int .i64 x.z] 119)))
      have s1 := o1.size
      have hne : w1.heap.size + 1 ≠ g := by omega
      have C3 := h3.cg.put2 k hx1 0 0
      rw [List.set_set] at C3
      have h4 := h3.of_cg C3
      have O4 := O3.trans C3.only
      have c3 := h3.all
      obtain ⟨⟨y0, y1, y2, y3, y4, y5⟩, hf'⟩ := h3.at hx1
      have f4' := hf' (k * 6 + 4)
      have f5' := hf' (k * 6 + 5)
      clear x0 x1 x2 x3 hf hf' y0 y1 y2 y3 h2 h3
      go_wp2_with fail
      have z0 : ((((w1.alloc (.cells #[.int .i64 0, .int .i64 x.c, .int .i64 x.p, .int .i64 ((x.e + 1) % 16777216)] 64)).alloc (.cells #[.int .i64 x.a, .int .i64 x.z] 119)).setCell ⟨g, k * 6 + 4, none⟩ (.int .i64 0)).setCell ⟨g, k * 6 + 5, none⟩ (.int .i64 0)).cell? ⟨w1.heap.size + 1, 0, none⟩ = some (.int .i64 x.a) := by simp [go_sem, hne]
      have z1 : ((((w1.alloc (.cells #[.int .i64 0, .int .i64 x.c, .int .i64 x.p, .int .i64 ((x.e + 1) % 16777216)] 64)).alloc (.cells #[.int .i64 x.a, .int .i64 x.z] 119)).setCell ⟨g, k * 6 + 4, none⟩ (.int .i64 0)).setCell ⟨g, k * 6 + 5, none⟩ (.int .i64 0)).cell? ⟨w1.heap.size + 1, 1, none⟩ = some (.int .i64 x.z) := by simp [go_sem, hne]
      have lt4 : w1.heap.size + 1 < ((((w1.alloc (.cells #[.int .i64 0, .int .i64 x.c, .int .i64 x.p, .int .i64 ((x.e + 1) % 16777216)] 64)).alloc (.cells #[.int .i64 x.a, .int .i64 x.z] 119)).setCell ⟨g, k * 6 + 4, none⟩ (.int .i64 0)).setCell ⟨g, k * 6 + 5, none⟩ (.int .i64 0)).heap.size := by simp [World.setCell]
      have B1 := h1.ltB
      clear c2 f4 f5 x4 x5 c3 f4' f5' y4 y5 hx1 C3 O3 O2 h1
      generalize ((((w1.alloc (.cells #[.int .i64 0, .int .i64 x.c, .int .i64 x.p, .int .i64 ((x.e + 1) % 16777216)] 64)).alloc (.cells #[.int .i64 x.a, .int .i64 x.z] 119)).setCell ⟨g, k * 6 + 4, none⟩ (.int .i64 0)).setCell ⟨g, k * 6 + 5, none⟩ (.int .i64 0)) = W4 at *
      have h5 := h4.below (Below.refl W4.heap.size W4).drew
      have O5 := O4.trans (Only.below (Below.refl W4.heap.size W4).drew)
      have hK5 : K < W4.drew.heap.size := by have := O4.size; show K < W4.heap.size; omega
      go_region_held3 (fun w' => w'.cell? ⟨w1.heap.size + 1, 0, none⟩ = some (.int .i64 x.a) ∧ w'.cell? ⟨w1.heap.size + 1, 1, none⟩ = some (.int .i64 x.z))
        (first | exact ⟨z0, z1⟩ | exact T5)
        ((go_at_call 131; refine (Gr.give_any W4.drew (ly Y g n) B K A S F.L x.a x.z h5.gr hK5 OK (by omega) (by omega) (by omega) (by omega)).mono ?_; rintro e w5 ⟨rfl, g5, k5⟩; rw [GE.out]; have T5 : w5.cell? ⟨w1.heap.size + 1, 0, none⟩ = some (.int .i64 x.a) ∧ w5.cell? ⟨w1.heap.size + 1, 1, none⟩ = some (.int .i64 x.z) := ⟨(cell_only k5 (by exact lt4) (fun e => by injection e with e; omega) 0).trans z0, (cell_only k5 (by exact lt4) (fun e => by injection e with e; omega) 1).trans z1⟩))
      all_goals
        go_wp2
        go_ret
        rw [E3.out]
        rw [GF.out] at g5
        exact ⟨rfl, h5.ground g5 k5, (O5.mono (by simp)).trans (Only.grown k5 (by simp))⟩
    · have e3 : destroyV F i = ⟨0, 12, false, F⟩ := by unfold destroyV; rw [hl]; simp only [hs, hs', if_false]
      rw [he] at e0
      exact no 12 e0 (by decide) ((ch_turn F i).2 (by rw [e0]; decide)) e3
end
end Go.Proofs.YteakglkagmghpaaGreat.Sco

/-
  copy between slices of any element, onto a row of one's own (run_copyK; a law for the walk, a step for a drawn region); slices.Repeat of one record.
-/
namespace Go.Proofs.YteakglkagmghpaaGreat.Sco
open Go.ChangeShapes Go.WideShapes Go.ChangeAt Go.RowKit
open Slic Gm
set_option linter.unusedVariables false
set_option maxRecDepth 8000
set_option linter.unusedSimpArgs false
attribute [local go_sem ↓] Go.wp_at_zero Go.wp_at_succ

section
variable {α : Type} {Q : Kd α}
theorem flat_take (L : List α) (i : Nat) (h : i ≤ L.length) : (Q.flat L).take (i * Q.m) = Q.flat (L.take i) := by
  conv => lhs; rw [← List.take_append_drop i L, flat_append]
  have e : (Q.flat (L.take i)).length = i * Q.m := by rw [flat_len, List.length_take, Nat.min_eq_left h]
  rw [← e, List.take_left]
theorem flat_drop (L : List α) (i : Nat) (h : i ≤ L.length) : (Q.flat L).drop (i * Q.m) = Q.flat (L.drop i) := by
  conv => lhs; rw [← List.take_append_drop i L, flat_append]
  have e : (Q.flat (L.take i)).length = i * Q.m := by rw [flat_len, List.length_take, Nat.min_eq_left h]
  rw [← e, List.drop_left]
theorem take_splice (l cs : List Value) (o N : Nat) (h : o + cs.length ≤ N) (hN : N ≤ l.length) : (l.take o ++ cs ++ l.drop (o + cs.length)).take N = (l.take N).take o ++ cs ++ (l.take N).drop (o + cs.length) := by
  rw [List.take_append, List.take_of_length_le (by simp; omega), List.take_take, Nat.min_eq_left (by omega), List.drop_take]
  congr 2
  simp
  omega
/-- What is copied onto a row. -/
def over (L M : List α) (off k : Nat) : List α := L.take off ++ M.take k ++ L.drop (off + k)
theorem over_len (L M : List α) (off k : Nat) (h : off + k ≤ L.length) (hk : k ≤ M.length) : (over L M off k).length = L.length := by
  unfold over
  simp
  omega
theorem run_copyK (w : World) {base g n c : Nat} {L : List α} (h : Own Q w base (.slice (some ⟨g, 0, none⟩) n c) L) (hn : L.length = n) {x : Value} {M : List α} (hx : Sr Q w x M) (off dLen dCap : Nat) (hd : off + dLen ≤ n) (ty : TypeId) (hpos : 0 < M.length) :
    ∃ w', (Builtin.copy_ #[Q.X, Q.X] ty #[.slice (some ⟨g, off * Q.m, none⟩) dLen dCap, x]).run Tryz.prog w = .ok (goInt (min M.length dLen : Nat)) w' ∧ Own Q w' base (.slice (some ⟨g, 0, none⟩) n c) (over L M off (min M.length dLen)) ∧ w.grownBy w' (some g) := by
  obtain ⟨i0, hi, hz0, hz1, hz2⟩ := info_parts Q.info
  obtain ⟨A, d, rfl, x1, x2, x3, hx'⟩ := hx
  obtain ⟨g', o', rfl, hg', hc'⟩ := hx' hpos
  subst hn
  have hsrc := flat_cells hc'
  rcases h.2 with ⟨e, _⟩ | ⟨g1, cap, cur, e, hb, hgg, r1, r2, r3, r4⟩
  · cases e
  injection e with e1 e2 e3
  injection e1 with e1
  injection e1 with e1
  subst e1 e3
  have hk : min M.length dLen ≤ M.length := Nat.min_le_left _ _
  have hk2 : off + min M.length dLen ≤ L.length := by have := Nat.min_le_right M.length dLen; omega
  generalize hkk : min M.length dLen = k at *
  have cl : (Q.flat (M.take k)).length = k * Q.m := by rw [flat_len, List.length_take, Nat.min_eq_left hk]
  have hN : off * Q.m + k * Q.m ≤ L.length * Q.m := by rw [← Nat.add_mul]; exact Nat.mul_le_mul_right _ hk2
  have hcur : L.length * Q.m ≤ cur.size := by rw [r3]; exact Nat.mul_le_mul_right _ r1
  have hl := run_loadCells_list (P := Tryz.prog) w ⟨g', o', none⟩ (Q.flat (M.take k)) (fun j v hv => hsrc j v (by
    have hj : j < k * Q.m := by
      rcases Nat.lt_or_ge j (k * Q.m) with q | q
      · exact q
      · rw [List.getElem?_eq_none (by rw [cl]; exact q)] at hv; cases hv
    rw [← flat_take M k hk, List.getElem?_take, if_pos hj] at hv
    exact hv))
  have hst := run_storeCells_at Tryz.prog g (off * Q.m) Q.T (Q.flat (M.take k)) 0 cur w hgg (by rw [cl]; omega) (flat_one _)
  rw [Nat.add_zero, cl] at hst
  rw [cl] at hl
  have ol := over_len L M off k hk2 hk
  rw [List.append_assoc] at hst
  refine ⟨w.setRow g (cur.toList.take (off * Q.m) ++ (Q.flat (M.take k) ++ cur.toList.drop (off * Q.m + k * Q.m))).toArray, ?_, ?_, ⟨rfl, rfl, rfl, by simp [World.setRow], fun j hj hne => setRow_other w g j _ (fun e => hne (by rw [e]))⟩⟩
  · have hmin : Nat.min M.length dLen = k := hkk
    simp [Builtin.copy_, run_underlying Q.under, Builtin.lenOf, Builtin.firstCells, sizeOf, typeInfo, hi, hz1, hmin, hl, hst]
  · unfold Own
    rw [ol]
    refine ⟨by rw [flat_len, ol], .inr ⟨g, c, _, rfl, hb, setRow_heap w g cur _ Q.T _ hgg, r1, r2, ?_, ?_⟩⟩
    · simp [cl]
      omega
    · have := take_splice cur.toList (Q.flat (M.take k)) (off * Q.m) (L.length * Q.m) (by rw [cl]; exact hN) (by simpa using hcur)
      rw [cl] at this
      rw [List.append_assoc] at this
      rw [List.toList_toArray, this, r4, flat_take L off (by omega), ← Nat.add_mul, flat_drop L (off + k) hk2]
      unfold over
      rw [flat_append, flat_append]
theorem wpList_copyK {w : World} {ops : Array Oper} {rest : List Oper} {o : Oper} {a : Act} {P : Exit → Act → World → Prop} (hgd : o.guard = none) (s x : Operand)
    (ho : o.op = .call { callee := .builtin .copy, args := #[s, x], argTypes := #[Q.X, Q.X] }) {base g n c : Nat} {L : List α} (h : Own Q w base (.slice (some ⟨g, 0, none⟩) n c) L) (hn : L.length = n) {y : Value} {M : List α} (hx : Sr Q w y M) (off dLen dCap : Nat) (hd : off + dLen ≤ n) (hpos : 0 < M.length) (k : Nat) (hk : min M.length dLen = k)
    (hs : a.eval s = .slice (some ⟨g, off * Q.m, none⟩) dLen dCap) (hy : a.eval x = y)
    (hK : ∀ w', Own Q w' base (.slice (some ⟨g, 0, none⟩) n c) (over L M off k) → w.grownBy w' (some g) → wpList Tryz.prog ops P rest (a.put o.dst (goInt (k : Nat))) w') : wpList Tryz.prog ops P (o :: rest) a w := by
  subst hk
  obtain ⟨w', hrun, r1, r2⟩ := run_copyK w h hn hx off dLen dCap hd o.type hpos
  refine wpList_plain hgd fun J hJ => ?_
  unfold Oper.wp
  simp [execOp, ho, resolve, invoke, builtin, hs, hy, hrun, Result.andThen]
  exact hJ _ _ (by simpa using hK w' r1 r2)
theorem step_copyK {ops : Array Oper} {o : Oper} {a : Act} {w : World} {J : Act → World → Prop} {P : Exit → Act → World → Prop} {E : Prop} (hgd : o.guard = none) (s x : Operand)
    (ho : o.op = .call { callee := .builtin .copy, args := #[s, x], argTypes := #[Q.X, Q.X] }) {base g n c : Nat} {L : List α} (h : Own Q w base (.slice (some ⟨g, 0, none⟩) n c) L) (hn : L.length = n) {y : Value} {M : List α} (hx : Sr Q w y M) (off dLen dCap : Nat) (hd : off + dLen ≤ n) (hpos : 0 < M.length) (k : Nat) (hk : min M.length dLen = k)
    (hs : a.eval s = .slice (some ⟨g, off * Q.m, none⟩) dLen dCap) (hy : a.eval x = y)
    (hK : ∀ w', Own Q w' base (.slice (some ⟨g, 0, none⟩) n c) (over L M off k) → w.grownBy w' (some g) → J (a.put o.dst (goInt (k : Nat))) w') : if Region.wanted o (yielded ops a.tmps) = true then Oper.wp Tryz.prog o a w J P else E := by
  have hw : Region.wanted o (yielded ops a.tmps) = true := by simp [Region.wanted, hgd]
  rw [if_pos hw]
  subst hk
  obtain ⟨w', hrun, r1, r2⟩ := run_copyK w h hn hx off dLen dCap hd o.type hpos
  unfold Oper.wp
  simp [execOp, ho, resolve, invoke, builtin, hs, hy, hrun, Result.andThen]
  exact hK w' r1 r2
end

def z0 : Cx := ⟨0, 0, 0, 0, 0, 0⟩
theorem flat_zero (n : Nat) : kD.flat (List.replicate n z0) = List.replicate (n * 6) (.int .i64 0) := by
  induction n with
  | zero => rfl
  | succ n ih =>
    have e : List.replicate (n + 1) z0 = [z0] ++ List.replicate n z0 := rfl
    rw [e, flat_append, ih, show (n + 1) * 6 = 6 + n * 6 by omega, ← List.replicate_append_replicate]
    rfl
theorem made_zero (n : Nat) : (madeCells #[.int .i64 0, .int .i64 0, .int .i64 0, .int .i64 0, .int .i64 0, .int .i64 0] (n * 6)).toList = List.replicate (n * 6) (.int .i64 0) := by
  rw [List.eq_replicate_iff]
  refine ⟨by simp [madeCells], fun b hb => ?_⟩
  simp only [madeCells, Array.toList_map, List.mem_map] at hb
  obtain ⟨i, _, rfl⟩ := hb
  have : i % 6 = 0 ∨ i % 6 = 1 ∨ i % 6 = 2 ∨ i % 6 = 3 ∨ i % 6 = 4 ∨ i % 6 = 5 := by omega
  rcases this with h | h | h | h | h | h <;> simp [h]
theorem make_any (n : Nat) (hn : n ≤ 8) (W : World) : (Instr.makeSlice 117 (.int .i64 (n : Int)) (.int .i64 (n : Int))).run Tryz.prog W =
    .ok (.slice (some ⟨W.heap.size, 0, none⟩) n n) (W.alloc (.cells (madeCells #[.int .i64 0, .int .i64 0, .int .i64 0, .int .i64 0, .int .i64 0, .int .i64 0] (n * 6)) 197)) := by
  obtain ⟨i0, hi, hz0, hz1, hz2⟩ := info_parts kD.info
  have h := run_make (P := Tryz.prog) W 117 197 i0 _ kD.under hi hz0 .i64 .i64 (n : Int) (n : Int) (by omega) (by omega) (by rw [hz2]; show ((48 : Nat) : Int) * _ ≤ _; omega) (by omega)
  rw [hz1, show (n : Int).toNat = n by omega] at h
  exact h
theorem own_made (n : Nat) (w : World) (b : Nat) (hb : b ≤ w.heap.size) (hn : n ≤ 8) : Own kD (w.alloc (.cells (madeCells #[.int .i64 0, .int .i64 0, .int .i64 0, .int .i64 0, .int .i64 0, .int .i64 0] (n * 6)) 197)) b (.slice (some ⟨w.heap.size, 0, none⟩) n n) (List.replicate n z0) :=
  Own.lit (K := kD) w b hb _ _ ((made_zero n).trans (flat_zero n).symm) (by simp [maxLen]; omega) n (by simp)

theorem mul_hi (n : Int) (n1 : 1 ≤ n) (n8 : n ≤ 8) : IntKind.u64.wrap (n / 4294967296 / 4294967296 + IntKind.u64.wrap (bits .and .u64 (n / 4294967296) 4294967295 + n / 4294967296) / 4294967296) = 0 := by
  rw [show n / 4294967296 = 0 by omega]
  decide
set_option maxHeartbeats 1000000 in
theorem mul64_any (n : Int) (w : World) (n1 : 1 ≤ n) (n8 : n ≤ 8) :
    Calls Tryz.prog 183 #[.int .u64 1, .int .u64 n] w fun e w' => e = .returned (.tuple #[.int .u64 0, .int .u64 n]) ∧ w = w' := by
  have m1 : bits .and .u64 1 4294967295 = 1 := by decide
  have mn : bits .and .u64 n 4294967295 = n := (Ctl.mask_u64 32 n (by omega) (by omega)).trans (by omega)
  have m0 : bits .and .u64 0 4294967295 = 0 := by decide
  have K := Lib.hid (mul_hi n n1 n8)
  go_enter Tryz.func183, Tryz.ntmps183
  go_wp2
  go_ret2
  exact ⟨by rw [K.out]; rfl, rfl⟩
set_option maxHeartbeats 1000000 in
theorem mul_any (n : Int) (w : World) (n1 : 1 ≤ n) (n8 : n ≤ 8) :
    Calls Tryz.prog 140 #[.int .u64 1, .int .u64 n] w fun e w' => e = .returned (.tuple #[.int .u64 0, .int .u64 n]) ∧ w = w' := by
  go_enter Tryz.func140, Tryz.ntmps140
  go_wp2_with (go_at_call 183; refine (mul64_any _ _ n1 n8).mono ?_; rintro e w' ⟨rfl, rfl⟩)
  go_ret2
  exact ⟨rfl, rfl⟩
theorem slice_lo (Q : Kd Cx) (g n c lo : Nat) (hlo : lo ≤ n) (hn : n ≤ c) (hc : lo < c) : (∀ W, (Instr.slice Q.X (.slice (some ⟨g, 0, none⟩) n c) (some (.int .i64 (lo : Int))) none none).run Tryz.prog W = .ok (.slice (some ⟨g, lo * Q.m, none⟩) (n - lo) (c - lo)) W) ∧
    (∀ W, (Instr.sliceAt Q.X (.slice (some ⟨g, 0, none⟩) n c) (some (.int .i64 (lo : Int))) none none).run Tryz.prog W = .ok (.slice (some ⟨g, lo * Q.m, none⟩) (n - lo) (c - lo)) W) := by
  have run : ∀ W, (Instr.slice Q.X (.slice (some ⟨g, 0, none⟩) n c) (some (.int .i64 (lo : Int))) none none).run Tryz.prog W = .ok (.slice (some ⟨g, lo * Q.m, none⟩) (n - lo) (c - lo)) W := by
    intro W
    rw [run_slice_l W Q.X _ n c (under_X Q) .i64 lo (by omega) (by omega), size_X Q]
    simp [Result.andThen, sliced, Nat.ne_of_gt hc, Addr.add_lit]
  exact ⟨run, fun W => (run_sliceAt_slice W Q.X _ _ _ _ (under_X Q)).trans (run W)⟩
theorem over_rep (x : Cx) (n k m : Nat) (hm : k + m ≤ n) (hmk : m ≤ k) : over (List.replicate k x ++ List.replicate (n - k) z0) (List.replicate k x) k m = List.replicate (k + m) x ++ List.replicate (n - (k + m)) z0 := by
  have e1 : (List.replicate k x ++ List.replicate (n - k) z0).take k = List.replicate k x := by rw [List.take_append_of_le_length (by simp)]; simp
  have e2 : (List.replicate k x).take m = List.replicate m x := by rw [List.take_replicate, Nat.min_eq_left hmk]
  have e3 : (List.replicate k x ++ List.replicate (n - k) z0).drop (k + m) = List.replicate (n - (k + m)) z0 := by
    rw [List.drop_append, List.drop_replicate, List.drop_replicate, List.length_replicate, show k - (k + m) = 0 by omega, show n - k - (k + m - k) = n - (k + m) by omega]
    rfl
  unfold over
  rw [e1, e2, e3, List.replicate_append_replicate]

set_option maxRecDepth 8000 in
set_option maxHeartbeats 1500000 in
theorem repeat_any (w : World) (q d n : Nat) (x : Cx) (hx : Sr kD w (.slice (some ⟨q, 0, none⟩) 1 d) [x]) (n1 : 1 ≤ n) (n8 : n ≤ 8) :
    Calls Tryz.prog 96 #[.slice (some ⟨q, 0, none⟩) 1 d, .int .i64 (n : Int)] w fun e w' => ∃ g, e = .returned (.slice (some ⟨g, 0, none⟩) n n) ∧ w.heap.size ≤ g ∧ Own kD w' w.heap.size (.slice (some ⟨g, 0, none⟩) n n) (List.replicate n x) ∧ Below w.heap.size w w' := by
  have mk := make_any n n8
  have O0 := own_made n w w.heap.size (Nat.le_refl _) n8
  have wn : IntKind.u64.wrap (n : Int) = (n : Int) := Ctl.wraps_u64 _ (by omega) (by omega)
  go_enter Tryz.func96, Tryz.ntmps96
  go_wp2_with (first
    | (go_at_call 140; refine (mul_any _ _ (by omega) (by omega)).mono ?_; rintro e w' ⟨rfl, rfl⟩)
    | (refine wpList_copyK (Q := kD) (o := ⟨some 33, _, _, _, _, _⟩) rfl (.tmp 31) (.tmp 32) rfl O0 (by simp) (hx.alloc _) 0 n n (by omega) (by simp) 1 (by simp; omega) rfl rfl ?_; intro w1 O1 G1))
  have O1' : Own kD w1 w.heap.size (.slice (some ⟨w.heap.size, 0, none⟩) n n) (List.replicate 1 x ++ List.replicate (n - 1) z0) := by
    have e : over (List.replicate n z0) [x] 0 1 = List.replicate 1 x ++ List.replicate (n - 1) z0 := by simp [over]
    rw [← e]
    exact O1
  have B1 : Below w.heap.size w w1 := ((Below.refl w.heap.size w).alloc (Nat.le_refl _) _).grown G1 (by simp) (fun j e => by injection e with e; omega)
  clear O1 G1 O0
  go_loopw [8] (fun t wr => ∃ k : Nat, 1 ≤ k ∧ k ≤ n ∧ t = .int .i64 (k : Int) ∧ Own kD wr w.heap.size (.slice (some ⟨w.heap.size, 0, none⟩) n n) (List.replicate k x ++ List.replicate (n - k) z0) ∧ Below w.heap.size w wr) (fun t _ => n - (intOf t).toNat)
  case atStart => exact ⟨1, by omega, n1, rfl, O1', B1⟩
  case round =>
    obtain ⟨k, k1, kn, rfl, O, hb⟩ := hrel
    by_cases hlt : k < n
    · obtain ⟨m, hm⟩ : ∃ m, min k (n - k) = m := ⟨_, rfl⟩
      have hm1 : m ≤ k := by omega
      have hm2 : k + m ≤ n := by omega
      have hm0 : 0 < m := by omega
      have sl := slice_lo kD w.heap.size n n k (by omega) (by omega) hlt
      have sh := Slic.slice_h kD (some ⟨w.heap.size, 0, none⟩) n n k (by omega)
      have wk : IntKind.i64.wrap ((k : Int) + (m : Int)) = ((k + m : Nat) : Int) := by rw [IntWalk.i64_in _ (by omega)]; omega
      have SRC : Sr kD wr (.slice (some ⟨w.heap.size, 0, none⟩) k n) (List.replicate k x) := by
        have := O.sr.part (k := k) (c' := n) (by simp) (by omega) (by omega)
        rw [List.take_append_of_le_length (by simp), List.take_of_length_le (by simp)] at this
        exact this
      have HO := Lib.hid (over_rep x n k m hm2 hm1)
      have hz := hb.size
      have eN : (if n = k then (some ⟨w.heap.size, 0, none⟩ : Option Addr) else some ⟨w.heap.size, k * 6, none⟩) = some ⟨w.heap.size, k * 6, none⟩ := if_neg (by omega)
      go_wp2_with fail
      go_region_law
        ((refine step_copyK (Q := kD) (by rfl) (.tmp 41) (.tmp 44) (by rfl) (base := w.heap.size) (L := List.replicate k x ++ List.replicate (n - k) z0) (M := List.replicate k x) (g := w.heap.size) (n := n) (c := n) (O.below (Below.refl wr.heap.size wr).drew) (by simp; omega) SRC.drew k (n - k) (n - k) (by omega) (by simp; omega) m (by simpa using hm) (by simp [Act.put, Act.eval, kD]) (by simp [Act.put, Act.eval]) ?_; intro w2 O2 G2))
      all_goals
        rw [HO.out] at O2
        have B2 := hb.drew.grown G2 hz (fun j e => by injection e with e; omega)
        simp [Act.put]
        go_wp2
        go_roundw
        case rel => exact ⟨k + m, by omega, hm2, congrArg (Value.int IntKind.i64) (by omega), O2, B2⟩
        case measure => simp [intOf]; omega
    · obtain rfl : k = n := by omega
      have e : List.replicate k x ++ List.replicate (k - k) z0 = List.replicate k x := by simp
      rw [e] at O
      go_wp2
      go_ret
      exact ⟨_, rfl, Nat.le_refl _, O, hb⟩
end Go.Proofs.YteakglkagmghpaaGreat.Sco

/-
  Contract of package scopes: New, at every plan that may be.
-/
namespace Go.Proofs.YteakglkagmghpaaGreat.Sco
open Go.ChangeShapes Go.WideShapes Go.ChangeAt Go.RowKit
open Slic Gm Held
set_option linter.unusedVariables false
set_option maxRecDepth 8000
set_option linter.unusedSimpArgs false
attribute [local go_sem ↓] Go.wp_at_zero Go.wp_at_succ

def free0 : Cx := ⟨0, 0, -1, 0, 0, 0⟩
theorem start_set (n : Nat) (hn : 1 ≤ n) (A S I J : Int) : (List.replicate n free0).set 0 ⟨2, 1, -1, 0, I, J⟩ = (start n A S I J).R := by
  obtain ⟨m, rfl⟩ : ∃ m, n = m + 1 := ⟨n - 1, by omega⟩
  rfl
theorem start_L (n : Nat) (A S I J : Int) (hS : 0 ≤ S) : Gr.newL A S = (start n A S I J).L := by
  unfold Gr.newL start
  by_cases h : S = 0
  · rw [if_pos h]
    simp only [h]
    rfl
  · rw [if_neg h]
    simp only [show 0 < S by omega, if_true]
/-- A ground, copied into a struct with the row of records. -/
theorem boxed {w : World} {Bg g n : Nat} {A S : Int} {L : List E} {v : Value} (h : w.rowIs Bg 121 3 (Gr.y0.hd A S v)) (hE : Gr.Ex w v L) (hT : Gr.Ty w v) :
    Gr.Gr (w.alloc (.cells #[.slice (some ⟨g, 0, none⟩) n n, .int .i64 A, .int .i64 S, v] 123)) (ly yS g n) w.heap.size w.heap.size A S L := by
  have hne : v.ownBlock ≠ some w.heap.size := fun e => by have := hE.lt e; omega
  refine ⟨v, World.rowIs_alloc w _ _ _ (fun i hi => ?_), hE.alloc _, hne, hne, hT.keep fun q hq => Below.heap_alloc w _ q (hE.lt hq)⟩
  have hi' : i < 4 := hi
  have : i = 0 ∨ i = 1 ∨ i = 2 ∨ i = 3 := by omega
  rcases this with rfl | rfl | rfl | rfl <;> rfl

theorem new_end {w w3 w5 W6 : World} {Bg g n cv : Nat} {V : Option Addr} {A S : Int} {F : Fo} (B6 : Below w.heap.size w w5) (hR5 : w5.rowIs Bg Gr.y0.T Gr.y0.n (Gr.y0.hd A S (.slice V F.L.length cv))) (hE5 : Gr.Ex w5 (.slice V F.L.length cv) F.L) (hT5 : Gr.Ty w5 (.slice V F.L.length cv))
    (hlt : ∀ {q : Nat}, (Value.slice V F.L.length cv).ownBlock = some q → q < w3.heap.size) (hgb : w3.heap.size + 1 ≤ g) (lt3 : Bg < w3.heap.size) (bw2 : w.heap.size ≤ w3.heap.size) (C : Cg w5 W6 g n F.R) (Bn : Nat) (hBn : W6.heap.size = Bn) :
    Sc (W6.alloc (.cells #[.slice (some ⟨g, 0, none⟩) n n, .int .i64 A, .int .i64 S, .slice V F.L.length cv] 123)) yS Bn g Bn n A S F ∧ w.heap.size ≤ Bn ∧ w.heap.size ≤ g ∧
      Below w.heap.size w (W6.alloc (.cells #[.slice (some ⟨g, 0, none⟩) n n, .int .i64 A, .int .i64 S, .slice V F.L.length cv] 123)) := by
  subst hBn
  have B7 := C.only.below_of B6 B6.size (fun x hx => by have := List.mem_singleton.1 hx; omega)
  have hR7 := hR5.of_block (C.only.block Bg hR5.lt (by simp; omega))
  have hE7 := hE5.keep C.only.size (fun q hq => C.only.block q (hE5.lt hq) (by
    have := hlt hq
    simp
    omega))
  have hT7 := hT5.keep (fun q hq => C.only.block q (hE5.lt hq) (by
    have := hlt hq
    simp
    omega))
  have hg6 : g < W6.heap.size := Nat.lt_of_lt_of_le C.lt C.only.size
  exact ⟨⟨C.len, boxed hR7 hE7 hT7, own_block C.row (Below.heap_alloc _ _ g hg6)⟩, B7.size, by omega, B7.alloc B7.size _⟩

set_option maxRecDepth 8000 in
set_option maxHeartbeats 8000000 in
theorem new_any (w : World) (s t i h : Int) (hr : Plan.rightB s t i h = true) :
    Calls Tryz.prog 44 #[.agg #[.int .i64 s, .int .i64 t, .int .i64 i, .int .i64 h]] w fun e w' => ∃ B g, e = .returned (.tuple #[ptr B, .int .i64 0]) ∧ Sc w' yS B g B s.toNat (64 * s + i) h (start s.toNat (64 * s + i) h (64 * s) i) ∧ w.heap.size ≤ B ∧ w.heap.size ≤ g ∧ Below w.heap.size w w' := by
  obtain ⟨r1, r2, r3, r4, r5, r6, r7, r8, r9, r10⟩ := Plan.rbounds hr
  have hI := Lib.hid (show Plan.immV s t i h = ⟨64 * s, i, 0⟩ by unfold Plan.immV; rw [if_pos hr])
  have hH := Lib.hid (show Plan.heapV s t i h = ⟨64 * s + i, h, 0⟩ by unfold Plan.heapV; rw [if_pos hr])
  obtain ⟨n, rfl⟩ : ∃ n : Nat, s = n := ⟨s.toNat, by omega⟩
  have S0 := (St.start w).new [.int .i64 (n : Int), .int .i64 t, .int .i64 i, .int .i64 h] 23
  obtain ⟨_, c0, c1, c2, c3⟩ := S0.get4 0 rfl
  go_enter Tryz.func44, Tryz.ntmps44
  go_wp2_with fail
  refine (lift S0 (Plan.imm_any (n : Int) t i h _)).mono ?_
  rintro e w1 ⟨rfl, S1⟩
  rw [hI.out]
  have S2 := S1.new [.int .i64 (64 * (n : Int)), .int .i64 i] 119
  obtain ⟨_, c0, c1, c2, c3⟩ := S2.get4 1 rfl
  go_wp2_with fail
  refine (lift S2 (Plan.heap_any (n : Int) t i h _)).mono ?_
  rintro e w2 ⟨rfl, S3⟩
  rw [hH.out]
  have S4 := S3.new [.int .i64 (64 * (n : Int) + i), .int .i64 h] 119
  obtain ⟨_, d0, d1⟩ := S4.get2 0 rfl
  go_wp2_with fail
  have bA : Gr.boundB (64 * (n : Int) + i) = true := decide_eq_true (by omega)
  have bS : Gr.boundB h = true := decide_eq_true (by omega)
  have EL := Lib.hid (start_L n (64 * (n : Int) + i) h (64 * (n : Int)) i r8)
  have ES := Lib.hid (start_set n (by omega) (64 * (n : Int) + i) h (64 * (n : Int)) i)
  refine (Gr.new_at _ (64 * (n : Int) + i) h _ bA bS (Nat.le_refl _)).mono ?_
  rintro e w3 ⟨rfl, G3, B3, lt3⟩
  have S5 := S4.call B3
  obtain ⟨v, hR, hE, _, _, hT⟩ := G3
  rw [EL.out] at hE
  obtain ⟨V, cv, rfl⟩ := hE.form
  clear c0 c1 c2 c3 d0 d1
  obtain ⟨_, c0, c1, c2, c3⟩ := S5.get4 2 rfl
  have bw2 : w2.heap.size < w3.heap.size := (S5.get 0 rfl).lt
  have S6 := S5.new [.int .i64 0, .int .i64 0, .int .i64 (-1), .int .i64 0, .int .i64 0, .int .i64 0] 197
  have hsr : Sr kD (w3.alloc (.cells #[.int .i64 0, .int .i64 0, .int .i64 (-1), .int .i64 0, .int .i64 0, .int .i64 0] 197)) (.slice (some ⟨w3.heap.size, 0, none⟩) 1 1) [free0] :=
    (Own.lit (K := kD) w3 0 (Nat.zero_le _) [free0] _ rfl (by decide) 1 rfl).sr
  have c0' := Gr.cell_alloc c0 (.cells #[.int .i64 0, .int .i64 0, .int .i64 (-1), .int .i64 0, .int .i64 0, .int .i64 0] 197)
  simp only [World.size_alloc] at hR
  go_wp2_with fail
  refine (repeat_any _ w3.heap.size 1 n free0 hsr (by omega) (by omega)).mono ?_
  rintro e w5 ⟨g, rfl, hg1, O5, B5⟩
  have S7 := S6.call B5
  have hR5 := (hR.alloc (.cells #[.int .i64 0, .int .i64 0, .int .i64 (-1), .int .i64 0, .int .i64 0, .int .i64 0] 197)).of_block (B5.block (w2.heap.size + 1) (by rw [World.size_alloc]; omega))
  have hE5 := (hE.alloc (.cells #[.int .i64 0, .int .i64 0, .int .i64 (-1), .int .i64 0, .int .i64 0, .int .i64 0] 197)).below B5
  have hT5 := hT.keep (w' := w5) (fun q hq => (B5.block q (by have := hE.lt hq; simp only [World.size_alloc]; omega)).trans (Below.heap_alloc w3 _ q (hE.lt hq)))
  have hgb : w3.heap.size + 1 ≤ g := by simpa using hg1
  have lt5 : g < w5.heap.size := (O5.lt g rfl).2
  have hr0 : (List.replicate n free0)[0]? = some free0 := by rw [List.getElem?_replicate, if_pos (by omega)]
  have C5 : Cg w5 w5 g n (List.replicate n free0) := ⟨lt5, by simp, Only.refl _ _, O5.zero (Nat.zero_le _)⟩
  have C6 := (C5.put4 0 hr0 2 1 (-1) 0).put2 0 (set_read hr0 _) (64 * (n : Int)) i
  rw [List.set_set] at C6
  simp only [Nat.zero_mul, Nat.zero_add] at C6
  have C6' : Cg w5 _ g n (start n (64 * (n : Int) + i) h (64 * (n : Int)) i).R := ES.out ▸ C6
  obtain ⟨g', cc, e, _, _, _, _, hf, hc⟩ := O5.form (by simp; omega)
  injection e with e e2 e3
  clear e2 e3
  injection e with e
  injection e with e
  subst e
  have hl0 : 0 < (List.replicate n free0).length := by simp; omega
  have y0 := hc 0 0 _ hl0 (by simp only [List.getElem_replicate]; rfl)
  have y1 := hc 0 1 _ hl0 (by simp only [List.getElem_replicate]; rfl)
  have y2 := hc 0 2 _ hl0 (by simp only [List.getElem_replicate]; rfl)
  have y3 := hc 0 3 _ hl0 (by simp only [List.getElem_replicate]; rfl)
  have y4 := hc 0 4 _ hl0 (by simp only [List.getElem_replicate]; rfl)
  have y5 := hc 0 5 _ hl0 (by simp only [List.getElem_replicate]; rfl)
  simp only [Nat.zero_mul, Nat.zero_add] at y0 y1 y2 y3 y4 y5
  have k0 := hf 0
  have k1 := hf 1
  have k2 := hf 2
  have k3 := hf 3
  have k4 := hf 4
  have k5 := hf 5
  clear hc hf c0 c1 c2 c3 c0'
  obtain ⟨_, m0, m1⟩ := S7.get2 2 rfl
  have v0 : w5.cell? ⟨w2.heap.size + 1, 0, none⟩ = some (.int .i64 (64 * (n : Int) + i)) := Gr.Ly.cell0 hR5
  have v1 : w5.cell? ⟨w2.heap.size + 1, 1, none⟩ = some (.int .i64 h) := Gr.Ly.cell1 hR5
  have v2 : w5.cell? ⟨w2.heap.size + 1, 2, none⟩ = some (.slice V (start n (64 * (n : Int) + i) h (64 * (n : Int)) i).L.length cv) := Gr.Ly.cell2 hR5
  have hne1 : w2.heap.size + 1 ≠ g := by omega
  have hne2 : g ≠ w2.heap.size + 1 := by omega
  have HC := Lib.hid C6'
  have HO := Lib.hid O5
  generalize hF : start n (64 * (n : Int) + i) h (64 * (n : Int)) i = F0 at *
  have HF := Lib.hid hF
  clear hF C6 C5 hr0 C6' O5 hsr
  have l2 := (S5.get 2 rfl).lt
  have l3 := S5.below.size
  have FIN := new_end (w := w) (w3 := w3) (w5 := w5) (Bg := w2.heap.size + 1) (A := 64 * (n : Int) + i) (S := h) (V := V) (cv := cv) (F := F0) S7.below hR5 hE5 hT5 hE.lt hgb (by simpa using lt3) (by omega) HC.out w5.heap.size (by simp [World.setCell])
  clear S0 S1 S2 S3 S4 S5 S6 S7 hR5 hE5 hT5 hR hE hT
  go_wp2
  go_ret2
  rw [Int.toNat_natCast, HF.out]
  exact ⟨_, g, rfl, FIN⟩
end Go.Proofs.YteakglkagmghpaaGreat.Sco
