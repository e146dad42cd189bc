/-
  Plain mathematics of the forest of scopes: what each is and has, and what is free; what each call makes of it, and tells; what is so of all that there may be.
-/
import Derived.Test.YteakglkagmghpaaGrou
import Derived.Test.YteakglkagmghpaaCtls
import Derived.Test.YteakglkagmghpaaBase
import Derived.Test.YteakglkagmghpaaNump
import Derived.Laws.CopyRow
import Derived.Laws.MakeOwn
import Derived.Deep.RegionLaw
namespace Go.Proofs.Yteakglkagmghpaa.Sco
open Gm
set_option linter.unusedVariables false
set_option maxRecDepth 8000

/-- A scope: its state, count, parent and epoch; where its extent begins, and its size. -/
structure Cx where
  s : Int
  c : Int
  p : Int
  e : Int
  a : Int
  z : Int
def Cx.turn (x : Cx) (v : Ctl.R) : Cx := ⟨v.s, v.c, v.p, v.e, x.a, x.z⟩
/-- All scopes, and what is free. -/
structure Fo where
  R : List Cx
  L : List E
/-- What a call tells (a number, an error, whether it is drained), and leaves. -/
structure Re where
  v : Int
  x : Int
  d : Bool
  F : Fo

def upz (z : Int) : Int := (z + 7) / 8 * 8
def fr (x : Cx) : Bool := decide (x.s = 0)
def made (x : Cx) (a z : Int) : Cx := ⟨1, x.c, x.p, x.e, a, z⟩
def createV (F : Fo) (z : Int) : Re :=
  if z < 1 ∨ 8192 < z then ⟨0, 1, false, F⟩
  else match F.R[F.R.findIdx fr]? with
    | none => ⟨0, 13, false, F⟩
    | some x => if Gr.carveB (upz z) F.L = true then ⟨(F.R.findIdx fr : Nat), 0, false, ⟨F.R.set (F.R.findIdx fr) (made x (carveA (upz z) F.L) (upz z)), carveL (upz z) F.L⟩⟩ else ⟨0, 14, false, F⟩
/-- The scope of a number, but the immortal one. -/
def look (R : List Cx) (i : Int) : Option Cx := if 1 ≤ i then R[i.toNat]? else none
def turnV (F : Fo) (i : Int) (f : Cx → Ctl.R) : Re :=
  match look F.R i with
  | none => ⟨0, 11, false, F⟩
  | some x => if (f x).x = 0 then ⟨0, 0, decide ((f x).s = 3), ⟨F.R.set i.toNat (x.turn (f x)), F.L⟩⟩ else ⟨0, (f x).x, false, F⟩
def unV (s c p e : Int) : Ctl.R := if s = 0 then Ctl.no 11 else if s = 1 then ⟨0, c, p, (e + 1) % 16777216, 0⟩ else Ctl.no 12
def enF (f : Int) (x : Cx) : Ctl.R := Ctl.entV x.s x.c x.p x.e f
def leF (x : Cx) : Ctl.R := Ctl.leV x.s x.c x.p x.e
def opF (x : Cx) : Ctl.R := Ctl.opV x.s x.c x.p x.e
def hoF (x : Cx) : Ctl.R := Ctl.hoV x.s x.c x.p x.e
def gone (x : Cx) : Cx := ⟨0, x.c, x.p, (x.e + 1) % 16777216, 0, 0⟩
def destroyV (F : Fo) (i : Int) : Re :=
  match look F.R i with
  | none => ⟨0, 11, false, F⟩
  | some x => if x.s = 0 then ⟨0, 11, false, F⟩ else if x.s = 1 then ⟨0, 0, false, ⟨F.R.set i.toNat (gone x), giveL x.a (x.a + x.z) F.L⟩⟩ else ⟨0, 12, false, F⟩

/-- What is so of all that there may be: so many scopes; the immortal one's extent; the heap. -/
structure Inv (n : Nat) (A S I J : Int) (F : Fo) : Prop where
  len : F.R.length = n
  n1 : 1 ≤ n
  n8 : n ≤ 8
  ok : Ok A S F.L
  zero : F.R[0]? = some ⟨2, 1, -1, 0, I, J⟩
  right : ∀ (i : Nat) (x : Cx), F.R[i]? = some x → Ctl.rightB x.s x.c x.p x.e = true
  ext : ∀ (i : Nat) (x : Cx), F.R[i]? = some x → 1 ≤ i → (x.s = 0 ∧ x.a = 0 ∧ x.z = 0) ∨ (x.s ≠ 0 ∧ 0 < x.z ∧ x.z % 8 = 0 ∧ x.a % 8 = 0 ∧ A ≤ x.a ∧ x.a + x.z ≤ A + S)
  apartL : ∀ (i : Nat) (x : Cx) (p : Int), F.R[i]? = some x → 1 ≤ i → x.a ≤ p → p < x.a + x.z → ¬ Mem p F.L
  apart : ∀ (i j : Nat) (x y : Cx) (p : Int), F.R[i]? = some x → F.R[j]? = some y → 1 ≤ i → 1 ≤ j → i ≠ j → x.a ≤ p → p < x.a + x.z → ¬ (y.a ≤ p ∧ p < y.a + y.z)
  cover : ∀ p : Int, A ≤ p → p < A + S → Mem p F.L ∨ ∃ (i : Nat) (x : Cx), F.R[i]? = some x ∧ 1 ≤ i ∧ x.a ≤ p ∧ p < x.a + x.z

theorem look_in {R : List Cx} {i : Int} {x : Cx} (h : look R i = some x) : 1 ≤ i ∧ i < R.length ∧ R[i.toNat]? = some x := by
  unfold look at h
  split at h
  · have := (List.getElem?_eq_some_iff.1 h).1
    exact ⟨by assumption, by omega, h⟩
  · cases h
theorem rightI {s c p e : Int} (h : Ctl.rightB s c p e = true) : 0 ≤ e ∧ e ≤ 16777215 ∧ (((s = 0 ∨ s = 1) ∧ c = 0 ∧ p = -1) ∨ (s = 2 ∧ 1 ≤ c ∧ c ≤ 7 ∧ -1 ≤ p ∧ p ≤ 7) ∨ (s = 3 ∧ c = 0 ∧ -1 ≤ p ∧ p ≤ 7)) := of_decide_eq_true h
theorem get_set {R : List Cx} {k i : Nat} {y x : Cx} (h : (R.set k y)[i]? = some x) : (i = k ∧ x = y ∧ k < R.length) ∨ (i ≠ k ∧ R[i]? = some x) := by
  rw [List.getElem?_set] at h
  split at h
  · rename_i e
    split at h
    · injection h with h
      exact .inl ⟨e.symm, h.symm, by assumption⟩
    · cases h
  · rename_i e
    exact .inr ⟨fun q => e q.symm, h⟩
theorem set_get {R : List Cx} {k : Nat} {y : Cx} (h : k < R.length) : (R.set k y)[k]? = some y := by
  rw [List.getElem?_set, if_pos rfl, if_pos h]
theorem set_other {R : List Cx} {k i : Nat} {y : Cx} (h : i ≠ k) : (R.set k y)[i]? = R[i]? := by
  rw [List.getElem?_set, if_neg (fun e => h e.symm)]

theorem right_made {x : Cx} {a z : Int} (h : Ctl.rightB x.s x.c x.p x.e = true) (h0 : x.s = 0) : Ctl.rightB (made x a z).s (made x a z).c (made x a z).p (made x a z).e = true := by
  have := rightI h
  exact decide_eq_true (by show 0 ≤ x.e ∧ x.e ≤ 16777215 ∧ ((((1 : Int) = 0 ∨ (1 : Int) = 1) ∧ x.c = 0 ∧ x.p = -1) ∨ ((1 : Int) = 2 ∧ 1 ≤ x.c ∧ x.c ≤ 7 ∧ -1 ≤ x.p ∧ x.p ≤ 7) ∨ ((1 : Int) = 3 ∧ x.c = 0 ∧ -1 ≤ x.p ∧ x.p ≤ 7)); omega)
theorem right_gone {x : Cx} (h : Ctl.rightB x.s x.c x.p x.e = true) (h0 : x.s = 1) : Ctl.rightB (gone x).s (gone x).c (gone x).p (gone x).e = true := by
  have := rightI h
  exact decide_eq_true (by show 0 ≤ (x.e + 1) % 16777216 ∧ (x.e + 1) % 16777216 ≤ 16777215 ∧ ((((0 : Int) = 0 ∨ (0 : Int) = 1) ∧ x.c = 0 ∧ x.p = -1) ∨ ((0 : Int) = 2 ∧ 1 ≤ x.c ∧ x.c ≤ 7 ∧ -1 ≤ x.p ∧ x.p ≤ 7) ∨ ((0 : Int) = 3 ∧ x.c = 0 ∧ -1 ≤ x.p ∧ x.p ≤ 7)); omega)

/-- What a turn of a scope's word must keep. -/
def Fine (f : Cx → Ctl.R) : Prop := ∀ x : Cx, Ctl.rightB x.s x.c x.p x.e = true → (f x).x = 0 → x.s ≠ 0 ∧ (f x).s ≠ 0 ∧ Ctl.rightB (f x).s (f x).c (f x).p (f x).e = true
theorem fine_en (f : Int) : Fine (enF f) := by
  intro x h h0
  have := rightI h
  have hx : (enF f x) = Ctl.entV x.s x.c x.p x.e f := rfl
  rw [hx] at h0 ⊢
  rcases Ctl.ent_cases x.s x.c x.p x.e f with ⟨hr, he⟩ | ⟨hr, hf, he⟩ | ⟨hr, f1, f2, h1, he⟩ | ⟨hr, f1, f2, h1, he⟩ | ⟨hr, f1, f2, h1, he⟩ | ⟨hr, f1, f2, h1, hp, he⟩ | ⟨hr, f1, f2, h1, h2, h3, he⟩ | ⟨hr, f1, f2, h1, h2, hc1, hc2, he⟩
  all_goals rw [he] at h0 ⊢
  all_goals first
    | (exact absurd h0 (by show ¬ (1 : Int) = 0; decide))
    | (exact absurd h0 (by show ¬ (11 : Int) = 0; decide))
    | (exact absurd h0 (by show ¬ (10 : Int) = 0; decide))
    | (exact absurd h0 (by show ¬ (15 : Int) = 0; decide))
    | (exact absurd h0 (by show ¬ (16 : Int) = 0; decide))
    | (refine ⟨by omega, by show ¬ (2 : Int) = 0; decide, decide_eq_true ?_⟩; show 0 ≤ x.e ∧ x.e ≤ 16777215 ∧ _; refine ⟨by omega, by omega, .inr (.inl ?_)⟩; refine ⟨rfl, ?_, ?_, ?_, ?_⟩ <;> dsimp only <;> omega)
theorem fine_le : Fine leF := by
  intro x h h0
  have := rightI h
  have hx : leF x = Ctl.leV x.s x.c x.p x.e := rfl
  have e : Ctl.leV x.s x.c x.p x.e = if x.s = 2 then (if x.c = 1 then ⟨3, 0, x.p, x.e, 0⟩ else ⟨2, x.c - 1, x.p, x.e, 0⟩) else Ctl.no 11 := by unfold Ctl.leV; rw [if_pos h]
  rw [hx, e] at h0 ⊢
  by_cases h2 : x.s = 2
  · rw [if_pos h2] at h0 ⊢
    by_cases h1 : x.c = 1
    · rw [if_pos h1]
      exact ⟨by omega, by show ¬ (3 : Int) = 0; decide, show Ctl.rightB 3 0 x.p x.e = true from decide_eq_true (by omega)⟩
    · rw [if_neg h1]
      exact ⟨by omega, by show ¬ (2 : Int) = 0; decide, show Ctl.rightB 2 (x.c - 1) x.p x.e = true from decide_eq_true (by omega)⟩
  · rw [if_neg h2] at h0
    exact absurd h0 (by show ¬ (11 : Int) = 0; decide)
theorem fine_op : Fine opF := by
  intro x h h0
  have := rightI h
  have hx : opF x = Ctl.opV x.s x.c x.p x.e := rfl
  have e : Ctl.opV x.s x.c x.p x.e = if x.s = 3 then ⟨1, 0, -1, (x.e + 1) % 16777216, 0⟩ else Ctl.no 11 := by unfold Ctl.opV; rw [if_pos h]
  rw [hx, e] at h0 ⊢
  by_cases h2 : x.s = 3
  · rw [if_pos h2]
    exact ⟨by omega, by show ¬ (1 : Int) = 0; decide, show Ctl.rightB 1 0 (-1) ((x.e + 1) % 16777216) = true from decide_eq_true (by omega)⟩
  · rw [if_neg h2] at h0
    exact absurd h0 (by show ¬ (11 : Int) = 0; decide)
section
variable {n : Nat} {A S I J : Int} {F : Fo}
theorem Inv.turn (h : Inv n A S I J F) (i : Int) {f : Cx → Ctl.R} (hf : Fine f) : Inv n A S I J (turnV F i f).F := by
  unfold turnV
  cases hl : look F.R i with
  | none => exact h
  | some x =>
    obtain ⟨h1, h2, h3⟩ := look_in hl
    by_cases h0 : (f x).x = 0
    · simp only [h0, if_true]
      have hx := h.right _ x h3
      obtain ⟨f1, f2, f3⟩ := hf x hx h0
      have hk : i.toNat < F.R.length := by omega
      have same : ∀ (j : Nat) (y : Cx), (F.R.set i.toNat (x.turn (f x)))[j]? = some y → ∃ y' : Cx, F.R[j]? = some y' ∧ y.a = y'.a ∧ y.z = y'.z ∧ (j ≠ i.toNat → y = y') ∧ (j = i.toNat → y' = x ∧ y = x.turn (f x)) := by
        intro j y hy
        rcases get_set hy with ⟨rfl, rfl, _⟩ | ⟨hne, hy⟩
        · exact ⟨x, h3, rfl, rfl, fun e => absurd rfl e, fun _ => ⟨rfl, rfl⟩⟩
        · exact ⟨y, hy, rfl, rfl, fun _ => rfl, fun e => absurd e hne⟩
      refine ⟨by rw [List.length_set]; exact h.len, h.n1, h.n8, h.ok, ?_, ?_, ?_, ?_, ?_, ?_⟩
      · rw [set_other (by omega)]
        exact h.zero
      · intro j y hy
        rcases get_set hy with ⟨rfl, rfl, _⟩ | ⟨hne, hy⟩
        · exact f3
        · exact h.right j y hy
      · intro j y hy hj
        rcases get_set hy with ⟨rfl, rfl, _⟩ | ⟨hne, hy⟩
        · rcases h.ext _ x h3 (by omega) with k | ⟨_, k⟩
          · exact absurd k.1 f1
          · exact .inr ⟨f2, k⟩
        · exact h.ext j y hy hj
      · intro j y p hy hj p1 p2
        obtain ⟨y', hy', e1, e2, _⟩ := same j y hy
        exact h.apartL j y' p hy' hj (by omega) (by omega)
      · intro j k y u p hy hu hj hk' hne p1 p2
        obtain ⟨y', hy', e1, e2, _⟩ := same j y hy
        obtain ⟨u', hu', e3, e4, _⟩ := same k u hu
        have := h.apart j k y' u' p hy' hu' hj hk' hne (by omega) (by omega)
        omega
      · intro p p1 p2
        rcases h.cover p p1 p2 with m | ⟨j, y, hy, hj, q1, q2⟩
        · exact .inl m
        · right
          by_cases e : j = i.toNat
          · subst e
            rw [h3] at hy
            injection hy with hy
            subst hy
            exact ⟨i.toNat, x.turn (f x), set_get hk, hj, q1, q2⟩
          · exact ⟨j, y, by rw [set_other e]; exact hy, hj, q1, q2⟩
    · simp only [h0, if_false]
      exact h

theorem fr_at {R : List Cx} {x : Cx} (h : R[R.findIdx fr]? = some x) : x.s = 0 := by
  obtain ⟨h1, h2⟩ := List.getElem?_eq_some_iff.1 h
  have := List.findIdx_getElem (w := h1)
  rw [h2] at this
  exact of_decide_eq_true this
theorem Inv.fr_pos (h : Inv n A S I J F) : 1 ≤ F.R.findIdx fr := by
  rcases Nat.eq_zero_or_pos (F.R.findIdx fr) with e | e
  · have hz := h.zero
    have := fr_at (R := F.R) (x := ⟨2, 1, -1, 0, I, J⟩) (by rw [e]; exact hz)
    exact absurd this (by show ¬ (2 : Int) = 0; decide)
  · exact e
theorem upz_all {z : Int} (h : ¬ (z < 1 ∨ 8192 < z)) : 0 < upz z ∧ upz z % 8 = 0 ∧ z ≤ upz z ∧ upz z < z + 8 ∧ upz z ≤ 8192 := by
  unfold upz
  omega
theorem carveB_fits {z : Int} {L : List E} (h : Gr.carveB z L = true) : 0 < z ∧ z % 8 = 0 ∧ fits z L = true := by
  unfold Gr.carveB at h
  rw [Bool.and_eq_true] at h
  have : 0 < z ∧ z % 8 = 0 := of_decide_eq_true h.1
  exact ⟨this.1, this.2, h.2⟩
theorem Inv.create (h : Inv n A S I J F) (z : Int) : Inv n A S I J (createV F z).F := by
  unfold createV
  by_cases hz : z < 1 ∨ 8192 < z
  · rw [if_pos hz]
    exact h
  · rw [if_neg hz]
    cases hl : F.R[F.R.findIdx fr]? with
    | none => exact h
    | some x =>
      by_cases hb : Gr.carveB (upz z) F.L = true
      · simp only [hb, if_true]
        obtain ⟨b1, b2, b3⟩ := carveB_fits hb
        have hs := fr_at hl
        have hp := h.fr_pos
        have hk := (List.getElem?_eq_some_iff.1 hl).1
        have hin := carve_in b3
        have hsub := fun p => carve_sub (z := upz z) b3 (p := p)
        have hmem := carve_mem b1 h.ok.norm b3
        obtain ⟨e, he, he1, he2⟩ := hin
        have hE := h.ok.mem he
        generalize F.R.findIdx fr = k at *
        generalize carveA (upz z) F.L = a at *
        have inL : ∀ p, a ≤ p → p < a + upz z → Mem p F.L := fun p p1 p2 => hsub p p1 p2
        have xe : x.a = 0 ∧ x.z = 0 := by
          rcases h.ext k x hl hp with q | q
          · exact q.2
          · exact absurd hs q.1
        refine ⟨by rw [List.length_set]; exact h.len, h.n1, h.n8, h.ok.carve b1 b2, ?_, ?_, ?_, ?_, ?_, ?_⟩
        · rw [set_other (by omega)]
          exact h.zero
        · intro j y hy
          rcases get_set hy with ⟨rfl, rfl, _⟩ | ⟨hne, hy⟩
          · exact right_made (h.right _ x hl) hs
          · exact h.right j y hy
        · intro j y hy hj
          rcases get_set hy with ⟨rfl, rfl, _⟩ | ⟨hne, hy⟩
          · refine .inr ⟨by show ¬ (1 : Int) = 0; decide, b1, b2, ?_, ?_, ?_⟩
            · show a % 8 = 0
              omega
            · show A ≤ a
              omega
            · show a + upz z ≤ A + S
              omega
          · exact h.ext j y hy hj
        · intro j y p hy hj p1 p2 m
          obtain ⟨m1, m2⟩ := (hmem p).1 m
          rcases get_set hy with ⟨rfl, rfl, _⟩ | ⟨hne, hy'⟩
          · exact m2 ⟨p1, p2⟩
          · exact h.apartL j y p hy' hj p1 p2 m1
        · intro j i y u p hy hu hj hi hne p1 p2 q
          rcases get_set hy with ⟨rfl, rfl, _⟩ | ⟨hne1, hy⟩
          · rcases get_set hu with ⟨rfl, rfl, _⟩ | ⟨hne2, hu⟩
            · exact hne rfl
            · exact h.apartL i u p hu hi q.1 q.2 (inL p p1 p2)
          · rcases get_set hu with ⟨rfl, rfl, _⟩ | ⟨hne2, hu⟩
            · exact h.apartL j y p (by assumption) hj p1 p2 (inL p q.1 q.2)
            · exact h.apart j i y u p (by assumption) (by assumption) hj hi hne p1 p2 q
        · intro p p1 p2
          rcases h.cover p p1 p2 with m | ⟨j, y, hy, hj, q1, q2⟩
          · by_cases c : a ≤ p ∧ p < a + upz z
            · exact .inr ⟨k, made x a (upz z), set_get hk, hp, c.1, c.2⟩
            · exact .inl ((hmem p).2 ⟨m, c⟩)
          · right
            by_cases e : j = k
            · subst e
              rw [hl] at hy
              injection hy with hy
              subst hy
              omega
            · exact ⟨j, y, by rw [set_other e]; exact hy, hj, q1, q2⟩
      · simp only [hb]
        exact h

/-- What is given back of a scope that is not free. -/
theorem Inv.back (h : Inv n A S I J F) {i : Nat} {x : Cx} (hx : F.R[i]? = some x) (hi : 1 ≤ i) (hs : x.s ≠ 0) : 0 < x.z ∧ x.z % 8 = 0 ∧ x.a % 8 = 0 ∧ A ≤ x.a ∧ x.a + x.z ≤ A + S ∧ bad x.a (x.a + x.z) F.L = false := by
  rcases h.ext i x hx hi with q | ⟨_, q1, q2, q3, q4, q5⟩
  · exact absurd q.1 hs
  · refine ⟨q1, q2, q3, q4, q5, ?_⟩
    cases hb : bad x.a (x.a + x.z) F.L with
    | false => rfl
    | true =>
      obtain ⟨p, p1, p2, m⟩ := (bad_mem (by omega) h.ok.norm).1 hb
      exact absurd m (h.apartL i x p hx hi p1 p2)
theorem Inv.destroy (h : Inv n A S I J F) (i : Int) : Inv n A S I J (destroyV F i).F := by
  unfold destroyV
  cases hl : look F.R i with
  | none => exact h
  | some x =>
    obtain ⟨h1, h2, h3⟩ := look_in hl
    by_cases s0 : x.s = 0
    · simp only [s0, if_true]
      exact h
    · by_cases s1 : x.s = 1
      · obtain ⟨b1, b2, b3, b4, b5, b6⟩ := h.back h3 (by omega) s0
        have hk : i.toNat < F.R.length := by omega
        obtain ⟨o1, o2, o3⟩ := h.ok.give (a := x.a) (b := x.a + x.z) (by omega) b4 b5 b3 (by omega) b6
        simp only [s1, if_true]
        simp only [show ¬ ((1 : Int) = 0) by decide, if_false]
        refine ⟨by rw [List.length_set]; exact h.len, h.n1, h.n8, o1, ?_, ?_, ?_, ?_, ?_, ?_⟩
        · rw [set_other (by omega)]
          exact h.zero
        · intro j y hy
          rcases get_set hy with ⟨rfl, rfl, _⟩ | ⟨hne, hy⟩
          · exact right_gone (h.right _ x h3) s1
          · exact h.right j y hy
        · intro j y hy hj
          rcases get_set hy with ⟨rfl, rfl, _⟩ | ⟨hne, hy⟩
          · exact .inl ⟨rfl, rfl, rfl⟩
          · exact h.ext j y hy hj
        · intro j y p hy hj p1 p2 m
          rcases get_set hy with ⟨rfl, rfl, _⟩ | ⟨hne, hy⟩
          · have q1 : (0 : Int) ≤ p := p1
            have q2 : p < (0 : Int) + 0 := p2
            omega
          · rcases (o2 p).1 m with m | m
            · exact h.apartL j y p hy hj p1 p2 m
            · exact h.apart j i.toNat y x p hy h3 hj (by omega) hne p1 p2 m
        · intro j k y u p hy hu hj hk' hne p1 p2 q
          rcases get_set hy with ⟨rfl, rfl, _⟩ | ⟨hne1, hy⟩
          · have q1 : (0 : Int) ≤ p := p1
            have q2 : p < (0 : Int) + 0 := p2
            omega
          · rcases get_set hu with ⟨rfl, rfl, _⟩ | ⟨hne2, hu⟩
            · have q1 : (0 : Int) ≤ p := q.1
              have q2 : p < (0 : Int) + 0 := q.2
              omega
            · exact h.apart j k y u p hy hu hj hk' hne p1 p2 q
        · intro p p1 p2
          rcases h.cover p p1 p2 with m | ⟨j, y, hy, hj, q1, q2⟩
          · exact .inl ((o2 p).2 (.inl m))
          · by_cases e : j = i.toNat
            · subst e
              rw [h3] at hy
              injection hy with hy
              subst hy
              exact .inl ((o2 p).2 (.inr ⟨q1, q2⟩))
            · exact .inr ⟨j, y, by rw [set_other e]; exact hy, hj, q1, q2⟩
      · simp only [s0, s1, if_false]
        exact h
end
/-- The beginning: all of the heap is free, and no scope but the immortal one. -/
def start (n : Nat) (A S I J : Int) : Fo := ⟨⟨2, 1, -1, 0, I, J⟩ :: List.replicate (n - 1) ⟨0, 0, -1, 0, 0, 0⟩, if 0 < S then [(A, S)] else []⟩
theorem start_inv {n : Nat} {A S I J : Int} (n1 : 1 ≤ n) (n8 : n ≤ 8) (a0 : 0 ≤ A) (a1 : A ≤ 65536) (s0 : 0 ≤ S) (s1 : S ≤ 65536) (a8 : A % 8 = 0) (s8 : S % 8 = 0) : Inv n A S I J (start n A S I J) := by
  have hget : ∀ (i : Nat) (x : Cx), (start n A S I J).R[i]? = some x → 1 ≤ i → x = ⟨0, 0, -1, 0, 0, 0⟩ := by
    intro i x hx hi
    obtain ⟨k, rfl⟩ : ∃ k, i = k + 1 := ⟨i - 1, by omega⟩
    have : (List.replicate (n - 1) (⟨0, 0, -1, 0, 0, 0⟩ : Cx))[k]? = some x := by simpa [start] using hx
    exact List.eq_of_mem_replicate (List.mem_of_getElem? this)
  have hL : ∀ p, Mem p (start n A S I J).L ↔ A ≤ p ∧ p < A + S := by
    intro p
    unfold start
    by_cases c : 0 < S
    · simp only [c, if_true]
      rw [mem_cons]
      constructor
      · rintro (m | m)
        · exact m
        · exact absurd m (mem_nil p)
      · exact fun m => .inl m
    · simp only [c, if_false]
      exact ⟨fun m => absurd m (mem_nil p), fun m => by omega⟩
  refine ⟨by simp [start]; omega, n1, n8, ?_, rfl, ?_, ?_, ?_, ?_, ?_⟩
  · unfold start
    by_cases c : 0 < S
    · simp only [c, if_true]
      refine ⟨⟨Int.le_refl _, c, trivial⟩, fun e he => ?_, fun e he => ?_, a0, a1, s0, s1, a8, s8⟩
      · have : e = (A, S) := by simpa using he
        subst this
        exact Int.le_refl _
      · have : e = (A, S) := by simpa using he
        subst this
        exact ⟨a8, s8⟩
    · simp only [c, if_false]
      exact ⟨trivial, fun e he => absurd he List.not_mem_nil, fun e he => absurd he List.not_mem_nil, a0, a1, s0, s1, a8, s8⟩
  · intro i x hx
    rcases Nat.eq_zero_or_pos i with rfl | hi
    · have : x = ⟨2, 1, -1, 0, I, J⟩ := by
        have e : (start n A S I J).R[0]? = some ⟨2, 1, -1, 0, I, J⟩ := rfl
        rw [e] at hx
        injection hx with hx
        exact hx.symm
      subst this
      show Ctl.rightB 2 1 (-1) 0 = true
      decide
    · rw [hget i x hx hi]
      exact decide_eq_true (by decide)
  · intro i x hx hi
    rw [hget i x hx hi]
    exact .inl ⟨rfl, rfl, rfl⟩
  · intro i x p hx hi p1 p2
    rw [hget i x hx hi] at p1 p2
    have q1 : (0 : Int) ≤ p := p1
    have q2 : p < (0 : Int) + 0 := p2
    omega
  · intro i j x y p hx hy hi hj hne p1 p2
    rw [hget i x hx hi] at p1 p2
    have q1 : (0 : Int) ≤ p := p1
    have q2 : p < (0 : Int) + 0 := p2
    omega
  · intro p p1 p2
    exact .inl ((hL p).2 ⟨p1, p2⟩)
end Go.Proofs.Yteakglkagmghpaa.Sco

/-
  The forest of scopes in memory: kinds of rows; what changes but so many blocks; the struct with its ground, and the row of records.
-/
namespace Go.Proofs.Yteakglkagmghpaa.Sco
open Go.ChangeShapes Go.WideShapes Go.ChangeAt Go.RowKit
open Slic Gm
set_option linter.unusedVariables false
set_option maxRecDepth 8000

def kC : Kd Cx := { X := 120, T := 62, m := 4, by_ := 32, z := .agg #[.int .i64 0, .int .i64 0, .int .i64 0, .int .i64 0], enc := fun x => [.int .i64 x.s, .int .i64 x.c, .int .i64 x.p, .int .i64 x.e], len := fun _ => rfl, one := fun _ u h => by simp at h; rcases h with rfl | rfl | rfl | rfl <;> rfl, pos := by decide, small := by decide, zs := rfl, under := by kernel_rfl, info := by kernel_rfl, elem := by kernel_rfl }
def kX : Kd Cx := { X := 68, T := 76, m := 2, by_ := 16, z := .agg #[.int .i64 0, .int .i64 0], enc := fun x => [.int .i64 x.a, .int .i64 x.z], len := fun _ => rfl, one := fun _ u h => by simp at h; rcases h with rfl | rfl <;> rfl, pos := by decide, small := by decide, zs := rfl, under := by kernel_rfl, info := by kernel_rfl, elem := by kernel_rfl }

/-- Nothing changes but these blocks, and new ones. -/
structure Only (X : List Nat) (w w' : World) : Prop where
  os : w'.os = w.os
  tape : w'.tape = w.tape
  output : w'.output = w.output
  size : w.heap.size ≤ w'.heap.size
  block : ∀ i, i < w.heap.size → i ∉ X → w'.heap[i]? = w.heap[i]?
theorem Only.refl (X : List Nat) (w : World) : Only X w w := ⟨rfl, rfl, rfl, Nat.le_refl _, fun _ _ _ => rfl⟩
theorem Only.trans {X : List Nat} {a b c : World} (h : Only X a b) (k : Only X b c) : Only X a c :=
  ⟨k.os.trans h.os, k.tape.trans h.tape, k.output.trans h.output, Nat.le_trans h.size k.size, fun i hi hx => (k.block i (Nat.lt_of_lt_of_le hi h.size) hx).trans (h.block i hi hx)⟩
theorem Only.mono {X Y : List Nat} {a b : World} (h : Only X a b) (k : ∀ x ∈ X, x ∈ Y) : Only Y a b := ⟨h.os, h.tape, h.output, h.size, fun i hi hx => h.block i hi fun e => hx (k i e)⟩
theorem Only.below {X : List Nat} {a b : World} (h : Below a.heap.size a b) : Only X a b := ⟨h.os, h.tape, h.output, h.size, fun i hi _ => h.block i hi⟩
theorem Only.grown {X : List Nat} {a b : World} {g : Nat} (h : a.grownBy b (some g)) (hg : g ∈ X) : Only X a b := ⟨h.os, h.tape, h.output, h.size, fun i hi hx => h.block i hi fun e => by injection e with e; exact hx (e ▸ hg)⟩
theorem Only.put {X : List Nat} (w : World) (g o : Nat) (v : Value) (hg : g ∈ X) : Only X w (w.setCell ⟨g, o, none⟩ v) :=
  Only.grown (g := g) ⟨rfl, rfl, rfl, by simp, fun k _ hk => heap_setCell_other w ⟨g, o, none⟩ k v (fun e => hk (by simp [e]))⟩ hg
theorem Only.below_of {X : List Nat} {N : Nat} {w0 w w' : World} (h : Only X w w') (k : Below N w0 w) (hN : N ≤ w.heap.size) (hX : ∀ x ∈ X, N ≤ x) : Below N w0 w' :=
  ⟨h.os.trans k.os, h.tape.trans k.tape, h.output.trans k.output, Nat.le_trans k.size h.size, fun i hi => (h.block i (by omega) (fun e => by have := hX i e; omega)).trans (k.block i hi)⟩
theorem Only.cell {X : List Nat} {w w' : World} (h : Only X w w') {b : Nat} (hb : b < w.heap.size) (hx : b ∉ X) (o : Nat) : w'.cell? ⟨b, o, none⟩ = w.cell? ⟨b, o, none⟩ := by
  simp only [World.cell?, h.block b hb hx]
theorem Only.frozen {X : List Nat} {w w' : World} (h : Only X w w') {b : Nat} (hb : b < w.heap.size) (hx : b ∉ X) (o : Nat) : w'.frozen? ⟨b, o, none⟩ = w.frozen? ⟨b, o, none⟩ := by
  simp only [World.frozen?, h.block b hb hx]

/-- A block's type. -/
def isT (w : World) (b : Nat) (t : TypeId) : Prop := ∃ cs, w.heap[b]? = some (.cells cs t (0, 0))
theorem isT.ne {w : World} {b b' : Nat} {t t' : TypeId} (h : isT w b t) (h' : isT w b' t') (hne : (t == t') = false) : b ≠ b' := by
  rintro rfl
  obtain ⟨c, h⟩ := h
  obtain ⟨c', h'⟩ := h'
  rw [h] at h'
  injection h' with h'
  injection h' with _ h'
  subst h'
  simp at hne
theorem isT.row {w : World} {b n : Nat} {t : TypeId} {f : Nat → Value} (h : w.rowIs b t n f) : isT w b t := by
  obtain ⟨c, h, _⟩ := h
  exact ⟨c, h⟩
theorem isT.own {α : Type} {K : Kd α} {w : World} {base g n c : Nat} {L : List α} (h : Own K w base (.slice (some ⟨g, 0, none⟩) n c) L) : isT w g K.T := by
  rcases h.2 with ⟨e, _⟩ | ⟨g', cap, cur, e, _, hg, _⟩
  · cases e
  · injection e with e
    injection e with e
    injection e with e
    subst e
    exact ⟨cur, hg⟩

section
variable {w w' : World} {B g K n : Nat} {A S : Int} {F : Fo}
theorem own_block {α : Type} {Q : Kd α} {w w' : World} {base g n c : Nat} {L : List α} (h : Own Q w base (.slice (some ⟨g, 0, none⟩) n c) L) (k : w'.heap[g]? = w.heap[g]?) : Own Q w' base (.slice (some ⟨g, 0, none⟩) n c) L := by
  refine ⟨h.1, ?_⟩
  rcases h.2 with hn | ⟨g', cap, cur, e, hb, hgg, rest⟩
  · exact .inl hn
  · refine .inr ⟨g', cap, cur, e, hb, ?_, rest⟩
    injection e with e
    injection e with e
    injection e with e
    subst e
    exact k.trans hgg
theorem set_read {R : List Cx} {i : Nat} {x : Cx} (h : R[i]? = some x) (y : Cx) : (R.set i y)[i]? = some y := set_get (List.getElem?_eq_some_iff.1 h).1
end
end Go.Proofs.Yteakglkagmghpaa.Sco

/-
  Contracts of package scopes: has, Ctl, Extent, Free, unmade, an entrance's enter.
-/
namespace Go.Proofs.Yteakglkagmghpaa.Sco
open Go.ChangeShapes Go.WideShapes Go.ChangeAt Go.RowKit
open Slic Gm
set_option linter.unusedVariables false
set_option maxRecDepth 8000
attribute [local go_sem ↓] Go.wp_at_zero Go.wp_at_succ

abbrev ptr (B : Nat) : Value := .pointer (some ⟨B, 0, none⟩)
section
variable {w w' : World} {B g K n : Nat} {A S : Int} {F : Fo}
/-- What Ctl and Extent tell. -/
def seeC (R : List Cx) (i : Int) : Ctl.R := if 0 ≤ i then (match R[i.toNat]? with | none => Ctl.no 11 | some x => ⟨x.s, x.c, x.p, x.e, 0⟩) else Ctl.no 11
def seeX (R : List Cx) (i : Int) : Int × Int × Int := if 0 ≤ i then (match R[i.toNat]? with | none => (0, 0, 11) | some x => (x.a, x.z, 0)) else (0, 0, 11)
theorem see_in {R : List Cx} {k : Nat} {x : Cx} (h : R[k]? = some x) : seeC R (k : Int) = ⟨x.s, x.c, x.p, x.e, 0⟩ ∧ seeX R (k : Int) = (x.a, x.z, 0) := by
  unfold seeC seeX
  rw [if_pos (by omega), if_pos (by omega), Int.toNat_natCast, h]
  exact ⟨rfl, rfl⟩

end
end Go.Proofs.Yteakglkagmghpaa.Sco

/-
  Contracts of package scopes: change, by each way in which a scope's word turns.
-/
namespace Go.Proofs.Yteakglkagmghpaa.Sco
open Go.ChangeShapes Go.WideShapes Go.ChangeAt Go.RowKit
open Slic Gm
set_option linter.unusedVariables false
set_option maxRecDepth 8000
set_option linter.unusedSimpArgs false
attribute [local go_sem ↓] Go.wp_at_zero Go.wp_at_succ
section
variable {w w' : World} {B g K n : Nat} {A S : Int} {F : Fo}
end
end Go.Proofs.Yteakglkagmghpaa.Sco

/-
  Contracts of package scopes: change, by each way in which a scope's word turns.
-/
namespace Go.Proofs.Yteakglkagmghpaa.Sco
open Go.ChangeShapes Go.WideShapes Go.ChangeAt Go.RowKit
open Slic Gm
set_option linter.unusedVariables false
set_option maxRecDepth 8000
set_option linter.unusedSimpArgs false
attribute [local go_sem ↓] Go.wp_at_zero Go.wp_at_succ
section
variable {w w' : World} {B g K n : Nat} {A S : Int} {F : Fo}
end
end Go.Proofs.Yteakglkagmghpaa.Sco

/-
  Contracts of package scopes: Create, Destroy, Enter, Leave, Open, Hold.
-/
namespace Go.Proofs.Yteakglkagmghpaa.Sco
open Go.ChangeShapes Go.WideShapes Go.ChangeAt Go.RowKit
open Slic Gm
set_option linter.unusedVariables false
set_option maxRecDepth 8000
set_option linter.unusedSimpArgs false
attribute [local go_sem ↓] Go.wp_at_zero Go.wp_at_succ

theorem find_at {R : List Cx} {k : Nat} (h : ∀ i (hi : i < R.length), i < k → fr R[i] = false) (hk : k < R.length) (hp : fr R[k] = true) : R.findIdx fr = k := by
  rw [List.findIdx_eq hk]
  exact ⟨hp, fun j hj => by rw [h j (by omega) hj]⟩
theorem find_none {R : List Cx} (h : ∀ i (hi : i < R.length), i < R.length → fr R[i] = false) : R.findIdx fr = R.length := by
  rw [List.findIdx_eq_length]
  intro e he
  obtain ⟨i, hi, rfl⟩ := List.mem_iff_getElem.1 he
  exact h i hi hi

section
variable {w w' : World} {B g K n : Nat} {A S : Int} {F : Fo}
end
end Go.Proofs.Yteakglkagmghpaa.Sco

/-
  Contracts of package scopes: Destroy, Enter, Leave, Open, Hold.
-/
namespace Go.Proofs.Yteakglkagmghpaa.Sco
open Go.ChangeShapes Go.WideShapes Go.ChangeAt Go.RowKit
open Slic Gm
set_option linter.unusedVariables false
set_option maxRecDepth 8000
set_option linter.unusedSimpArgs false
attribute [local go_sem ↓] Go.wp_at_zero Go.wp_at_succ
section
variable {w w' : World} {B g K n : Nat} {A S I J : Int} {F : Fo}
end
end Go.Proofs.Yteakglkagmghpaa.Sco

/-
  copy between slices of any element, onto a row of one's own (run_copyK; a law for the walk, a step for a drawn region); slices.Repeat of one record.
-/
namespace Go.Proofs.Yteakglkagmghpaa.Sco
open Go.ChangeShapes Go.WideShapes Go.ChangeAt Go.RowKit
open Slic Gm
set_option linter.unusedVariables false
set_option maxRecDepth 8000
set_option linter.unusedSimpArgs false
attribute [local go_sem ↓] Go.wp_at_zero Go.wp_at_succ

section
variable {α : Type} {Q : Kd α}
/-- What is copied onto a row. -/
def over (L M : List α) (off k : Nat) : List α := L.take off ++ M.take k ++ L.drop (off + k)
end

def z0 : Cx := ⟨0, 0, 0, 0, 0, 0⟩
end Go.Proofs.Yteakglkagmghpaa.Sco

/-
  Contract of package scopes: New, at every plan that may be.
-/
namespace Go.Proofs.Yteakglkagmghpaa.Sco
open Go.ChangeShapes Go.WideShapes Go.ChangeAt Go.RowKit
open Slic Gm Held
set_option linter.unusedVariables false
set_option maxRecDepth 8000
set_option linter.unusedSimpArgs false
attribute [local go_sem ↓] Go.wp_at_zero Go.wp_at_succ

def free0 : Cx := ⟨0, 0, -1, 0, 0, 0⟩
end Go.Proofs.Yteakglkagmghpaa.Sco
