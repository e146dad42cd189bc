/-
  What is so of every state of a model.
-/
import Derived.Test.YtneggppfffekdaaGreatCoD
namespace Go.Proofs.YtneggppfffekdaaGreat.Mod
open Sco
set_option linter.unusedVariables false

/-- How often a scope is entered, counted. -/
def cou (T : List Th) (i : Int) : Nat := (T.map fun t => t.c.countP (Chain.hit i)).sum
structure Iv (Z : Fx) (k : Nat) (m : Mo) : Prop where
  f : Inv Z.n Z.A Z.S Z.I Z.J m.F
  nA : m.A.length = Z.n
  nT : m.T.length = Z.nt
  nt : 1 ≤ Z.nt ∧ Z.nt ≤ 4
  im : 8 ≤ Z.I ∧ Z.I % 8 = 0 ∧ 0 ≤ Z.J ∧ Z.J % 8 = 0 ∧ Z.I + Z.J = Z.A
  hp : Z.A + Z.S ≤ 65536
  cnt : m.O.length ≤ k
  reg : ∀ t ∈ m.T, ∀ i, wf64 (t.r i)
  ent : ∀ t ∈ m.T, t.c.length ≤ 6 ∧ Chain.Fits t.c ∧ ∀ e ∈ t.c, 0 ≤ e.1 ∧ e.1 < (Z.n : Int)
  par : ∀ t ∈ m.T, ∀ i : Int, Chain.inP t.c i → ∃ x : Cx, m.F.R[i.toNat]? = some x ∧ x.s = 2 ∧ x.p = Chain.parV t.c i
  cou : ∀ (i : Nat) (x : Cx), 1 ≤ i → m.F.R[i]? = some x → x.s ≠ 3 ∧ x.c = (cou m.T i : Int)
  are : ∀ (i : Nat) (x : Cx) (a : Ar), m.F.R[i]? = some x → m.A[i]? = some a → wf64 a.g ∧ 0 ≤ a.u ∧ a.u % 8 = 0 ∧ a.u ≤ x.z ∧ (x.s ≠ 2 → a.u = 0 ∧ a.g = 0)
  obj : ∀ o ∈ m.O, 0 ≤ o.s ∧ ∃ (x : Cx) (a : Ar), m.F.R[o.s.toNat]? = some x ∧ m.A[o.s.toNat]? = some a ∧ o.e = x.e ∧ x.a ≤ o.a ∧ o.a % 8 = 0 ∧ o.a + 16 ≤ x.a + a.u ∧ o.sl.length ≤ 6 ∧ (∀ v ∈ o.sl, wf64 v) ∧ 0 ≤ o.tag ∧ o.tag ≤ 7
  ord : m.O.Pairwise fun o p => o.s = p.s → o.a + 16 ≤ p.a
section
variable {Z : Fx} {k : Nat} {m : Mo}
theorem Iv.n8 (v : Iv Z k m) : Z.n ≤ 8 := v.f.n8
theorem Iv.n1 (v : Iv Z k m) : 1 ≤ Z.n := v.f.n1
theorem Iv.th_mem (v : Iv Z k m) {t : Nat} (ht : t < Z.nt) : m.th t ∈ m.T := by
  have : t < m.T.length := by rw [v.nT]; exact ht
  unfold Mo.th
  rw [List.getD_eq_getElem?_getD, List.getElem?_eq_getElem this]
  exact List.getElem_mem this
theorem Iv.wreg (v : Iv Z k m) {t : Nat} (ht : t < Z.nt) (i : Int) : wf64 (m.reg t i) := v.reg _ (v.th_mem ht) _
theorem Iv.l6 (v : Iv Z k m) {t : Nat} (ht : t < Z.nt) : (m.ents t).length ≤ 6 := (v.ent _ (v.th_mem ht)).1
theorem Iv.fit (v : Iv Z k m) {t : Nat} (ht : t < Z.nt) : Chain.Fits (m.ents t) := (v.ent _ (v.th_mem ht)).2.1
theorem Iv.sl (v : Iv Z k m) : ∀ o ∈ m.O, o.sl.length ≤ 1000000 := fun o ho => by
  obtain ⟨_, x, a, _, _, _, _, _, _, h, _⟩ := v.obj o ho
  omega
theorem Iv.scope (v : Iv Z k m) {i : Nat} (hi : i < Z.n) : ∃ (x : Cx) (a : Ar), m.F.R[i]? = some x ∧ m.A[i]? = some a := by
  have h1 := v.f.len
  have h2 := v.nA
  exact ⟨m.F.R[i], m.A[i], List.getElem?_eq_getElem (by omega), List.getElem?_eq_getElem (by omega)⟩
/-- A live scope's extent. -/
theorem Iv.live (v : Iv Z k m) {i : Nat} {x : Cx} (hx : m.F.R[i]? = some x) (hs : x.s = 2) : 8 ≤ x.a ∧ x.a % 8 = 0 ∧ 0 ≤ x.z ∧ x.z % 8 = 0 ∧ x.a + x.z ≤ 65536 ∧ 0 ≤ x.e ∧ x.e ≤ 16777215 ∧ i ≤ 7 := by
  obtain ⟨i1, i2, i3, i4, i5⟩ := v.im
  have h1 := v.hp
  have h2 := v.n8
  have h3 := v.f.len
  have hi : i < m.F.R.length := (List.getElem?_eq_some_iff.1 hx).1
  have hr := rightI (v.f.right i x hx)
  have s0 := v.f.ok.s0
  rcases Nat.eq_zero_or_pos i with rfl | hp
  · have hz := v.f.zero
    rw [hz] at hx
    injection hx with hx
    subst hx
    exact ⟨i1, i2, i3, i4, by show Z.I + Z.J ≤ 65536; omega, by show (0 : Int) ≤ 0; decide, by show (0 : Int) ≤ 16777215; decide, by omega⟩
  · rcases v.f.ext i x hx hp with ⟨e, _⟩ | ⟨_, e1, e2, e3, e4, e5⟩
    · omega
    · exact ⟨by omega, e3, by omega, e2, by omega, by omega, by omega, by omega⟩
theorem Iv.rt (v : Iv Z k m) : Rt m := fun o ho => by
  obtain ⟨h0, x, a, hx, ha, e1, e2, e3, e4, _⟩ := v.obj o ho
  obtain ⟨_, a1, a2, a3, a4⟩ := v.are _ x a hx ha
  have hs : x.s = 2 := by
    rcases Int.decEq x.s 2 with c | c
    · have := a4 c
      omega
    · exact c
  obtain ⟨l1, l2, l3, l4, l5, l6, l7, l8⟩ := v.live hx hs
  exact decide_eq_true (by omega)
/-- Handles are unlike. -/
theorem Iv.hne (v : Iv Z k m) : m.O.Pairwise fun o p => o.h ≠ p.h := by
  refine List.Pairwise.imp_of_mem ?_ v.ord
  intro o p ho hp h e
  have e1 := v.rt.un ho
  have e2 := v.rt.un hp
  rw [e, e2] at e1
  injection e1 with a b c d
  have := h a.symm
  omega
theorem Iv.area (v : Iv Z k m) {t : Nat} (ht : t < Z.nt) : ∃ (x : Cx) (a : Ar), 0 ≤ Chain.areaV (m.ents t) ∧ Chain.areaV (m.ents t) < (Z.n : Int) ∧ m.F.R[(Chain.areaV (m.ents t)).toNat]? = some x ∧ m.A[(Chain.areaV (m.ents t)).toNat]? = some a ∧ x.s = 2 := by
  have n1 := v.n1
  rcases Chain.fits_area (v.fit ht) with e | e
  · obtain ⟨x, a, hx, ha⟩ := v.scope (i := 0) (by omega)
    have hz := v.f.zero
    rw [hx] at hz
    injection hz with hz
    refine ⟨x, a, by omega, by omega, by rw [e]; exact hx, by rw [e]; exact ha, by rw [hz]⟩
  · obtain ⟨x, hx, hs, _⟩ := v.par _ (v.th_mem ht) _ e
    have hr := Chain.fits_range (v.fit ht) _ e
    have hl := (List.getElem?_eq_some_iff.1 hx).1
    have h3 := v.f.len
    obtain ⟨x', a, hx', ha⟩ := v.scope (i := (Chain.areaV (m.ents t)).toNat) (by omega)
    exact ⟨x, a, by omega, by omega, hx, ha, hs⟩
end
end Go.Proofs.YtneggppfffekdaaGreat.Mod
