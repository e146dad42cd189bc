/-
  What the laws of a model say of one call, in plain mathematics: counts; what a refusal leaves; what is another thread's.
-/
import Derived.Test.YtneggppfffekdaaGreatInvB
namespace Go.Proofs.YtneggppfffekdaaGreat.Mod
open Sco
set_option linter.unusedVariables false
set_option linter.unusedSimpArgs false
section
variable {Z : Fx} {k : Nat} {m : Mo}
theorem Iv.counts (v : Iv Z k m) {s : Nat} (hs : 1 ≤ s) (hn : s < Z.n) : ∃ x : Cx, m.F.R[s]? = some x ∧ x.c = (Mod.cou m.T s : Int) ∧ (x.s = 2 ↔ 0 < Mod.cou m.T s) ∧ (Mod.cou m.T s = 0 → x.p = -1 ∧ (m.ar s).u = 0 ∧ (m.ar s).g = 0) ∧ -1 ≤ x.p ∧ x.p ≤ 7 ∧ (0 < x.p → x.p < (Z.n : Int) ∧ ∃ y : Cx, m.F.R[x.p.toNat]? = some y ∧ y.s = 2) := by
  obtain ⟨x, a, hx, ha⟩ := v.scope hn
  obtain ⟨c1, c2⟩ := v.cou s x hs hx
  have hr := rightI (v.f.right s x hx)
  obtain ⟨q1, q2, q3, q4, q5⟩ := v.are s x a hx ha
  have ea : m.ar (s : Int) = a := by
    unfold Mo.ar
    rw [Int.toNat_natCast, List.getD_eq_getElem?_getD, ha]
    rfl
  refine ⟨x, hx, c2, by omega, fun h0 => ?_, by omega, by omega, fun hp => ?_⟩
  · rw [ea]
    have : x.s ≠ 2 := by omega
    exact ⟨by omega, q5 this⟩
  · obtain ⟨y, hy, hi⟩ := cou_some (T := m.T) (i := (s : Int)) (by omega)
    obtain ⟨u, u1, u2, u3⟩ := v.par y hy _ hi
    rw [Int.toNat_natCast, hx] at u1
    injection u1 with u1
    subst u1
    rcases Chain.fits_par (v.ent y hy).2.1 _ hi with e | ⟨e, _⟩
    · omega
    · obtain ⟨z, z1, z2, _⟩ := v.par y hy _ e
      rw [← u3] at z1
      have := (List.getElem?_eq_some_iff.1 z1).1
      have := v.f.len
      exact ⟨by omega, z, z1, z2⟩
/-- What is refused leaves all but what a finalizer that holds does. -/
def Same3 (m m' : Mo) : Prop := m'.F = m.F ∧ m'.A = m.A ∧ m'.T = m.T
theorem Same3.refl (m : Mo) : Same3 m m := ⟨rfl, rfl, rfl⟩
def Ref1 (m : Mo) (r : Re2) : Prop := r.1.c ≠ 0 → (r.1.c ≠ 25 → r.1.n = 0 ∧ r.1.said = []) ∧ Same3 m r.2
theorem ref_no (m : Mo) (x : Int) : Ref1 m (no x, m) := fun _ => ⟨fun _ => ⟨rfl, rfl⟩, Same3.refl m⟩
theorem ref_ok {m : Mo} {r : Re2} (h : r.1.c = 0) : Ref1 m r := fun c => absurd h c
theorem Iv.ref_exit (v : Iv Z k m) (FF : List (List Fina.O)) {t : Nat} (ht : t < Z.nt) : Ref1 m (exitV FF m t) := by
  unfold exitV
  split
  · exact ref_no _ _
  · split
    · exact ref_ok rfl
    · split
      · exact ref_no _ _
      · rename_i hx0
        have hx0 : (turnV m.F (Chain.lastV (m.ents t)).1 leF).x = 0 := Decidable.not_not.1 hx0
        split
        · exact ref_ok rfl
        · rename_i hd
          unfold lastV
          split
          · refine fun _ => ⟨fun h => absurd rfl h, ?_, rfl, rfl⟩
            obtain ⟨x, hl, h0, eq⟩ := turn_ok hx0
            obtain ⟨h1, h2, h3⟩ := look_in hl
            obtain ⟨s, hs⟩ : ∃ s : Nat, (Chain.lastV (m.ents t)).1 = s := ⟨(Chain.lastV (m.ents t)).1.toNat, by omega⟩
            rw [hs] at hl h1 h2 h3 eq hd ⊢
            rw [Int.toNat_natCast] at h3
            have hr := v.f.right _ x h3
            have hx : leF x = Ctl.leV x.s x.c x.p x.e := rfl
            have e0 : Ctl.leV x.s x.c x.p x.e = if x.s = 2 then (if x.c = 1 then ⟨3, 0, x.p, x.e, 0⟩ else ⟨2, x.c - 1, x.p, x.e, 0⟩) else Ctl.no 11 := by unfold Ctl.leV; rw [if_pos hr]
            have hst : x.s = 2 := by
              by_cases q : x.s = 2
              · exact q
              · rw [hx, e0, if_neg q] at h0
                exact absurd h0 (by decide)
            have hc : x.c = 1 := by
              by_cases q : x.c = 1
              · exact q
              · rw [eq, hx, e0, if_pos hst, if_neg q] at hd
                exact absurd rfl hd
            obtain ⟨t1, t2, t3⟩ := last_turn (by omega) h3 hr hst hc
            show (turnV (turnV m.F (s : Int) leF).F (s : Int) hoF).F = m.F
            rw [t1]
            exact t2
          · exact ref_ok rfl
theorem ref_create (m : Mo) (z : Int) : Ref1 m (createM m z) := by
  unfold createM createV
  split
  · exact fun _ => ⟨fun _ => ⟨rfl, rfl⟩, rfl, rfl, rfl⟩
  · split
    · exact fun _ => ⟨fun _ => ⟨rfl, rfl⟩, rfl, rfl, rfl⟩
    · split
      · exact ref_ok rfl
      · exact fun _ => ⟨fun _ => ⟨rfl, rfl⟩, rfl, rfl, rfl⟩
theorem ref_destroy (m : Mo) (i : Int) : Ref1 m (destroyM m i) := by
  unfold destroyM destroyV
  split
  · exact fun _ => ⟨fun _ => ⟨rfl, rfl⟩, rfl, rfl, rfl⟩
  · split
    · exact fun _ => ⟨fun _ => ⟨rfl, rfl⟩, rfl, rfl, rfl⟩
    · split
      · exact ref_ok rfl
      · exact fun _ => ⟨fun _ => ⟨rfl, rfl⟩, rfl, rfl, rfl⟩
theorem Iv.ref (v : Iv Z k m) (FF : List (List Fina.O)) {t : Nat} (ht : t < Z.nt) (c : Ca) : Ref1 m (doM FF m t c) := by
  unfold doM
  by_cases h0 : badC c = true
  · rw [if_pos h0]
    exact ref_no _ _
  rw [if_neg h0]
  by_cases h1 : c.op = 0
  · rw [if_pos h1]
    exact ref_no _ _
  rw [if_neg h1]
  by_cases h2 : c.op = 1
  · rw [if_pos h2]
    exact ref_ok rfl
  rw [if_neg h2]
  by_cases h3 : c.op = 2
  · rw [if_pos h3]
    exact ref_create _ _
  rw [if_neg h3]
  by_cases h4 : c.op = 3
  · rw [if_pos h4]
    exact ref_destroy _ _
  rw [if_neg h4]
  by_cases h5 : c.op = 4
  · rw [if_pos h5]
    unfold enterV
    repeat' split
    all_goals first | exact ref_no _ _ | exact ref_ok rfl
  rw [if_neg h5]
  by_cases h6 : c.op = 5
  · rw [if_pos h6]
    exact v.ref_exit FF ht
  rw [if_neg h6]
  by_cases h7 : c.op = 6
  · rw [if_pos h7]
    unfold inV
    repeat' split
    all_goals first | exact ref_no _ _ | exact ref_ok rfl
  rw [if_neg h7]
  by_cases h8 : c.op = 7
  · rw [if_pos h8]
    unfold allocV give
    repeat' split
    all_goals first | exact ref_no _ _ | exact ref_ok rfl
  rw [if_neg h8]
  by_cases h9 : c.op = 8
  · rw [if_pos h9]
    unfold loadV give
    repeat' split
    all_goals first | exact ref_no _ _ | exact ref_ok rfl
  rw [if_neg h9]
  by_cases h10 : c.op = 9
  · rw [if_pos h10]
    unfold storeV
    repeat' split
    all_goals first | exact ref_no _ _ | exact ref_ok rfl
  rw [if_neg h10]
  by_cases h11 : c.op = 10
  · rw [if_pos h11]
    unfold lookV give
    repeat' split
    all_goals first | exact ref_no _ _ | exact ref_ok rfl
  rw [if_neg h11]
  by_cases h12 : c.op = 11
  · rw [if_pos h12]
    unfold gateV
    repeat' split
    all_goals first | exact ref_no _ _ | exact ref_ok rfl
  · rw [if_neg h12]
    exact ref_no _ _
/-- Another thread's is as it was. -/
def Oth (t : Nat) (T T' : List Th) : Prop := ∀ u : Nat, u ≠ t → T'[u]? = T[u]?
theorem oth_refl (t : Nat) (T : List Th) : Oth t T T := fun _ _ => rfl
theorem oth_set (t : Nat) (T : List Th) (y : Th) : Oth t T (T.set t y) := fun u hu => by rw [List.getElem?_set, if_neg (fun e => hu e.symm)]
theorem do_oth (FF : List (List Fina.O)) (m : Mo) (t : Nat) (c : Ca) : Oth t m.T (doM FF m t c).2.T := by
  unfold doM
  by_cases h0 : badC c = true
  · rw [if_pos h0]
    exact oth_refl _ _
  rw [if_neg h0]
  by_cases h1 : c.op = 0
  · rw [if_pos h1]
    exact oth_refl _ _
  rw [if_neg h1]
  by_cases h2 : c.op = 1
  · rw [if_pos h2]
    exact oth_set _ _ _
  rw [if_neg h2]
  by_cases h3 : c.op = 2
  · rw [if_pos h3]
    exact oth_refl _ _
  rw [if_neg h3]
  by_cases h4 : c.op = 3
  · rw [if_pos h4]
    exact oth_refl _ _
  rw [if_neg h4]
  by_cases h5 : c.op = 4
  · rw [if_pos h5]
    unfold enterV
    repeat' split
    all_goals first | exact oth_refl _ _ | exact oth_set _ _ _
  rw [if_neg h5]
  by_cases h6 : c.op = 5
  · rw [if_pos h6]
    unfold exitV lastV
    repeat' split
    all_goals first | exact oth_refl _ _ | exact oth_set _ _ _
  rw [if_neg h6]
  by_cases h7 : c.op = 6
  · rw [if_pos h7]
    unfold inV
    repeat' split
    all_goals first | exact oth_refl _ _ | exact oth_set _ _ _
  rw [if_neg h7]
  by_cases h8 : c.op = 7
  · rw [if_pos h8]
    unfold allocV give
    repeat' split
    all_goals first | exact oth_refl _ _ | exact oth_set _ _ _
  rw [if_neg h8]
  by_cases h9 : c.op = 8
  · rw [if_pos h9]
    unfold loadV give
    repeat' split
    all_goals first | exact oth_refl _ _ | exact oth_set _ _ _
  rw [if_neg h9]
  by_cases h10 : c.op = 9
  · rw [if_pos h10]
    unfold storeV
    repeat' split
    all_goals first | exact oth_refl _ _ | exact oth_set _ _ _
  rw [if_neg h10]
  by_cases h11 : c.op = 10
  · rw [if_pos h11]
    unfold lookV give
    repeat' split
    all_goals first | exact oth_refl _ _ | exact oth_set _ _ _
  rw [if_neg h11]
  by_cases h12 : c.op = 11
  · rw [if_pos h12]
    unfold gateV
    repeat' split
    all_goals first | exact oth_refl _ _ | exact oth_set _ _ _
  · rw [if_neg h12]
    exact oth_refl _ _
/-- What asks nothing to change. -/
def calm (c : Ca) : Bool := decide (c.op = 0 ∨ c.op = 1 ∨ c.op = 6 ∨ c.op = 8 ∨ c.op = 10)
theorem do_calm (FF : List (List Fina.O)) (m : Mo) (t : Nat) {c : Ca} (h : calm c = true) : (doM FF m t c).2.F = m.F ∧ (doM FF m t c).2.A = m.A := by
  have h : c.op = 0 ∨ c.op = 1 ∨ c.op = 6 ∨ c.op = 8 ∨ c.op = 10 := of_decide_eq_true h
  unfold doM
  by_cases hb : badC c = true
  · rw [if_pos hb]
    exact ⟨rfl, rfl⟩
  rw [if_neg hb]
  rcases h with h | h | h | h | h
  all_goals simp only [h]
  · exact ⟨rfl, rfl⟩
  · exact ⟨rfl, rfl⟩
  · show (inV m t c.a).2.F = m.F ∧ (inV m t c.a).2.A = m.A
    unfold inV
    repeat' split
    all_goals exact ⟨rfl, rfl⟩
  · show (loadV m t c).2.F = m.F ∧ (loadV m t c).2.A = m.A
    unfold loadV give
    repeat' split
    all_goals exact ⟨rfl, rfl⟩
  · show (lookV m t c).2.F = m.F ∧ (lookV m t c).2.A = m.A
    unfold lookV give
    repeat' split
    all_goals exact ⟨rfl, rfl⟩
end
end Go.Proofs.YtneggppfffekdaaGreat.Mod
