/-
  Handles that were told are never told again: epochs rise, and objects lie one behind the other.
-/
import Derived.Test.YtneggppfffekdaaGreatPure
namespace Go.Proofs.YtneggppfffekdaaGreat.Mod
open Sco Gm
set_option linter.unusedVariables false
set_option linter.unusedSimpArgs false
structure Told (m : Mo) (j : Nat) (L : List Int) : Prop where
  ep : ∀ (i : Nat) (x : Cx), m.F.R[i]? = some x → x.e ≤ j
  is : ∀ h ∈ L, ∃ (s : Nat) (e a : Int) (x : Cx) (b : Ar), h = Refs.handle s e a ∧ Refs.rightB s e a = true ∧ m.F.R[s]? = some x ∧ m.A[s]? = some b ∧ (e < x.e ∨ (e = x.e ∧ a + 16 ≤ x.a + b.u))
/-- What a call may make of a scope. -/
def up1 (x : Cx) (a : Ar) (x' : Cx) (a' : Ar) : Prop := x'.e ≤ x.e + 1 ∧ (x.e < x'.e ∨ (x'.e = x.e ∧ ((x'.a = x.a ∧ a.u ≤ a'.u) ∨ x.a + a.u ≤ 0)))
theorem up1_refl (x : Cx) (a : Ar) : up1 x a x a := ⟨by omega, .inr ⟨rfl, .inl ⟨rfl, Int.le_refl _⟩⟩⟩
def UpR (m m' : Mo) : Prop := m'.F.R.length = m.F.R.length ∧ m'.A.length = m.A.length ∧ ∀ (i : Nat) (x : Cx) (a : Ar) (x' : Cx) (a' : Ar), m.F.R[i]? = some x → m.A[i]? = some a → m'.F.R[i]? = some x' → m'.A[i]? = some a' → up1 x a x' a'
theorem UpR.same {m m' : Mo} (h1 : m'.F.R = m.F.R) (h2 : m'.A = m.A) : UpR m m' := ⟨by rw [h1], by rw [h2], fun i x a x' a' p q r s => by
  rw [h1, p] at r
  rw [h2, q] at s
  injection r with r
  injection s with s
  subst r s
  exact up1_refl _ _⟩
theorem UpR.set {m m' : Mo} {s : Nat} {x y : Cx} (hx : m.F.R[s]? = some x) (hR : m'.F.R = m.F.R.set s y) (hl : m'.A.length = m.A.length) (hA : ∀ i, i ≠ s → m'.A[i]? = m.A[i]?) (hs : ∀ a a', m.A[s]? = some a → m'.A[s]? = some a' → up1 x a y a') : UpR m m' := ⟨by rw [hR, List.length_set], hl, fun i u a u' a' p q r t => by
  rw [hR] at r
  rcases get_set r with ⟨rfl, rfl, _⟩ | ⟨hne, r⟩
  · rw [hx] at p
    injection p with p
    subst p
    exact hs a a' q t
  · rw [hA i hne, q] at t
    rw [p] at r
    injection r with r
    injection t with t
    subst r t
    exact up1_refl _ _⟩
theorem Told.up {Z : Fx} {k j : Nat} {m m' : Mo} {L : List Int} (h : Told m j L) (v : Iv Z k m) (u : UpR m m') : Told m' (j + 1) L := by
  obtain ⟨l1, l2, u⟩ := u
  refine ⟨fun i x' hx' => ?_, fun q hq => ?_⟩
  · have hi := (List.getElem?_eq_some_iff.1 hx').1
    have hn := v.f.len
    have ha := v.nA
    obtain ⟨x, a, hx, ha'⟩ := v.scope (i := i) (by omega)
    have hA : m'.A[i]? = some (m'.A[i]'(by omega)) := List.getElem?_eq_getElem (by omega)
    obtain ⟨c, _⟩ := u i x a x' _ hx ha' hx' hA
    have := h.ep i x hx
    omega
  · obtain ⟨s, e, a, x, b, h1, h2, h3, h4, h5⟩ := h.is q hq
    have k1 := (List.getElem?_eq_some_iff.1 h3).1
    have k2 := (List.getElem?_eq_some_iff.1 h4).1
    have hR : m'.F.R[s]? = some (m'.F.R[s]'(by omega)) := List.getElem?_eq_getElem (by omega)
    have hA : m'.A[s]? = some (m'.A[s]'(by omega)) := List.getElem?_eq_getElem (by omega)
    refine ⟨s, e, a, _, _, h1, h2, hR, hA, ?_⟩
    obtain ⟨c1, c2⟩ := u s x b _ _ h3 h4 hR hA
    have hr := Refs.rbounds h2
    rcases c2 with c2 | ⟨c2, ⟨c3, c4⟩ | c3⟩
    · left; omega
    · rcases h5 with h5 | ⟨h5, h6⟩
      · left; omega
      · right
        exact ⟨by omega, by omega⟩
    · rcases h5 with h5 | ⟨h5, h6⟩
      · left; omega
      · omega
section
variable {Z : Fx} {k j : Nat} {m : Mo}
theorem Iv.up_exit (v : Iv Z k m) (FF : List (List Fina.O)) {t : Nat} (ht : t < Z.nt) (hj : ∀ (i : Nat) (x : Cx), m.F.R[i]? = some x → x.e < 16777215) : UpR m (exitV FF m t).2 := by
  unfold exitV
  by_cases hp : Chain.popE (m.ents t) ≠ 0
  · rw [if_pos hp]
    exact .same rfl rfl
  rw [if_neg hp]
  by_cases hc : (Chain.lastV (m.ents t)).2 = false
  · rw [if_pos hc]
    exact .same rfl rfl
  rw [if_neg hc]
  generalize (Chain.lastV (m.ents t)).1 = i
  by_cases hx : (turnV m.F i leF).x ≠ 0
  · rw [if_pos hx]
    exact .same rfl rfl
  rw [if_neg hx]
  have hx0 : (turnV m.F i leF).x = 0 := Decidable.not_not.1 hx
  obtain ⟨x, hl, h0, eq⟩ := turn_ok hx0
  obtain ⟨h1, h2, h3⟩ := look_in hl
  obtain ⟨s, rfl⟩ : ∃ s : Nat, i = s := ⟨i.toNat, by omega⟩
  rw [Int.toNat_natCast] at h3
  have hr := v.f.right _ x h3
  have hle : leF x = Ctl.leV x.s x.c x.p x.e := rfl
  have e0 : Ctl.leV x.s x.c x.p x.e = if x.s = 2 then (if x.c = 1 then ⟨3, 0, x.p, x.e, 0⟩ else ⟨2, x.c - 1, x.p, x.e, 0⟩) else Ctl.no 11 := by unfold Ctl.leV; rw [if_pos hr]
  have hst : x.s = 2 := by
    by_cases q : x.s = 2
    · exact q
    · rw [hle, e0, if_neg q] at h0
      exact absurd h0 (by decide)
  by_cases h1c : x.c = 1
  · obtain ⟨t1, t2, t3⟩ := last_turn (by omega) h3 hr hst h1c
    rw [t1]
    dsimp only
    rw [if_neg (by simp)]
    unfold lastV
    by_cases hh : finHeld FF (s : Int) m.O = true
    · rw [if_pos hh, t2]
      exact .same rfl rfl
    · rw [if_neg hh, t3]
      refine UpR.set (m' := Mo.setEnt ⟨⟨m.F.R.set s ⟨1, 0, -1, (x.e + 1) % 16777216, x.a, x.z⟩, m.F.L⟩, m.O.filter (fun o => !decide (o.s = (s : Int))), m.A.set (s : Int).toNat ar0, m.T⟩ t (m.ents t).dropLast) h3 rfl (List.length_set ..) (fun i hi => ?_) (fun a a' _ _ => ?_)
      · show (m.A.set (s : Int).toNat ar0)[i]? = _
        rw [Int.toNat_natCast, gset_other hi]
      · have := hj s x h3
        have he := (rightI hr).1
        refine ⟨?_, .inl ?_⟩
        · show (x.e + 1) % 16777216 ≤ x.e + 1
          omega
        · show x.e < (x.e + 1) % 16777216
          omega
  · have t1 : turnV m.F (s : Int) leF = ⟨0, 0, false, ⟨m.F.R.set s ⟨2, x.c - 1, x.p, x.e, x.a, x.z⟩, m.F.L⟩⟩ := by
      rw [eq, hle, e0, if_pos hst, if_neg h1c, Int.toNat_natCast]
      rfl
    rw [t1]
    dsimp only
    rw [if_pos rfl]
    refine UpR.set (m' := Mo.setEnt ⟨⟨m.F.R.set s ⟨2, x.c - 1, x.p, x.e, x.a, x.z⟩, m.F.L⟩, m.O, m.A, m.T⟩ t (m.ents t).dropLast) h3 rfl rfl (fun i hi => rfl) (fun a a' p q => ?_)
    have q : m.A[s]? = some a' := q
    rw [p] at q
    injection q with q
    subst q
    exact ⟨by show x.e ≤ x.e + 1; omega, .inr ⟨rfl, .inl ⟨rfl, Int.le_refl _⟩⟩⟩
theorem Iv.up_create (v : Iv Z k m) (z : Int) : UpR m (createM m z).2 := by
  have hp := v.f.fr_pos
  unfold createM createV
  by_cases hz : z < 1 ∨ 8192 < z
  · rw [if_pos hz]
    exact .same rfl rfl
  rw [if_neg hz]
  cases hl : m.F.R[m.F.R.findIdx fr]? with
  | none => exact .same rfl rfl
  | some x =>
    by_cases hb : Gr.carveB (upz z) m.F.L = true
    · simp only [hb, if_true]
      refine UpR.set (m' := ⟨⟨m.F.R.set (m.F.R.findIdx fr) (made x (carveA (upz z) m.F.L) (upz z)), carveL (upz z) m.F.L⟩, m.O, m.A, m.T⟩) hl rfl rfl (fun i hi => rfl) (fun a a' p q => ?_)
      have h0 := fr_at hl
      obtain ⟨_, _, _, _, u⟩ := v.are _ x a hl p
      obtain ⟨u0, _⟩ := u (by omega)
      rcases v.f.ext _ x hl hp with ⟨_, e, _⟩ | ⟨e, _⟩
      · exact ⟨by show x.e ≤ x.e + 1; omega, .inr ⟨rfl, .inr (by omega)⟩⟩
      · exact absurd h0 e
    · simp only [hb]
      exact .same rfl rfl
theorem Iv.up_destroy (v : Iv Z k m) (hj : ∀ (i : Nat) (x : Cx), m.F.R[i]? = some x → x.e < 16777215) (i : Int) : UpR m (destroyM m i).2 := by
  unfold destroyM destroyV
  cases hl : Sco.look m.F.R i with
  | none => exact .same rfl rfl
  | some x =>
    obtain ⟨h1, h2, h3⟩ := look_in hl
    by_cases s0 : x.s = 0
    · simp only [s0, if_true]
      exact .same rfl rfl
    · by_cases s1 : x.s = 1
      · simp only [s1, if_true, show ¬ ((1 : Int) = 0) by decide, if_false]
        refine UpR.set (m' := ⟨⟨m.F.R.set i.toNat (gone x), giveL x.a (x.a + x.z) m.F.L⟩, m.O, m.A, m.T⟩) h3 rfl rfl (fun i hi => rfl) (fun a a' p q => ?_)
        have := hj _ x h3
        have he := (rightI (v.f.right _ x h3)).1
        refine ⟨?_, .inl ?_⟩
        · show (x.e + 1) % 16777216 ≤ x.e + 1
          omega
        · show x.e < (x.e + 1) % 16777216
          omega
      · simp only [s0, s1, if_false]
        exact .same rfl rfl
theorem Iv.up_enter (v : Iv Z k m) (t : Nat) (i : Int) : UpR m (enterV m t i).2 := by
  unfold enterV
  by_cases c1 : scopeB m i = false
  · rw [if_pos c1]; exact .same rfl rfl
  rw [if_neg c1]
  by_cases c2 : Chain.pushE (m.ents t) ≠ 0
  · rw [if_pos c2]; exact .same rfl rfl
  rw [if_neg c2]
  by_cases c3 : (turnV m.F i (enF (Chain.areaV (m.ents t)))).x ≠ 0
  · rw [if_pos c3]; exact .same rfl rfl
  rw [if_neg c3]
  obtain ⟨x, hl, h0, e⟩ := turn_ok (Decidable.not_not.1 c3)
  rw [e]
  obtain ⟨h1, h2, h3⟩ := look_in hl
  refine UpR.set (m' := Mo.setEnt ⟨⟨m.F.R.set i.toNat (x.turn (enF (Chain.areaV (m.ents t)) x)), m.F.L⟩, m.O, m.A, m.T⟩ t (m.ents t ++ [(i, true)])) h3 rfl rfl (fun i hi => rfl) (fun a a' p q => ?_)
  have q : m.A[i.toNat]? = some a' := q
  rw [p] at q
  injection q with q
  subst q
  have ee : (enF (Chain.areaV (m.ents t)) x).e = x.e := by
    have hx : (enF (Chain.areaV (m.ents t)) x) = Ctl.entV x.s x.c x.p x.e (Chain.areaV (m.ents t)) := rfl
    rw [hx] at h0 ⊢
    rcases Ctl.ent_cases x.s x.c x.p x.e (Chain.areaV (m.ents t)) with ⟨hr, he⟩ | ⟨hr, hf, he⟩ | ⟨hr, f1, f2, h1, he⟩ | ⟨hr, f1, f2, h1, he⟩ | ⟨hr, f1, f2, h1, he⟩ | ⟨hr, f1, f2, h1, hp, he⟩ | ⟨hr, f1, f2, h1, h2, h3, he⟩ | ⟨hr, f1, f2, h1, h2, hc1, hc2, he⟩
    all_goals rw [he] at h0 ⊢
    all_goals first | rfl | exact absurd h0 (by decide)
  have e1 : (x.turn (enF (Chain.areaV (m.ents t)) x)).e = x.e := ee
  exact ⟨by omega, .inr ⟨e1, .inl ⟨rfl, Int.le_refl _⟩⟩⟩
theorem UpR.setA {m : Mo} {s : Nat} {b : Ar} {F : Fo} (hF : F = m.F) {O : List Ob} {T : List Th} (hb : ∀ a, m.A[s]? = some a → a.u ≤ b.u) : UpR m ⟨F, O, m.A.set s b, T⟩ := by
  subst hF
  refine ⟨rfl, List.length_set .., fun i x a x' a' p q r t => ?_⟩
  have r : m.F.R[i]? = some x' := r
  rw [p] at r
  injection r with r
  subst r
  rcases gset t with ⟨rfl, rfl, _⟩ | ⟨hne, t⟩
  · exact ⟨by omega, .inr ⟨rfl, .inl ⟨rfl, hb a q⟩⟩⟩
  · rw [q] at t
    injection t with t
    subst t
    exact up1_refl _ _
theorem Iv.up_alloc (v : Iv Z k m) {t : Nat} (ht : t < Z.nt) (c : Ca) : UpR m (allocV m t c).2 := by
  unfold allocV
  by_cases c1 : (Heads.wordsV c.a c.b).err ≠ 0 ∨ ¬ (0 ≤ c.c ∧ c.c ≤ 7)
  · rw [if_pos c1]; exact .same rfl rfl
  rw [if_neg c1]
  by_cases c2 : roomX m (Chain.areaV (m.ents t)) ((Heads.wordsV c.a c.b).n * 8) ≠ 0
  · rw [if_pos c2]; exact .same rfl rfl
  rw [if_neg c2]
  unfold give Mo.setReg putOb
  refine UpR.setA rfl fun a ha => ?_
  have ea : m.ar (newOb m (Chain.areaV (m.ents t)) c).s = a := by
    unfold Mo.ar
    rw [List.getD_eq_getElem?_getD, ha]
    rfl
  rw [ea]
  have : 0 ≤ (Heads.wordsV c.a c.b).n := by
    unfold Heads.wordsV
    by_cases hm : Heads.mayB c.a c.b = true
    · rw [if_pos hm]
      obtain ⟨a0, a6, b1, b2⟩ := of_decide_eq_true hm
      show 0 ≤ 2 + c.a + (c.b + 7) / 8
      omega
    · rw [if_neg hm]
      exact Int.le_refl 0
  show a.u ≤ a.u + _
  omega
theorem Iv.up_gate (v : Iv Z k m) (t : Nat) (c : Ca) : UpR m (gateV m t c).2 := by
  unfold gateV
  by_cases c1 : reachX m (m.ents t) c.a ≠ 0
  · rw [if_pos c1]; exact .same rfl rfl
  rw [if_neg c1]
  by_cases c2 : m.fits (m.ents t) (m.reg t c.v) c.a ≠ 0
  · rw [if_pos c2]; exact .same rfl rfl
  rw [if_neg c2]
  refine UpR.setA rfl fun a ha => ?_
  have ea : m.ar c.a = a := by
    unfold Mo.ar
    rw [List.getD_eq_getElem?_getD, ha]
    rfl
  rw [ea]
  exact Int.le_refl _
theorem up_rest {r : Re2} (h : r.2.F = m.F ∧ r.2.A = m.A) : UpR m r.2 := .same (by rw [h.1]) h.2
theorem Iv.up (v : Iv Z k m) (FF : List (List Fina.O)) {t : Nat} (ht : t < Z.nt) (c : Ca) (hj : ∀ (i : Nat) (x : Cx), m.F.R[i]? = some x → x.e < 16777215) : UpR m (doM FF m t c).2 := by
  by_cases hcalm : calm c = true
  · exact up_rest (do_calm FF m t hcalm)
  unfold calm at hcalm
  have hcalm : ¬ (c.op = 0 ∨ c.op = 1 ∨ c.op = 6 ∨ c.op = 8 ∨ c.op = 10) := fun h => hcalm (decide_eq_true h)
  unfold doM
  by_cases hb : badC c = true
  · rw [if_pos hb]
    exact .same rfl rfl
  rw [if_neg hb, if_neg (fun e => hcalm (.inl e)), if_neg (fun e => hcalm (.inr (.inl e)))]
  by_cases h2 : c.op = 2
  · rw [if_pos h2]; exact v.up_create _
  rw [if_neg h2]
  by_cases h3 : c.op = 3
  · rw [if_pos h3]; exact v.up_destroy hj _
  rw [if_neg h3]
  by_cases h4 : c.op = 4
  · rw [if_pos h4]; exact v.up_enter _ _
  rw [if_neg h4]
  by_cases h5 : c.op = 5
  · rw [if_pos h5]; exact v.up_exit FF ht hj
  rw [if_neg h5, if_neg (fun e => hcalm (.inr (.inr (.inl e))))]
  by_cases h7 : c.op = 7
  · rw [if_pos h7]; exact v.up_alloc ht c
  rw [if_neg h7, if_neg (fun e => hcalm (.inr (.inr (.inr (.inl e)))))]
  by_cases h9 : c.op = 9
  · rw [if_pos h9]
    unfold storeV
    repeat' split
    all_goals exact .same rfl rfl
  rw [if_neg h9, if_neg (fun e => hcalm (.inr (.inr (.inr (.inr e)))))]
  by_cases h11 : c.op = 11
  · rw [if_pos h11]; exact v.up_gate t c
  rw [if_neg h11]
  exact .same rfl rfl
end
section
variable {Z : Fx} {k j : Nat} {m : Mo}
/-- What an object that is made is, and where. -/
theorem Iv.alloc_ok (v : Iv Z k m) {t : Nat} (ht : t < Z.nt) {c : Ca} (h0 : (allocV m t c).1.c = 0) : ∃ (s : Nat) (x : Cx) (a : Ar), Chain.areaV (m.ents t) = (s : Int) ∧ m.F.R[s]? = some x ∧ m.A[s]? = some a ∧ x.s = 2 ∧ 0 ≤ c.a ∧ c.a ≤ 6 ∧ 0 ≤ c.b ∧ c.b ≤ 512 ∧ Refs.rightB s x.e (x.a + a.u) = true ∧ (∀ o ∈ m.O, o.h ≠ Refs.handle s x.e (x.a + a.u)) ∧
    allocV m t c = (⟨0, Refs.handle s x.e (x.a + a.u), []⟩, (putOb m ⟨s, x.e, x.a + a.u, List.replicate c.a.toNat 0, c.c, false⟩ (8 * (2 + c.a + (c.b + 7) / 8))).setReg t c.r (Refs.handle s x.e (x.a + a.u))) := by
  obtain ⟨x, a, s0, sn, hx, ha, hst⟩ := v.area ht
  obtain ⟨l1, l2, l3, l4, l5, l6, l7, l8⟩ := v.live hx hst
  obtain ⟨g1, u1, u2, u3, u4⟩ := v.are _ x a hx ha
  have ea : m.ar (Chain.areaV (m.ents t)) = a := by
    unfold Mo.ar
    rw [List.getD_eq_getElem?_getD, ha]
    rfl
  unfold allocV at h0 ⊢
  obtain ⟨s, hs⟩ : ∃ s : Nat, Chain.areaV (m.ents t) = s := ⟨(Chain.areaV (m.ents t)).toNat, by omega⟩
  rw [hs] at h0 ea hx ha s0 sn l8 ⊢
  rw [Int.toNat_natCast] at hx ha l8
  obtain ⟨sc, sx⟩ := see_in hx
  by_cases hm : Heads.mayB c.a c.b = true
  · obtain ⟨a0, a6, b1, b2⟩ := of_decide_eq_true hm
    have hw : Heads.wordsV c.a c.b = ⟨2 + c.a + (c.b + 7) / 8, 0⟩ := if_pos hm
    rw [hw] at h0 ⊢
    dsimp only at h0 ⊢
    by_cases hc : 0 ≤ c.c ∧ c.c ≤ 7
    · rw [if_neg (by simp; exact hc)] at h0 ⊢
      by_cases hr : roomX m (s : Int) ((2 + c.a + (c.b + 7) / 8) * 8) = 0
      · rw [if_neg (by rw [hr]; simp)]
        have hr' := hr
        unfold roomX at hr'
        rw [ea, sx] at hr'
        dsimp only at hr'
        have hz : a.u + (2 + c.a + (c.b + 7) / 8) * 8 ≤ x.z := by
          split at hr'
          · exact absurd hr' (by decide)
          · omega
        have RB : Refs.rightB s x.e (x.a + a.u) = true := decide_eq_true (by omega)
        refine ⟨s, x, a, rfl, hx, ha, hst, a0, a6, b1, b2, RB, fun o ho e => ?_, ?_⟩
        · obtain ⟨o0, x', a', q1, q2, q3, q4, q5, q6, _⟩ := v.obj o ho
          have e1 := v.rt.un ho
          rw [e, un_handle RB] at e1
          injection e1 with c1 c2 c3
          rw [← c1, Int.toNat_natCast, hx] at q1
          rw [← c1, Int.toNat_natCast, ha] at q2
          injection q1 with q1
          injection q2 with q2
          subst q1 q2
          omega
        · have en : newOb m (s : Int) c = ⟨s, x.e, x.a + a.u, List.replicate c.a.toNat 0, c.c, false⟩ := by
            unfold newOb roomA
            rw [sc, sx, ea]
          rw [en]
          have hh : Ob.h ⟨s, x.e, x.a + a.u, List.replicate c.a.toNat 0, c.c, false⟩ = Refs.handle s x.e (x.a + a.u) := rfl
          rw [hh]
          unfold give
          have hwr : IntKind.i64.wrap (Refs.handle s x.e (x.a + a.u)) = Refs.handle s x.e (x.a + a.u) := IntWalk.i64_in _ (by
            obtain ⟨c1, c2, c3, c4, c5, c6, c7⟩ := Refs.rbounds RB
            unfold Refs.handle
            omega)
          rw [hwr, show (2 + c.a + (c.b + 7) / 8) * 8 = 8 * (2 + c.a + (c.b + 7) / 8) from Int.mul_comm _ _]
      · rw [if_pos hr] at h0
        exact absurd h0 hr
    · rw [if_pos (.inr hc)] at h0
      exact absurd h0 (show ¬ (1 : Int) = 0 by decide)
  · have hw : Heads.wordsV c.a c.b = ⟨0, 1⟩ := if_neg hm
    rw [hw, if_pos (.inl (by decide))] at h0
    exact absurd h0 (show ¬ (1 : Int) = 0 by decide)
/-- What is told is new. -/
theorem Told.add {L : List Int} (h : Told m j L) (v : Iv Z k m) {t : Nat} {s : Nat} {x : Cx} {a : Ar} {r : Int} {o : Ob} {by' : Int} (hx : m.F.R[s]? = some x) (ha : m.A[s]? = some a) (hr : Refs.rightB s x.e (x.a + a.u) = true) (ho : o.s = (s : Int)) (hb : 16 ≤ by') (v' : Told ((putOb m o by').setReg t r (Refs.handle s x.e (x.a + a.u))) (j + 1) L) :
    (Refs.handle s x.e (x.a + a.u) ∉ L) ∧ Told ((putOb m o by').setReg t r (Refs.handle s x.e (x.a + a.u))) (j + 1) (L ++ [Refs.handle s x.e (x.a + a.u)]) := by
  have ea : m.ar (s : Int) = a := by
    unfold Mo.ar
    rw [Int.toNat_natCast, List.getD_eq_getElem?_getD, ha]
    rfl
  refine ⟨fun hm => ?_, v'.ep, fun q hq => ?_⟩
  · obtain ⟨s', e, b, x', a', h1, h2, h3, h4, h5⟩ := h.is _ hm
    have e1 := un_handle hr
    rw [h1, un_handle h2] at e1
    injection e1 with c1 c2 c3
    have : s' = s := by omega
    subst this
    rw [hx] at h3
    rw [ha] at h4
    injection h3 with h3
    injection h4 with h4
    subst h3 h4
    omega
  · rcases List.mem_append.1 hq with hq | hq
    · exact v'.is q hq
    · rw [List.mem_singleton.1 hq]
      refine ⟨s, x.e, x.a + a.u, x, ⟨a.g, a.u + by'⟩, rfl, hr, hx, ?_, .inr ⟨rfl, ?_⟩⟩
      · show (m.A.set o.s.toNat ⟨(m.ar o.s).g, (m.ar o.s).u + by'⟩)[s]? = _
        rw [ho, ea, Int.toNat_natCast, List.getElem?_set, if_pos rfl, if_pos (List.getElem?_eq_some_iff.1 ha).1]
      · show x.a + a.u + 16 ≤ x.a + (a.u + by')
        omega
theorem do_alloc {FF : List (List Fina.O)} {t : Nat} {c : Ca} (h7 : c.op = 7) (h0 : (doM FF m t c).1.c = 0) : doM FF m t c = allocV m t c ∧ badR c.r = false := by
  unfold doM at h0 ⊢
  by_cases hb : badC c = true
  · rw [if_pos hb] at h0
    exact absurd h0 (show ¬ (1 : Int) = 0 by decide)
  · rw [if_neg hb] at h0 ⊢
    simp only [h7] at h0 ⊢
    refine ⟨rfl, ?_⟩
    unfold badC at hb
    rw [if_pos (.inr (.inl h7))] at hb
    simpa using hb
end
end Go.Proofs.YtneggppfffekdaaGreat.Mod
