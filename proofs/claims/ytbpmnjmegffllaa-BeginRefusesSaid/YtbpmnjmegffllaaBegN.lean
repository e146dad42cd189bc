/-
  What is refused at the beginning is what the model refuses; and what goes on is not refused for what is looked at there: plain mathematics.
-/
import Derived.Test.YtbpmnjmegffllaaBegM
import Derived.Test.YtbpmnjmegffllaaEf
namespace Go.Proofs.Ytbpmnjmegffllaa.Beg
open Go.Proofs.Ytbpmnjmegffllaa.Mod Sco
set_option linter.unusedVariables false
set_option linter.unusedSimpArgs false
section
variable {Z : Fx} {k : Nat} {m : Mo}
theorem un_s (h : Int) (h0 : 0 ≤ h) : 0 ≤ (Refs.unV h).s := by
  unfold Refs.unV
  split
  · show 0 ≤ h / 16777216 % 256
    omega
  · exact Int.le_refl _
theorem see_in (v : Iv Z k m) {s : Int} (h0 : 0 ≤ s) : (seeC m.F.R s).x = 0 ↔ s < (Z.n : Int) := by
  have hl := v.f.len
  unfold seeC
  rw [if_pos h0]
  by_cases hs : s < (Z.n : Int)
  · rw [List.getElem?_eq_getElem (show s.toNat < m.F.R.length by omega)]
    simp [hs]
  · rw [List.getElem?_eq_none (show m.F.R.length ≤ s.toNat by omega)]
    simp only [hs, iff_false]
    decide
theorem ck_no2 (v : Iv Z k m) {L : List Chain.E} {h : Int} (h0 : 0 ≤ h) (e : ckV (Z.n : Int) L h ≠ 0) : m.chk L h = ckV (Z.n : Int) L h := by
  have hs := un_s h h0
  unfold ckV at *
  unfold Mo.chk
  by_cases h1 : (Refs.unV h).err ≠ 0
  · rw [if_pos h1, if_pos h1]
  · rw [if_neg h1] at *
    rw [if_neg h1]
    by_cases h2 : (Z.n : Int) ≤ (Refs.unV h).s
    · rw [if_pos h2, if_pos (by rw [ne_eq, see_in v hs]; omega)]
    · rw [if_neg h2] at *
      rw [if_neg (by rw [ne_eq, see_in v hs]; omega)]
      by_cases h3 : Chain.reachV L (Refs.unV h).s = false
      · rw [if_pos h3, if_pos h3]
      · rw [if_neg h3] at e
        exact absurd rfl e
theorem ck_yes2 (v : Iv Z k m) {L : List Chain.E} {h : Int} (h0 : 0 ≤ h) (e : ckV (Z.n : Int) L h = 0) : m.chk L h = 0 ∨ m.chk L h = 18 ∨ m.chk L h = 19 := by
  have hs := un_s h h0
  unfold ckV at e
  unfold Mo.chk
  by_cases h1 : (Refs.unV h).err ≠ 0
  · rw [if_pos h1] at e
    exact absurd e h1
  · rw [if_neg h1] at *
    by_cases h2 : (Z.n : Int) ≤ (Refs.unV h).s
    · rw [if_pos h2] at e
      cases e
    · rw [if_neg h2] at e
      rw [if_neg (by rw [ne_eq, see_in v hs]; omega)]
      by_cases h3 : Chain.reachV L (Refs.unV h).s = false
      · rw [if_pos h3] at e
        cases e
      · rw [if_neg h3]
        split
        · exact .inr (.inr rfl)
        · split
          · exact .inr (.inl rfl)
          · exact .inl rfl
/-- What is told, and whether it is of what is looked at only later. -/
structure Agree (be : Be) (op a : Int) : Prop where
  told : be.pc = 0 → be.code = a
  late : be.pc ≠ 0 → ¬ (a = 1 ∨ a = 20 ∨ a = 24 ∨ a = 23) ∨ (op = 9 ∧ a = 20)
theorem agree_no {n : Int} {L : List Chain.E} {c : Ca} {h v pc x a : Int} {cs : List Int} (e : wayV n L c h v = ⟨pc, cs⟩) (hf : firE cs = x) (hx : x ≠ 0) (ha : a = x) : Agree (begV n L c h v) c.op a := by
  rw [beg_of e hf, if_neg hx]
  exact ⟨fun _ => ha.symm, fun h => absurd rfl h⟩
theorem agree_yes {n : Int} {L : List Chain.E} {c : Ca} {h v pc a : Int} {cs : List Int} (e : wayV n L c h v = ⟨pc, cs⟩) (hf : firE cs = 0) (h0 : pc = 0 → a = 0) (h1 : pc ≠ 0 → ¬ (a = 1 ∨ a = 20 ∨ a = 24 ∨ a = 23) ∨ (c.op = 9 ∧ a = 20)) : Agree (begV n L c h v) c.op a := by
  rw [beg_of e hf, if_pos rfl]
  exact ⟨fun hp => (h0 hp).symm, h1⟩
theorem fir_all {x : Int} {r : List Int} : firE (x :: r) = if x = 0 then firE r else x := rfl
theorem scope_is (v : Iv Z k m) (i : Int) : scopeB m i = decide (1 ≤ i ∧ i ≤ (Z.n : Int) - 1) := by
  unfold scopeB
  rw [v.nA]
  exact decide_eq_decide.2 (by omega)
theorem wi_scope (v : Iv Z k m) (i : Int) : wiE i 1 ((Z.n : Int) - 1) 11 = if scopeB m i = true then 0 else 11 := by
  rw [scope_is v]
  rfl

/-- No code of what turns a scope is one of those. -/
theorem turn_code (v : Iv Z k m) {f : Cx → Ctl.R} (hf : ∀ x : Cx, Ctl.rightB x.s x.c x.p x.e = true → (f x).x = 0 ∨ 10 ≤ (f x).x ∧ (f x).x ≤ 16) (i : Int) : (turnV m.F i f).x = 0 ∨ 10 ≤ (turnV m.F i f).x ∧ (turnV m.F i f).x ≤ 16 := by
  unfold turnV
  cases hl : Sco.look m.F.R i with
  | none =>
    show (11 : Int) = 0 ∨ 10 ≤ (11 : Int) ∧ (11 : Int) ≤ 16
    omega
  | some x =>
    have hr := v.f.right _ _ (look_in hl).2.2
    dsimp only
    split
    · exact .inl rfl
    · exact hf x hr
theorem en_code {a : Int} (h0 : 0 ≤ a) (h7 : a ≤ 7) : ∀ x : Cx, Ctl.rightB x.s x.c x.p x.e = true → (enF a x).x = 0 ∨ 10 ≤ (enF a x).x ∧ (enF a x).x ≤ 16 := by
  intro x hr
  unfold enF
  rcases Ctl.ent_cases x.s x.c x.p x.e a with ⟨h, _⟩ | ⟨_, h, _⟩ | ⟨_, _, _, _, e⟩ | ⟨_, _, _, _, e⟩ | ⟨_, _, _, _, e⟩ | ⟨_, _, _, _, _, e⟩ | ⟨_, _, _, _, _, _, e⟩ | ⟨_, _, _, _, _, _, _, e⟩
  · rw [hr] at h; cases h
  · omega
  all_goals rw [e]
  · right; constructor <;> decide
  · right; constructor <;> decide
  · exact .inl rfl
  · right; constructor <;> decide
  · right; constructor <;> decide
  · exact .inl rfl
theorem le_code : ∀ x : Cx, Ctl.rightB x.s x.c x.p x.e = true → (leF x).x = 0 ∨ 10 ≤ (leF x).x ∧ (leF x).x ≤ 16 := by
  intro x hr
  unfold leF
  rcases Ctl.le_cases x.s x.c x.p x.e with ⟨h, _⟩ | ⟨_, _, _, e⟩ | ⟨_, _, _, _, e⟩ | ⟨_, _, _, _, _, e⟩
  · rw [hr] at h; cases h
  all_goals rw [e]
  · right; constructor <;> decide
  · exact .inl rfl
  · exact .inl rfl
/-- The registers that a call names: what they have. -/
structure Regd (m : Mo) (t : Nat) (c : Ca) (h v : Int) : Prop where
  rh : badR c.h = false → h = m.reg t c.h
  rv : badR c.v = false → v = m.reg t c.v
  h0 : 0 ≤ h
  v0 : 0 ≤ v
theorem agree0 (m : Mo) (t : Nat) (FF : List (List Fina.O)) (n : Int) (L : List Chain.E) (r h' v' a b c h v : Int) : Agree (begV n L ⟨0, r, h', v', a, b, c⟩ h v) 0 (doM FF m t ⟨0, r, h', v', a, b, c⟩).1.c :=
  agree_yes (c := ⟨0, r, h', v', a, b, c⟩) (e := rfl) rfl (fun _ => rfl) (fun h => absurd rfl h)
theorem agree1 (m : Mo) (t : Nat) (FF : List (List Fina.O)) (n : Int) (L : List Chain.E) (r h' v' a b c h v : Int) : Agree (begV n L ⟨1, r, h', v', a, b, c⟩ h v) 1 (doM FF m t ⟨1, r, h', v', a, b, c⟩).1.c := by
  have e : wayV n L ⟨1, r, h', v', a, b, c⟩ h v = ⟨0, [rgE [r]]⟩ := rfl
  cases hb : badR r with
  | true =>
    have e1 : rgE [r] = 1 := by simp [rgE, hb]
    refine agree_no e (fir1 _) (by rw [e1]; decide) ?_
    rw [e1]
    unfold doM
    rw [if_pos (show badC ⟨1, r, h', v', a, b, c⟩ = true from hb)]
    rfl
  | false =>
    have e1 : rgE [r] = 0 := by simp [rgE, hb]
    refine agree_yes e (by rw [e1]; rfl) (fun _ => ?_) (fun h => absurd rfl h)
    unfold doM
    rw [if_neg (show ¬ badC ⟨1, r, h', v', a, b, c⟩ = true by rw [show badC ⟨1, r, h', v', a, b, c⟩ = false from hb]; decide)]
    rfl
theorem agree2 (m : Mo) (t : Nat) (FF : List (List Fina.O)) (n : Int) (L : List Chain.E) (r h' v' a b c h v : Int) : Agree (begV n L ⟨2, r, h', v', a, b, c⟩ h v) 2 (doM FF m t ⟨2, r, h', v', a, b, c⟩).1.c := by
  have e : wayV n L ⟨2, r, h', v', a, b, c⟩ h v = ⟨1, [wiE a 1 8192 1]⟩ := rfl
  have d : (doM FF m t ⟨2, r, h', v', a, b, c⟩).1.c = (createV m.F a).x := rfl
  rw [d]
  by_cases hz : a < 1 ∨ 8192 < a
  · have e1 : wiE a 1 8192 1 = 1 := wi1 (by omega)
    refine agree_no e (fir1 _) (by rw [e1]; decide) ?_
    rw [e1]
    unfold createV
    rw [if_pos hz]
  · have e1 : wiE a 1 8192 1 = 0 := wi0 (by omega) (by omega)
    refine agree_yes e (by rw [e1]; rfl) (fun h => by cases h) (fun _ => .inl ?_)
    unfold createV
    rw [if_neg hz]
    cases m.F.R[m.F.R.findIdx fr]? with
    | none => simp
    | some x => dsimp only; split <;> simp
theorem agree3 (v0 : Iv Z k m) (t : Nat) (FF : List (List Fina.O)) (L : List Chain.E) (r h' v' a b c h v : Int) : Agree (begV (Z.n : Int) L ⟨3, r, h', v', a, b, c⟩ h v) 3 (doM FF m t ⟨3, r, h', v', a, b, c⟩).1.c := by
  have e : wayV (Z.n : Int) L ⟨3, r, h', v', a, b, c⟩ h v = ⟨1, [wiE a 1 ((Z.n : Int) - 1) 11]⟩ := rfl
  have d : (doM FF m t ⟨3, r, h', v', a, b, c⟩).1.c = (destroyV m.F a).x := rfl
  have hl := v0.f.len
  rw [d]
  by_cases hz : 1 ≤ a ∧ a ≤ (Z.n : Int) - 1
  · have e1 : wiE a 1 ((Z.n : Int) - 1) 11 = 0 := wi0 hz.1 hz.2
    refine agree_yes e (by rw [e1]; rfl) (fun h => by cases h) (fun _ => .inl ?_)
    unfold destroyV
    cases Sco.look m.F.R a with
    | none => simp
    | some x => dsimp only; split <;> (try split) <;> simp
  · have e1 : wiE a 1 ((Z.n : Int) - 1) 11 = 11 := wi1 hz
    refine agree_no e (fir1 _) (by rw [e1]; decide) ?_
    rw [e1]
    have : Sco.look m.F.R a = none := by
      unfold Sco.look
      by_cases h1 : 1 ≤ a
      · rw [if_pos h1, List.getElem?_eq_none (by omega)]
      · rw [if_neg h1]
    unfold destroyV
    rw [this]

theorem agree4 (w : Iv Z k m) {t : Nat} (ht : t < Z.nt) (FF : List (List Fina.O)) (r h' v' a b c h v : Int) : Agree (begV (Z.n : Int) (m.ents t) ⟨4, r, h', v', a, b, c⟩ h v) 4 (doM FF m t ⟨4, r, h', v', a, b, c⟩).1.c := by
  have e : wayV (Z.n : Int) (m.ents t) ⟨4, r, h', v', a, b, c⟩ h v = ⟨13, [wiE a 1 ((Z.n : Int) - 1) 11, Chain.pushE (m.ents t)]⟩ := rfl
  have d : (doM FF m t ⟨4, r, h', v', a, b, c⟩).1.c = (enterV m t a).1.c := rfl
  have ws := wi_scope w a
  rw [d]
  unfold enterV
  cases hs : scopeB m a with
  | false =>
    rw [hs] at ws
    refine agree_no e (x := 11) (by rw [fir_all, ws]; rfl) (by decide) rfl
  | true =>
    rw [hs] at ws
    rw [if_neg (by decide)]
    by_cases hp : Chain.pushE (m.ents t) = 0
    · rw [if_neg (by rw [hp]; decide)]
      refine agree_yes e (by rw [fir_all, ws, hp]; rfl) (fun h => by cases h) (fun _ => .inl ?_)
      obtain ⟨x, ar, h0, h1, _⟩ := w.area ht
      have tc := turn_code w (en_code h0 (by have := w.n8; omega)) a
      split
      · show ¬ ((turnV m.F a (enF (Chain.areaV (m.ents t)))).x = 1 ∨ (turnV m.F a (enF (Chain.areaV (m.ents t)))).x = 20 ∨ (turnV m.F a (enF (Chain.areaV (m.ents t)))).x = 24 ∨ (turnV m.F a (enF (Chain.areaV (m.ents t)))).x = 23)
        omega
      · show ¬ ((0 : Int) = 1 ∨ (0 : Int) = 20 ∨ (0 : Int) = 24 ∨ (0 : Int) = 23)
        omega
    · rw [if_pos hp]
      refine agree_no e (x := Chain.pushE (m.ents t)) (by rw [fir_all, ws, if_pos (by rfl), fir1]) hp rfl
theorem agree5 (w : Iv Z k m) {t : Nat} (ht : t < Z.nt) (FF : List (List Fina.O)) (r h' v' a b c h v : Int) : Agree (begV (Z.n : Int) (m.ents t) ⟨5, r, h', v', a, b, c⟩ h v) 5 (doM FF m t ⟨5, r, h', v', a, b, c⟩).1.c := by
  have e : wayV (Z.n : Int) (m.ents t) ⟨5, r, h', v', a, b, c⟩ h v = ⟨outP (m.ents t), [Chain.popE (m.ents t)]⟩ := rfl
  have d : (doM FF m t ⟨5, r, h', v', a, b, c⟩).1.c = (exitV FF m t).1.c := rfl
  rw [d]
  unfold exitV
  by_cases hp : Chain.popE (m.ents t) = 0
  · rw [if_neg (by rw [hp]; decide)]
    cases hl : (Chain.lastV (m.ents t)).2 with
    | false =>
      refine agree_yes e (by rw [fir1, hp]) (fun _ => rfl) (fun h => absurd ?_ h)
      unfold outP
      rw [hl]
      rfl
    | true =>
      rw [if_neg (by decide)]
      refine agree_yes e (by rw [fir1, hp]) (fun h => ?_) (fun _ => .inl ?_)
      · unfold outP at h
        rw [hl] at h
        cases h
      · have tc := turn_code w le_code (Chain.lastV (m.ents t)).1
        split
        · show ¬ ((turnV m.F (Chain.lastV (m.ents t)).1 leF).x = 1 ∨ (turnV m.F (Chain.lastV (m.ents t)).1 leF).x = 20 ∨ (turnV m.F (Chain.lastV (m.ents t)).1 leF).x = 24 ∨ (turnV m.F (Chain.lastV (m.ents t)).1 leF).x = 23)
          omega
        · split
          · show ¬ ((0 : Int) = 1 ∨ (0 : Int) = 20 ∨ (0 : Int) = 24 ∨ (0 : Int) = 23)
            omega
          · unfold lastV
            split
            · show ¬ ((25 : Int) = 1 ∨ (25 : Int) = 20 ∨ (25 : Int) = 24 ∨ (25 : Int) = 23)
              omega
            · show ¬ ((0 : Int) = 1 ∨ (0 : Int) = 20 ∨ (0 : Int) = 24 ∨ (0 : Int) = 23)
              omega
  · rw [if_pos hp]
    exact agree_no e (x := Chain.popE (m.ents t)) (fir1 _) hp rfl
theorem agree6 (w : Iv Z k m) (t : Nat) (FF : List (List Fina.O)) (r h' v' a b c h v : Int) : Agree (begV (Z.n : Int) (m.ents t) ⟨6, r, h', v', a, b, c⟩ h v) 6 (doM FF m t ⟨6, r, h', v', a, b, c⟩).1.c := by
  have e : wayV (Z.n : Int) (m.ents t) ⟨6, r, h', v', a, b, c⟩ h v = ⟨0, [wiE a 0 ((Z.n : Int) - 1) 11, reE (m.ents t) a, Chain.pushE (m.ents t)]⟩ := rfl
  have d : (doM FF m t ⟨6, r, h', v', a, b, c⟩).1.c = (inV m t a).1.c := rfl
  rw [d]
  unfold inV
  by_cases hz : 0 ≤ a ∧ a < (m.A.length : Int)
  · have e1 : wiE a 0 ((Z.n : Int) - 1) 11 = 0 := wi0 hz.1 (by have := w.nA; omega)
    rw [if_neg (by rw [decide_eq_true hz]; decide)]
    cases hr : Chain.reachV (m.ents t) a with
    | false => exact agree_no e (x := 20) (by rw [fir_all, e1, if_pos rfl, fir_all, re1 hr]; rfl) (by decide) rfl
    | true =>
      rw [if_neg (by decide)]
      by_cases hp : Chain.pushE (m.ents t) = 0
      · rw [if_neg (by rw [hp]; decide)]
        exact agree_yes e (by rw [fir_all, e1, if_pos rfl, fir_all, re0 hr, if_pos rfl, fir1, hp]) (fun _ => rfl) (fun h => absurd rfl h)
      · rw [if_pos hp]
        exact agree_no e (x := Chain.pushE (m.ents t)) (by rw [fir_all, e1, if_pos rfl, fir_all, re0 hr, if_pos rfl, fir1]) hp rfl
  · have e1 : wiE a 0 ((Z.n : Int) - 1) 11 = 11 := wi1 (by have := w.nA; omega)
    rw [if_pos (by rw [decide_eq_false hz])]
    exact agree_no e (x := 11) (by rw [fir_all, e1]; rfl) (by decide) rfl
theorem words_err (a b : Int) : (Heads.wordsV a b).err = 0 ∨ (Heads.wordsV a b).err = 1 := by
  unfold Heads.wordsV
  split
  · exact .inl rfl
  · exact .inr rfl
theorem do_bad {c : Ca} (hb : badC c = true) (FF : List (List Fina.O)) (t : Nat) : (doM FF m t c).1.c = 1 := by
  unfold doM
  rw [if_pos hb]
  rfl
theorem do_good {c : Ca} (hb : badC c = false) (FF : List (List Fina.O)) (t : Nat) : doM FF m t c = if c.op = 0 then (no 0, m)
  else if c.op = 1 then (no 0, m.setReg t c.r (IntKind.u64.wrap c.a))
  else if c.op = 2 then createM m c.a
  else if c.op = 3 then destroyM m c.a
  else if c.op = 4 then enterV m t c.a
  else if c.op = 5 then exitV FF m t
  else if c.op = 6 then inV m t c.a
  else if c.op = 7 then allocV m t c
  else if c.op = 8 then loadV m t c
  else if c.op = 9 then storeV m t c
  else if c.op = 10 then lookV m t c
  else if c.op = 11 then gateV m t c
  else (no 1, m) := by
  unfold doM
  rw [if_neg (by rw [hb]; decide)]
theorem agree7 (w : Iv Z k m) (t : Nat) (FF : List (List Fina.O)) (L : List Chain.E) (r h' v' a b c h v : Int) : Agree (begV (Z.n : Int) L ⟨7, r, h', v', a, b, c⟩ h v) 7 (doM FF m t ⟨7, r, h', v', a, b, c⟩).1.c := by
  have e : wayV (Z.n : Int) L ⟨7, r, h', v', a, b, c⟩ h v = ⟨5, [rgE [r], (Heads.wordsV a b).err, wiE c 0 7 1]⟩ := rfl
  cases hb : badR r with
  | true =>
    have e1 : rgE [r] = 1 := by simp [rgE, hb]
    exact agree_no e (x := 1) (by rw [fir_all, e1]; rfl) (by decide) (do_bad (show badC ⟨7, r, h', v', a, b, c⟩ = true from hb) FF t)
  | false =>
    have e1 : rgE [r] = 0 := by simp [rgE, hb]
    have d : (doM FF m t ⟨7, r, h', v', a, b, c⟩).1.c = (allocV m t ⟨7, r, h', v', a, b, c⟩).1.c := by rw [do_good (show badC ⟨7, r, h', v', a, b, c⟩ = false from hb)]; rfl
    rw [d]
    unfold allocV
    by_cases hz : (Heads.wordsV a b).err ≠ 0 ∨ ¬ (0 ≤ c ∧ c ≤ 7)
    · rw [if_pos hz]
      refine agree_no e (x := 1) ?_ (by decide) rfl
      rw [fir_all, e1, if_pos rfl, fir_all]
      rcases words_err a b with h0 | h0
      · rw [if_pos h0, fir1, wi1 (by rcases hz with h1 | h1; exact absurd h0 h1; exact h1)]
      · rw [if_neg (by rw [h0]; decide), h0]
    · rw [if_neg hz]
      have h0 : (Heads.wordsV a b).err = 0 := by
        by_cases h : (Heads.wordsV a b).err = 0
        · exact h
        · exact absurd (.inl h) hz
      have hc : 0 ≤ c ∧ c ≤ 7 := by
        by_cases h : 0 ≤ c ∧ c ≤ 7
        · exact h
        · exact absurd (.inr h) hz
      refine agree_yes e (by rw [fir_all, e1, if_pos rfl, fir_all, h0, if_pos rfl, fir1, wi0 hc.1 hc.2]) (fun h => by cases h) (fun _ => .inl ?_)
      split
      · rename_i hx
        have : roomX m (Chain.areaV (m.ents t)) ((Heads.wordsV a b).n * 8) = 17 := by
          unfold roomX at *
          split
          · rfl
          · rename_i h2; rw [if_neg h2] at hx; exact absurd rfl hx
        show ¬ (roomX m (Chain.areaV (m.ents t)) ((Heads.wordsV a b).n * 8) = 1 ∨ roomX m (Chain.areaV (m.ents t)) ((Heads.wordsV a b).n * 8) = 20 ∨ roomX m (Chain.areaV (m.ents t)) ((Heads.wordsV a b).n * 8) = 24 ∨ roomX m (Chain.areaV (m.ents t)) ((Heads.wordsV a b).n * 8) = 23)
        omega
      · show ¬ ((0 : Int) = 1 ∨ (0 : Int) = 20 ∨ (0 : Int) = 24 ∨ (0 : Int) = 23)
        omega

theorem rg_two (x y : Int) : rgE [x, y] = if (badR x || badR y) = true then 1 else 0 := by simp [rgE]
theorem rg_one (x : Int) : rgE [x] = if badR x = true then 1 else 0 := by simp [rgE]
abbrev loc (a : Int) : Prop := a = 1 ∨ a = 20 ∨ a = 24 ∨ a = 23
theorem hold_code (w : Iv Z k m) {L : List Chain.E} {h b : Int} (h0 : 0 ≤ h) (e : ckV (Z.n : Int) L h = 0) : ¬ loc (holdX m L h b) := by
  unfold holdX
  rcases ck_yes2 w h0 e with h1 | h1 | h1
  · rw [if_neg (by rw [h1]; decide)]
    cases m.obs h with
    | none => show ¬ loc 18; unfold loc; omega
    | some o => dsimp only; split <;> (unfold loc; omega)
  · rw [if_pos (by rw [h1]; decide), h1]
    unfold loc; omega
  · rw [if_pos (by rw [h1]; decide), h1]
    unfold loc; omega
theorem hold_no (w : Iv Z k m) {L : List Chain.E} {h b : Int} (h0 : 0 ≤ h) (e : ckV (Z.n : Int) L h ≠ 0) : holdX m L h b = ckV (Z.n : Int) L h := by
  unfold holdX
  rw [ck_no2 w h0 e, if_pos e]
theorem agree8 (w : Iv Z k m) (t : Nat) (FF : List (List Fina.O)) (r h' v' a b c h v : Int) (g : Regd m t ⟨8, r, h', v', a, b, c⟩ h v) : Agree (begV (Z.n : Int) (m.ents t) ⟨8, r, h', v', a, b, c⟩ h v) 8 (doM FF m t ⟨8, r, h', v', a, b, c⟩).1.c := by
  have e : wayV (Z.n : Int) (m.ents t) ⟨8, r, h', v', a, b, c⟩ h v = ⟨5, [rgE [r, h'], ckV (Z.n : Int) (m.ents t) h]⟩ := rfl
  cases hb : (badR r || badR h') with
  | true =>
    have e1 : rgE [r, h'] = 1 := by rw [rg_two, hb]; rfl
    exact agree_no e (x := 1) (by rw [fir_all, e1]; rfl) (by decide) (do_bad (show badC ⟨8, r, h', v', a, b, c⟩ = true from hb) FF t)
  | false =>
    have e1 : rgE [r, h'] = 0 := by rw [rg_two, hb]; rfl
    have hh : badR h' = false := (Bool.or_eq_false_iff.1 hb).2
    have er : h = m.reg t h' := g.rh hh
    have d : (doM FF m t ⟨8, r, h', v', a, b, c⟩).1.c = (loadV m t ⟨8, r, h', v', a, b, c⟩).1.c := by rw [do_good (show badC ⟨8, r, h', v', a, b, c⟩ = false from hb)]; rfl
    have h0 := g.h0
    rw [d]
    unfold loadV
    rw [← er]
    by_cases hc : ckV (Z.n : Int) (m.ents t) h = 0
    · have hn := hold_code w (b := b) h0 hc
      refine agree_yes e (by rw [fir_all, e1, if_pos rfl, fir1, hc]) (fun h => by cases h) (fun _ => .inl ?_)
      split
      · exact hn
      · show ¬ loc 0
        unfold loc; omega
    · have hn := hold_no w (b := b) h0 hc
      rw [if_pos (by rw [hn]; exact hc)]
      exact agree_no e (x := ckV (Z.n : Int) (m.ents t) h) (by rw [fir_all, e1, if_pos rfl, fir1]) hc hn
theorem fits_code (w : Iv Z k m) {L : List Chain.E} {v f : Int} (v0 : 0 ≤ v) (e : v ≠ 0 → ckV (Z.n : Int) L v = 0) : ¬ loc (m.fits L v f) := by
  unfold Mo.fits
  by_cases hv : v = 0
  · rw [if_pos hv]
    unfold loc; omega
  · rw [if_neg hv]
    rcases ck_yes2 w v0 (e hv) with h1 | h1 | h1
    · rw [if_neg (by rw [h1]; decide)]
      split <;> (unfold loc; omega)
    · rw [if_pos (by rw [h1]; decide), h1]
      unfold loc; omega
    · rw [if_pos (by rw [h1]; decide), h1]
      unfold loc; omega
theorem ck_some {n : Int} {L : List Chain.E} {h : Int} : ckV n L h = 0 ∨ ckV n L h = 18 ∨ ckV n L h = 20 := by
  unfold ckV
  rcases un_two h with hu | ⟨s, e, a, hu⟩
  · rw [hu]; exact .inr (.inl rfl)
  · rw [hu]
    dsimp only
    rw [if_neg (by decide)]
    split
    · exact .inr (.inl rfl)
    · split
      · exact .inr (.inr rfl)
      · exact .inl rfl
theorem fits_late (w : Iv Z k m) {L : List Chain.E} {v f : Int} (v0 : 0 ≤ v) : ¬ loc (m.fits L v f) ∨ m.fits L v f = 20 := by
  by_cases e : v ≠ 0 → ckV (Z.n : Int) L v = 0
  · exact .inl (fits_code w v0 e)
  · have hv : v ≠ 0 := fun h => e fun h' => absurd h h'
    have hc : ckV (Z.n : Int) L v ≠ 0 := fun h => e fun _ => h
    have hf : m.fits L v f = ckV (Z.n : Int) L v := by
      unfold Mo.fits
      rw [if_neg hv, ck_no2 w v0 hc, if_pos hc]
    rw [hf]
    rcases ck_some (n := (Z.n : Int)) (L := L) (h := v) with h | h | h
    · exact absurd h hc
    · rw [h]; left; unfold loc; omega
    · exact .inr h
theorem agree9 (w : Iv Z k m) {t : Nat} (ht : t < Z.nt) (FF : List (List Fina.O)) (r h' v' a b c h v : Int) (g : Regd m t ⟨9, r, h', v', a, b, c⟩ h v) : Agree (begV (Z.n : Int) (m.ents t) ⟨9, r, h', v', a, b, c⟩ h v) 9 (doM FF m t ⟨9, r, h', v', a, b, c⟩).1.c := by
  have e : wayV (Z.n : Int) (m.ents t) ⟨9, r, h', v', a, b, c⟩ h v = ⟨5, [rgE [h', v'], ckV (Z.n : Int) (m.ents t) h]⟩ := rfl
  cases hb : (badR h' || badR v') with
  | true =>
    have e1 : rgE [h', v'] = 1 := by rw [rg_two, hb]; rfl
    exact agree_no e (x := 1) (by rw [fir_all, e1]; rfl) (by decide) (do_bad (show badC ⟨9, r, h', v', a, b, c⟩ = true from hb) FF t)
  | false =>
    have e1 : rgE [h', v'] = 0 := by rw [rg_two, hb]; rfl
    have hh : badR h' = false := (Bool.or_eq_false_iff.1 hb).1
    have er : h = m.reg t h' := g.rh hh
    have d : (doM FF m t ⟨9, r, h', v', a, b, c⟩).1.c = (storeV m t ⟨9, r, h', v', a, b, c⟩).1.c := by rw [do_good (show badC ⟨9, r, h', v', a, b, c⟩ = false from hb)]; rfl
    have h0 := g.h0
    rw [d]
    unfold storeV
    rw [← er]
    by_cases hc : ckV (Z.n : Int) (m.ents t) h = 0
    · have hn := hold_code w (b := b) h0 hc
      refine agree_yes e (by rw [fir_all, e1, if_pos rfl, fir1, hc]) (fun h => by cases h) (fun _ => ?_)
      split
      · exact .inl hn
      · split
        · rcases fits_late w (L := m.ents t) (f := (Refs.unV h).s) (w.wreg ht v').1 with hf | hf
          · exact .inl hf
          · exact .inr ⟨rfl, hf⟩
        · left
          show ¬ loc 0
          unfold loc; omega
    · have hn := hold_no w (b := b) h0 hc
      rw [if_pos (by rw [hn]; exact hc)]
      exact agree_no e (x := ckV (Z.n : Int) (m.ents t) h) (by rw [fir_all, e1, if_pos rfl, fir1]) hc hn
theorem reach_some (w : Iv Z k m) (L : List Chain.E) (i : Int) : (reachX m L i = 11 ∧ wiE i 1 ((Z.n : Int) - 1) 11 = 11) ∨ (wiE i 1 ((Z.n : Int) - 1) 11 = 0 ∧ reachX m L i = reE L i) := by
  have ws := wi_scope w i
  unfold reachX
  cases hs : scopeB m i with
  | false => rw [hs] at ws; exact .inl ⟨rfl, ws⟩
  | true =>
    rw [hs] at ws
    refine .inr ⟨ws, ?_⟩
    rw [if_neg (by decide)]
    cases hr : Chain.reachV L i with
    | false => rw [re1 hr]; rfl
    | true => rw [re0 hr]; rfl
theorem agree10 (w : Iv Z k m) (t : Nat) (FF : List (List Fina.O)) (r h' v' a b c h v : Int) : Agree (begV (Z.n : Int) (m.ents t) ⟨10, r, h', v', a, b, c⟩ h v) 10 (doM FF m t ⟨10, r, h', v', a, b, c⟩).1.c := by
  have e : wayV (Z.n : Int) (m.ents t) ⟨10, r, h', v', a, b, c⟩ h v = ⟨11, [rgE [r], wiE a 1 ((Z.n : Int) - 1) 11, reE (m.ents t) a]⟩ := rfl
  cases hb : badR r with
  | true =>
    have e1 : rgE [r] = 1 := by rw [rg_one, hb]; rfl
    exact agree_no e (x := 1) (by rw [fir_all, e1]; rfl) (by decide) (do_bad (show badC ⟨10, r, h', v', a, b, c⟩ = true from hb) FF t)
  | false =>
    have e1 : rgE [r] = 0 := by rw [rg_one, hb]; rfl
    have d : (doM FF m t ⟨10, r, h', v', a, b, c⟩).1.c = (lookV m t ⟨10, r, h', v', a, b, c⟩).1.c := by rw [do_good (show badC ⟨10, r, h', v', a, b, c⟩ = false from hb)]; rfl
    rw [d]
    unfold lookV
    rcases reach_some w (m.ents t) a with ⟨h1, h2⟩ | ⟨h2, h1⟩
    · rw [if_pos (by rw [h1]; decide)]
      exact agree_no e (x := 11) (by rw [fir_all, e1, if_pos rfl, fir_all, h2]; rfl) (by decide) h1
    · by_cases hr : reE (m.ents t) a = 0
      · rw [if_neg (by rw [h1, hr]; decide)]
        refine agree_yes e (by rw [fir_all, e1, if_pos rfl, fir_all, h2, if_pos rfl, fir1, hr]) (fun h => by cases h) (fun _ => .inl ?_)
        show ¬ loc 0
        unfold loc; omega
      · rw [if_pos (by rw [h1]; exact hr)]
        exact agree_no e (x := reE (m.ents t) a) (by rw [fir_all, e1, if_pos rfl, fir_all, h2, if_pos rfl, fir1]) hr h1
theorem agree11 (w : Iv Z k m) (t : Nat) (FF : List (List Fina.O)) (r h' v' a b c h v : Int) (g : Regd m t ⟨11, r, h', v', a, b, c⟩ h v) : Agree (begV (Z.n : Int) (m.ents t) ⟨11, r, h', v', a, b, c⟩ h v) 11 (doM FF m t ⟨11, r, h', v', a, b, c⟩).1.c := by
  cases hb : badR v' with
  | true =>
    have e1 : rgE [v'] = 1 := by rw [rg_one, hb]; rfl
    by_cases hv : v = 0
    · have e : wayV (Z.n : Int) (m.ents t) ⟨11, r, h', v', a, b, c⟩ h v = ⟨12, [rgE [v'], wiE a 1 ((Z.n : Int) - 1) 11, reE (m.ents t) a]⟩ := by rw [hv]; rfl
      exact agree_no e (x := 1) (by rw [fir_all, e1]; rfl) (by decide) (do_bad (show badC ⟨11, r, h', v', a, b, c⟩ = true from hb) FF t)
    · have e : wayV (Z.n : Int) (m.ents t) ⟨11, r, h', v', a, b, c⟩ h v = ⟨7, [rgE [v'], wiE a 1 ((Z.n : Int) - 1) 11, reE (m.ents t) a, ckV (Z.n : Int) (m.ents t) v]⟩ := by
        show (if v = 0 then _ else _) = _
        rw [if_neg hv]
      exact agree_no e (x := 1) (by rw [fir_all, e1]; rfl) (by decide) (do_bad (show badC ⟨11, r, h', v', a, b, c⟩ = true from hb) FF t)
  | false =>
    have e1 : rgE [v'] = 0 := by rw [rg_one, hb]; rfl
    have er : v = m.reg t v' := g.rv hb
    have v0 := g.v0
    have d : (doM FF m t ⟨11, r, h', v', a, b, c⟩).1.c = (gateV m t ⟨11, r, h', v', a, b, c⟩).1.c := by rw [do_good (show badC ⟨11, r, h', v', a, b, c⟩ = false from hb)]; rfl
    rw [d]
    unfold gateV
    rw [← er]
    by_cases hv : v = 0
    · have e : wayV (Z.n : Int) (m.ents t) ⟨11, r, h', v', a, b, c⟩ h v = ⟨12, [rgE [v'], wiE a 1 ((Z.n : Int) - 1) 11, reE (m.ents t) a]⟩ := by rw [hv]; rfl
      rcases reach_some w (m.ents t) a with ⟨h1, h2⟩ | ⟨h2, h1⟩
      · rw [if_pos (by rw [h1]; decide)]
        exact agree_no e (x := 11) (by rw [fir_all, e1, if_pos rfl, fir_all, h2]; rfl) (by decide) h1
      · by_cases hr : reE (m.ents t) a = 0
        · rw [if_neg (by rw [h1, hr]; decide)]
          have hf : m.fits (m.ents t) v a = 0 := by unfold Mo.fits; rw [if_pos hv]
          rw [if_neg (by rw [hf]; decide)]
          refine agree_yes e (by rw [fir_all, e1, if_pos rfl, fir_all, h2, if_pos rfl, fir1, hr]) (fun h => by cases h) (fun _ => .inl ?_)
          show ¬ loc 0
          unfold loc; omega
        · rw [if_pos (by rw [h1]; exact hr)]
          exact agree_no e (x := reE (m.ents t) a) (by rw [fir_all, e1, if_pos rfl, fir_all, h2, if_pos rfl, fir1]) hr h1
    · have e : wayV (Z.n : Int) (m.ents t) ⟨11, r, h', v', a, b, c⟩ h v = ⟨7, [rgE [v'], wiE a 1 ((Z.n : Int) - 1) 11, reE (m.ents t) a, ckV (Z.n : Int) (m.ents t) v]⟩ := by
        show (if v = 0 then _ else _) = _
        rw [if_neg hv]
      rcases reach_some w (m.ents t) a with ⟨h1, h2⟩ | ⟨h2, h1⟩
      · rw [if_pos (by rw [h1]; decide)]
        exact agree_no e (x := 11) (by rw [fir_all, e1, if_pos rfl, fir_all, h2]; rfl) (by decide) h1
      · by_cases hr : reE (m.ents t) a = 0
        · rw [if_neg (by rw [h1, hr]; decide)]
          by_cases hc : ckV (Z.n : Int) (m.ents t) v = 0
          · have hn := fits_code w (L := m.ents t) (f := a) v0 (fun _ => hc)
            refine agree_yes e (by rw [fir_all, e1, if_pos rfl, fir_all, h2, if_pos rfl, fir_all, hr, if_pos rfl, fir1, hc]) (fun h => by cases h) (fun _ => .inl ?_)
            split
            · exact hn
            · show ¬ loc 0
              unfold loc; omega
          · have hf : m.fits (m.ents t) v a = ckV (Z.n : Int) (m.ents t) v := by unfold Mo.fits; rw [if_neg hv, ck_no2 w v0 hc, if_pos hc]
            rw [if_pos (by rw [hf]; exact hc)]
            exact agree_no e (x := ckV (Z.n : Int) (m.ents t) v) (by rw [fir_all, e1, if_pos rfl, fir_all, h2, if_pos rfl, fir_all, hr, if_pos rfl, fir1]) hc hf
        · rw [if_pos (by rw [h1]; exact hr)]
          exact agree_no e (x := reE (m.ents t) a) (by rw [fir_all, e1, if_pos rfl, fir_all, h2, if_pos rfl, fir_all, if_neg hr]) hr h1
theorem agree_any (w : Iv Z k m) {t : Nat} (ht : t < Z.nt) (FF : List (List Fina.O)) (c : Ca) (h v : Int) (c0 : 0 ≤ c.op) (g : Regd m t c h v) : Agree (begV (Z.n : Int) (m.ents t) c h v) c.op (doM FF m t c).1.c := by
  obtain ⟨op, r, h', v', a, b, cc⟩ := c
  have : op = 0 ∨ op = 1 ∨ op = 2 ∨ op = 3 ∨ op = 4 ∨ op = 5 ∨ op = 6 ∨ op = 7 ∨ op = 8 ∨ op = 9 ∨ op = 10 ∨ op = 11 ∨ 12 ≤ op := by dsimp only at c0; omega
  rcases this with rfl | rfl | rfl | rfl | rfl | rfl | rfl | rfl | rfl | rfl | rfl | rfl | h12
  · exact agree0 m t FF _ _ r h' v' a b cc h v
  · exact agree1 m t FF _ _ r h' v' a b cc h v
  · exact agree2 m t FF _ _ r h' v' a b cc h v
  · exact agree3 w t FF _ r h' v' a b cc h v
  · exact agree4 w ht FF r h' v' a b cc h v
  · exact agree5 w ht FF r h' v' a b cc h v
  · exact agree6 w t FF r h' v' a b cc h v
  · exact agree7 w t FF _ r h' v' a b cc h v
  · exact agree8 w t FF r h' v' a b cc h v g
  · exact agree9 w ht FF r h' v' a b cc h v g
  · exact agree10 w t FF r h' v' a b cc h v
  · exact agree11 w t FF r h' v' a b cc h v g
  · have e : wayV (Z.n : Int) (m.ents t) ⟨op, r, h', v', a, b, cc⟩ h v = ⟨0, [1]⟩ := way_e (.inr (by dsimp only; omega))
    refine agree_no e (fir1 1) (by decide) ?_
    have hb : badC ⟨op, r, h', v', a, b, cc⟩ = false := by
      unfold badC
      dsimp only
      rw [if_neg (by omega), if_neg (by omega), if_neg (by omega), if_neg (by omega)]
    rw [do_good hb]
    dsimp only
    rw [if_neg (by omega), if_neg (by omega), if_neg (by omega), if_neg (by omega), if_neg (by omega), if_neg (by omega), if_neg (by omega), if_neg (by omega), if_neg (by omega), if_neg (by omega), if_neg (by omega), if_neg (by omega)]
    rfl
end
end Go.Proofs.Ytbpmnjmegffllaa.Beg
