/-
  Finalizers, plain mathematics: which ops may be, what one does, what a run of them does, and what is so of it.
-/
import Derived.Test.YtapbhcpcechccaaProg
namespace Go.Proofs.Ytapbhcpcechccaa.Fina
set_option linter.unusedVariables false

/-- An op: which, A, B. -/
abbrev O := Int × Int × Int
def oneP (o : O) : Prop := (o.1 = 0 ∧ 0 ≤ o.2.1 ∧ o.2.1 ≤ 99 ∧ o.2.2 = 0) ∨ (o.1 = 1 ∧ 0 ≤ o.2.1 ∧ o.2.1 ≤ 5 ∧ o.2.2 = 0) ∨ (o.1 = 2 ∧ 0 ≤ o.2.1 ∧ o.2.1 ≤ 5 ∧ 0 ≤ o.2.2 ∧ o.2.2 ≤ 5) ∨
  (o.1 = 3 ∧ 0 ≤ o.2.1 ∧ o.2.1 ≤ 5 ∧ 0 ≤ o.2.2 ∧ o.2.2 ≤ 8) ∨ (o.1 = 4 ∧ o.2.1 = 0 ∧ o.2.2 = 0)
instance (o : O) : Decidable (oneP o) := by unfold oneP; infer_instance
def oneB (o : O) : Bool := decide (oneP o)
def progB (L : List O) : Bool := decide (L.length ≤ 8) && L.all oneB
def rightB (L : List (List O)) : Bool := decide (L.length ≤ 8) && L.all progB

/-- Whether a slot is there. -/
def inB (n : Int) (k : Nat) : Bool := decide (0 ≤ n ∧ n < (k : Int))
def slotsV (S : List Int) (o : O) : List Int :=
  if o.1 = 1 then (if inB o.2.1 S.length = true then S.set o.2.1.toNat 0 else S)
  else if o.1 = 2 then (if inB o.2.1 S.length = true ∧ inB o.2.2 S.length = true then S.set o.2.1.toNat (S.getD o.2.2.toNat 0) else S)
  else S
/-- How many ops are left out. -/
def leftV (S : List Int) (o : O) : Int := if o.1 = 3 ∧ inB o.2.1 S.length = true ∧ S.getD o.2.1.toNat 0 = 0 then o.2.2 else 0
def sayV (o : O) : List Int := if o.1 = 0 then [o.2.1] else []
def holdV (o : O) : Bool := decide (o.1 = 4)

/-- What a run leaves. -/
structure R where
  S : List Int
  said : List Int
  held : Bool
  n : Nat
/-- A run of which the first k ops are left out. -/
def walk : List O → Nat → List Int → R
  | [], _, S => ⟨S, [], false, 0⟩
  | _ :: r, k + 1, S => walk r k S
  | o :: r, 0, S => ⟨(walk r (leftV S o).toNat (slotsV S o)).S, sayV o ++ (walk r (leftV S o).toNat (slotsV S o)).said, holdV o || (walk r (leftV S o).toNat (slotsV S o)).held, (walk r (leftV S o).toNat (slotsV S o)).n + 1⟩
theorem walk_drop : ∀ (L : List O) (k : Nat) (S : List Int), walk L k S = walk (L.drop k) 0 S
  | [], k, S => by simp [walk]
  | _ :: r, 0, S => rfl
  | _ :: r, k + 1, S => by rw [walk, List.drop_succ_cons]; exact walk_drop r k S
/-- What a run does from a place on. -/
def goes (L : List O) (i : Nat) (S : List Int) : R := walk (L.drop i) 0 S
theorem goes_end {L : List O} {i : Nat} {S : List Int} (h : L.length ≤ i) : goes L i S = ⟨S, [], false, 0⟩ := by
  unfold goes
  rw [List.drop_of_length_le h]
  rfl
theorem goes_step {L : List O} {i : Nat} {S : List Int} (h : i < L.length) : goes L i S =
    ⟨(goes L (i + 1 + (leftV S L[i]).toNat) (slotsV S L[i])).S, sayV L[i] ++ (goes L (i + 1 + (leftV S L[i]).toNat) (slotsV S L[i])).said, holdV L[i] || (goes L (i + 1 + (leftV S L[i]).toNat) (slotsV S L[i])).held, (goes L (i + 1 + (leftV S L[i]).toNat) (slotsV S L[i])).n + 1⟩ := by
  unfold goes
  rw [List.drop_eq_getElem_cons h, walk]
  have e : walk (L.drop (i + 1)) (leftV S L[i]).toNat (slotsV S L[i]) = walk (L.drop (i + 1 + (leftV S L[i]).toNat)) 0 (slotsV S L[i]) := by
    rw [walk_drop, List.drop_drop]
  rw [e]
/-- Ops that are bytes. -/
def okO (L : List O) : Prop := ∀ o ∈ L, 0 ≤ o.1 ∧ o.1 ≤ 255
/-- Ops of which none leads back, or far. -/
def okL (L : List O) : Prop := ∀ o ∈ L, o.1 = 3 → 0 ≤ o.2.2 ∧ o.2.2 ≤ 100
theorem slots_len (S : List Int) (o : O) : (slotsV S o).length = S.length := by
  unfold slotsV
  split
  · split <;> simp
  · split
    · split <;> simp
    · rfl
theorem left_bd {L : List O} (h : okL L) {o : O} (ho : o ∈ L) (S : List Int) : 0 ≤ leftV S o ∧ leftV S o ≤ 100 := by
  unfold leftV
  split
  · rename_i k
    exact h o ho k.1
  · omega
theorem one_ok {L : List O} (h : L.all oneB = true) : okL L := by
  intro o ho k
  have : oneP o := of_decide_eq_true (List.all_eq_true.1 h o ho)
  unfold oneP at this
  omega
theorem walk_len : ∀ (L : List O) (k : Nat) (S : List Int), (walk L k S).S.length = S.length ∧ (walk L k S).n ≤ L.length ∧ (walk L k S).said.length ≤ (walk L k S).n
  | [], k, S => by simp [walk]
  | _ :: r, k + 1, S => by
    have := walk_len r k S
    rw [walk]
    simp only [List.length_cons]
    omega
  | o :: r, 0, S => by
    have := walk_len r (leftV S o).toNat (slotsV S o)
    rw [slots_len] at this
    rw [walk]
    have hs : (sayV o).length ≤ 1 := by unfold sayV; split <;> simp
    simp only [List.length_cons, List.length_append]
    omega
theorem slots_in (S : List Int) (o : O) : ∀ x ∈ slotsV S o, x = 0 ∨ x ∈ S := by
  intro x hx
  unfold slotsV at hx
  split at hx
  · split at hx
    · rcases List.mem_or_eq_of_mem_set hx with h | h
      · exact .inr h
      · exact .inl h
    · exact .inr hx
  · split at hx
    · split at hx
      · rename_i k
        rcases List.mem_or_eq_of_mem_set hx with h | h
        · exact .inr h
        · have hk := k.2
          simp only [inB, decide_eq_true_eq] at hk
          rw [List.getD_eq_getElem?_getD, List.getElem?_eq_getElem (by omega)] at h
          exact .inr (h ▸ List.getElem_mem _)
      · exact .inr hx
    · exact .inr hx
theorem walk_mem : ∀ (L : List O) (k : Nat) (S : List Int), ∀ x ∈ (walk L k S).S, x = 0 ∨ x ∈ S
  | [], k, S => by intro x hx; exact .inr hx
  | _ :: r, k + 1, S => by rw [walk]; exact walk_mem r k S
  | o :: r, 0, S => by
    intro x hx
    rw [walk] at hx
    rcases walk_mem r _ _ x hx with h | h
    · exact .inl h
    · exact slots_in S o x h
theorem walk_held : ∀ (L : List O) (k : Nat) (S : List Int), (walk L k S).held = true → L.any holdV = true
  | [], k, S => by simp [walk]
  | _ :: r, k + 1, S => by
    intro h
    rw [walk] at h
    rw [List.any_cons, walk_held r k S h, Bool.or_true]
  | o :: r, 0, S => by
    intro h
    rw [walk] at h
    rw [List.any_cons]
    rcases Bool.or_eq_true_iff.1 h with h | h
    · rw [h]; rfl
    · rw [walk_held r _ _ h, Bool.or_true]
def skipB (o : O) : Bool := decide (o.1 = 3)
/-- All that is said, where nothing is left out. -/
def says (L : List O) : List Int := L.flatMap sayV
theorem walk_plain : ∀ (L : List O) (S : List Int), L.any skipB = false → (walk L 0 S).said = says L ∧ (walk L 0 S).n = L.length
  | [], S => by simp [walk, says]
  | o :: r, S => by
    intro h
    rw [List.any_cons, Bool.or_eq_false_iff] at h
    have e : leftV S o = 0 := by
      unfold leftV
      rw [if_neg]
      have := h.1
      simp only [skipB, decide_eq_false_iff_not] at this
      exact fun k => this k.1
    rw [walk, e]
    have := walk_plain r (slotsV S o) h.2
    simp only [says, List.flatMap_cons] at *
    exact ⟨by rw [show (0 : Int).toNat = 0 from rfl, this.1], by rw [show (0 : Int).toNat = 0 from rfl, this.2]; rfl⟩
/-- Each skip stays within. -/
def inner : List O → Prop
  | [] => True
  | o :: r => (o.1 = 3 → o.2.2 ≤ (r.length : Int)) ∧ inner r
theorem inner_drop : ∀ (L : List O) (k : Nat), inner L → inner (L.drop k)
  | [], k, h => by simp [inner]
  | _ :: r, 0, h => h
  | _ :: r, k + 1, h => by rw [List.drop_succ_cons]; exact inner_drop r k h.2
theorem walk_join : ∀ (n : Nat) (P Q : List O) (S : List Int), P.length ≤ n → inner P → walk (P ++ Q) 0 S =
    ⟨(walk Q 0 (walk P 0 S).S).S, (walk P 0 S).said ++ (walk Q 0 (walk P 0 S).S).said, (walk P 0 S).held || (walk Q 0 (walk P 0 S).S).held, (walk P 0 S).n + (walk Q 0 (walk P 0 S).S).n⟩
  | n, [], Q, S, _, _ => by simp [walk]
  | 0, o :: r, Q, S, h, _ => by simp at h
  | n + 1, o :: r, Q, S, h, hi => by
    have hk : (leftV S o).toNat ≤ r.length := by
      have h1 := hi.1
      unfold leftV
      split
      · rename_i k
        have := h1 k.1
        omega
      · simp
    have e1 : walk (r ++ Q) (leftV S o).toNat (slotsV S o) = walk (r.drop (leftV S o).toNat ++ Q) 0 (slotsV S o) := by
      rw [walk_drop, List.drop_append_of_le_length hk]
    have e2 : walk r (leftV S o).toNat (slotsV S o) = walk (r.drop (leftV S o).toNat) 0 (slotsV S o) := walk_drop _ _ _
    have ih := walk_join n (r.drop (leftV S o).toNat) Q (slotsV S o) (by rw [List.length_drop]; simp at h; omega) (inner_drop _ _ hi.2)
    rw [List.cons_append, walk, walk, e1, e2, ih]
    simp [List.append_assoc, Bool.or_assoc, Nat.add_right_comm]

/-- The op that the document's Fit makes of another one. -/
def fitO (o : O) : O :=
  if o.1 % 5 = 0 then (0, o.2.1 % 64, 0) else if o.1 % 5 = 1 then (1, o.2.1 % 8 % 6, 0) else if o.1 % 5 = 2 then (2, o.2.1 % 8 % 6, o.2.2 % 8 % 6)
  else if o.1 % 5 = 3 then (3, o.2.1 % 8 % 6, o.2.2 % 8) else (4, 0, 0)
def fitP (L : List O) : List O := (L.take 8).map fitO
def fitL (L : List (List O)) : List (List O) := (L.take 8).map fitP
theorem fit_one (o : O) (h : 0 ≤ o.1) : oneB (fitO o) = true := by
  have h5 : o.1 % 5 = 0 ∨ o.1 % 5 = 1 ∨ o.1 % 5 = 2 ∨ o.1 % 5 = 3 ∨ o.1 % 5 = 4 := by omega
  simp only [oneB, decide_eq_true_eq]
  unfold fitO oneP
  rcases h5 with e | e | e | e | e <;> simp [e] <;> omega
theorem fit_prog (L : List O) (h : ∀ o ∈ L, 0 ≤ o.1) : progB (fitP L) = true := by
  unfold progB fitP
  rw [Bool.and_eq_true, decide_eq_true_eq, List.length_map, List.length_take, List.all_map]
  refine ⟨by omega, List.all_eq_true.2 fun o ho => fit_one o (h o (List.mem_of_mem_take ho))⟩
end Go.Proofs.Ytapbhcpcechccaa.Fina
