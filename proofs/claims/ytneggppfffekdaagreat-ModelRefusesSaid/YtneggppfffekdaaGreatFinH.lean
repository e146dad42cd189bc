/-
  Finalizers one behind the other, in plain mathematics: what the objects of some handles are behind it, what was said, how many.
-/
import Derived.Test.YtneggppfffekdaaGreatInv
namespace Go.Proofs.YtneggppfffekdaaGreat.Mod
open Sco
set_option linter.unusedVariables false

structure Fa where
  O : List Ob
  said : List Int
  n : Nat
  c : Int
def finO (FF : List (List Fina.O)) (o : Ob) : Ob := ⟨o.s, o.e, o.a, (Fina.walk (ops FF o) 0 o.sl).S, o.tag, true⟩
def skipO (FF : List (List Fina.O)) (o : Ob) : Bool := o.d || decide ((ops FF o).length = 0)
def stepH (FF : List (List Fina.O)) (A : Fa) (h : Int) : Fa :=
  match A.O.find? (fun o => o.h == h) with
  | none => A
  | some o => if skipO FF o = true then A else ⟨A.O.map (fun q => if q.h = h then finO FF q else q), A.said ++ (Fina.walk (ops FF o) 0 o.sl).said, A.n + 1, if (Fina.walk (ops FF o) 0 o.sl).held = true then 25 else A.c⟩
def startH (O : List Ob) : Fa := ⟨O, [], 0, 0⟩
def runH (FF : List (List Fina.O)) (O : List Ob) (L : List Int) : Fa := L.foldl (stepH FF) (startH O)
theorem fin_h (FF : List (List Fina.O)) (o : Ob) : (finO FF o).h = o.h := rfl
theorem run_snoc (FF : List (List Fina.O)) (O : List Ob) (L : List Int) (h : Int) : runH FF O (L ++ [h]) = stepH FF (runH FF O L) h := by
  unfold runH
  rw [List.foldl_append]
  rfl
/-- What the objects are when some of them were done: those whose handles are in D. -/
def doneO (FF : List (List Fina.O)) (D : List Int) (o : Ob) : Ob := if D.contains o.h = true ∧ skipO FF o = false then finO FF o else o
theorem done_h (FF : List (List Fina.O)) (D : List Int) (o : Ob) : (doneO FF D o).h = o.h := by
  unfold doneO
  split <;> rfl
theorem find_map {O : List Ob} {g : Ob → Ob} (hg : ∀ o, (g o).h = o.h) (h : Int) : (O.map g).find? (fun o => o.h == h) = (O.find? (fun o => o.h == h)).map g := by
  induction O with
  | nil => rfl
  | cons o O ih =>
    rw [List.map_cons, List.find?_cons, List.find?_cons, hg]
    cases o.h == h with
    | true => rfl
    | false => exact ih
theorem find_one {O : List Ob} (hd : O.Pairwise fun o p => o.h ≠ p.h) {o : Ob} (ho : o ∈ O) : O.find? (fun q => q.h == o.h) = some o := by
  induction O with
  | nil => cases ho
  | cons q O ih =>
    obtain ⟨h1, h2⟩ := List.pairwise_cons.1 hd
    rw [List.find?_cons]
    rcases List.mem_cons.1 ho with rfl | ho
    · rw [show (o.h == o.h) = true from beq_iff_eq.2 rfl]
    · rw [show (q.h == o.h) = false from beq_eq_false_iff_ne.2 (h1 o ho)]
      exact ih h2 ho
/-- A run over handles of some objects, each once. -/
theorem run_all {FF : List (List Fina.O)} {O : List Ob} (hd : O.Pairwise fun o p => o.h ≠ p.h) : ∀ (P : List Ob), (∀ o ∈ P, o ∈ O) → P.Pairwise (fun o p => o.h ≠ p.h) →
    runH FF O (P.map Ob.h) = ⟨O.map (doneO FF (P.map Ob.h)), (P.filter (fun o => !skipO FF o)).flatMap (fun o => (Fina.walk (ops FF o) 0 o.sl).said), (P.filter (fun o => !skipO FF o)).length, if (P.filter (fun o => !skipO FF o)).any (fun o => (Fina.walk (ops FF o) 0 o.sl).held) = true then 25 else 0⟩ := by
  intro P
  -- from behind
  suffices H : ∀ (Q : List Ob), (∀ o ∈ Q.reverse, o ∈ O) → Q.reverse.Pairwise (fun o p => o.h ≠ p.h) → runH FF O (Q.reverse.map Ob.h) = ⟨O.map (doneO FF (Q.reverse.map Ob.h)), (Q.reverse.filter (fun o => !skipO FF o)).flatMap (fun o => (Fina.walk (ops FF o) 0 o.sl).said), (Q.reverse.filter (fun o => !skipO FF o)).length, if (Q.reverse.filter (fun o => !skipO FF o)).any (fun o => (Fina.walk (ops FF o) 0 o.sl).held) = true then 25 else 0⟩ by
    intro h1 h2
    have := H P.reverse (by rw [List.reverse_reverse]; exact h1) (by rw [List.reverse_reverse]; exact h2)
    rw [List.reverse_reverse] at this
    exact this
  intro Q
  induction Q with
  | nil =>
    intro _ _
    have : O.map (doneO FF []) = O := by
      conv => rhs; rw [← List.map_id O]
      apply List.map_congr_left
      intro o _
      unfold doneO
      rw [if_neg (by simp)]
      rfl
    show startH O = _
    unfold startH
    rw [show (([] : List Ob).reverse.map Ob.h) = [] from rfl, this]
    rfl
  | cons q Q ih =>
    intro h1 h2
    rw [List.reverse_cons] at h1 h2 ⊢
    obtain ⟨p1, p2, p3⟩ := List.pairwise_append.1 h2
    have hq : q ∈ O := h1 q (by simp)
    have hnot : (Q.reverse.map Ob.h).contains q.h = false := by
      cases hc : (Q.reverse.map Ob.h).contains q.h with
      | false => rfl
      | true =>
        rw [List.contains_iff_mem] at hc
        obtain ⟨o, ho, e⟩ := List.mem_map.1 hc
        exact absurd e (p3 o ho q (by simp))
    rw [List.map_append, List.map_cons, List.map_nil, run_snoc, ih (fun o ho => h1 o (by simp at ho ⊢; exact .inl ho)) p1]
    have hf : (O.map (doneO FF (Q.reverse.map Ob.h))).find? (fun o => o.h == q.h) = some q := by
      rw [find_map (done_h FF _), find_one hd hq]
      show some (doneO FF _ q) = some q
      unfold doneO
      rw [if_neg (by rw [hnot]; simp)]
    unfold stepH
    rw [hf]
    simp only
    rw [List.filter_append]
    by_cases hs : skipO FF q = true
    · rw [if_pos hs, show List.filter (fun o => !skipO FF o) [q] = [] from by simp [hs], List.append_nil]
      congr 1
      apply List.map_congr_left
      intro o ho
      unfold doneO
      by_cases e : o.h = q.h
      · have eo : o = q := by
          have a1 := find_one hd ho
          rw [e, find_one hd hq] at a1
          injection a1 with a1
          exact a1.symm
        subst eo
        rw [if_neg (by rw [hs]; simp), if_neg (by rw [hs]; simp)]
      · have : (Q.reverse.map Ob.h ++ [q.h]).contains o.h = (Q.reverse.map Ob.h).contains o.h := by
          rw [Bool.eq_iff_iff, List.contains_iff_mem, List.contains_iff_mem, List.mem_append]
          simp [e]
        rw [this]
    · have hs : skipO FF q = false := by simpa using hs
      rw [if_neg (by rw [hs]; simp), show List.filter (fun o => !skipO FF o) [q] = [q] from by simp [hs], List.flatMap_append, List.length_append, List.any_append]
      have hO : (O.map (doneO FF (Q.reverse.map Ob.h))).map (fun o => if o.h = q.h then finO FF o else o) = O.map (doneO FF (Q.reverse.map Ob.h ++ [q.h])) := by
        rw [List.map_map]
        apply List.map_congr_left
        intro o ho
        show (if (doneO FF (Q.reverse.map Ob.h) o).h = q.h then finO FF (doneO FF (Q.reverse.map Ob.h) o) else doneO FF (Q.reverse.map Ob.h) o) = _
        rw [done_h]
        by_cases e : o.h = q.h
        · have eo : o = q := by
            have a1 := find_one hd ho
            rw [e, find_one hd hq] at a1
            injection a1 with a1
            exact a1.symm
          subst eo
          rw [if_pos rfl]
          unfold doneO
          rw [if_neg (by rw [hnot]; simp), if_pos ⟨by simp, hs⟩]
        · rw [if_neg e]
          have : (Q.reverse.map Ob.h ++ [q.h]).contains o.h = (Q.reverse.map Ob.h).contains o.h := by
            rw [Bool.eq_iff_iff, List.contains_iff_mem, List.contains_iff_mem, List.mem_append]
            simp [e]
          unfold doneO
          rw [this]
      rw [hO]
      simp only [Fa.mk.injEq, true_and, List.length_singleton, List.flatMap_cons, List.flatMap_nil, List.append_nil]
      rw [List.any_cons, List.any_nil, Bool.or_false]
      generalize (List.filter (fun o => !skipO FF o) Q.reverse).any (fun o => (Fina.walk (ops FF o) 0 o.sl).held) = b1
      generalize (Fina.walk (ops FF q) 0 q.sl).held = b2
      cases b1 <;> cases b2 <;> rfl
/-- The run over all handles of a scope, the last one first. -/
theorem run_scope {FF : List (List Fina.O)} {O : List Ob} (hd : O.Pairwise fun o p => o.h ≠ p.h) (s : Nat) :
    runH FF O (hs s O).reverse = ⟨O.map (fin1 FF s), finSaid FF s O, (todoL FF s O).length, if finHeld FF s O = true then 25 else 0⟩ := by
  have hP : (hs s O).reverse = ((O.filter (fun o => decide (o.s = (s : Int)))).reverse).map Ob.h := by
    unfold hs
    rw [List.map_reverse]
  have hF : ((O.filter (fun o => decide (o.s = (s : Int)))).reverse).filter (fun o => !skipO FF o) = todoL FF s O := by
    unfold todoL
    rw [List.filter_reverse, List.filter_filter]
    congr 1
    apply List.filter_congr
    intro o _
    unfold todo skipO
    cases o.d <;> cases decide (o.s = (s : Int)) <;> by_cases c : (ops FF o).length = 0 <;> simp [c]
  rw [hP, run_all hd _ (fun o ho => (List.mem_filter.1 (List.mem_reverse.1 ho)).1) (by
    rw [List.pairwise_reverse]
    exact (hd.filter _).imp fun h e => h e.symm), hF]
  unfold finSaid finHeld
  congr 1
  apply List.map_congr_left
  intro o ho
  unfold doneO fin1 todo
  have : (((O.filter (fun o => decide (o.s = (s : Int)))).reverse).map Ob.h).contains o.h = decide (o.s = (s : Int)) := by
    rw [Bool.eq_iff_iff, List.contains_iff_mem, decide_eq_true_iff]
    constructor
    · intro hm
      obtain ⟨q, hq, e⟩ := List.mem_map.1 hm
      have hq := List.mem_filter.1 (List.mem_reverse.1 hq)
      have a1 := find_one hd ho
      rw [← e, find_one hd hq.1] at a1
      injection a1 with a1
      rw [← a1]
      exact of_decide_eq_true hq.2
    · intro e
      exact List.mem_map.2 ⟨o, List.mem_reverse.2 (List.mem_filter.2 ⟨ho, decide_eq_true e⟩), rfl⟩
  rw [this]
  unfold skipO
  by_cases c1 : o.s = (s : Int)
  · by_cases c2 : o.d = true
    · simp [c1, c2]
    · by_cases c3 : (ops FF o).length = 0
      · simp [c1, c2, c3]
      · simp [c1, c2, c3, finO]
  · simp [c1]
/-- What stays of objects in a run. -/
theorem step_keeps {FF : List (List Fina.O)} {A : Fa} {h : Int} : ((stepH FF A h).O.map Ob.h = A.O.map Ob.h) ∧ ((stepH FF A h).O.map Ob.s = A.O.map Ob.s) ∧ ((stepH FF A h).O.map (fun o => o.sl.length) = A.O.map (fun o => o.sl.length)) ∧ (stepH FF A h).n ≤ A.n + 1 := by
  unfold stepH
  split
  · exact ⟨rfl, rfl, rfl, by omega⟩
  · split
    · exact ⟨rfl, rfl, rfl, by omega⟩
    · refine ⟨?_, ?_, ?_, Nat.le_refl _⟩
      · rw [List.map_map]
        apply List.map_congr_left
        intro o _
        simp only [Function.comp]
        split <;> rfl
      · rw [List.map_map]
        apply List.map_congr_left
        intro o _
        simp only [Function.comp]
        split <;> rfl
      · rw [List.map_map]
        apply List.map_congr_left
        intro o _
        simp only [Function.comp]
        split
        · exact (Fina.walk_len _ _ _).1
        · rfl
end Go.Proofs.YtneggppfffekdaaGreat.Mod
