/-
  A local struct of four integers that is stored into: what a round of CtlRounds carries; and what entering and leaving come to, round by round.
-/
import Derived.Test.YtkogamgnkccdlaaSt
namespace Go.Proofs.Ytkogamgnkccdlaa.Ctl
open Go.ChangeShapes Go.WideShapes Go.ChangeAt Go.RowKit
set_option linter.unusedVariables false

structure Ro (w0 w : World) (b : Nat) (s c p e : Int) : Prop where
  st : St w0 w [(b, s, c, p, e)]
  own : w0.heap.size ≤ b
  fz : ∀ o, w.frozen? ⟨b, o, none⟩ = false
theorem Ro.call {w0 w w' : World} {b : Nat} {s c p e : Int} (R : Ro w0 w b s c p e) (k : Below w.heap.size w w') : Ro w0 w' b s c p e :=
  ⟨R.st.call k, R.own, fun o => (k.frozen (p := ⟨b, o, none⟩) (R.st.get 0 rfl).1).trans (R.fz o)⟩
theorem Ro.alloc {w0 w : World} {b : Nat} {s c p e : Int} (R : Ro w0 w b s c p e) (o : Obj) : Ro w0 (w.alloc o) b s c p e := R.call ((Below.refl _ _).alloc (Nat.le_refl _) _)
theorem Ro.new (w0 w : World) (S : St w0 w []) (s c p e : Int) (t : TypeId) :
    Ro w0 (w.alloc (.cells #[.int .i64 s, .int .i64 c, .int .i64 p, .int .i64 e] t)) w.heap.size s c p e :=
  ⟨S.new s c p e t, S.below.size, fun o => by simp⟩
theorem Ro.put {w0 w : World} {b : Nat} {s c p e : Int} (R : Ro w0 w b s c p e) (s' c' p' e' : Int) :
    Ro w0 ((((w.setCell ⟨b, 0, none⟩ (.int .i64 s')).setCell ⟨b, 1, none⟩ (.int .i64 c')).setCell ⟨b, 2, none⟩ (.int .i64 p')).setCell ⟨b, 3, none⟩ (.int .i64 e')) b s' c' p' e' := by
  obtain ⟨l, q0, q1, q2, q3⟩ := R.st.get 0 rfl
  refine ⟨⟨(((R.st.below.setCell R.own _).setCell R.own _).setCell R.own _).setCell R.own _, fun x h => ?_⟩, R.own, fun o => ?_⟩
  · rcases List.mem_cons.1 h with rfl | h
    · exact ⟨by simpa [World.setCell] using l, by simp [go_sem, q0], by simp [go_sem, q1], by simp [go_sem, q2], by simp [go_sem, q3]⟩
    · cases h
  · have := R.fz o
    simp [this]
theorem Ro.lift {f : FuncId} {args : Array Value} {w0 w : World} {b : Nat} {s c p e : Int} {r : Ending} (R : Ro w0 w b s c p e) (h : Calls Try.prog f args w fun e w' => e = r ∧ Below w.heap.size w w') :
    Calls Try.prog f args w fun z w' => z = r ∧ Ro w0 w' b s c p e := h.mono fun z w' ⟨he, k⟩ => ⟨he, R.call k⟩
theorem Ro.of {w0 w : World} {b : Nat} {s c p e s' c' p' e' : Int} (R : Ro w0 w b s c p e) (h1 : s = s') (h2 : c = c') (h3 : p = p') (h4 : e = e') : Ro w0 w b s' c' p' e' := by
  subst h1 h2 h3 h4; exact R

def inS (k : Nat) : Int := if k = 0 then 1 else 2
def inP (A : Int) (k : Nat) : Int := if k = 0 then -1 else A
def ouS (K j : Nat) : Int := if j = K then 3 else 2
theorem ent_round (A E : Int) (k : Nat) (a1 : 0 ≤ A) (a2 : A ≤ 7) (e1 : 0 ≤ E) (e2 : E ≤ 16777215) (hk : k < 7) : entV (inS k) (k : Int) (inP A k) E A = ⟨2, (k : Int) + 1, A, E, 0⟩ := by
  unfold inS inP
  by_cases h : k = 0
  · subst h
    have hr : rightB 1 0 (-1) E = true := decide_eq_true (by omega)
    unfold entV
    rw [if_pos rfl, if_pos rfl, if_pos ⟨hr, a1, a2⟩]
    rfl
  · have hr : rightB 2 (k : Int) A E = true := decide_eq_true (by omega)
    unfold entV
    rw [if_neg h, if_neg h, if_pos ⟨hr, a1, a2⟩, if_neg (by omega), if_neg (by omega), if_neg (by omega), if_pos rfl, if_neg (by omega)]
theorem le_last (A E : Int) (K j : Nat) (a1 : 0 ≤ A) (a2 : A ≤ 7) (e1 : 0 ≤ E) (e2 : E ≤ 16777215) (hj : j + 1 = K) (hK : K ≤ 7) : leV (ouS K j) ((K : Int) - j) A E = ⟨3, 0, A, E, 0⟩ := by
  have hs : ouS K j = 2 := by unfold ouS; rw [if_neg (by omega)]
  have hr : rightB 2 ((K : Int) - j) A E = true := decide_eq_true (by omega)
  unfold leV
  rw [hs, if_pos hr, if_pos rfl, if_pos (by omega)]
theorem le_more (A E : Int) (K j : Nat) (a1 : 0 ≤ A) (a2 : A ≤ 7) (e1 : 0 ≤ E) (e2 : E ≤ 16777215) (hj : j + 1 < K) (hK : K ≤ 7) : leV (ouS K j) ((K : Int) - j) A E = ⟨2, (K : Int) - 1 - j, A, E, 0⟩ := by
  have hs : ouS K j = 2 := by unfold ouS; rw [if_neg (by omega)]
  have hr : rightB 2 ((K : Int) - j) A E = true := decide_eq_true (by omega)
  unfold leV
  rw [hs, if_pos hr, if_pos rfl, if_neg (by omega), show (K : Int) - j - 1 = K - 1 - j by omega]
end Go.Proofs.Ytkogamgnkccdlaa.Ctl
