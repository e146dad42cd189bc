/-
  What a law's walk carries from call to call: nothing below has changed, and each local struct of four integers stands where it stood.
-/
import Derived.Test.YtkogamgnkccdlaaShown
import Derived.Deep.RegionHeld3
namespace Go.Proofs.Ytkogamgnkccdlaa.Ctl
open Go.ChangeShapes Go.WideShapes Go.ChangeAt Go.RowKit
set_option linter.unusedVariables false

/-- A struct of four integers at block b. -/
structure At (w : World) (b : Nat) (s c p e : Int) : Prop where
  lt : b < w.heap.size
  c0 : w.cell? ⟨b, 0, none⟩ = some (.int .i64 s)
  c1 : w.cell? ⟨b, 1, none⟩ = some (.int .i64 c)
  c2 : w.cell? ⟨b, 2, none⟩ = some (.int .i64 p)
  c3 : w.cell? ⟨b, 3, none⟩ = some (.int .i64 e)
abbrev Loc := Nat × Int × Int × Int × Int
structure St (w0 w : World) (L : List Loc) : Prop where
  below : Below w0.heap.size w0 w
  at_ : ∀ x ∈ L, At w x.1 x.2.1 x.2.2.1 x.2.2.2.1 x.2.2.2.2
theorem At.below {w w' : World} {b : Nat} {s c p e : Int} (h : At w b s c p e) (k : Below w.heap.size w w') : At w' b s c p e :=
  ⟨Nat.lt_of_lt_of_le h.lt k.size, (k.cell (p := ⟨b, 0, none⟩) h.lt).trans h.c0, (k.cell (p := ⟨b, 1, none⟩) h.lt).trans h.c1, (k.cell (p := ⟨b, 2, none⟩) h.lt).trans h.c2, (k.cell (p := ⟨b, 3, none⟩) h.lt).trans h.c3⟩
theorem St.start (w : World) : St w w [] := ⟨Below.refl _ _, fun x h => by cases h⟩
theorem St.call {w0 w w' : World} {L : List Loc} (S : St w0 w L) (k : Below w.heap.size w w') : St w0 w' L :=
  ⟨S.below.trans (k.mono S.below.size), fun x h => (S.at_ x h).below k⟩
theorem St.drew {w0 w : World} {L : List Loc} (S : St w0 w L) : St w0 w.drew L := S.call (Below.refl _ _).drew
theorem St.alloc {w0 w : World} {L : List Loc} (S : St w0 w L) (o : Obj) : St w0 (w.alloc o) L := S.call ((Below.refl _ _).alloc (Nat.le_refl _) _)
theorem St.new {w0 w : World} {L : List Loc} (S : St w0 w L) (s c p e : Int) (t : TypeId) :
    St w0 (w.alloc (.cells #[.int .i64 s, .int .i64 c, .int .i64 p, .int .i64 e] t)) ((w.heap.size, s, c, p, e) :: L) := by
  refine ⟨(S.alloc _).below, fun x h => ?_⟩
  rcases List.mem_cons.1 h with rfl | h
  · exact ⟨by simp, by simp [go_sem], by simp [go_sem], by simp [go_sem], by simp [go_sem]⟩
  · exact (S.alloc _).at_ x h
theorem St.two (w : World) (s c p e s' c' p' e' : Int) (t : TypeId) :
    St w ((w.alloc (.cells #[.int .i64 s, .int .i64 c, .int .i64 p, .int .i64 e] t)).alloc (.cells #[.int .i64 s', .int .i64 c', .int .i64 p', .int .i64 e'] t)) [(w.heap.size + 1, s', c', p', e'), (w.heap.size, s, c, p, e)] := by
  have h := ((St.start w).new s c p e t).new s' c' p' e' t
  rw [World.size_alloc] at h
  exact h
theorem St.new2 {w0 w : World} {L : List Loc} (S : St w0 w L) (s c p e s' c' p' e' : Int) (t : TypeId) :
    St w0 ((w.alloc (.cells #[.int .i64 s, .int .i64 c, .int .i64 p, .int .i64 e] t)).alloc (.cells #[.int .i64 s', .int .i64 c', .int .i64 p', .int .i64 e'] t)) ((w.heap.size + 1, s', c', p', e') :: (w.heap.size, s, c, p, e) :: L) := by
  have h := (S.new s c p e t).new s' c' p' e' t
  rw [World.size_alloc] at h
  exact h
theorem St.get {w0 w : World} {L : List Loc} (S : St w0 w L) (i : Nat) {b : Nat} {s c p e : Int} (h : L[i]? = some (b, s, c, p, e)) :
    b < w.heap.size ∧ w.cell? ⟨b, 0, none⟩ = some (.int .i64 s) ∧ w.cell? ⟨b, 1, none⟩ = some (.int .i64 c) ∧ w.cell? ⟨b, 2, none⟩ = some (.int .i64 p) ∧ w.cell? ⟨b, 3, none⟩ = some (.int .i64 e) := by
  have A := S.at_ _ (List.mem_of_getElem? h)
  exact ⟨A.lt, A.c0, A.c1, A.c2, A.c3⟩
theorem lift {f : FuncId} {args : Array Value} {w0 w : World} {L : List Loc} {r : Ending} (S : St w0 w L) (h : Calls Try.prog f args w fun e w' => e = r ∧ Below w.heap.size w w') :
    Calls Try.prog f args w fun e w' => e = r ∧ St w0 w' L := h.mono fun e w' ⟨he, k⟩ => ⟨he, S.call k⟩

/-- What Fit makes may be, and its word tells it. -/
theorem fit_all (a0 a1 a2 a3 : Int) : ∃ s c p e P : Int, rightB s c p e = true ∧ packV s c p e = P ∧ packE s c p e = 0 ∧ unV P = ⟨s, c, p, e, 0⟩ ∧ 0 ≤ P ∧ P < 4398046511104 ∧ P = s + 4 * c + 1024 * (p + 1) + 262144 * e ∧
    (0 ≤ s ∧ s ≤ 3 ∧ 0 ≤ c ∧ c ≤ 7 ∧ -1 ≤ p ∧ p ≤ 7 ∧ 0 ≤ e ∧ e ≤ 16777215) ∧
    ∀ w, Calls Try.prog 24 #[.agg #[.int .i64 a0, .int .i64 a1, .int .i64 a2, .int .i64 a3]] w fun z w' => z = .returned (.agg #[.int .i64 s, .int .i64 c, .int .i64 p, .int .i64 e]) ∧ Below w.heap.size w w' := by
  have hr := fit_right a0 a1 a2 a3
  have F := fit_any a0 a1 a2 a3
  revert F hr
  generalize a0 % 4 = s
  generalize fitC a0 a1 = c
  generalize fitP a0 a2 = p
  generalize a3 % 16777216 = e
  intro hr F
  have hr' := of_decide_eq_true (show decide _ = true from hr)
  have b1 : 0 ≤ s ∧ s ≤ 3 ∧ 0 ≤ c ∧ c ≤ 7 ∧ -1 ≤ p ∧ p ≤ 7 ∧ 0 ≤ e ∧ e ≤ 16777215 := by omega
  have hu : unV (s + 4 * c + 1024 * (p + 1) + 262144 * e) = ⟨s, c, p, e, 0⟩ := by
    have e1 : (s + 4 * c + 1024 * (p + 1) + 262144 * e) % 4 = s := by omega
    have e2 : (s + 4 * c + 1024 * (p + 1) + 262144 * e) / 4 % 256 = c := by omega
    have e3 : (s + 4 * c + 1024 * (p + 1) + 262144 * e) / 1024 % 256 - 1 = p := by omega
    have e4 : (s + 4 * c + 1024 * (p + 1) + 262144 * e) / 262144 = e := by omega
    unfold unV unB
    rw [e1, e2, e3, e4, if_pos hr]
  exact ⟨s, c, p, e, _, hr, by unfold packV; rw [if_pos hr], by unfold packE; rw [if_pos hr], hu, by omega, by omega, rfl, b1, F⟩

/-- A word that tells something is its word; one that tells nothing tells zeros. -/
theorem un_all (x : Int) (x1 : 0 ≤ x) (x2 : x ≤ 18446744073709551615) :
    (∃ s c p e : Int, unV x = ⟨s, c, p, e, 0⟩ ∧ packV s c p e = x ∧ packE s c p e = 0 ∧ rightB s c p e = true) ∨ unV x = ⟨0, 0, 0, 0, 1⟩ := by
  by_cases hu : unB x = true
  · refine .inl ⟨x % 4, x / 4 % 256, x / 1024 % 256 - 1, x / 262144, ?_, ?_, ?_, hu⟩
    · unfold unV; rw [if_pos hu]
    · have hr : rightB (x % 4) (x / 4 % 256) (x / 1024 % 256 - 1) (x / 262144) = true := hu
      have hr' := of_decide_eq_true (show decide _ = true from hr)
      unfold packV; rw [if_pos hr]; omega
    · have hr : rightB (x % 4) (x / 4 % 256) (x / 1024 % 256 - 1) (x / 262144) = true := hu
      unfold packE; rw [if_pos hr]
  · exact .inr (by unfold unV; rw [if_neg hu]; rfl)
end Go.Proofs.Ytkogamgnkccdlaa.Ctl
