/-
  Contracts of package ctl and of the document's own answers for it: each returns the plain values rightB, packV, .. for every four integers, and changes nothing that was there.
-/
import Derived.Test.YtkkmhapfhnnooaaProg
import Derived.WalkKit
import Derived.ProofKit
import Derived.OpenShut
import Derived.IntWalk
import Derived.Lib.Hide
import Derived.Below
import Derived.RegionTactic
import Derived.BigRegion
import Derived.Deep.QuietTactic
import Derived.BigQuiet
namespace Go.Proofs.Ytkkmhapfhnnooaa.Ctl
open Go.ChangeShapes Go.WideShapes Go.ChangeAt Go.RowKit
set_option linter.unusedVariables false

theorem ret_int {k : IntKind} {a b : Int} (h : a = b) : Ending.returned (.int k a) = .returned (.int k b) := by rw [h]
theorem ret_bool {a b : Bool} (h : a = b) : Ending.returned (.bool a) = .returned (.bool b) := by rw [h]

def withinB (a lo hi : Int) : Bool := decide (lo ≤ a ∧ a ≤ hi)
def scopeB (a : Int) : Bool := decide (0 ≤ a ∧ a ≤ 7)
def parentB (a : Int) : Bool := decide (-1 ≤ a ∧ a ≤ 7)
def rightB (s c p e : Int) : Bool := decide (0 ≤ e ∧ e ≤ 16777215 ∧ (((s = 0 ∨ s = 1) ∧ c = 0 ∧ p = -1) ∨ (s = 2 ∧ 1 ≤ c ∧ c ≤ 7 ∧ -1 ≤ p ∧ p ≤ 7) ∨ (s = 3 ∧ c = 0 ∧ -1 ≤ p ∧ p ≤ 7)))

set_option maxHeartbeats 400000 in
theorem within_any (a lo hi : Int) (w : World) :
    Calls Try.prog 42 #[.int .i64 a, .int .i64 lo, .int .i64 hi] w fun e w' => e = .returned (.bool (withinB a lo hi)) ∧ w = w' := by
  by_cases h1 : lo ≤ a
  · by_cases h2 : a ≤ hi
    all_goals
      go_enter Try.func42, Try.ntmps42
      go_wp2
      go_ret
      exact ⟨ret_bool (by simp [withinB]; omega), rfl⟩
  · go_enter Try.func42, Try.ntmps42
    go_wp2
    go_ret
    exact ⟨ret_bool (by simp [withinB]; omega), rfl⟩

theorem isscope_any (a : Int) (w : World) :
    Calls Try.prog 89 #[.int .i64 a] w fun e w' => e = .returned (.bool (scopeB a)) ∧ w = w' := by
  go_enter Try.func89, Try.ntmps89
  go_wp2_with (go_at_call 42; refine (within_any _ _ _ _).mono ?_; rintro e w' ⟨rfl, rfl⟩)
  go_ret
  exact ⟨ret_bool (by simp [withinB, scopeB]), rfl⟩

theorem maybeparent_any (a : Int) (w : World) :
    Calls Try.prog 90 #[.int .i64 a] w fun e w' => e = .returned (.bool (parentB a)) ∧ w = w' := by
  by_cases h : a = -1
  · have h' : (a == -1) = true := by simpa using h
    subst h
    go_enter Try.func90, Try.ntmps90
    go_wp2_with (go_at_call 89; refine (isscope_any _ _).mono ?_; rintro e w' ⟨rfl, rfl⟩)
    go_ret
    exact ⟨ret_bool (by simp [parentB]), rfl⟩
  · have h' : (a == -1) = false := by simpa using h
    have H := Lib.hid h
    clear h
    go_enter Try.func90, Try.ntmps90
    go_wp2_with (go_at_call 89; refine (isscope_any _ _).mono ?_; rintro e w' ⟨rfl, rfl⟩)
    go_ret
    exact ⟨ret_bool (by have := H.out; unfold scopeB parentB; exact decide_eq_decide.2 (by omega)), rfl⟩

set_option maxHeartbeats 1000000 in
theorem right_any (s c p e : Int) (w : World) :
    Calls Try.prog 88 #[.agg #[.int .i64 s, .int .i64 c, .int .i64 p, .int .i64 e]] w fun z w' => z = .returned (.bool (rightB s c p e)) ∧ Below w.heap.size w w' := by
  go_enter Try.func88, Try.ntmps88
  go_wp2_with (first
    | (go_at_call 42; refine (within_any _ _ _ _).mono ?_; rintro e w' ⟨rfl, rfl⟩)
    | (go_at_call 90; refine (maybeparent_any _ _).mono ?_; rintro e w' ⟨rfl, rfl⟩))
  all_goals
    go_ret
    refine ⟨ret_bool ?_, (Below.refl _ _).alloc (Nat.le_refl _) _⟩
    simp only [Bool.not_eq_true', Bool.not_eq_false', withinB, parentB, decide_eq_true_eq, decide_eq_false_iff_not, beq_iff_eq, beq_eq_false_iff_ne, ne_eq] at *
    rw [Bool.eq_iff_iff]
    simp only [rightB, beq_iff_eq, decide_eq_true_eq, Bool.false_eq_true, false_iff]
    omega

set_option maxHeartbeats 1000000 in
theorem refright_any (s c p e : Int) (w : World) :
    Calls Try.prog 80 #[.agg #[.int .i64 s, .int .i64 c, .int .i64 p, .int .i64 e]] w fun z w' => z = .returned (.bool (rightB s c p e)) ∧ Below w.heap.size w w' := by
  go_enter Try.func80, Try.ntmps80
  go_wp2
  all_goals
    go_ret
    refine ⟨ret_bool ?_, (Below.refl _ _).alloc (Nat.le_refl _) _⟩
    try simp only [beq_iff_eq, beq_eq_false_iff_ne, ne_eq] at *
    rw [Bool.eq_iff_iff]
    simp only [rightB, beq_iff_eq, decide_eq_true_eq, Bool.false_eq_true, false_iff]
    omega
end Go.Proofs.Ytkkmhapfhnnooaa.Ctl
