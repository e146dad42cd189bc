/-
  Contracts of package head's small calls: mayBeSlots, Right, Words, asNumber, and of the document's Right and Words: each returns the plain values rightB, wordsV, .. for every argument, and changes nothing that was there.
-/
import Derived.Test.YtgihoicppeegaaaProg
import Derived.WalkKit
import Derived.ProofKit
import Derived.OpenShut
import Derived.IntWalk
import Derived.Lib.Hide
import Derived.Below
import Derived.RegionTactic
import Derived.BigRegion
import Derived.Deep.QuietTactic
import Derived.BigQuiet
import Derived.Laws.BitsAllLaws
import Derived.Deep.RegionHeld3
import Derived.Test.YtgihoicppeegaaaSt
namespace Go.Proofs.Ytgihoicppeegaaa.Heads
open Go.ChangeShapes Go.WideShapes Go.ChangeAt Go.RowKit
open Held
set_option linter.unusedVariables false

theorem ret_int {k : IntKind} {a b : Int} (h : a = b) : Ending.returned (.int k a) = .returned (.int k b) := by rw [h]
theorem ret_bool {a b : Bool} (h : a = b) : Ending.returned (.bool a) = .returned (.bool b) := by rw [h]
def withinB (a lo hi : Int) : Bool := decide (lo ≤ a ∧ a ≤ hi)
def slotsB (a : Int) : Bool := decide (0 ≤ a ∧ a ≤ 6)
def rightB (s n t c e : Int) : Bool := decide (0 ≤ n ∧ n ≤ 6 ∧ 2 + n ≤ s ∧ s ≤ 72 ∧ 0 ≤ t ∧ t ≤ 7 ∧ 0 ≤ c ∧ c ≤ 7 ∧ 0 ≤ e ∧ e ≤ 16777215)
theorem rbounds {s n t c e : Int} (h : rightB s n t c e = true) : 0 ≤ n ∧ n ≤ 6 ∧ 2 + n ≤ s ∧ s ≤ 72 ∧ 0 ≤ t ∧ t ≤ 7 ∧ 0 ≤ c ∧ c ≤ 7 ∧ 0 ≤ e ∧ e ≤ 16777215 := of_decide_eq_true h
structure Y where
  n : Int
  err : Int
def mayB (n b : Int) : Bool := decide (0 ≤ n ∧ n ≤ 6 ∧ 0 ≤ b ∧ b ≤ 512)
def wordsV (n b : Int) : Y := if mayB n b = true then ⟨2 + n + (b + 7) / 8, 0⟩ else ⟨0, 1⟩
theorem retY {r : Y} {a e : Int} (h : r = ⟨a, e⟩) : Ending.returned (.tuple #[.int .i64 a, .int .i64 e]) = .returned (.tuple #[.int .i64 r.n, .int .i64 r.err]) := by subst h; rfl
def bit (d : Bool) : Int := if d = true then 1 else 0
theorem bit_le (d : Bool) : 0 ≤ bit d ∧ bit d ≤ 1 := by cases d <;> decide

set_option maxHeartbeats 400000 in
theorem within_any (a lo hi : Int) (w : World) :
    Calls Try.prog 31 #[.int .i64 a, .int .i64 lo, .int .i64 hi] w fun e w' => e = .returned (.bool (withinB a lo hi)) ∧ w = w' := by
  by_cases h1 : lo ≤ a
  · by_cases h2 : a ≤ hi
    all_goals
      go_enter Try.func31, Try.ntmps31
      go_wp2
      go_ret
      exact ⟨ret_bool (by simp [withinB]; omega), rfl⟩
  · go_enter Try.func31, Try.ntmps31
    go_wp2
    go_ret
    exact ⟨ret_bool (by simp [withinB]; omega), rfl⟩
theorem slots_any (a : Int) (w : World) :
    Calls Try.prog 49 #[.int .i64 a] w fun e w' => e = .returned (.bool (slotsB a)) ∧ w = w' := by
  go_enter Try.func49, Try.ntmps49
  go_wp2_with (go_at_call 31; refine (within_any _ _ _ _).mono ?_; rintro e w' ⟨rfl, rfl⟩)
  go_ret
  exact ⟨ret_bool (by simp [withinB, slotsB]), rfl⟩
theorem asnum_any (d : Bool) (w : World) :
    Calls Try.prog 42 #[.bool d] w fun e w' => e = .returned (.int .i64 (bit d)) ∧ w = w' := by
  cases d
  all_goals
    go_enter Try.func42, Try.ntmps42
    go_wp2
    go_ret
    exact ⟨rfl, rfl⟩

set_option maxHeartbeats 1000000 in
theorem right_any (s n t : Int) (d : Bool) (c e : Int) (w : World) :
    Calls Try.prog 43 #[.agg #[.int .i64 s, .int .i64 n, .int .i64 t, .bool d, .int .i64 c, .int .i64 e]] w fun z w' => z = .returned (.bool (rightB s n t c e)) ∧ Below w.heap.size w w' := by
  by_cases hn : slotsB n = true
  · obtain ⟨n1, n2⟩ := of_decide_eq_true hn
    go_enter Try.func43, Try.ntmps43
    go_wp2_with (first
      | (go_at_call 31; refine (within_any _ _ _ _).mono ?_; rintro e w' ⟨rfl, rfl⟩)
      | (go_at_call 49; refine (slots_any _ _).mono ?_; rintro e w' ⟨rfl, rfl⟩))
    all_goals
      go_ret
      refine ⟨ret_bool ?_, (Below.refl _ _).alloc (Nat.le_refl _) _⟩
      simp only [withinB, slotsB, decide_eq_true_eq] at *
      rw [Bool.eq_iff_iff]
      simp only [rightB, decide_eq_true_eq, Bool.false_eq_true, false_iff]
      omega
  · have hn' : slotsB n = false := by simpa using hn
    have HN : Hid (rightB s n t c e = false) := Lib.hid (decide_eq_false fun k => hn (decide_eq_true ⟨k.1, k.2.1⟩))
    clear hn
    go_enter Try.func43, Try.ntmps43
    go_wp2_with (first
      | (go_at_call 49; refine (slots_any _ _).mono ?_; rintro e w' ⟨rfl, rfl⟩))
    go_ret
    exact ⟨ret_bool HN.out.symm, (Below.refl _ _).alloc (Nat.le_refl _) _⟩

set_option maxHeartbeats 2000000 in
theorem refright_any (s n t : Int) (d : Bool) (c e : Int) (w : World) :
    Calls Try.prog 37 #[.agg #[.int .i64 s, .int .i64 n, .int .i64 t, .bool d, .int .i64 c, .int .i64 e]] w fun z w' => z = .returned (.bool (rightB s n t c e)) ∧ Below w.heap.size w w' := by
  by_cases n1 : 0 ≤ n
  · by_cases n2 : n ≤ 6
    · go_enter Try.func37, Try.ntmps37
      go_wp2
      all_goals
        go_ret
        refine ⟨ret_bool ?_, (Below.refl _ _).alloc (Nat.le_refl _) _⟩
        rw [Bool.eq_iff_iff]
        simp only [rightB, decide_eq_true_eq, Bool.false_eq_true, false_iff]
        omega
    · have HN : Hid (rightB s n t c e = false) := Lib.hid (decide_eq_false fun k => n2 k.2.1)
      have h2 : decide (n ≤ 6) = false := by simpa using n2
      clear n2
      go_enter Try.func37, Try.ntmps37
      go_wp2
      go_ret
      exact ⟨ret_bool HN.out.symm, (Below.refl _ _).alloc (Nat.le_refl _) _⟩
  · have HN : Hid (rightB s n t c e = false) := Lib.hid (decide_eq_false fun k => n1 k.1)
    have h2 : decide (0 ≤ n) = false := by simpa using n1
    clear n1
    go_enter Try.func37, Try.ntmps37
    go_wp2
    go_ret
    exact ⟨ret_bool HN.out.symm, (Below.refl _ _).alloc (Nat.le_refl _) _⟩

end Go.Proofs.Ytgihoicppeegaaa.Heads
