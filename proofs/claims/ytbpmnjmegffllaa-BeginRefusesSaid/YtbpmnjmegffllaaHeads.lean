/-
  Contracts of package head's small calls: mayBeSlots, Right, Words, asNumber, and of the document's Right and Words: each returns the plain values rightB, wordsV, .. for every argument, and changes nothing that was there.
-/
import Derived.Test.YtbpmnjmegffllaaProg
import Derived.WalkKit
import Derived.ProofKit
import Derived.OpenShut
import Derived.IntWalk
import Derived.Lib.Hide
import Derived.Below
import Derived.RegionTactic
import Derived.BigRegion
import Derived.Deep.QuietTactic
import Derived.BigQuiet
import Derived.Laws.BitsAllLaws
import Derived.Deep.RegionHeld3
import Derived.Test.YtbpmnjmegffllaaBase
namespace Go.Proofs.Ytbpmnjmegffllaa.Heads
open Go.ChangeShapes Go.WideShapes Go.ChangeAt Go.RowKit
open Held
set_option linter.unusedVariables false

theorem ret_int {k : IntKind} {a b : Int} (h : a = b) : Ending.returned (.int k a) = .returned (.int k b) := by rw [h]
theorem ret_bool {a b : Bool} (h : a = b) : Ending.returned (.bool a) = .returned (.bool b) := by rw [h]
def withinB (a lo hi : Int) : Bool := decide (lo ≤ a ∧ a ≤ hi)
def slotsB (a : Int) : Bool := decide (0 ≤ a ∧ a ≤ 6)
def rightB (s n t c e : Int) : Bool := decide (0 ≤ n ∧ n ≤ 6 ∧ 2 + n ≤ s ∧ s ≤ 72 ∧ 0 ≤ t ∧ t ≤ 7 ∧ 0 ≤ c ∧ c ≤ 7 ∧ 0 ≤ e ∧ e ≤ 16777215)
theorem rbounds {s n t c e : Int} (h : rightB s n t c e = true) : 0 ≤ n ∧ n ≤ 6 ∧ 2 + n ≤ s ∧ s ≤ 72 ∧ 0 ≤ t ∧ t ≤ 7 ∧ 0 ≤ c ∧ c ≤ 7 ∧ 0 ≤ e ∧ e ≤ 16777215 := of_decide_eq_true h
structure Y where
  n : Int
  err : Int
def mayB (n b : Int) : Bool := decide (0 ≤ n ∧ n ≤ 6 ∧ 0 ≤ b ∧ b ≤ 512)
def wordsV (n b : Int) : Y := if mayB n b = true then ⟨2 + n + (b + 7) / 8, 0⟩ else ⟨0, 1⟩
theorem retY {r : Y} {a e : Int} (h : r = ⟨a, e⟩) : Ending.returned (.tuple #[.int .i64 a, .int .i64 e]) = .returned (.tuple #[.int .i64 r.n, .int .i64 r.err]) := by subst h; rfl
def bit (d : Bool) : Int := if d = true then 1 else 0
theorem bit_le (d : Bool) : 0 ≤ bit d ∧ bit d ≤ 1 := by cases d <;> decide

set_option maxHeartbeats 400000 in
theorem within_any (a lo hi : Int) (w : World) :
    Calls Try.prog 98 #[.int .i64 a, .int .i64 lo, .int .i64 hi] w fun e w' => e = .returned (.bool (withinB a lo hi)) ∧ w = w' := by
  by_cases h1 : lo ≤ a
  · by_cases h2 : a ≤ hi
    all_goals
      go_enter Try.func98, Try.ntmps98
      go_wp2
      go_ret
      exact ⟨ret_bool (by simp [withinB]; omega), rfl⟩
  · go_enter Try.func98, Try.ntmps98
    go_wp2
    go_ret
    exact ⟨ret_bool (by simp [withinB]; omega), rfl⟩
theorem slots_any (a : Int) (w : World) :
    Calls Try.prog 147 #[.int .i64 a] w fun e w' => e = .returned (.bool (slotsB a)) ∧ w = w' := by
  go_enter Try.func147, Try.ntmps147
  go_wp2_with (go_at_call 98; refine (within_any _ _ _ _).mono ?_; rintro e w' ⟨rfl, rfl⟩)
  go_ret
  exact ⟨ret_bool (by simp [withinB, slotsB]), rfl⟩
/-- num.Up and num.Words at numbers of bytes that may be. -/
theorem up_ok (n : Int) (w : World) (n1 : 0 ≤ n) (n2 : n ≤ 512) :
    Calls Try.prog 91 #[.int .i64 n] w fun e w' => e = .returned (.tuple #[.int .i64 ((n + 7) / 8 * 8), .int .i64 0]) ∧ w = w' := by
  by_cases h8 : n % 8 = 0
  · have H8 := Lib.hid h8
    have h8' : (n % 8 == 0) = true := by simpa using h8
    clear h8
    go_enter Try.func91, Try.ntmps91
    go_wp2
    go_ret2
    have := H8.out
    exact ⟨retY (r := ⟨(n + 7) / 8 * 8, 0⟩) (by congr 1; omega), rfl⟩
  · have H8 := Lib.hid h8
    have h8' : (n % 8 == 0) = false := by simpa using h8
    clear h8
    go_enter Try.func91, Try.ntmps91
    go_wp2
    go_ret2
    have := H8.out
    exact ⟨retY (r := ⟨(n + 7) / 8 * 8, 0⟩) (by congr 1; omega), rfl⟩
theorem nwords_ok (n : Int) (w : World) (n1 : 0 ≤ n) (n2 : n ≤ 512) :
    Calls Try.prog 148 #[.int .i64 n] w fun e w' => e = .returned (.tuple #[.int .i64 ((n + 7) / 8), .int .i64 0]) ∧ w = w' := by
  go_enter Try.func148, Try.ntmps148
  go_wp2_with (go_at_call 91; refine (up_ok _ _ n1 n2).mono ?_; rintro e w' ⟨rfl, rfl⟩)
  go_ret2
  exact ⟨retY (r := ⟨(n + 7) / 8, 0⟩) (by congr 1), rfl⟩

set_option maxHeartbeats 1000000 in
theorem words_any (n b : Int) (w : World) :
    Calls Try.prog 113 #[.int .i64 n, .int .i64 b] w fun e w' => e = .returned (.tuple #[.int .i64 (wordsV n b).n, .int .i64 (wordsV n b).err]) ∧ w = w' := by
  by_cases hn : slotsB n = true
  · obtain ⟨n1, n2⟩ := of_decide_eq_true hn
    by_cases hb : withinB b 0 512 = true
    · obtain ⟨b1, b2⟩ := of_decide_eq_true hb
      have HV : Hid (wordsV n b = ⟨2 + n + (b + 7) / 8, 0⟩) := Lib.hid (if_pos (decide_eq_true ⟨n1, n2, b1, b2⟩))
      go_enter Try.func113, Try.ntmps113
      go_wp2_with (first
        | (go_at_call 98; refine (within_any _ _ _ _).mono ?_; rintro e w' ⟨rfl, rfl⟩)
        | (go_at_call 148; refine (nwords_ok _ _ b1 b2).mono ?_; rintro e w' ⟨rfl, rfl⟩)
        | (go_at_call 147; refine (slots_any _ _).mono ?_; rintro e w' ⟨rfl, rfl⟩))
      go_ret2
      exact ⟨retY HV.out, rfl⟩
    · have hb' : withinB b 0 512 = false := by simpa using hb
      have HV : Hid (wordsV n b = ⟨0, 1⟩) := Lib.hid (if_neg fun k => hb (decide_eq_true ⟨(of_decide_eq_true k).2.2.1, (of_decide_eq_true k).2.2.2⟩))
      clear hb
      go_enter Try.func113, Try.ntmps113
      go_wp2_with (first
        | (go_at_call 98; refine (within_any _ _ _ _).mono ?_; rintro e w' ⟨rfl, rfl⟩)
        | (go_at_call 147; refine (slots_any _ _).mono ?_; rintro e w' ⟨rfl, rfl⟩))
      go_ret2
      exact ⟨retY HV.out, rfl⟩
  · have hn' : slotsB n = false := by simpa using hn
    have HV : Hid (wordsV n b = ⟨0, 1⟩) := Lib.hid (if_neg fun k => hn (decide_eq_true ⟨(of_decide_eq_true k).1, (of_decide_eq_true k).2.1⟩))
    clear hn
    go_enter Try.func113, Try.ntmps113
    go_wp2_with (first
      | (go_at_call 147; refine (slots_any _ _).mono ?_; rintro e w' ⟨rfl, rfl⟩))
    go_ret2
    exact ⟨retY HV.out, rfl⟩

set_option maxHeartbeats 1000000 in
theorem refwords_any (n b : Int) (w : World) :
    Calls Try.prog 86 #[.int .i64 n, .int .i64 b] w fun e w' => e = .returned (.tuple #[.int .i64 (wordsV n b).n, .int .i64 (wordsV n b).err]) ∧ w = w' := by
  by_cases hm : mayB n b = true
  · obtain ⟨n1, n2, b1, b2⟩ := of_decide_eq_true hm
    have HV : Hid (wordsV n b = ⟨2 + n + (b + 7) / 8, 0⟩) := Lib.hid (if_pos hm)
    clear hm
    go_enter Try.func86, Try.ntmps86
    go_wp2
    go_ret2
    exact ⟨retY HV.out, rfl⟩
  · have HM : Hid (¬ (0 ≤ n ∧ n ≤ 6 ∧ 0 ≤ b ∧ b ≤ 512)) := Lib.hid (fun k => hm (decide_eq_true k))
    have HV : wordsV n b = ⟨0, 1⟩ := if_neg hm
    rw [HV]
    clear hm HV
    go_enter Try.func86, Try.ntmps86
    go_wp2
    all_goals
      go_ret2
      first
        | exact ⟨rfl, rfl⟩
        | (have k := HM.out
           exfalso
           omega)
end Go.Proofs.Ytbpmnjmegffllaa.Heads
