/-
  Contracts of package head's small calls: mayBeSlots, Right, Words, asNumber, and of the document's Right and Words: each returns the plain values rightB, wordsV, .. for every argument, and changes nothing that was there.
-/
import Derived.Test.YteakglkagmghpaaGreatProg
import Derived.WalkKit
import Derived.ProofKit
import Derived.OpenShut
import Derived.IntWalk
import Derived.Lib.Hide
import Derived.Below
import Derived.RegionTactic
import Derived.BigRegion
import Derived.Deep.QuietTactic
import Derived.BigQuiet
import Derived.Laws.BitsAllLaws
import Derived.Deep.RegionHeld3
import Derived.Test.YteakglkagmghpaaGreatBase
namespace Go.Proofs.YteakglkagmghpaaGreat.Heads
open Go.ChangeShapes Go.WideShapes Go.ChangeAt Go.RowKit
open Held
set_option linter.unusedVariables false

theorem ret_int {k : IntKind} {a b : Int} (h : a = b) : Ending.returned (.int k a) = .returned (.int k b) := by rw [h]
theorem ret_bool {a b : Bool} (h : a = b) : Ending.returned (.bool a) = .returned (.bool b) := by rw [h]
def withinB (a lo hi : Int) : Bool := decide (lo ≤ a ∧ a ≤ hi)
def rightB (s n t c e : Int) : Bool := decide (0 ≤ n ∧ n ≤ 6 ∧ 2 + n ≤ s ∧ s ≤ 72 ∧ 0 ≤ t ∧ t ≤ 7 ∧ 0 ≤ c ∧ c ≤ 7 ∧ 0 ≤ e ∧ e ≤ 16777215)
theorem rbounds {s n t c e : Int} (h : rightB s n t c e = true) : 0 ≤ n ∧ n ≤ 6 ∧ 2 + n ≤ s ∧ s ≤ 72 ∧ 0 ≤ t ∧ t ≤ 7 ∧ 0 ≤ c ∧ c ≤ 7 ∧ 0 ≤ e ∧ e ≤ 16777215 := of_decide_eq_true h
structure Y where
  n : Int
  err : Int
def mayB (n b : Int) : Bool := decide (0 ≤ n ∧ n ≤ 6 ∧ 0 ≤ b ∧ b ≤ 512)
def wordsV (n b : Int) : Y := if mayB n b = true then ⟨2 + n + (b + 7) / 8, 0⟩ else ⟨0, 1⟩
theorem retY {r : Y} {a e : Int} (h : r = ⟨a, e⟩) : Ending.returned (.tuple #[.int .i64 a, .int .i64 e]) = .returned (.tuple #[.int .i64 r.n, .int .i64 r.err]) := by subst h; rfl
set_option maxHeartbeats 400000 in
theorem within_any (a lo hi : Int) (w : World) :
    Calls Tryz.prog 90 #[.int .i64 a, .int .i64 lo, .int .i64 hi] w fun e w' => e = .returned (.bool (withinB a lo hi)) ∧ w = w' := by
  by_cases h1 : lo ≤ a
  · by_cases h2 : a ≤ hi
    all_goals
      go_enter Tryz.func90, Tryz.ntmps90
      go_wp2
      go_ret
      exact ⟨ret_bool (by simp [withinB]; omega), rfl⟩
  · go_enter Tryz.func90, Tryz.ntmps90
    go_wp2
    go_ret
    exact ⟨ret_bool (by simp [withinB]; omega), rfl⟩
/-- num.Up and num.Words at numbers of bytes that may be. -/
theorem up_ok (n : Int) (w : World) (n1 : 0 ≤ n) (n2 : n ≤ 512) :
    Calls Tryz.prog 126 #[.int .i64 n] w fun e w' => e = .returned (.tuple #[.int .i64 ((n + 7) / 8 * 8), .int .i64 0]) ∧ w = w' := by
  by_cases h8 : n % 8 = 0
  · have H8 := Lib.hid h8
    have h8' : (n % 8 == 0) = true := by simpa using h8
    clear h8
    go_enter Tryz.func126, Tryz.ntmps126
    go_wp2
    go_ret2
    have := H8.out
    exact ⟨retY (r := ⟨(n + 7) / 8 * 8, 0⟩) (by congr 1; omega), rfl⟩
  · have H8 := Lib.hid h8
    have h8' : (n % 8 == 0) = false := by simpa using h8
    clear h8
    go_enter Tryz.func126, Tryz.ntmps126
    go_wp2
    go_ret2
    have := H8.out
    exact ⟨retY (r := ⟨(n + 7) / 8 * 8, 0⟩) (by congr 1; omega), rfl⟩
set_option maxHeartbeats 1000000 in
theorem refwords_any (n b : Int) (w : World) :
    Calls Tryz.prog 113 #[.int .i64 n, .int .i64 b] w fun e w' => e = .returned (.tuple #[.int .i64 (wordsV n b).n, .int .i64 (wordsV n b).err]) ∧ w = w' := by
  by_cases hm : mayB n b = true
  · obtain ⟨n1, n2, b1, b2⟩ := of_decide_eq_true hm
    have HV : Hid (wordsV n b = ⟨2 + n + (b + 7) / 8, 0⟩) := Lib.hid (if_pos hm)
    clear hm
    go_enter Tryz.func113, Tryz.ntmps113
    go_wp2
    go_ret2
    exact ⟨retY HV.out, rfl⟩
  · have HM : Hid (¬ (0 ≤ n ∧ n ≤ 6 ∧ 0 ≤ b ∧ b ≤ 512)) := Lib.hid (fun k => hm (decide_eq_true k))
    have HV : wordsV n b = ⟨0, 1⟩ := if_neg hm
    rw [HV]
    clear hm HV
    go_enter Tryz.func113, Tryz.ntmps113
    go_wp2
    all_goals
      go_ret2
      first
        | exact ⟨rfl, rfl⟩
        | (have k := HM.out
           exfalso
           omega)
end Go.Proofs.YteakglkagmghpaaGreat.Heads
