/-
  Contracts of package plan and of the document's own answers for it: each returns the plain values rightB, szV, .. for every four integers, and changes nothing that was there.
-/
import Derived.Test.YtkkmhapfhnnooaaProg
import Derived.WalkKit
import Derived.ProofKit
import Derived.OpenShut
import Derived.IntWalk
import Derived.Lib.Hide
import Derived.Below
import Derived.RegionTactic
import Derived.BigRegion
import Derived.Deep.QuietTactic
import Derived.BigQuiet
import Derived.Laws.BitsAllLaws
namespace Go.Proofs.Ytkkmhapfhnnooaa.Plan
open Go.ChangeShapes Go.WideShapes Go.ChangeAt Go.RowKit
set_option linter.unusedVariables false

theorem ret_int {k : IntKind} {a b : Int} (h : a = b) : Ending.returned (.int k a) = .returned (.int k b) := by rw [h]
theorem ret_bool {a b : Bool} (h : a = b) : Ending.returned (.bool a) = .returned (.bool b) := by rw [h]
theorem ret2 {k k' : IntKind} {a b c d : Int} (h : a = b) (h' : c = d) : Ending.returned (.tuple #[.int k a, .int k' c]) = .returned (.tuple #[.int k b, .int k' d]) := by rw [h, h']
theorem bcell {W w1 : World} (hb : Below W.heap.size W w1) : (∀ b o, b < W.heap.size → w1.cell? ⟨b, o, none⟩ = W.cell? ⟨b, o, none⟩) ∧ (∀ b o, b < W.heap.size → w1.frozen? ⟨b, o, none⟩ = W.frozen? ⟨b, o, none⟩) :=
  ⟨fun b o h => hb.cell (p := ⟨b, o, none⟩) h, fun b o h => hb.frozen (p := ⟨b, o, none⟩) h⟩

def withinB (a lo hi : Int) : Bool := decide (lo ≤ a ∧ a ≤ hi)
def bytesB (a hi : Int) : Bool := decide (0 ≤ a ∧ a ≤ hi ∧ a % 8 = 0)
def rightB (s t i h : Int) : Bool := decide (1 ≤ s ∧ s ≤ 8 ∧ 1 ≤ t ∧ t ≤ 4 ∧ 0 ≤ i ∧ i ≤ 2048 ∧ i % 8 = 0 ∧ 0 ≤ h ∧ h ≤ 8192 ∧ h % 8 = 0)

set_option maxHeartbeats 400000 in
theorem within_any (a lo hi : Int) (w : World) :
    Calls Try.prog 42 #[.int .i64 a, .int .i64 lo, .int .i64 hi] w fun e w' => e = .returned (.bool (withinB a lo hi)) ∧ w = w' := by
  by_cases h1 : lo ≤ a
  · by_cases h2 : a ≤ hi
    all_goals
      go_enter Try.func42, Try.ntmps42
      go_wp2
      go_ret
      exact ⟨ret_bool (by simp [withinB]; omega), rfl⟩
  · go_enter Try.func42, Try.ntmps42
    go_wp2
    go_ret
    exact ⟨ret_bool (by simp [withinB]; omega), rfl⟩

set_option maxHeartbeats 400000 in
theorem bytes_any (a hi : Int) (w : World) :
    Calls Try.prog 84 #[.int .i64 a, .int .i64 hi] w fun e w' => e = .returned (.bool (bytesB a hi)) ∧ w = w' := by
  by_cases hw : withinB a 0 hi = true
  · have h' := of_decide_eq_true hw
    obtain ⟨h1, h2⟩ := h'
    go_enter Try.func84, Try.ntmps84
    go_wp2_with (go_at_call 42; refine (within_any _ _ _ _).mono ?_; rintro e w' ⟨rfl, rfl⟩)
    go_ret
    refine ⟨ret_bool ?_, rfl⟩
    rw [Bool.eq_iff_iff]
    simp only [bytesB, beq_iff_eq, decide_eq_true_eq]
    omega
  · have hf : withinB a 0 hi = false := by simpa using hw
    have H := Lib.hid (of_decide_eq_false hf)
    clear hw
    go_enter Try.func84, Try.ntmps84
    go_wp2_with (go_at_call 42; refine (within_any _ _ _ _).mono ?_; rintro e w' ⟨rfl, rfl⟩)
    go_ret
    exact ⟨ret_bool (by have := H.out; unfold bytesB; symm; exact decide_eq_false (by omega)), rfl⟩

set_option maxHeartbeats 1000000 in
theorem right_any (s t i h : Int) (w : World) :
    Calls Try.prog 64 #[.agg #[.int .i64 s, .int .i64 t, .int .i64 i, .int .i64 h]] w fun z w' => z = .returned (.bool (rightB s t i h)) ∧ Below w.heap.size w w' := by
  go_enter Try.func64, Try.ntmps64
  go_wp2_with (first
    | (go_at_call 42; refine (within_any _ _ _ _).mono ?_; rintro e w' ⟨rfl, rfl⟩)
    | (go_at_call 84; refine (bytes_any _ _ _).mono ?_; rintro e w' ⟨rfl, rfl⟩))
  all_goals
    go_ret
    refine ⟨ret_bool ?_, (Below.refl _ _).alloc (Nat.le_refl _) _⟩
    simp only [withinB, bytesB, decide_eq_true_eq] at *
    rw [Bool.eq_iff_iff]
    simp only [rightB, decide_eq_true_eq, Bool.false_eq_true, false_iff]
    omega

theorem rem8 {a : Int} (h : 0 ≤ a) : Int.tmod a 8 = a % 8 := Int.tmod_eq_emod_of_nonneg h
end Go.Proofs.Ytkkmhapfhnnooaa.Plan
