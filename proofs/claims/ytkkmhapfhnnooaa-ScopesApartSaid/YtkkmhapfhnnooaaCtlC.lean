/-
  Contracts of ctl.Enter, Leave, Open and Hold and of the document's own answers; of the document's Unpack and Fit.
-/
import Derived.Test.YtkkmhapfhnnooaaCtlB
namespace Go.Proofs.Ytkkmhapfhnnooaa.Ctl
open Go.ChangeShapes Go.WideShapes Go.ChangeAt Go.RowKit
set_option linter.unusedVariables false

theorem un_parts (x : Int) (x1 : 0 ≤ x) (x2 : x ≤ 18446744073709551615) :
    (unB x = true ∧ rightB (x % 4) (x / 4 % 256) (x / 1024 % 256 - 1) (x / 262144 % 16777216) = true ∧ packV (x % 4) (x / 4 % 256) (x / 1024 % 256 - 1) (x / 262144 % 16777216) = x ∧ packE (x % 4) (x / 4 % 256) (x / 1024 % 256 - 1) (x / 262144 % 16777216) = 0 ∧ x / 262144 % 16777216 = x / 262144) ∨
    (¬ unB x = true ∧ ¬ packV (x % 4) (x / 4 % 256) (x / 1024 % 256 - 1) (x / 262144 % 16777216) = x ∧ packE (x % 4) (x / 4 % 256) (x / 1024 % 256 - 1) (x / 262144 % 16777216) = 0) ∨
    (¬ unB x = true ∧ packE (x % 4) (x / 4 % 256) (x / 1024 % 256 - 1) (x / 262144 % 16777216) = 1) := by
  by_cases hu : unB x = true
  · have hu' := of_decide_eq_true (show decide _ = true from hu)
    have e : x / 262144 % 16777216 = x / 262144 := by omega
    have hr : rightB (x % 4) (x / 4 % 256) (x / 1024 % 256 - 1) (x / 262144) = true := hu
    refine .inl ⟨hu, ?_, ?_, ?_, e⟩
    · rw [e]; exact hr
    · rw [e]; unfold packV; rw [if_pos hr]; omega
    · rw [e]; unfold packE; rw [if_pos hr]
  · by_cases hr : rightB (x % 4) (x / 4 % 256) (x / 1024 % 256 - 1) (x / 262144 % 16777216) = true
    · refine .inr (.inl ⟨hu, ?_, ?_⟩)
      · unfold packV; rw [if_pos hr]
        intro h
        have e : x / 262144 % 16777216 = x / 262144 := by omega
        rw [e] at hr
        exact hu hr
      · unfold packE; rw [if_pos hr]
    · refine .inr (.inr ⟨hu, ?_⟩)
      unfold packE; rw [if_neg hr]

def askV (s c p e t : Int) : Int := if rightB s c p e = true then (if s = t then 0 else 11) else 1
set_option maxHeartbeats 1000000 in
theorem asked_any (s c p e t : Int) (w : World) :
    Calls Try.prog 79 #[.agg #[.int .i64 s, .int .i64 c, .int .i64 p, .int .i64 e], .int .i64 t] w fun z w' => z = .returned (.int .i64 (askV s c p e t)) ∧ Below w.heap.size w w' := by
  by_cases hr : rightB s c p e = true
  · by_cases ht : s = t
    all_goals
      first
        | (have T : (s != t) = false := by simpa using ht)
        | (have T : (s != t) = true := by simpa using ht)
      have HT := Lib.hid ht
      clear ht
      go_enter Try.func79, Try.ntmps79
      go_wp2_with fail
      refine (right_any _ _ _ _ _).mono ?_
      rintro z w1 ⟨rfl, k1⟩
      obtain ⟨q1, q2⟩ := bcell k1
      go_wp2
      go_ret
      refine ⟨ret_int ?_, ((Below.refl _ _).alloc (Nat.le_refl _) _).trans (k1.mono (by simp))⟩
      unfold askV
      rw [if_pos hr]
      first
        | rw [if_pos HT.out]
        | rw [if_neg HT.out]
  · have hf : rightB s c p e = false := by simpa using hr
    have HR := Lib.hid hr
    clear hr
    go_enter Try.func79, Try.ntmps79
    go_wp2_with fail
    refine (right_any _ _ _ _ _).mono ?_
    rintro z w1 ⟨rfl, k1⟩
    go_wp2
    go_ret
    refine ⟨ret_int ?_, ((Below.refl _ _).alloc (Nat.le_refl _) _).trans (k1.mono (by simp))⟩
    unfold askV
    rw [if_neg HR.out]

def nextV (e : Int) : Int := if e = 16777215 then 0 else e + 1
theorem next_any (e : Int) (w : World) (e1 : 0 ≤ e) (e2 : e ≤ 16777215) :
    Calls Try.prog 81 #[.int .i64 e] w fun z w' => z = .returned (.int .i64 (nextV e)) ∧ w = w' := by
  by_cases h : e = 16777215
  · subst h
    go_enter Try.func81, Try.ntmps81
    go_wp2
    go_ret
    exact ⟨ret_int rfl, rfl⟩
  · have T : (e == 16777215) = false := by simpa using h
    have H := Lib.hid h
    clear h
    go_enter Try.func81, Try.ntmps81
    go_wp2
    go_ret
    exact ⟨ret_int (by unfold nextV; rw [if_neg H.out]), rfl⟩
end Go.Proofs.Ytkkmhapfhnnooaa.Ctl
