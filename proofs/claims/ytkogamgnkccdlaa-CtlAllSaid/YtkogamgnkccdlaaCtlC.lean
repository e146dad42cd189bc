/-
  Contracts of ctl.Enter, Leave, Open and Hold and of the document's own answers; of the document's Unpack and Fit.
-/
import Derived.Test.YtkogamgnkccdlaaCtlB
namespace Go.Proofs.Ytkogamgnkccdlaa.Ctl
open Go.ChangeShapes Go.WideShapes Go.ChangeAt Go.RowKit
set_option linter.unusedVariables false

theorem un_parts (x : Int) (x1 : 0 ≤ x) (x2 : x ≤ 18446744073709551615) :
    (unB x = true ∧ rightB (x % 4) (x / 4 % 256) (x / 1024 % 256 - 1) (x / 262144 % 16777216) = true ∧ packV (x % 4) (x / 4 % 256) (x / 1024 % 256 - 1) (x / 262144 % 16777216) = x ∧ packE (x % 4) (x / 4 % 256) (x / 1024 % 256 - 1) (x / 262144 % 16777216) = 0 ∧ x / 262144 % 16777216 = x / 262144) ∨
    (¬ unB x = true ∧ ¬ packV (x % 4) (x / 4 % 256) (x / 1024 % 256 - 1) (x / 262144 % 16777216) = x ∧ packE (x % 4) (x / 4 % 256) (x / 1024 % 256 - 1) (x / 262144 % 16777216) = 0) ∨
    (¬ unB x = true ∧ packE (x % 4) (x / 4 % 256) (x / 1024 % 256 - 1) (x / 262144 % 16777216) = 1) := by
  by_cases hu : unB x = true
  · have hu' := of_decide_eq_true (show decide _ = true from hu)
    have e : x / 262144 % 16777216 = x / 262144 := by omega
    have hr : rightB (x % 4) (x / 4 % 256) (x / 1024 % 256 - 1) (x / 262144) = true := hu
    refine .inl ⟨hu, ?_, ?_, ?_, e⟩
    · rw [e]; exact hr
    · rw [e]; unfold packV; rw [if_pos hr]; omega
    · rw [e]; unfold packE; rw [if_pos hr]
  · by_cases hr : rightB (x % 4) (x / 4 % 256) (x / 1024 % 256 - 1) (x / 262144 % 16777216) = true
    · refine .inr (.inl ⟨hu, ?_, ?_⟩)
      · unfold packV; rw [if_pos hr]
        intro h
        have e : x / 262144 % 16777216 = x / 262144 := by omega
        rw [e] at hr
        exact hu hr
      · unfold packE; rw [if_pos hr]
    · refine .inr (.inr ⟨hu, ?_⟩)
      unfold packE; rw [if_neg hr]

set_option maxHeartbeats 1000000 in
theorem refunpack_any (x : Int) (w : World) (x1 : 0 ≤ x) (x2 : x ≤ 18446744073709551615) :
    Calls Try.prog 13 #[.int .u64 x] w fun z w' => z = .returned (.tuple #[.agg #[.int .i64 (unV x).s, .int .i64 (unV x).c, .int .i64 (unV x).p, .int .i64 (unV x).e], .int .i64 (unV x).x]) ∧ Below w.heap.size w w' := by
  rcases un_parts x x1 x2 with ⟨hu, hr, hv, he, hm⟩ | ⟨hu, hv, he⟩ | ⟨hu, he⟩
  · have HU := Lib.hid hu
    have HE := Lib.hid he
    clear hu he
    have HV := Lib.hid hv
    have HM := Lib.hid hm
    clear hv hm hr
    go_enter Try.func13, Try.ntmps13
    go_wp2_with fail
    refine (refpack_any _ _ _ _ _).mono ?_
    rintro z w1 ⟨rfl, k1⟩
    rw [HE.out, HV.out]
    obtain ⟨q1, q2⟩ := bcell k1
    have hz : w.heap.size + 1 < w1.heap.size := by have := k1.size; simp at this; omega
    go_wp2
    have c0 : w1.cell? ⟨w.heap.size, 0, none⟩ = some (.int .i64 0) := by rw [q1 _ _ (by simp; try omega)]; simp [go_sem]
    have c1 : w1.cell? ⟨w.heap.size, 1, none⟩ = some (.int .i64 0) := by rw [q1 _ _ (by simp; try omega)]; simp [go_sem]
    have c2 : w1.cell? ⟨w.heap.size, 2, none⟩ = some (.int .i64 0) := by rw [q1 _ _ (by simp; try omega)]; simp [go_sem]
    have c3 : w1.cell? ⟨w.heap.size, 3, none⟩ = some (.int .i64 0) := by rw [q1 _ _ (by simp; try omega)]; simp [go_sem]
    refine bodyPost_ret (v := .tuple #[.agg #[.int .i64 (x % 4), .int .i64 (x / 4 % 256), .int .i64 (x / 1024 % 256 - 1), .int .i64 (x / 262144 % 16777216)], .int .i64 0]) (by simp [results, Try.results13, go_sem, c0, c1, c2, c3]) rfl ⟨retR ?_, ?_⟩
    · unfold unV; rw [if_pos HU.out, HM.out]
    · exact (((((((Below.refl _ _).alloc (Nat.le_refl _) _).alloc (by simp) _).trans (k1.mono (by simp; omega))).setCell (by simp) _).setCell (by simp) _).setCell (by simp) _).setCell (by simp) _
  · have HU := Lib.hid hu
    have HE := Lib.hid he
    clear hu he
    have tv : (packV (x % 4) (x / 4 % 256) (x / 1024 % 256 - 1) (x / 262144 % 16777216) != x) = true := by simpa using hv
    clear hv
    go_enter Try.func13, Try.ntmps13
    go_wp2_with fail
    refine (refpack_any _ _ _ _ _).mono ?_
    rintro z w1 ⟨rfl, k1⟩
    rw [HE.out]
    obtain ⟨q1, q2⟩ := bcell k1
    have hz : w.heap.size + 1 < w1.heap.size := by have := k1.size; simp at this; omega
    go_wp2
    have c0 : w1.cell? ⟨w.heap.size, 0, none⟩ = some (.int .i64 0) := by rw [q1 _ _ (by simp; try omega)]; simp [go_sem]
    have c1 : w1.cell? ⟨w.heap.size, 1, none⟩ = some (.int .i64 0) := by rw [q1 _ _ (by simp; try omega)]; simp [go_sem]
    have c2 : w1.cell? ⟨w.heap.size, 2, none⟩ = some (.int .i64 0) := by rw [q1 _ _ (by simp; try omega)]; simp [go_sem]
    have c3 : w1.cell? ⟨w.heap.size, 3, none⟩ = some (.int .i64 0) := by rw [q1 _ _ (by simp; try omega)]; simp [go_sem]
    refine bodyPost_ret (v := .tuple #[.agg #[.int .i64 0, .int .i64 0, .int .i64 0, .int .i64 0], .int .i64 1]) (by simp [results, Try.results13, go_sem, c0, c1, c2, c3]) rfl ⟨retR ?_, ?_⟩
    · unfold unV; rw [if_neg HU.out]; rfl
    · exact (((((((Below.refl _ _).alloc (Nat.le_refl _) _).alloc (by simp) _).trans (k1.mono (by simp; omega))).setCell (by simp) _).setCell (by simp) _).setCell (by simp) _).setCell (by simp) _
  · have HU := Lib.hid hu
    have HE := Lib.hid he
    clear hu he
    go_enter Try.func13, Try.ntmps13
    go_wp2_with fail
    refine (refpack_any _ _ _ _ _).mono ?_
    rintro z w1 ⟨rfl, k1⟩
    rw [HE.out]
    obtain ⟨q1, q2⟩ := bcell k1
    have hz : w.heap.size + 1 < w1.heap.size := by have := k1.size; simp at this; omega
    go_wp2
    have c0 : w1.cell? ⟨w.heap.size, 0, none⟩ = some (.int .i64 0) := by rw [q1 _ _ (by simp; try omega)]; simp [go_sem]
    have c1 : w1.cell? ⟨w.heap.size, 1, none⟩ = some (.int .i64 0) := by rw [q1 _ _ (by simp; try omega)]; simp [go_sem]
    have c2 : w1.cell? ⟨w.heap.size, 2, none⟩ = some (.int .i64 0) := by rw [q1 _ _ (by simp; try omega)]; simp [go_sem]
    have c3 : w1.cell? ⟨w.heap.size, 3, none⟩ = some (.int .i64 0) := by rw [q1 _ _ (by simp; try omega)]; simp [go_sem]
    refine bodyPost_ret (v := .tuple #[.agg #[.int .i64 0, .int .i64 0, .int .i64 0, .int .i64 0], .int .i64 1]) (by simp [results, Try.results13, go_sem, c0, c1, c2, c3]) rfl ⟨retR ?_, ?_⟩
    · unfold unV; rw [if_neg HU.out]; rfl
    · exact (((((((Below.refl _ _).alloc (Nat.le_refl _) _).alloc (by simp) _).trans (k1.mono (by simp; omega))).setCell (by simp) _).setCell (by simp) _).setCell (by simp) _).setCell (by simp) _

def askV (s c p e t : Int) : Int := if rightB s c p e = true then (if s = t then 0 else 11) else 1
set_option maxHeartbeats 1000000 in
theorem asked_any (s c p e t : Int) (w : World) :
    Calls Try.prog 28 #[.agg #[.int .i64 s, .int .i64 c, .int .i64 p, .int .i64 e], .int .i64 t] w fun z w' => z = .returned (.int .i64 (askV s c p e t)) ∧ Below w.heap.size w w' := by
  by_cases hr : rightB s c p e = true
  · by_cases ht : s = t
    all_goals
      first
        | (have T : (s != t) = false := by simpa using ht)
        | (have T : (s != t) = true := by simpa using ht)
      have HT := Lib.hid ht
      clear ht
      go_enter Try.func28, Try.ntmps28
      go_wp2_with fail
      refine (right_any _ _ _ _ _).mono ?_
      rintro z w1 ⟨rfl, k1⟩
      obtain ⟨q1, q2⟩ := bcell k1
      go_wp2
      go_ret
      refine ⟨ret_int ?_, ((Below.refl _ _).alloc (Nat.le_refl _) _).trans (k1.mono (by simp))⟩
      unfold askV
      rw [if_pos hr]
      first
        | rw [if_pos HT.out]
        | rw [if_neg HT.out]
  · have hf : rightB s c p e = false := by simpa using hr
    have HR := Lib.hid hr
    clear hr
    go_enter Try.func28, Try.ntmps28
    go_wp2_with fail
    refine (right_any _ _ _ _ _).mono ?_
    rintro z w1 ⟨rfl, k1⟩
    go_wp2
    go_ret
    refine ⟨ret_int ?_, ((Below.refl _ _).alloc (Nat.le_refl _) _).trans (k1.mono (by simp))⟩
    unfold askV
    rw [if_neg HR.out]

def nextV (e : Int) : Int := if e = 16777215 then 0 else e + 1
theorem next_any (e : Int) (w : World) (e1 : 0 ≤ e) (e2 : e ≤ 16777215) :
    Calls Try.prog 29 #[.int .i64 e] w fun z w' => z = .returned (.int .i64 (nextV e)) ∧ w = w' := by
  by_cases h : e = 16777215
  · subst h
    go_enter Try.func29, Try.ntmps29
    go_wp2
    go_ret
    exact ⟨ret_int rfl, rfl⟩
  · have T : (e == 16777215) = false := by simpa using h
    have H := Lib.hid h
    clear h
    go_enter Try.func29, Try.ntmps29
    go_wp2
    go_ret
    exact ⟨ret_int (by unfold nextV; rw [if_neg H.out]), rfl⟩
end Go.Proofs.Ytkogamgnkccdlaa.Ctl
