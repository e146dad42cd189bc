/-
  Contracts of ctl.Leave, Open and Hold, of the document's own answers, and of its Fit.
-/
import Derived.Test.YtkkmhapfhnnooaaCtlD
namespace Go.Proofs.Ytkkmhapfhnnooaa.Ctl
open Go.ChangeShapes Go.WideShapes Go.ChangeAt Go.RowKit
set_option linter.unusedVariables false

def leV (s c p e : Int) : R := if rightB s c p e = true then (if s = 2 then (if c = 1 then ⟨3, 0, p, e, 0⟩ else ⟨2, c - 1, p, e, 0⟩) else no 11) else no 1
def opV (s c p e : Int) : R := if rightB s c p e = true then (if s = 3 then ⟨1, 0, -1, (e + 1) % 16777216, 0⟩ else no 11) else no 1
def hoV (s c p e : Int) : R := if rightB s c p e = true then (if s = 3 then ⟨2, 1, p, e, 0⟩ else no 11) else no 1
theorem next_eq (e : Int) (e1 : 0 ≤ e) (e2 : e ≤ 16777215) : nextV e = (e + 1) % 16777216 := by
  unfold nextV; split <;> omega

theorem le_cases (s c p e : Int) :
    (rightB s c p e = false ∧ askV s c p e 2 = 1 ∧ leV s c p e = no 1) ∨
    (rightB s c p e = true ∧ ¬ s = 2 ∧ askV s c p e 2 = 11 ∧ leV s c p e = no 11) ∨
    (rightB s c p e = true ∧ s = 2 ∧ c = 1 ∧ askV s c p e 2 = 0 ∧ leV s c p e = ⟨3, 0, p, e, 0⟩) ∨
    (rightB s c p e = true ∧ s = 2 ∧ 2 ≤ c ∧ c ≤ 7 ∧ askV s c p e 2 = 0 ∧ leV s c p e = ⟨2, c - 1, p, e, 0⟩) := by
  by_cases hr : rightB s c p e = true
  · have hr' := of_decide_eq_true (show decide _ = true from hr)
    unfold askV leV
    rw [if_pos hr, if_pos hr]
    by_cases hs : s = 2
    · rw [if_pos hs, if_pos hs]
      by_cases hc : c = 1
      · exact .inr (.inr (.inl ⟨hr, hs, hc, rfl, by rw [if_pos hc]⟩))
      · exact .inr (.inr (.inr ⟨hr, hs, by omega, by omega, rfl, by rw [if_neg hc]⟩))
    · rw [if_neg hs, if_neg hs]
      exact .inr (.inl ⟨hr, hs, rfl, rfl⟩)
  · exact .inl ⟨by simpa using hr, by unfold askV; rw [if_neg hr], by unfold leV; rw [if_neg hr]⟩
theorem op_cases (s c p e : Int) :
    (rightB s c p e = false ∧ askV s c p e 3 = 1 ∧ opV s c p e = no 1 ∧ hoV s c p e = no 1) ∨
    (rightB s c p e = true ∧ ¬ s = 3 ∧ askV s c p e 3 = 11 ∧ opV s c p e = no 11 ∧ hoV s c p e = no 11) ∨
    (rightB s c p e = true ∧ s = 3 ∧ c = 0 ∧ 0 ≤ e ∧ e ≤ 16777215 ∧ askV s c p e 3 = 0 ∧ opV s c p e = ⟨1, 0, -1, (e + 1) % 16777216, 0⟩ ∧ hoV s c p e = ⟨2, 1, p, e, 0⟩) := by
  by_cases hr : rightB s c p e = true
  · have hr' := of_decide_eq_true (show decide _ = true from hr)
    unfold askV opV hoV
    rw [if_pos hr, if_pos hr, if_pos hr]
    by_cases hs : s = 3
    · rw [if_pos hs, if_pos hs, if_pos hs]
      exact .inr (.inr ⟨hr, hs, by omega, by omega, by omega, rfl, rfl, rfl⟩)
    · rw [if_neg hs, if_neg hs, if_neg hs]
      exact .inr (.inl ⟨hr, hs, rfl, rfl, rfl⟩)
  · exact .inl ⟨by simpa using hr, by unfold askV; rw [if_neg hr], by unfold opV; rw [if_neg hr], by unfold hoV; rw [if_neg hr]⟩

set_option maxHeartbeats 2000000 in
theorem leave_any (s c p e : Int) (w : World) :
    Calls Try.prog 53 #[.agg #[.int .i64 s, .int .i64 c, .int .i64 p, .int .i64 e]] w fun z w' => z = .returned (.tuple #[.agg #[.int .i64 (leV s c p e).s, .int .i64 (leV s c p e).c, .int .i64 (leV s c p e).p, .int .i64 (leV s c p e).e], .int .i64 (leV s c p e).x]) ∧ Below w.heap.size w w' := by
  rcases le_cases s c p e with ⟨hr, ha, he⟩ | ⟨hr, hs, ha, he⟩ | ⟨hr, rfl, rfl, ha, he⟩ | ⟨hr, rfl, hc1, hc2, ha, he⟩
  · have HE := Lib.hid he
    have HA := Lib.hid ha
    clear he ha
    go_enter Try.func53, Try.ntmps53
    go_wp2_with fail
    refine (asked_any _ _ _ _ _ _).mono ?_
    rintro z w1 ⟨rfl, k1⟩
    rw [HA.out]
    obtain ⟨q1, q2⟩ := bcell k1
    have hz : w.heap.size + 1 < w1.heap.size := by have := k1.size; simp at this; omega
    have c0 : w1.cell? ⟨w.heap.size + 1, 0, none⟩ = some (.int .i64 0) := by rw [q1 _ _ (by simp; try omega)]; simp [go_sem]
    have c1 : w1.cell? ⟨w.heap.size + 1, 1, none⟩ = some (.int .i64 0) := by rw [q1 _ _ (by simp; try omega)]; simp [go_sem]
    have c2 : w1.cell? ⟨w.heap.size + 1, 2, none⟩ = some (.int .i64 0) := by rw [q1 _ _ (by simp; try omega)]; simp [go_sem]
    have c3 : w1.cell? ⟨w.heap.size + 1, 3, none⟩ = some (.int .i64 0) := by rw [q1 _ _ (by simp; try omega)]; simp [go_sem]
    go_wp2
    refine bodyPost_ret (v := .tuple #[.agg #[.int .i64 0, .int .i64 0, .int .i64 0, .int .i64 0], .int .i64 1]) (by simp [results, Try.results53, go_sem, c0, c1, c2, c3]) rfl ⟨retR ?_, ?_⟩
    · rw [HE.out]; rfl
    · exact (((((((Below.refl _ _).alloc (Nat.le_refl _) _).alloc (by simp) _).trans (k1.mono (by simp; omega))).setCell (by simp) _).setCell (by simp) _).setCell (by simp) _).setCell (by simp) _
  · have HE := Lib.hid he
    have HA := Lib.hid ha
    clear he ha
    have tp : (s != 2) = true := by simpa using hs
    clear hs
    go_enter Try.func53, Try.ntmps53
    go_wp2_with fail
    refine (asked_any _ _ _ _ _ _).mono ?_
    rintro z w1 ⟨rfl, k1⟩
    rw [HA.out]
    obtain ⟨q1, q2⟩ := bcell k1
    have hz : w.heap.size + 1 < w1.heap.size := by have := k1.size; simp at this; omega
    have c0 : w1.cell? ⟨w.heap.size + 1, 0, none⟩ = some (.int .i64 0) := by rw [q1 _ _ (by simp; try omega)]; simp [go_sem]
    have c1 : w1.cell? ⟨w.heap.size + 1, 1, none⟩ = some (.int .i64 0) := by rw [q1 _ _ (by simp; try omega)]; simp [go_sem]
    have c2 : w1.cell? ⟨w.heap.size + 1, 2, none⟩ = some (.int .i64 0) := by rw [q1 _ _ (by simp; try omega)]; simp [go_sem]
    have c3 : w1.cell? ⟨w.heap.size + 1, 3, none⟩ = some (.int .i64 0) := by rw [q1 _ _ (by simp; try omega)]; simp [go_sem]
    go_wp2
    refine bodyPost_ret (v := .tuple #[.agg #[.int .i64 0, .int .i64 0, .int .i64 0, .int .i64 0], .int .i64 11]) (by simp [results, Try.results53, go_sem, c0, c1, c2, c3]) rfl ⟨retR ?_, ?_⟩
    · rw [HE.out]; rfl
    · exact (((((((Below.refl _ _).alloc (Nat.le_refl _) _).alloc (by simp) _).trans (k1.mono (by simp; omega))).setCell (by simp) _).setCell (by simp) _).setCell (by simp) _).setCell (by simp) _
  · have HE := Lib.hid he
    have HA := Lib.hid ha
    clear he ha
    go_enter Try.func53, Try.ntmps53
    go_wp2_with fail
    refine (asked_any _ _ _ _ _ _).mono ?_
    rintro z w1 ⟨rfl, k1⟩
    rw [HA.out]
    obtain ⟨q1, q2⟩ := bcell k1
    have hz : w.heap.size + 1 < w1.heap.size := by have := k1.size; simp at this; omega
    have c0 : w1.cell? ⟨w.heap.size + 1, 0, none⟩ = some (.int .i64 0) := by rw [q1 _ _ (by simp; try omega)]; simp [go_sem]
    have c1 : w1.cell? ⟨w.heap.size + 1, 1, none⟩ = some (.int .i64 0) := by rw [q1 _ _ (by simp; try omega)]; simp [go_sem]
    have c2 : w1.cell? ⟨w.heap.size + 1, 2, none⟩ = some (.int .i64 0) := by rw [q1 _ _ (by simp; try omega)]; simp [go_sem]
    have c3 : w1.cell? ⟨w.heap.size + 1, 3, none⟩ = some (.int .i64 0) := by rw [q1 _ _ (by simp; try omega)]; simp [go_sem]
    have d0 : w1.cell? ⟨w.heap.size, 0, none⟩ = some (.int .i64 2) := by rw [q1 _ _ (by simp; try omega)]; simp [go_sem]
    have d1 : w1.cell? ⟨w.heap.size, 1, none⟩ = some (.int .i64 1) := by rw [q1 _ _ (by simp; try omega)]; simp [go_sem]
    have d2 : w1.cell? ⟨w.heap.size, 2, none⟩ = some (.int .i64 p) := by rw [q1 _ _ (by simp; try omega)]; simp [go_sem]
    have d3 : w1.cell? ⟨w.heap.size, 3, none⟩ = some (.int .i64 e) := by rw [q1 _ _ (by simp; try omega)]; simp [go_sem]
    go_wp2
    refine bodyPost_ret (v := .tuple #[.agg #[.int .i64 3, .int .i64 0, .int .i64 p, .int .i64 e], .int .i64 0]) (by simp [results, Try.results53, go_sem, c0, c1, c2, c3]) rfl ⟨retR ?_, ?_⟩
    · rw [HE.out]
    · exact (((((((((Below.refl _ _).alloc (Nat.le_refl _) _).alloc (by simp) _).trans (k1.mono (by simp; omega))).setCell (by simp) _).setCell (by simp) _).setCell (by simp) _).setCell (by simp) _).setCell (by simp) _).setCell (by simp) _
  · have HE := Lib.hid he
    have HA := Lib.hid ha
    clear he ha
    have tc : (c - 1 == 0) = false := by simp; omega
    go_enter Try.func53, Try.ntmps53
    go_wp2_with fail
    refine (asked_any _ _ _ _ _ _).mono ?_
    rintro z w1 ⟨rfl, k1⟩
    rw [HA.out]
    obtain ⟨q1, q2⟩ := bcell k1
    have hz : w.heap.size + 1 < w1.heap.size := by have := k1.size; simp at this; omega
    have c0 : w1.cell? ⟨w.heap.size + 1, 0, none⟩ = some (.int .i64 0) := by rw [q1 _ _ (by simp; try omega)]; simp [go_sem]
    have c1 : w1.cell? ⟨w.heap.size + 1, 1, none⟩ = some (.int .i64 0) := by rw [q1 _ _ (by simp; try omega)]; simp [go_sem]
    have c2 : w1.cell? ⟨w.heap.size + 1, 2, none⟩ = some (.int .i64 0) := by rw [q1 _ _ (by simp; try omega)]; simp [go_sem]
    have c3 : w1.cell? ⟨w.heap.size + 1, 3, none⟩ = some (.int .i64 0) := by rw [q1 _ _ (by simp; try omega)]; simp [go_sem]
    have d0 : w1.cell? ⟨w.heap.size, 0, none⟩ = some (.int .i64 2) := by rw [q1 _ _ (by simp; try omega)]; simp [go_sem]
    have d1 : w1.cell? ⟨w.heap.size, 1, none⟩ = some (.int .i64 c) := by rw [q1 _ _ (by simp; try omega)]; simp [go_sem]
    have d2 : w1.cell? ⟨w.heap.size, 2, none⟩ = some (.int .i64 p) := by rw [q1 _ _ (by simp; try omega)]; simp [go_sem]
    have d3 : w1.cell? ⟨w.heap.size, 3, none⟩ = some (.int .i64 e) := by rw [q1 _ _ (by simp; try omega)]; simp [go_sem]
    go_wp2
    refine bodyPost_ret (v := .tuple #[.agg #[.int .i64 2, .int .i64 (c - 1), .int .i64 p, .int .i64 e], .int .i64 0]) (by simp [results, Try.results53, go_sem, c0, c1, c2, c3]) rfl ⟨retR ?_, ?_⟩
    · rw [HE.out]
    · exact ((((((((Below.refl _ _).alloc (Nat.le_refl _) _).alloc (by simp) _).trans (k1.mono (by simp; omega))).setCell (by simp) _).setCell (by simp) _).setCell (by simp) _).setCell (by simp) _).setCell (by simp) _

set_option maxHeartbeats 2000000 in
theorem refleave_any (s c p e : Int) (w : World) :
    Calls Try.prog 54 #[.agg #[.int .i64 s, .int .i64 c, .int .i64 p, .int .i64 e]] w fun z w' => z = .returned (.tuple #[.agg #[.int .i64 (leV s c p e).s, .int .i64 (leV s c p e).c, .int .i64 (leV s c p e).p, .int .i64 (leV s c p e).e], .int .i64 (leV s c p e).x]) ∧ Below w.heap.size w w' := by
  rcases le_cases s c p e with ⟨hr, ha, he⟩ | ⟨hr, hs, ha, he⟩ | ⟨hr, rfl, rfl, ha, he⟩ | ⟨hr, rfl, hc1, hc2, ha, he⟩
  · have HE := Lib.hid he
    have HA := Lib.hid ha
    clear he ha
    go_enter Try.func54, Try.ntmps54
    go_wp2_with fail
    refine (refright_any _ _ _ _ _).mono ?_
    rintro z w1 ⟨rfl, k1⟩
    obtain ⟨q1, q2⟩ := bcell k1
    have hz : w.heap.size + 1 < w1.heap.size := by have := k1.size; simp at this; omega
    have c0 : w1.cell? ⟨w.heap.size + 1, 0, none⟩ = some (.int .i64 0) := by rw [q1 _ _ (by simp; try omega)]; simp [go_sem]
    have c1 : w1.cell? ⟨w.heap.size + 1, 1, none⟩ = some (.int .i64 0) := by rw [q1 _ _ (by simp; try omega)]; simp [go_sem]
    have c2 : w1.cell? ⟨w.heap.size + 1, 2, none⟩ = some (.int .i64 0) := by rw [q1 _ _ (by simp; try omega)]; simp [go_sem]
    have c3 : w1.cell? ⟨w.heap.size + 1, 3, none⟩ = some (.int .i64 0) := by rw [q1 _ _ (by simp; try omega)]; simp [go_sem]
    go_wp2
    refine bodyPost_ret (v := .tuple #[.agg #[.int .i64 0, .int .i64 0, .int .i64 0, .int .i64 0], .int .i64 1]) (by simp [results, Try.results54, go_sem, c0, c1, c2, c3]) rfl ⟨retR ?_, ?_⟩
    · rw [HE.out]; rfl
    · exact (((((((Below.refl _ _).alloc (Nat.le_refl _) _).alloc (by simp) _).trans (k1.mono (by simp; omega))).setCell (by simp) _).setCell (by simp) _).setCell (by simp) _).setCell (by simp) _
  · have HE := Lib.hid he
    have HA := Lib.hid ha
    clear he ha
    have tp : (s != 2) = true := by simpa using hs
    clear hs
    go_enter Try.func54, Try.ntmps54
    go_wp2_with fail
    refine (refright_any _ _ _ _ _).mono ?_
    rintro z w1 ⟨rfl, k1⟩
    obtain ⟨q1, q2⟩ := bcell k1
    have hz : w.heap.size + 1 < w1.heap.size := by have := k1.size; simp at this; omega
    have c0 : w1.cell? ⟨w.heap.size + 1, 0, none⟩ = some (.int .i64 0) := by rw [q1 _ _ (by simp; try omega)]; simp [go_sem]
    have c1 : w1.cell? ⟨w.heap.size + 1, 1, none⟩ = some (.int .i64 0) := by rw [q1 _ _ (by simp; try omega)]; simp [go_sem]
    have c2 : w1.cell? ⟨w.heap.size + 1, 2, none⟩ = some (.int .i64 0) := by rw [q1 _ _ (by simp; try omega)]; simp [go_sem]
    have c3 : w1.cell? ⟨w.heap.size + 1, 3, none⟩ = some (.int .i64 0) := by rw [q1 _ _ (by simp; try omega)]; simp [go_sem]
    go_wp2
    refine bodyPost_ret (v := .tuple #[.agg #[.int .i64 0, .int .i64 0, .int .i64 0, .int .i64 0], .int .i64 11]) (by simp [results, Try.results54, go_sem, c0, c1, c2, c3]) rfl ⟨retR ?_, ?_⟩
    · rw [HE.out]; rfl
    · exact (((((((Below.refl _ _).alloc (Nat.le_refl _) _).alloc (by simp) _).trans (k1.mono (by simp; omega))).setCell (by simp) _).setCell (by simp) _).setCell (by simp) _).setCell (by simp) _
  · have HE := Lib.hid he
    have HA := Lib.hid ha
    clear he ha
    go_enter Try.func54, Try.ntmps54
    go_wp2_with fail
    refine (refright_any _ _ _ _ _).mono ?_
    rintro z w1 ⟨rfl, k1⟩
    obtain ⟨q1, q2⟩ := bcell k1
    have hz : w.heap.size + 1 < w1.heap.size := by have := k1.size; simp at this; omega
    have c0 : w1.cell? ⟨w.heap.size + 1, 0, none⟩ = some (.int .i64 0) := by rw [q1 _ _ (by simp; try omega)]; simp [go_sem]
    have c1 : w1.cell? ⟨w.heap.size + 1, 1, none⟩ = some (.int .i64 0) := by rw [q1 _ _ (by simp; try omega)]; simp [go_sem]
    have c2 : w1.cell? ⟨w.heap.size + 1, 2, none⟩ = some (.int .i64 0) := by rw [q1 _ _ (by simp; try omega)]; simp [go_sem]
    have c3 : w1.cell? ⟨w.heap.size + 1, 3, none⟩ = some (.int .i64 0) := by rw [q1 _ _ (by simp; try omega)]; simp [go_sem]
    have d0 : w1.cell? ⟨w.heap.size, 0, none⟩ = some (.int .i64 2) := by rw [q1 _ _ (by simp; try omega)]; simp [go_sem]
    have d1 : w1.cell? ⟨w.heap.size, 1, none⟩ = some (.int .i64 1) := by rw [q1 _ _ (by simp; try omega)]; simp [go_sem]
    have d2 : w1.cell? ⟨w.heap.size, 2, none⟩ = some (.int .i64 p) := by rw [q1 _ _ (by simp; try omega)]; simp [go_sem]
    have d3 : w1.cell? ⟨w.heap.size, 3, none⟩ = some (.int .i64 e) := by rw [q1 _ _ (by simp; try omega)]; simp [go_sem]
    go_wp2
    refine bodyPost_ret (v := .tuple #[.agg #[.int .i64 3, .int .i64 0, .int .i64 p, .int .i64 e], .int .i64 0]) (by simp [results, Try.results54, go_sem, c0, c1, c2, c3]) rfl ⟨retR ?_, ?_⟩
    · rw [HE.out]
    · exact (((((((((Below.refl _ _).alloc (Nat.le_refl _) _).alloc (by simp) _).trans (k1.mono (by simp; omega))).setCell (by simp) _).setCell (by simp) _).setCell (by simp) _).setCell (by simp) _).setCell (by simp) _).setCell (by simp) _
  · have HE := Lib.hid he
    have HA := Lib.hid ha
    clear he ha
    have tc : (c - 1 == 0) = false := by simp; omega
    go_enter Try.func54, Try.ntmps54
    go_wp2_with fail
    refine (refright_any _ _ _ _ _).mono ?_
    rintro z w1 ⟨rfl, k1⟩
    obtain ⟨q1, q2⟩ := bcell k1
    have hz : w.heap.size + 1 < w1.heap.size := by have := k1.size; simp at this; omega
    have c0 : w1.cell? ⟨w.heap.size + 1, 0, none⟩ = some (.int .i64 0) := by rw [q1 _ _ (by simp; try omega)]; simp [go_sem]
    have c1 : w1.cell? ⟨w.heap.size + 1, 1, none⟩ = some (.int .i64 0) := by rw [q1 _ _ (by simp; try omega)]; simp [go_sem]
    have c2 : w1.cell? ⟨w.heap.size + 1, 2, none⟩ = some (.int .i64 0) := by rw [q1 _ _ (by simp; try omega)]; simp [go_sem]
    have c3 : w1.cell? ⟨w.heap.size + 1, 3, none⟩ = some (.int .i64 0) := by rw [q1 _ _ (by simp; try omega)]; simp [go_sem]
    have d0 : w1.cell? ⟨w.heap.size, 0, none⟩ = some (.int .i64 2) := by rw [q1 _ _ (by simp; try omega)]; simp [go_sem]
    have d1 : w1.cell? ⟨w.heap.size, 1, none⟩ = some (.int .i64 c) := by rw [q1 _ _ (by simp; try omega)]; simp [go_sem]
    have d2 : w1.cell? ⟨w.heap.size, 2, none⟩ = some (.int .i64 p) := by rw [q1 _ _ (by simp; try omega)]; simp [go_sem]
    have d3 : w1.cell? ⟨w.heap.size, 3, none⟩ = some (.int .i64 e) := by rw [q1 _ _ (by simp; try omega)]; simp [go_sem]
    go_wp2
    refine bodyPost_ret (v := .tuple #[.agg #[.int .i64 2, .int .i64 (c - 1), .int .i64 p, .int .i64 e], .int .i64 0]) (by simp [results, Try.results54, go_sem, c0, c1, c2, c3]) rfl ⟨retR ?_, ?_⟩
    · rw [HE.out]
    · exact ((((((((Below.refl _ _).alloc (Nat.le_refl _) _).alloc (by simp) _).trans (k1.mono (by simp; omega))).setCell (by simp) _).setCell (by simp) _).setCell (by simp) _).setCell (by simp) _).setCell (by simp) _

set_option maxHeartbeats 2000000 in
theorem open_any (s c p e : Int) (w : World) :
    Calls Try.prog 56 #[.agg #[.int .i64 s, .int .i64 c, .int .i64 p, .int .i64 e]] w fun z w' => z = .returned (.tuple #[.agg #[.int .i64 (opV s c p e).s, .int .i64 (opV s c p e).c, .int .i64 (opV s c p e).p, .int .i64 (opV s c p e).e], .int .i64 (opV s c p e).x]) ∧ Below w.heap.size w w' := by
  rcases op_cases s c p e with ⟨hr, ha, he, -⟩ | ⟨hr, hs, ha, he, -⟩ | ⟨hr, rfl, rfl, e1, e2, ha, he, -⟩
  · have HE := Lib.hid he
    have HA := Lib.hid ha
    clear he ha
    go_enter Try.func56, Try.ntmps56
    go_wp2_with fail
    refine (asked_any _ _ _ _ _ _).mono ?_
    rintro z w1 ⟨rfl, k1⟩
    rw [HA.out]
    obtain ⟨q1, q2⟩ := bcell k1
    have hz : w.heap.size + 1 < w1.heap.size := by have := k1.size; simp at this; omega
    have c0 : w1.cell? ⟨w.heap.size + 1, 0, none⟩ = some (.int .i64 0) := by rw [q1 _ _ (by simp; try omega)]; simp [go_sem]
    have c1 : w1.cell? ⟨w.heap.size + 1, 1, none⟩ = some (.int .i64 0) := by rw [q1 _ _ (by simp; try omega)]; simp [go_sem]
    have c2 : w1.cell? ⟨w.heap.size + 1, 2, none⟩ = some (.int .i64 0) := by rw [q1 _ _ (by simp; try omega)]; simp [go_sem]
    have c3 : w1.cell? ⟨w.heap.size + 1, 3, none⟩ = some (.int .i64 0) := by rw [q1 _ _ (by simp; try omega)]; simp [go_sem]
    go_wp2
    refine bodyPost_ret (v := .tuple #[.agg #[.int .i64 0, .int .i64 0, .int .i64 0, .int .i64 0], .int .i64 1]) (by simp [results, Try.results56, go_sem, c0, c1, c2, c3]) rfl ⟨retR ?_, ?_⟩
    · rw [HE.out]; rfl
    · exact (((((((Below.refl _ _).alloc (Nat.le_refl _) _).alloc (by simp) _).trans (k1.mono (by simp; omega))).setCell (by simp) _).setCell (by simp) _).setCell (by simp) _).setCell (by simp) _
  · have HE := Lib.hid he
    have HA := Lib.hid ha
    clear he ha
    have tp : (s != 3) = true := by simpa using hs
    clear hs
    go_enter Try.func56, Try.ntmps56
    go_wp2_with fail
    refine (asked_any _ _ _ _ _ _).mono ?_
    rintro z w1 ⟨rfl, k1⟩
    rw [HA.out]
    obtain ⟨q1, q2⟩ := bcell k1
    have hz : w.heap.size + 1 < w1.heap.size := by have := k1.size; simp at this; omega
    have c0 : w1.cell? ⟨w.heap.size + 1, 0, none⟩ = some (.int .i64 0) := by rw [q1 _ _ (by simp; try omega)]; simp [go_sem]
    have c1 : w1.cell? ⟨w.heap.size + 1, 1, none⟩ = some (.int .i64 0) := by rw [q1 _ _ (by simp; try omega)]; simp [go_sem]
    have c2 : w1.cell? ⟨w.heap.size + 1, 2, none⟩ = some (.int .i64 0) := by rw [q1 _ _ (by simp; try omega)]; simp [go_sem]
    have c3 : w1.cell? ⟨w.heap.size + 1, 3, none⟩ = some (.int .i64 0) := by rw [q1 _ _ (by simp; try omega)]; simp [go_sem]
    go_wp2
    refine bodyPost_ret (v := .tuple #[.agg #[.int .i64 0, .int .i64 0, .int .i64 0, .int .i64 0], .int .i64 11]) (by simp [results, Try.results56, go_sem, c0, c1, c2, c3]) rfl ⟨retR ?_, ?_⟩
    · rw [HE.out]; rfl
    · exact (((((((Below.refl _ _).alloc (Nat.le_refl _) _).alloc (by simp) _).trans (k1.mono (by simp; omega))).setCell (by simp) _).setCell (by simp) _).setCell (by simp) _).setCell (by simp) _
  · have HE := Lib.hid he
    have HA := Lib.hid ha
    clear he ha
    have HN := Lib.hid (next_eq e e1 e2)
    go_enter Try.func56, Try.ntmps56
    go_wp2_with fail
    refine (asked_any _ _ _ _ _ _).mono ?_
    rintro z w1 ⟨rfl, k1⟩
    rw [HA.out]
    obtain ⟨q1, q2⟩ := bcell k1
    have hz : w.heap.size + 1 < w1.heap.size := by have := k1.size; simp at this; omega
    have c0 : w1.cell? ⟨w.heap.size + 1, 0, none⟩ = some (.int .i64 0) := by rw [q1 _ _ (by simp; try omega)]; simp [go_sem]
    have c1 : w1.cell? ⟨w.heap.size + 1, 1, none⟩ = some (.int .i64 0) := by rw [q1 _ _ (by simp; try omega)]; simp [go_sem]
    have c2 : w1.cell? ⟨w.heap.size + 1, 2, none⟩ = some (.int .i64 0) := by rw [q1 _ _ (by simp; try omega)]; simp [go_sem]
    have c3 : w1.cell? ⟨w.heap.size + 1, 3, none⟩ = some (.int .i64 0) := by rw [q1 _ _ (by simp; try omega)]; simp [go_sem]
    have d0 : w1.cell? ⟨w.heap.size, 0, none⟩ = some (.int .i64 3) := by rw [q1 _ _ (by simp; try omega)]; simp [go_sem]
    have d1 : w1.cell? ⟨w.heap.size, 1, none⟩ = some (.int .i64 0) := by rw [q1 _ _ (by simp; try omega)]; simp [go_sem]
    have d2 : w1.cell? ⟨w.heap.size, 2, none⟩ = some (.int .i64 p) := by rw [q1 _ _ (by simp; try omega)]; simp [go_sem]
    have d3 : w1.cell? ⟨w.heap.size, 3, none⟩ = some (.int .i64 e) := by rw [q1 _ _ (by simp; try omega)]; simp [go_sem]
    go_wp2_with (go_at_call 81; refine (next_any _ _ e1 e2).mono ?_; rintro z w' ⟨rfl, rfl⟩)
    refine bodyPost_ret (v := .tuple #[.agg #[.int .i64 1, .int .i64 0, .int .i64 (-1), .int .i64 (nextV e)], .int .i64 0]) (by simp [results, Try.results56, go_sem, c0, c1, c2, c3]) rfl ⟨retR ?_, ?_⟩
    · rw [HE.out, HN.out]
    · exact ((((((((((Below.refl _ _).alloc (Nat.le_refl _) _).alloc (by simp) _).trans (k1.mono (by simp; omega))).setCell (by simp) _).setCell (by simp) _).setCell (by simp) _).setCell (by simp) _).setCell (by simp) _).setCell (by simp) _).setCell (by simp) _

set_option maxHeartbeats 2000000 in
theorem refopen_any (s c p e : Int) (w : World) :
    Calls Try.prog 57 #[.agg #[.int .i64 s, .int .i64 c, .int .i64 p, .int .i64 e]] w fun z w' => z = .returned (.tuple #[.agg #[.int .i64 (opV s c p e).s, .int .i64 (opV s c p e).c, .int .i64 (opV s c p e).p, .int .i64 (opV s c p e).e], .int .i64 (opV s c p e).x]) ∧ Below w.heap.size w w' := by
  rcases op_cases s c p e with ⟨hr, ha, he, -⟩ | ⟨hr, hs, ha, he, -⟩ | ⟨hr, rfl, rfl, e1, e2, ha, he, -⟩
  · have HE := Lib.hid he
    have HA := Lib.hid ha
    clear he ha
    go_enter Try.func57, Try.ntmps57
    go_wp2_with fail
    refine (refright_any _ _ _ _ _).mono ?_
    rintro z w1 ⟨rfl, k1⟩
    obtain ⟨q1, q2⟩ := bcell k1
    have hz : w.heap.size + 1 < w1.heap.size := by have := k1.size; simp at this; omega
    have c0 : w1.cell? ⟨w.heap.size + 1, 0, none⟩ = some (.int .i64 0) := by rw [q1 _ _ (by simp; try omega)]; simp [go_sem]
    have c1 : w1.cell? ⟨w.heap.size + 1, 1, none⟩ = some (.int .i64 0) := by rw [q1 _ _ (by simp; try omega)]; simp [go_sem]
    have c2 : w1.cell? ⟨w.heap.size + 1, 2, none⟩ = some (.int .i64 0) := by rw [q1 _ _ (by simp; try omega)]; simp [go_sem]
    have c3 : w1.cell? ⟨w.heap.size + 1, 3, none⟩ = some (.int .i64 0) := by rw [q1 _ _ (by simp; try omega)]; simp [go_sem]
    go_wp2
    refine bodyPost_ret (v := .tuple #[.agg #[.int .i64 0, .int .i64 0, .int .i64 0, .int .i64 0], .int .i64 1]) (by simp [results, Try.results57, go_sem, c0, c1, c2, c3]) rfl ⟨retR ?_, ?_⟩
    · rw [HE.out]; rfl
    · exact (((((((Below.refl _ _).alloc (Nat.le_refl _) _).alloc (by simp) _).trans (k1.mono (by simp; omega))).setCell (by simp) _).setCell (by simp) _).setCell (by simp) _).setCell (by simp) _
  · have HE := Lib.hid he
    have HA := Lib.hid ha
    clear he ha
    have tp : (s != 3) = true := by simpa using hs
    clear hs
    go_enter Try.func57, Try.ntmps57
    go_wp2_with fail
    refine (refright_any _ _ _ _ _).mono ?_
    rintro z w1 ⟨rfl, k1⟩
    obtain ⟨q1, q2⟩ := bcell k1
    have hz : w.heap.size + 1 < w1.heap.size := by have := k1.size; simp at this; omega
    have c0 : w1.cell? ⟨w.heap.size + 1, 0, none⟩ = some (.int .i64 0) := by rw [q1 _ _ (by simp; try omega)]; simp [go_sem]
    have c1 : w1.cell? ⟨w.heap.size + 1, 1, none⟩ = some (.int .i64 0) := by rw [q1 _ _ (by simp; try omega)]; simp [go_sem]
    have c2 : w1.cell? ⟨w.heap.size + 1, 2, none⟩ = some (.int .i64 0) := by rw [q1 _ _ (by simp; try omega)]; simp [go_sem]
    have c3 : w1.cell? ⟨w.heap.size + 1, 3, none⟩ = some (.int .i64 0) := by rw [q1 _ _ (by simp; try omega)]; simp [go_sem]
    go_wp2
    refine bodyPost_ret (v := .tuple #[.agg #[.int .i64 0, .int .i64 0, .int .i64 0, .int .i64 0], .int .i64 11]) (by simp [results, Try.results57, go_sem, c0, c1, c2, c3]) rfl ⟨retR ?_, ?_⟩
    · rw [HE.out]; rfl
    · exact (((((((Below.refl _ _).alloc (Nat.le_refl _) _).alloc (by simp) _).trans (k1.mono (by simp; omega))).setCell (by simp) _).setCell (by simp) _).setCell (by simp) _).setCell (by simp) _
  · have HE := Lib.hid he
    have HA := Lib.hid ha
    clear he ha
    go_enter Try.func57, Try.ntmps57
    go_wp2_with fail
    refine (refright_any _ _ _ _ _).mono ?_
    rintro z w1 ⟨rfl, k1⟩
    obtain ⟨q1, q2⟩ := bcell k1
    have hz : w.heap.size + 1 < w1.heap.size := by have := k1.size; simp at this; omega
    have c0 : w1.cell? ⟨w.heap.size + 1, 0, none⟩ = some (.int .i64 0) := by rw [q1 _ _ (by simp; try omega)]; simp [go_sem]
    have c1 : w1.cell? ⟨w.heap.size + 1, 1, none⟩ = some (.int .i64 0) := by rw [q1 _ _ (by simp; try omega)]; simp [go_sem]
    have c2 : w1.cell? ⟨w.heap.size + 1, 2, none⟩ = some (.int .i64 0) := by rw [q1 _ _ (by simp; try omega)]; simp [go_sem]
    have c3 : w1.cell? ⟨w.heap.size + 1, 3, none⟩ = some (.int .i64 0) := by rw [q1 _ _ (by simp; try omega)]; simp [go_sem]
    have d0 : w1.cell? ⟨w.heap.size, 0, none⟩ = some (.int .i64 3) := by rw [q1 _ _ (by simp; try omega)]; simp [go_sem]
    have d1 : w1.cell? ⟨w.heap.size, 1, none⟩ = some (.int .i64 0) := by rw [q1 _ _ (by simp; try omega)]; simp [go_sem]
    have d2 : w1.cell? ⟨w.heap.size, 2, none⟩ = some (.int .i64 p) := by rw [q1 _ _ (by simp; try omega)]; simp [go_sem]
    have d3 : w1.cell? ⟨w.heap.size, 3, none⟩ = some (.int .i64 e) := by rw [q1 _ _ (by simp; try omega)]; simp [go_sem]
    go_wp2
    refine bodyPost_ret (v := .tuple #[.agg #[.int .i64 1, .int .i64 0, .int .i64 (-1), .int .i64 ((e + 1) % 16777216)], .int .i64 0]) (by simp [results, Try.results57, go_sem, c0, c1, c2, c3]) rfl ⟨retR ?_, ?_⟩
    · rw [HE.out]
    · exact (((((((Below.refl _ _).alloc (Nat.le_refl _) _).alloc (by simp) _).trans (k1.mono (by simp; omega))).setCell (by simp) _).setCell (by simp) _).setCell (by simp) _).setCell (by simp) _

set_option maxHeartbeats 2000000 in
theorem hold_any (s c p e : Int) (w : World) :
    Calls Try.prog 58 #[.agg #[.int .i64 s, .int .i64 c, .int .i64 p, .int .i64 e]] w fun z w' => z = .returned (.tuple #[.agg #[.int .i64 (hoV s c p e).s, .int .i64 (hoV s c p e).c, .int .i64 (hoV s c p e).p, .int .i64 (hoV s c p e).e], .int .i64 (hoV s c p e).x]) ∧ Below w.heap.size w w' := by
  rcases op_cases s c p e with ⟨hr, ha, -, he⟩ | ⟨hr, hs, ha, -, he⟩ | ⟨hr, rfl, rfl, e1, e2, ha, -, he⟩
  · have HE := Lib.hid he
    have HA := Lib.hid ha
    clear he ha
    go_enter Try.func58, Try.ntmps58
    go_wp2_with fail
    refine (asked_any _ _ _ _ _ _).mono ?_
    rintro z w1 ⟨rfl, k1⟩
    rw [HA.out]
    obtain ⟨q1, q2⟩ := bcell k1
    have hz : w.heap.size + 1 < w1.heap.size := by have := k1.size; simp at this; omega
    have c0 : w1.cell? ⟨w.heap.size + 1, 0, none⟩ = some (.int .i64 0) := by rw [q1 _ _ (by simp; try omega)]; simp [go_sem]
    have c1 : w1.cell? ⟨w.heap.size + 1, 1, none⟩ = some (.int .i64 0) := by rw [q1 _ _ (by simp; try omega)]; simp [go_sem]
    have c2 : w1.cell? ⟨w.heap.size + 1, 2, none⟩ = some (.int .i64 0) := by rw [q1 _ _ (by simp; try omega)]; simp [go_sem]
    have c3 : w1.cell? ⟨w.heap.size + 1, 3, none⟩ = some (.int .i64 0) := by rw [q1 _ _ (by simp; try omega)]; simp [go_sem]
    go_wp2
    refine bodyPost_ret (v := .tuple #[.agg #[.int .i64 0, .int .i64 0, .int .i64 0, .int .i64 0], .int .i64 1]) (by simp [results, Try.results58, go_sem, c0, c1, c2, c3]) rfl ⟨retR ?_, ?_⟩
    · rw [HE.out]; rfl
    · exact (((((((Below.refl _ _).alloc (Nat.le_refl _) _).alloc (by simp) _).trans (k1.mono (by simp; omega))).setCell (by simp) _).setCell (by simp) _).setCell (by simp) _).setCell (by simp) _
  · have HE := Lib.hid he
    have HA := Lib.hid ha
    clear he ha
    have tp : (s != 3) = true := by simpa using hs
    clear hs
    go_enter Try.func58, Try.ntmps58
    go_wp2_with fail
    refine (asked_any _ _ _ _ _ _).mono ?_
    rintro z w1 ⟨rfl, k1⟩
    rw [HA.out]
    obtain ⟨q1, q2⟩ := bcell k1
    have hz : w.heap.size + 1 < w1.heap.size := by have := k1.size; simp at this; omega
    have c0 : w1.cell? ⟨w.heap.size + 1, 0, none⟩ = some (.int .i64 0) := by rw [q1 _ _ (by simp; try omega)]; simp [go_sem]
    have c1 : w1.cell? ⟨w.heap.size + 1, 1, none⟩ = some (.int .i64 0) := by rw [q1 _ _ (by simp; try omega)]; simp [go_sem]
    have c2 : w1.cell? ⟨w.heap.size + 1, 2, none⟩ = some (.int .i64 0) := by rw [q1 _ _ (by simp; try omega)]; simp [go_sem]
    have c3 : w1.cell? ⟨w.heap.size + 1, 3, none⟩ = some (.int .i64 0) := by rw [q1 _ _ (by simp; try omega)]; simp [go_sem]
    go_wp2
    refine bodyPost_ret (v := .tuple #[.agg #[.int .i64 0, .int .i64 0, .int .i64 0, .int .i64 0], .int .i64 11]) (by simp [results, Try.results58, go_sem, c0, c1, c2, c3]) rfl ⟨retR ?_, ?_⟩
    · rw [HE.out]; rfl
    · exact (((((((Below.refl _ _).alloc (Nat.le_refl _) _).alloc (by simp) _).trans (k1.mono (by simp; omega))).setCell (by simp) _).setCell (by simp) _).setCell (by simp) _).setCell (by simp) _
  · have HE := Lib.hid he
    have HA := Lib.hid ha
    clear he ha
    go_enter Try.func58, Try.ntmps58
    go_wp2_with fail
    refine (asked_any _ _ _ _ _ _).mono ?_
    rintro z w1 ⟨rfl, k1⟩
    rw [HA.out]
    obtain ⟨q1, q2⟩ := bcell k1
    have hz : w.heap.size + 1 < w1.heap.size := by have := k1.size; simp at this; omega
    have c0 : w1.cell? ⟨w.heap.size + 1, 0, none⟩ = some (.int .i64 0) := by rw [q1 _ _ (by simp; try omega)]; simp [go_sem]
    have c1 : w1.cell? ⟨w.heap.size + 1, 1, none⟩ = some (.int .i64 0) := by rw [q1 _ _ (by simp; try omega)]; simp [go_sem]
    have c2 : w1.cell? ⟨w.heap.size + 1, 2, none⟩ = some (.int .i64 0) := by rw [q1 _ _ (by simp; try omega)]; simp [go_sem]
    have c3 : w1.cell? ⟨w.heap.size + 1, 3, none⟩ = some (.int .i64 0) := by rw [q1 _ _ (by simp; try omega)]; simp [go_sem]
    have d0 : w1.cell? ⟨w.heap.size, 0, none⟩ = some (.int .i64 3) := by rw [q1 _ _ (by simp; try omega)]; simp [go_sem]
    have d1 : w1.cell? ⟨w.heap.size, 1, none⟩ = some (.int .i64 0) := by rw [q1 _ _ (by simp; try omega)]; simp [go_sem]
    have d2 : w1.cell? ⟨w.heap.size, 2, none⟩ = some (.int .i64 p) := by rw [q1 _ _ (by simp; try omega)]; simp [go_sem]
    have d3 : w1.cell? ⟨w.heap.size, 3, none⟩ = some (.int .i64 e) := by rw [q1 _ _ (by simp; try omega)]; simp [go_sem]
    go_wp2
    refine bodyPost_ret (v := .tuple #[.agg #[.int .i64 2, .int .i64 1, .int .i64 p, .int .i64 e], .int .i64 0]) (by simp [results, Try.results58, go_sem, c0, c1, c2, c3]) rfl ⟨retR ?_, ?_⟩
    · rw [HE.out]
    · exact (((((((((Below.refl _ _).alloc (Nat.le_refl _) _).alloc (by simp) _).trans (k1.mono (by simp; omega))).setCell (by simp) _).setCell (by simp) _).setCell (by simp) _).setCell (by simp) _).setCell (by simp) _).setCell (by simp) _

set_option maxHeartbeats 2000000 in
theorem refhold_any (s c p e : Int) (w : World) :
    Calls Try.prog 59 #[.agg #[.int .i64 s, .int .i64 c, .int .i64 p, .int .i64 e]] w fun z w' => z = .returned (.tuple #[.agg #[.int .i64 (hoV s c p e).s, .int .i64 (hoV s c p e).c, .int .i64 (hoV s c p e).p, .int .i64 (hoV s c p e).e], .int .i64 (hoV s c p e).x]) ∧ Below w.heap.size w w' := by
  rcases op_cases s c p e with ⟨hr, ha, -, he⟩ | ⟨hr, hs, ha, -, he⟩ | ⟨hr, rfl, rfl, e1, e2, ha, -, he⟩
  · have HE := Lib.hid he
    have HA := Lib.hid ha
    clear he ha
    go_enter Try.func59, Try.ntmps59
    go_wp2_with fail
    refine (refright_any _ _ _ _ _).mono ?_
    rintro z w1 ⟨rfl, k1⟩
    obtain ⟨q1, q2⟩ := bcell k1
    have hz : w.heap.size + 1 < w1.heap.size := by have := k1.size; simp at this; omega
    have c0 : w1.cell? ⟨w.heap.size + 1, 0, none⟩ = some (.int .i64 0) := by rw [q1 _ _ (by simp; try omega)]; simp [go_sem]
    have c1 : w1.cell? ⟨w.heap.size + 1, 1, none⟩ = some (.int .i64 0) := by rw [q1 _ _ (by simp; try omega)]; simp [go_sem]
    have c2 : w1.cell? ⟨w.heap.size + 1, 2, none⟩ = some (.int .i64 0) := by rw [q1 _ _ (by simp; try omega)]; simp [go_sem]
    have c3 : w1.cell? ⟨w.heap.size + 1, 3, none⟩ = some (.int .i64 0) := by rw [q1 _ _ (by simp; try omega)]; simp [go_sem]
    go_wp2
    refine bodyPost_ret (v := .tuple #[.agg #[.int .i64 0, .int .i64 0, .int .i64 0, .int .i64 0], .int .i64 1]) (by simp [results, Try.results59, go_sem, c0, c1, c2, c3]) rfl ⟨retR ?_, ?_⟩
    · rw [HE.out]; rfl
    · exact (((((((Below.refl _ _).alloc (Nat.le_refl _) _).alloc (by simp) _).trans (k1.mono (by simp; omega))).setCell (by simp) _).setCell (by simp) _).setCell (by simp) _).setCell (by simp) _
  · have HE := Lib.hid he
    have HA := Lib.hid ha
    clear he ha
    have tp : (s != 3) = true := by simpa using hs
    clear hs
    go_enter Try.func59, Try.ntmps59
    go_wp2_with fail
    refine (refright_any _ _ _ _ _).mono ?_
    rintro z w1 ⟨rfl, k1⟩
    obtain ⟨q1, q2⟩ := bcell k1
    have hz : w.heap.size + 1 < w1.heap.size := by have := k1.size; simp at this; omega
    have c0 : w1.cell? ⟨w.heap.size + 1, 0, none⟩ = some (.int .i64 0) := by rw [q1 _ _ (by simp; try omega)]; simp [go_sem]
    have c1 : w1.cell? ⟨w.heap.size + 1, 1, none⟩ = some (.int .i64 0) := by rw [q1 _ _ (by simp; try omega)]; simp [go_sem]
    have c2 : w1.cell? ⟨w.heap.size + 1, 2, none⟩ = some (.int .i64 0) := by rw [q1 _ _ (by simp; try omega)]; simp [go_sem]
    have c3 : w1.cell? ⟨w.heap.size + 1, 3, none⟩ = some (.int .i64 0) := by rw [q1 _ _ (by simp; try omega)]; simp [go_sem]
    go_wp2
    refine bodyPost_ret (v := .tuple #[.agg #[.int .i64 0, .int .i64 0, .int .i64 0, .int .i64 0], .int .i64 11]) (by simp [results, Try.results59, go_sem, c0, c1, c2, c3]) rfl ⟨retR ?_, ?_⟩
    · rw [HE.out]; rfl
    · exact (((((((Below.refl _ _).alloc (Nat.le_refl _) _).alloc (by simp) _).trans (k1.mono (by simp; omega))).setCell (by simp) _).setCell (by simp) _).setCell (by simp) _).setCell (by simp) _
  · have HE := Lib.hid he
    have HA := Lib.hid ha
    clear he ha
    go_enter Try.func59, Try.ntmps59
    go_wp2_with fail
    refine (refright_any _ _ _ _ _).mono ?_
    rintro z w1 ⟨rfl, k1⟩
    obtain ⟨q1, q2⟩ := bcell k1
    have hz : w.heap.size + 1 < w1.heap.size := by have := k1.size; simp at this; omega
    have c0 : w1.cell? ⟨w.heap.size + 1, 0, none⟩ = some (.int .i64 0) := by rw [q1 _ _ (by simp; try omega)]; simp [go_sem]
    have c1 : w1.cell? ⟨w.heap.size + 1, 1, none⟩ = some (.int .i64 0) := by rw [q1 _ _ (by simp; try omega)]; simp [go_sem]
    have c2 : w1.cell? ⟨w.heap.size + 1, 2, none⟩ = some (.int .i64 0) := by rw [q1 _ _ (by simp; try omega)]; simp [go_sem]
    have c3 : w1.cell? ⟨w.heap.size + 1, 3, none⟩ = some (.int .i64 0) := by rw [q1 _ _ (by simp; try omega)]; simp [go_sem]
    have d0 : w1.cell? ⟨w.heap.size, 0, none⟩ = some (.int .i64 3) := by rw [q1 _ _ (by simp; try omega)]; simp [go_sem]
    have d1 : w1.cell? ⟨w.heap.size, 1, none⟩ = some (.int .i64 0) := by rw [q1 _ _ (by simp; try omega)]; simp [go_sem]
    have d2 : w1.cell? ⟨w.heap.size, 2, none⟩ = some (.int .i64 p) := by rw [q1 _ _ (by simp; try omega)]; simp [go_sem]
    have d3 : w1.cell? ⟨w.heap.size, 3, none⟩ = some (.int .i64 e) := by rw [q1 _ _ (by simp; try omega)]; simp [go_sem]
    go_wp2
    refine bodyPost_ret (v := .tuple #[.agg #[.int .i64 2, .int .i64 1, .int .i64 p, .int .i64 e], .int .i64 0]) (by simp [results, Try.results59, go_sem, c0, c1, c2, c3]) rfl ⟨retR ?_, ?_⟩
    · rw [HE.out]
    · exact (((((((((Below.refl _ _).alloc (Nat.le_refl _) _).alloc (by simp) _).trans (k1.mono (by simp; omega))).setCell (by simp) _).setCell (by simp) _).setCell (by simp) _).setCell (by simp) _).setCell (by simp) _).setCell (by simp) _

end Go.Proofs.Ytkkmhapfhnnooaa.Ctl
