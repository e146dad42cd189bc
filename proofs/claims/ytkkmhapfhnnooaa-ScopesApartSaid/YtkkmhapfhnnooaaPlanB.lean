/-
  Contracts of plan.At, Immortal, Heap and Size, and of the document's own.
-/
import Derived.Test.YtkkmhapfhnnooaaPlan
import Derived.Deep.RegionHeld3
namespace Go.Proofs.Ytkkmhapfhnnooaa.Plan
open Go.ChangeShapes Go.WideShapes Go.ChangeAt Go.RowKit
set_option linter.unusedVariables false

/-- An extent and an error; a place and an error. -/
structure X where
  at_ : Int
  size : Int
  err : Int
structure Y where
  n : Int
  err : Int
def immV (s t i h : Int) : X := if rightB s t i h = true then ⟨64 * s, i, 0⟩ else ⟨0, 0, 1⟩
def heapV (s t i h : Int) : X := if rightB s t i h = true then ⟨64 * s + i, h, 0⟩ else ⟨0, 0, 1⟩
def sizeV (s t i h : Int) : Y := if rightB s t i h = true then ⟨64 * s + i + h, 0⟩ else ⟨0, 1⟩
def atV (s t i h p c : Int) : Y := if rightB s t i h = true ∧ withinB p 0 4 = true then if withinB c 0 (s - 1) = true then ⟨64 * c + 8 * p, 0⟩ else ⟨0, 2⟩ else ⟨0, 1⟩
theorem retX {r : X} {a b e : Int} (h : r = ⟨a, b, e⟩) : Ending.returned (.tuple #[.agg #[.int .i64 a, .int .i64 b], .int .i64 e]) = .returned (.tuple #[.agg #[.int .i64 r.at_, .int .i64 r.size], .int .i64 r.err]) := by subst h; rfl
theorem retY {r : Y} {a e : Int} (h : r = ⟨a, e⟩) : Ending.returned (.tuple #[.int .i64 a, .int .i64 e]) = .returned (.tuple #[.int .i64 r.n, .int .i64 r.err]) := by subst h; rfl
theorem rbounds {s t i h : Int} (hr : rightB s t i h = true) : 1 ≤ s ∧ s ≤ 8 ∧ 1 ≤ t ∧ t ≤ 4 ∧ 0 ≤ i ∧ i ≤ 2048 ∧ i % 8 = 0 ∧ 0 ≤ h ∧ h ≤ 8192 ∧ h % 8 = 0 := of_decide_eq_true hr

theorem end_any (a n : Int) (w : World) (h1 : -10000000 ≤ a) (h2 : a ≤ 10000000) (h3 : -10000000 ≤ n) (h4 : n ≤ 10000000) :
    Calls Try.prog 65 #[.agg #[.int .i64 a, .int .i64 n]] w fun z w' => z = .returned (.int .i64 (a + n)) ∧ Below w.heap.size w w' := by
  go_enter Try.func65, Try.ntmps65
  go_wp2
  go_ret
  exact ⟨rfl, (Below.refl _ _).alloc (Nat.le_refl _) _⟩

set_option maxHeartbeats 1000000 in
theorem imm_any (s t i h : Int) (w : World) :
    Calls Try.prog 37 #[.agg #[.int .i64 s, .int .i64 t, .int .i64 i, .int .i64 h]] w fun z w' => z = .returned (.tuple #[.agg #[.int .i64 (immV s t i h).at_, .int .i64 (immV s t i h).size], .int .i64 (immV s t i h).err]) ∧ Below w.heap.size w w' := by
  by_cases hr : rightB s t i h = true
  · obtain ⟨b1, b2, b3, b4, b5, b6, b7, b8, b9, b10⟩ := rbounds hr
    have HR := Lib.hid hr
    go_enter Try.func37, Try.ntmps37
    go_wp2_with fail
    refine (right_any _ _ _ _ _).mono ?_
    rintro z w1 ⟨rfl, k1⟩
    obtain ⟨q1, q2⟩ := bcell k1
    have hz : w.heap.size + 1 < w1.heap.size := by have := k1.size; simp at this; omega
    have c0 : w1.cell? ⟨w.heap.size + 1, 0, none⟩ = some (.int .i64 0) := by rw [q1 _ _ (by simp; try omega)]; simp [go_sem]
    have c1 : w1.cell? ⟨w.heap.size + 1, 1, none⟩ = some (.int .i64 0) := by rw [q1 _ _ (by simp; try omega)]; simp [go_sem]
    go_wp2
    refine bodyPost_ret (v := .tuple #[.agg #[.int .i64 (s * 64), .int .i64 i], .int .i64 0]) (by simp [results, Try.results37, go_sem, c0, c1]) rfl ⟨retX ?_, ?_⟩
    · unfold immV; rw [if_pos HR.out]; congr 1; omega
    · exact (((((Below.refl _ _).alloc (Nat.le_refl _) _).alloc (by simp) _).trans (k1.mono (by simp; omega))).setCell (by simp) _).setCell (by simp) _
  · have hf : rightB s t i h = false := by simpa using hr
    have HR := Lib.hid hr
    clear hr
    go_enter Try.func37, Try.ntmps37
    go_wp2_with fail
    refine (right_any _ _ _ _ _).mono ?_
    rintro z w1 ⟨rfl, k1⟩
    obtain ⟨q1, q2⟩ := bcell k1
    have hz : w.heap.size + 1 < w1.heap.size := by have := k1.size; simp at this; omega
    have c0 : w1.cell? ⟨w.heap.size + 1, 0, none⟩ = some (.int .i64 0) := by rw [q1 _ _ (by simp; try omega)]; simp [go_sem]
    have c1 : w1.cell? ⟨w.heap.size + 1, 1, none⟩ = some (.int .i64 0) := by rw [q1 _ _ (by simp; try omega)]; simp [go_sem]
    go_wp2
    refine bodyPost_ret (v := .tuple #[.agg #[.int .i64 0, .int .i64 0], .int .i64 1]) (by simp [results, Try.results37, go_sem, c0, c1]) rfl ⟨retX ?_, ?_⟩
    · unfold immV; rw [if_neg HR.out]
    · exact (((((Below.refl _ _).alloc (Nat.le_refl _) _).alloc (by simp) _).trans (k1.mono (by simp; omega))).setCell (by simp) _).setCell (by simp) _
end Go.Proofs.Ytkkmhapfhnnooaa.Plan
