/-
  Two whole Alls that are the same are equal.
-/
import Derived.Test.YtkkmhapfhnnooaaScoU
import Derived.Laws.StructEq
import Derived.DeepKeys
namespace Go.Proofs.Ytkkmhapfhnnooaa.Sco
open Go.ChangeShapes Go.WideShapes Go.ChangeAt Go.RowKit
open Slic Gm
set_option linter.unusedVariables false
set_option linter.unusedSimpArgs false

theorem cells_C : Try.prog.cellsOf 42 = 4 := by kernel_rfl
theorem cells_X : Try.prog.cellsOf 46 = 2 := by kernel_rfl
theorem under_8C : Try.prog.underlying 60 = some (.array 8 42) := by kernel_rfl
theorem under_8X : Try.prog.underlying 61 = some (.array 8 46) := by kernel_rfl
set_option maxRecDepth 100000 in
set_option maxHeartbeats 4000000 in
theorem same_C (a : Nat → Int) (W : World) : (Op.equalIn 9999 60 (.agg #[.int .i64 (a 0), .int .i64 (a 1), .int .i64 (a 2), .int .i64 (a 3), .int .i64 (a 4), .int .i64 (a 5), .int .i64 (a 6), .int .i64 (a 7), .int .i64 (a 8), .int .i64 (a 9), .int .i64 (a 10), .int .i64 (a 11), .int .i64 (a 12), .int .i64 (a 13), .int .i64 (a 14), .int .i64 (a 15), .int .i64 (a 16), .int .i64 (a 17), .int .i64 (a 18), .int .i64 (a 19), .int .i64 (a 20), .int .i64 (a 21), .int .i64 (a 22), .int .i64 (a 23), .int .i64 (a 24), .int .i64 (a 25), .int .i64 (a 26), .int .i64 (a 27), .int .i64 (a 28), .int .i64 (a 29), .int .i64 (a 30), .int .i64 (a 31)]) (.agg #[.int .i64 (a 0), .int .i64 (a 1), .int .i64 (a 2), .int .i64 (a 3), .int .i64 (a 4), .int .i64 (a 5), .int .i64 (a 6), .int .i64 (a 7), .int .i64 (a 8), .int .i64 (a 9), .int .i64 (a 10), .int .i64 (a 11), .int .i64 (a 12), .int .i64 (a 13), .int .i64 (a 14), .int .i64 (a 15), .int .i64 (a 16), .int .i64 (a 17), .int .i64 (a 18), .int .i64 (a 19), .int .i64 (a 20), .int .i64 (a 21), .int .i64 (a 22), .int .i64 (a 23), .int .i64 (a 24), .int .i64 (a 25), .int .i64 (a 26), .int .i64 (a 27), .int .i64 (a 28), .int .i64 (a 29), .int .i64 (a 30), .int .i64 (a 31)])).run Try.prog W = .ok true W := by
  obtain ⟨i0, hi, _⟩ := info_parts kC.info
  rw [run_equalIn_array W 9998 _ _ under_8C hi, cells_C]
  have hr : List.range 8 = [0, 1, 2, 3, 4, 5, 6, 7] := rfl
  rw [hr]
  simp [Op.eqItems, go_sem]
set_option maxRecDepth 100000 in
set_option maxHeartbeats 4000000 in
theorem same_X (a : Nat → Int) (W : World) : (Op.equalIn 9999 61 (.agg #[.int .i64 (a 32), .int .i64 (a 33), .int .i64 (a 34), .int .i64 (a 35), .int .i64 (a 36), .int .i64 (a 37), .int .i64 (a 38), .int .i64 (a 39), .int .i64 (a 40), .int .i64 (a 41), .int .i64 (a 42), .int .i64 (a 43), .int .i64 (a 44), .int .i64 (a 45), .int .i64 (a 46), .int .i64 (a 47)]) (.agg #[.int .i64 (a 32), .int .i64 (a 33), .int .i64 (a 34), .int .i64 (a 35), .int .i64 (a 36), .int .i64 (a 37), .int .i64 (a 38), .int .i64 (a 39), .int .i64 (a 40), .int .i64 (a 41), .int .i64 (a 42), .int .i64 (a 43), .int .i64 (a 44), .int .i64 (a 45), .int .i64 (a 46), .int .i64 (a 47)])).run Try.prog W = .ok true W := by
  obtain ⟨i0, hi, _⟩ := info_parts kX.info
  rw [run_equalIn_array W 9998 _ _ under_8X hi, cells_X]
  have hr : List.range 8 = [0, 1, 2, 3, 4, 5, 6, 7] := rfl
  rw [hr]
  simp [Op.eqItems, go_sem]
set_option maxRecDepth 100000 in
set_option maxHeartbeats 4000000 in
theorem same_lit (a : Nat → Int) (W : World) : (Op.equalIn 10000 63 (.agg #[.int .i64 (a 0), .int .i64 (a 1), .int .i64 (a 2), .int .i64 (a 3), .int .i64 (a 4), .int .i64 (a 5), .int .i64 (a 6), .int .i64 (a 7), .int .i64 (a 8), .int .i64 (a 9), .int .i64 (a 10), .int .i64 (a 11), .int .i64 (a 12), .int .i64 (a 13), .int .i64 (a 14), .int .i64 (a 15), .int .i64 (a 16), .int .i64 (a 17), .int .i64 (a 18), .int .i64 (a 19), .int .i64 (a 20), .int .i64 (a 21), .int .i64 (a 22), .int .i64 (a 23), .int .i64 (a 24), .int .i64 (a 25), .int .i64 (a 26), .int .i64 (a 27), .int .i64 (a 28), .int .i64 (a 29), .int .i64 (a 30), .int .i64 (a 31), .int .i64 (a 32), .int .i64 (a 33), .int .i64 (a 34), .int .i64 (a 35), .int .i64 (a 36), .int .i64 (a 37), .int .i64 (a 38), .int .i64 (a 39), .int .i64 (a 40), .int .i64 (a 41), .int .i64 (a 42), .int .i64 (a 43), .int .i64 (a 44), .int .i64 (a 45), .int .i64 (a 46), .int .i64 (a 47)]) (.agg #[.int .i64 (a 0), .int .i64 (a 1), .int .i64 (a 2), .int .i64 (a 3), .int .i64 (a 4), .int .i64 (a 5), .int .i64 (a 6), .int .i64 (a 7), .int .i64 (a 8), .int .i64 (a 9), .int .i64 (a 10), .int .i64 (a 11), .int .i64 (a 12), .int .i64 (a 13), .int .i64 (a 14), .int .i64 (a 15), .int .i64 (a 16), .int .i64 (a 17), .int .i64 (a 18), .int .i64 (a 19), .int .i64 (a 20), .int .i64 (a 21), .int .i64 (a 22), .int .i64 (a 23), .int .i64 (a 24), .int .i64 (a 25), .int .i64 (a 26), .int .i64 (a 27), .int .i64 (a 28), .int .i64 (a 29), .int .i64 (a 30), .int .i64 (a 31), .int .i64 (a 32), .int .i64 (a 33), .int .i64 (a 34), .int .i64 (a 35), .int .i64 (a 36), .int .i64 (a 37), .int .i64 (a 38), .int .i64 (a 39), .int .i64 (a 40), .int .i64 (a 41), .int .i64 (a 42), .int .i64 (a 43), .int .i64 (a 44), .int .i64 (a 45), .int .i64 (a 46), .int .i64 (a 47)])).run Try.prog W = .ok true W := by
  have h1 := same_C a W
  have h2 := same_X a W
  simp [go_sem, h1, h2]
/-- Every cell is a number. -/
theorem cv_num (R : List Cx) (i t : Nat) : ∃ x, cv R i t = .int .i64 x := by
  unfold cv
  split
  · exact ⟨_, rfl⟩
  · split
    · exact ⟨_, rfl⟩
    · split
      · exact ⟨_, rfl⟩
      · split <;> exact ⟨_, rfl⟩
theorem xv_num (R : List Cx) (i t : Nat) : ∃ x, xv R i t = .int .i64 x := by
  unfold xv
  split
  · exact ⟨_, rfl⟩
  · split <;> exact ⟨_, rfl⟩
theorem cell2_num (R : List Cx) (a b j : Nat) : ∃ x, cell2 R a b j = .int .i64 x := by
  unfold cell2
  split
  · split
    · exact cv_num R _ _
    · exact ⟨_, rfl⟩
  · split
    · exact xv_num R _ _
    · exact ⟨_, rfl⟩
theorem allA_lit (R : List Cx) : ∃ a : Nat → Int, allA R = #[.int .i64 (a 0), .int .i64 (a 1), .int .i64 (a 2), .int .i64 (a 3), .int .i64 (a 4), .int .i64 (a 5), .int .i64 (a 6), .int .i64 (a 7), .int .i64 (a 8), .int .i64 (a 9), .int .i64 (a 10), .int .i64 (a 11), .int .i64 (a 12), .int .i64 (a 13), .int .i64 (a 14), .int .i64 (a 15), .int .i64 (a 16), .int .i64 (a 17), .int .i64 (a 18), .int .i64 (a 19), .int .i64 (a 20), .int .i64 (a 21), .int .i64 (a 22), .int .i64 (a 23), .int .i64 (a 24), .int .i64 (a 25), .int .i64 (a 26), .int .i64 (a 27), .int .i64 (a 28), .int .i64 (a 29), .int .i64 (a 30), .int .i64 (a 31), .int .i64 (a 32), .int .i64 (a 33), .int .i64 (a 34), .int .i64 (a 35), .int .i64 (a 36), .int .i64 (a 37), .int .i64 (a 38), .int .i64 (a 39), .int .i64 (a 40), .int .i64 (a 41), .int .i64 (a 42), .int .i64 (a 43), .int .i64 (a 44), .int .i64 (a 45), .int .i64 (a 46), .int .i64 (a 47)] := by
  refine ⟨fun j => (cell2_num R R.length R.length j).choose, ?_⟩
  apply Array.ext_getElem?
  intro i
  by_cases hi : i < 48
  · rw [allA_get R i hi, (cell2_num R R.length R.length i).choose_spec]
    rcases (show i = 0 ∨ i = 1 ∨ i = 2 ∨ i = 3 ∨ i = 4 ∨ i = 5 ∨ i = 6 ∨ i = 7 ∨ i = 8 ∨ i = 9 ∨ i = 10 ∨ i = 11 ∨ i = 12 ∨ i = 13 ∨ i = 14 ∨ i = 15 ∨ i = 16 ∨ i = 17 ∨ i = 18 ∨ i = 19 ∨ i = 20 ∨ i = 21 ∨ i = 22 ∨ i = 23 ∨ i = 24 ∨ i = 25 ∨ i = 26 ∨ i = 27 ∨ i = 28 ∨ i = 29 ∨ i = 30 ∨ i = 31 ∨ i = 32 ∨ i = 33 ∨ i = 34 ∨ i = 35 ∨ i = 36 ∨ i = 37 ∨ i = 38 ∨ i = 39 ∨ i = 40 ∨ i = 41 ∨ i = 42 ∨ i = 43 ∨ i = 44 ∨ i = 45 ∨ i = 46 ∨ i = 47 by omega) with rfl | rfl | rfl | rfl | rfl | rfl | rfl | rfl | rfl | rfl | rfl | rfl | rfl | rfl | rfl | rfl | rfl | rfl | rfl | rfl | rfl | rfl | rfl | rfl | rfl | rfl | rfl | rfl | rfl | rfl | rfl | rfl | rfl | rfl | rfl | rfl | rfl | rfl | rfl | rfl | rfl | rfl | rfl | rfl | rfl | rfl | rfl | rfl
    all_goals rfl
  · rw [Array.getElem?_eq_none (by rw [allA_size]; omega), Array.getElem?_eq_none (by simp; omega)]
theorem same_all (R : List Cx) (W : World) : (Op.equalIn 10000 63 (.agg (allA R)) (.agg (allA R))).run Try.prog W = .ok true W := by
  obtain ⟨a, h⟩ := allA_lit R
  rw [h]
  exact same_lit a W
end Go.Proofs.Ytkkmhapfhnnooaa.Sco
