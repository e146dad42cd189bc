/-
  Contracts of the document's model: code, Regs.
-/
import Derived.Test.YteakglkagmghpaaGreatDr
namespace Go.Proofs.YteakglkagmghpaaGreat.Mod
open Go.ChangeShapes Go.WideShapes Go.ChangeAt Go.RowKit
open Slic Sco
set_option linter.unusedVariables false
set_option linter.unusedSimpArgs false
set_option maxRecDepth 8000
abbrev anD (c n : Int) : Value := .agg #[.int .i64 c, .int .i64 n, .slice none 0 0]
theorem lt4 {x : Int} : decide (x < 4) = !badR x := by
  unfold badR
  by_cases h : x < 4
  · rw [decide_eq_true h, decide_eq_false (by omega)]
    rfl
  · rw [decide_eq_false h, decide_eq_true (by omega)]
    rfl
set_option maxHeartbeats 2000000 in
theorem regs12_any (w : World) (c : Ca) : Calls Tryz.prog 49 #[.agg (caA c)] w fun z w' => z = .returned (.bool (!badC c)) ∧ Below w.heap.size w w' := by
  obtain ⟨op, r, h, v, a, b, cc⟩ := c
  have B0 := below_one w (.cells #[.int .u8 op, .int .u8 r, .int .u8 h, .int .u8 v, .int .i64 a, .int .i64 b, .int .i64 cc] 37)
  have Q0 := heap_alloc_new w (.cells #[.int .u8 op, .int .u8 r, .int .u8 h, .int .u8 v, .int .i64 a, .int .i64 b, .int .i64 cc] 37)
  have c0 := cell_of Q0 0 _ rfl
  have c1 := cell_of Q0 1 _ rfl
  have c2 := cell_of Q0 2 _ rfl
  have c3 := cell_of Q0 3 _ rfl
  have l1 : decide (r < 4) = !badR r := lt4
  have l2 : decide (h < 4) = !badR h := lt4
  have l3 : decide (v < 4) = !badR v := lt4
  have E : badC ⟨op, r, h, v, a, b, cc⟩ = if op = 1 ∨ op = 7 ∨ op = 10 then badR r else if op = 8 then badR r || badR h else if op = 9 then badR h || badR v else if op = 11 then badR v else false := rfl
  show Calls Tryz.prog 49 #[.agg #[.int .u8 op, .int .u8 r, .int .u8 h, .int .u8 v, .int .i64 a, .int .i64 b, .int .i64 cc]] w _
  generalize badC ⟨op, r, h, v, a, b, cc⟩ = BC at *
  generalize badR r = R at *
  generalize badR h = H at *
  generalize badR v = V at *
  replace E := Lib.hid E
  clear Q0
  have fin : ∀ (b1 b2 : Bool), b1 = b2 → Ending.returned (.bool b1) = .returned (.bool b2) := fun _ _ e => by rw [e]
  by_cases q1 : op = 1
  · have d1 : (op == 1) = true := by simp [q1]
    have E1 := Lib.hid (show BC = R by rw [E.out, if_pos (.inl q1)])
    clear q1 E
    as_aux_lemma =>
      go_enter Tryz.func49, Tryz.ntmps49
      cases R <;> cases H <;> cases V <;> (go_wp2; go_ret; exact ⟨by rw [E1.out]; rfl, B0⟩)
  have d1 : (op == 1) = false := by simp [q1]
  by_cases q2 : op = 7
  · have d2 : (op == 7) = true := by simp [q2]
    have E1 := Lib.hid (show BC = R by rw [E.out, if_pos (.inr (.inl q2))])
    clear q1 q2 E
    as_aux_lemma =>
      go_enter Tryz.func49, Tryz.ntmps49
      cases R <;> cases H <;> cases V <;> (go_wp2; go_ret; exact ⟨by rw [E1.out]; rfl, B0⟩)
  have d2 : (op == 7) = false := by simp [q2]
  by_cases q3 : op = 10
  · have d3 : (op == 10) = true := by simp [q3]
    have E1 := Lib.hid (show BC = R by rw [E.out, if_pos (.inr (.inr q3))])
    clear q1 q2 q3 E
    as_aux_lemma =>
      go_enter Tryz.func49, Tryz.ntmps49
      cases R <;> cases H <;> cases V <;> (go_wp2; go_ret; exact ⟨by rw [E1.out]; rfl, B0⟩)
  have d3 : (op == 10) = false := by simp [q3]
  by_cases q4 : op = 8
  · have d4 : (op == 8) = true := by simp [q4]
    have E1 := Lib.hid (show BC = (R || H) by rw [E.out, if_neg (by omega), if_pos q4])
    clear q1 q2 q3 q4 E
    as_aux_lemma =>
      go_enter Tryz.func49, Tryz.ntmps49
      cases R <;> cases H <;> cases V <;> (go_wp2; go_ret; exact ⟨by rw [E1.out]; rfl, B0⟩)
  have d4 : (op == 8) = false := by simp [q4]
  by_cases q5 : op = 9
  · have d5 : (op == 9) = true := by simp [q5]
    have E1 := Lib.hid (show BC = (H || V) by rw [E.out, if_neg (by omega), if_neg q4, if_pos q5])
    clear q1 q2 q3 q4 q5 E
    as_aux_lemma =>
      go_enter Tryz.func49, Tryz.ntmps49
      cases R <;> cases H <;> cases V <;> (go_wp2; go_ret; exact ⟨by rw [E1.out]; rfl, B0⟩)
  have d5 : (op == 9) = false := by simp [q5]
  by_cases q6 : op = 11
  · have d6 : (op == 11) = true := by simp [q6]
    have E1 := Lib.hid (show BC = V by rw [E.out, if_neg (by omega), if_neg q4, if_neg q5, if_pos q6])
    clear q1 q2 q3 q4 q5 q6 E
    as_aux_lemma =>
      go_enter Tryz.func49, Tryz.ntmps49
      cases R <;> cases H <;> cases V <;> (go_wp2; go_ret; exact ⟨by rw [E1.out]; rfl, B0⟩)
  have d6 : (op == 11) = false := by simp [q6]
  have E1 := Lib.hid (show BC = false by rw [E.out, if_neg (by omega), if_neg q4, if_neg q5, if_neg q6])
  clear q1 q2 q3 q4 q5 q6 E
  as_aux_lemma =>
    go_enter Tryz.func49, Tryz.ntmps49
    cases R <;> cases H <;> cases V <;> (go_wp2; go_ret; exact ⟨by rw [E1.out]; rfl, B0⟩)
end Go.Proofs.YteakglkagmghpaaGreat.Mod
