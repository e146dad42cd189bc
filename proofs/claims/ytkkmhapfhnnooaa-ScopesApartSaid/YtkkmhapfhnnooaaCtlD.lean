/-
  Contracts of ctl.Enter and of the document's own answer.
-/
import Derived.Test.YtkkmhapfhnnooaaCtlC
namespace Go.Proofs.Ytkkmhapfhnnooaa.Ctl
open Go.ChangeShapes Go.WideShapes Go.ChangeAt Go.RowKit
set_option linter.unusedVariables false

def entV (s c p e f : Int) : R := if rightB s c p e = true ∧ 0 ≤ f ∧ f ≤ 7 then (if s = 0 then no 11 else if s = 3 then no 10 else if s = 1 then ⟨2, 1, f, e, 0⟩ else if p = f then (if c = 7 then no 16 else ⟨2, c + 1, f, e, 0⟩) else no 15) else no 1

theorem ent_cases (s c p e f : Int) :
    (rightB s c p e = false ∧ entV s c p e f = no 1) ∨
    (rightB s c p e = true ∧ (f < 0 ∨ 7 < f) ∧ entV s c p e f = no 1) ∨
    (rightB s c p e = true ∧ 0 ≤ f ∧ f ≤ 7 ∧ s = 0 ∧ entV s c p e f = no 11) ∨
    (rightB s c p e = true ∧ 0 ≤ f ∧ f ≤ 7 ∧ s = 3 ∧ entV s c p e f = no 10) ∨
    (rightB s c p e = true ∧ 0 ≤ f ∧ f ≤ 7 ∧ s = 1 ∧ entV s c p e f = ⟨2, 1, f, e, 0⟩) ∨
    (rightB s c p e = true ∧ 0 ≤ f ∧ f ≤ 7 ∧ s = 2 ∧ ¬ p = f ∧ entV s c p e f = no 15) ∨
    (rightB s c p e = true ∧ 0 ≤ f ∧ f ≤ 7 ∧ s = 2 ∧ p = f ∧ c = 7 ∧ entV s c p e f = no 16) ∨
    (rightB s c p e = true ∧ 0 ≤ f ∧ f ≤ 7 ∧ s = 2 ∧ p = f ∧ 1 ≤ c ∧ c ≤ 6 ∧ entV s c p e f = ⟨2, c + 1, f, e, 0⟩) := by
  by_cases hr : rightB s c p e = true
  · have hr' := of_decide_eq_true (show decide _ = true from hr)
    by_cases hf : 0 ≤ f ∧ f ≤ 7
    · unfold entV
      rw [if_pos ⟨hr, hf⟩]
      rcases (show s = 0 ∨ s = 3 ∨ s = 1 ∨ s = 2 by omega) with rfl | rfl | rfl | rfl
      · exact .inr (.inr (.inl ⟨hr, hf.1, hf.2, rfl, rfl⟩))
      · exact .inr (.inr (.inr (.inl ⟨hr, hf.1, hf.2, rfl, rfl⟩)))
      · exact .inr (.inr (.inr (.inr (.inl ⟨hr, hf.1, hf.2, rfl, rfl⟩))))
      · by_cases hp : p = f
        · by_cases hc : c = 7
          · exact .inr (.inr (.inr (.inr (.inr (.inr (.inl ⟨hr, hf.1, hf.2, rfl, hp, hc, by rw [if_neg (by omega), if_neg (by omega), if_neg (by omega), if_pos hp, if_pos hc]⟩))))))
          · exact .inr (.inr (.inr (.inr (.inr (.inr (.inr ⟨hr, hf.1, hf.2, rfl, hp, by omega, by omega, by rw [if_neg (by omega), if_neg (by omega), if_neg (by omega), if_pos hp, if_neg hc]⟩))))))
        · exact .inr (.inr (.inr (.inr (.inr (.inl ⟨hr, hf.1, hf.2, rfl, hp, by rw [if_neg (by omega), if_neg (by omega), if_neg (by omega), if_neg hp]⟩)))))
    · exact .inr (.inl ⟨hr, by omega, by unfold entV; rw [if_neg (fun h => hf h.2)]⟩)
  · exact .inl ⟨by simpa using hr, by unfold entV; rw [if_neg (fun h => hr h.1)]⟩

set_option maxHeartbeats 2000000 in
theorem enter_any (s c p e f : Int) (w : World) :
    Calls Try.prog 82 #[.agg #[.int .i64 s, .int .i64 c, .int .i64 p, .int .i64 e], .int .i64 f] w fun z w' => z = .returned (.tuple #[.agg #[.int .i64 (entV s c p e f).s, .int .i64 (entV s c p e f).c, .int .i64 (entV s c p e f).p, .int .i64 (entV s c p e f).e], .int .i64 (entV s c p e f).x]) ∧ Below w.heap.size w w' := by
  rcases ent_cases s c p e f with ⟨hr, he⟩ | ⟨hr, hf, he⟩ | ⟨hr, f1, f2, rfl, he⟩ | ⟨hr, f1, f2, rfl, he⟩ | ⟨hr, f1, f2, rfl, he⟩ | ⟨hr, f1, f2, rfl, hp, he⟩ | ⟨hr, f1, f2, rfl, rfl, rfl, he⟩ | ⟨hr, f1, f2, rfl, rfl, hc1, hc2, he⟩
  · have HE := Lib.hid he
    clear he
    go_enter Try.func82, Try.ntmps82
    go_wp2_with fail
    refine (right_any _ _ _ _ _).mono ?_
    rintro z w1 ⟨rfl, k1⟩
    obtain ⟨q1, q2⟩ := bcell k1
    have hz : w.heap.size + 1 < w1.heap.size := by have := k1.size; simp at this; omega
    have c0 : w1.cell? ⟨w.heap.size + 1, 0, none⟩ = some (.int .i64 0) := by rw [q1 _ _ (by simp; try omega)]; simp [go_sem]
    have c1 : w1.cell? ⟨w.heap.size + 1, 1, none⟩ = some (.int .i64 0) := by rw [q1 _ _ (by simp; try omega)]; simp [go_sem]
    have c2 : w1.cell? ⟨w.heap.size + 1, 2, none⟩ = some (.int .i64 0) := by rw [q1 _ _ (by simp; try omega)]; simp [go_sem]
    have c3 : w1.cell? ⟨w.heap.size + 1, 3, none⟩ = some (.int .i64 0) := by rw [q1 _ _ (by simp; try omega)]; simp [go_sem]
    go_wp2_with (go_at_call 89; refine (isscope_any _ _).mono ?_; rintro z w' ⟨rfl, rfl⟩)
    refine bodyPost_ret (v := .tuple #[.agg #[.int .i64 0, .int .i64 0, .int .i64 0, .int .i64 0], .int .i64 1]) (by simp [results, Try.results82, go_sem, c0, c1, c2, c3]) rfl ⟨retR ?_, ?_⟩
    · rw [HE.out]; rfl
    · exact (((((((Below.refl _ _).alloc (Nat.le_refl _) _).alloc (by simp) _).trans (k1.mono (by simp; omega))).setCell (by simp) _).setCell (by simp) _).setCell (by simp) _).setCell (by simp) _
  · have HE := Lib.hid he
    clear he
    have hs : scopeB f = false := decide_eq_false (by omega)
    clear hf
    go_enter Try.func82, Try.ntmps82
    go_wp2_with fail
    refine (right_any _ _ _ _ _).mono ?_
    rintro z w1 ⟨rfl, k1⟩
    obtain ⟨q1, q2⟩ := bcell k1
    have hz : w.heap.size + 1 < w1.heap.size := by have := k1.size; simp at this; omega
    have c0 : w1.cell? ⟨w.heap.size + 1, 0, none⟩ = some (.int .i64 0) := by rw [q1 _ _ (by simp; try omega)]; simp [go_sem]
    have c1 : w1.cell? ⟨w.heap.size + 1, 1, none⟩ = some (.int .i64 0) := by rw [q1 _ _ (by simp; try omega)]; simp [go_sem]
    have c2 : w1.cell? ⟨w.heap.size + 1, 2, none⟩ = some (.int .i64 0) := by rw [q1 _ _ (by simp; try omega)]; simp [go_sem]
    have c3 : w1.cell? ⟨w.heap.size + 1, 3, none⟩ = some (.int .i64 0) := by rw [q1 _ _ (by simp; try omega)]; simp [go_sem]
    go_wp2_with (go_at_call 89; refine (isscope_any _ _).mono ?_; rintro z w' ⟨rfl, rfl⟩)
    refine bodyPost_ret (v := .tuple #[.agg #[.int .i64 0, .int .i64 0, .int .i64 0, .int .i64 0], .int .i64 1]) (by simp [results, Try.results82, go_sem, c0, c1, c2, c3]) rfl ⟨retR ?_, ?_⟩
    · rw [HE.out]; rfl
    · exact (((((((Below.refl _ _).alloc (Nat.le_refl _) _).alloc (by simp) _).trans (k1.mono (by simp; omega))).setCell (by simp) _).setCell (by simp) _).setCell (by simp) _).setCell (by simp) _
  · have HE := Lib.hid he
    clear he
    have hs : scopeB f = true := decide_eq_true (by omega)
    go_enter Try.func82, Try.ntmps82
    go_wp2_with fail
    refine (right_any _ _ _ _ _).mono ?_
    rintro z w1 ⟨rfl, k1⟩
    obtain ⟨q1, q2⟩ := bcell k1
    have hz : w.heap.size + 1 < w1.heap.size := by have := k1.size; simp at this; omega
    have c0 : w1.cell? ⟨w.heap.size + 1, 0, none⟩ = some (.int .i64 0) := by rw [q1 _ _ (by simp; try omega)]; simp [go_sem]
    have c1 : w1.cell? ⟨w.heap.size + 1, 1, none⟩ = some (.int .i64 0) := by rw [q1 _ _ (by simp; try omega)]; simp [go_sem]
    have c2 : w1.cell? ⟨w.heap.size + 1, 2, none⟩ = some (.int .i64 0) := by rw [q1 _ _ (by simp; try omega)]; simp [go_sem]
    have c3 : w1.cell? ⟨w.heap.size + 1, 3, none⟩ = some (.int .i64 0) := by rw [q1 _ _ (by simp; try omega)]; simp [go_sem]
    go_wp2_with (go_at_call 89; refine (isscope_any _ _).mono ?_; rintro z w' ⟨rfl, rfl⟩)
    refine bodyPost_ret (v := .tuple #[.agg #[.int .i64 0, .int .i64 0, .int .i64 0, .int .i64 0], .int .i64 11]) (by simp [results, Try.results82, go_sem, c0, c1, c2, c3]) rfl ⟨retR ?_, ?_⟩
    · rw [HE.out]; rfl
    · exact (((((((Below.refl _ _).alloc (Nat.le_refl _) _).alloc (by simp) _).trans (k1.mono (by simp; omega))).setCell (by simp) _).setCell (by simp) _).setCell (by simp) _).setCell (by simp) _
  · have HE := Lib.hid he
    clear he
    have hs : scopeB f = true := decide_eq_true (by omega)
    go_enter Try.func82, Try.ntmps82
    go_wp2_with fail
    refine (right_any _ _ _ _ _).mono ?_
    rintro z w1 ⟨rfl, k1⟩
    obtain ⟨q1, q2⟩ := bcell k1
    have hz : w.heap.size + 1 < w1.heap.size := by have := k1.size; simp at this; omega
    have c0 : w1.cell? ⟨w.heap.size + 1, 0, none⟩ = some (.int .i64 0) := by rw [q1 _ _ (by simp; try omega)]; simp [go_sem]
    have c1 : w1.cell? ⟨w.heap.size + 1, 1, none⟩ = some (.int .i64 0) := by rw [q1 _ _ (by simp; try omega)]; simp [go_sem]
    have c2 : w1.cell? ⟨w.heap.size + 1, 2, none⟩ = some (.int .i64 0) := by rw [q1 _ _ (by simp; try omega)]; simp [go_sem]
    have c3 : w1.cell? ⟨w.heap.size + 1, 3, none⟩ = some (.int .i64 0) := by rw [q1 _ _ (by simp; try omega)]; simp [go_sem]
    go_wp2_with (go_at_call 89; refine (isscope_any _ _).mono ?_; rintro z w' ⟨rfl, rfl⟩)
    refine bodyPost_ret (v := .tuple #[.agg #[.int .i64 0, .int .i64 0, .int .i64 0, .int .i64 0], .int .i64 10]) (by simp [results, Try.results82, go_sem, c0, c1, c2, c3]) rfl ⟨retR ?_, ?_⟩
    · rw [HE.out]; rfl
    · exact (((((((Below.refl _ _).alloc (Nat.le_refl _) _).alloc (by simp) _).trans (k1.mono (by simp; omega))).setCell (by simp) _).setCell (by simp) _).setCell (by simp) _).setCell (by simp) _
  · have HE := Lib.hid he
    clear he
    have hs : scopeB f = true := decide_eq_true (by omega)
    go_enter Try.func82, Try.ntmps82
    go_wp2_with fail
    refine (right_any _ _ _ _ _).mono ?_
    rintro z w1 ⟨rfl, k1⟩
    obtain ⟨q1, q2⟩ := bcell k1
    have hz : w.heap.size + 1 < w1.heap.size := by have := k1.size; simp at this; omega
    have c0 : w1.cell? ⟨w.heap.size + 1, 0, none⟩ = some (.int .i64 0) := by rw [q1 _ _ (by simp; try omega)]; simp [go_sem]
    have c1 : w1.cell? ⟨w.heap.size + 1, 1, none⟩ = some (.int .i64 0) := by rw [q1 _ _ (by simp; try omega)]; simp [go_sem]
    have c2 : w1.cell? ⟨w.heap.size + 1, 2, none⟩ = some (.int .i64 0) := by rw [q1 _ _ (by simp; try omega)]; simp [go_sem]
    have c3 : w1.cell? ⟨w.heap.size + 1, 3, none⟩ = some (.int .i64 0) := by rw [q1 _ _ (by simp; try omega)]; simp [go_sem]
    have d0 : w1.cell? ⟨w.heap.size, 0, none⟩ = some (.int .i64 1) := by rw [q1 _ _ (by simp; try omega)]; simp [go_sem]
    have d1 : w1.cell? ⟨w.heap.size, 1, none⟩ = some (.int .i64 c) := by rw [q1 _ _ (by simp; try omega)]; simp [go_sem]
    have d2 : w1.cell? ⟨w.heap.size, 2, none⟩ = some (.int .i64 p) := by rw [q1 _ _ (by simp; try omega)]; simp [go_sem]
    have d3 : w1.cell? ⟨w.heap.size, 3, none⟩ = some (.int .i64 e) := by rw [q1 _ _ (by simp; try omega)]; simp [go_sem]
    go_wp2_with (go_at_call 89; refine (isscope_any _ _).mono ?_; rintro z w' ⟨rfl, rfl⟩)
    refine bodyPost_ret (v := .tuple #[.agg #[.int .i64 2, .int .i64 1, .int .i64 f, .int .i64 e], .int .i64 0]) (by simp [results, Try.results82, go_sem, c0, c1, c2, c3]) rfl ⟨retR ?_, ?_⟩
    · rw [HE.out]
    · exact ((((((((((Below.refl _ _).alloc (Nat.le_refl _) _).alloc (by simp) _).trans (k1.mono (by simp; omega))).setCell (by simp) _).setCell (by simp) _).setCell (by simp) _).setCell (by simp) _).setCell (by simp) _).setCell (by simp) _).setCell (by simp) _
  · have HE := Lib.hid he
    clear he
    have hs : scopeB f = true := decide_eq_true (by omega)
    have tp : (p != f) = true := by simpa using hp
    clear hp
    go_enter Try.func82, Try.ntmps82
    go_wp2_with fail
    refine (right_any _ _ _ _ _).mono ?_
    rintro z w1 ⟨rfl, k1⟩
    obtain ⟨q1, q2⟩ := bcell k1
    have hz : w.heap.size + 1 < w1.heap.size := by have := k1.size; simp at this; omega
    have c0 : w1.cell? ⟨w.heap.size + 1, 0, none⟩ = some (.int .i64 0) := by rw [q1 _ _ (by simp; try omega)]; simp [go_sem]
    have c1 : w1.cell? ⟨w.heap.size + 1, 1, none⟩ = some (.int .i64 0) := by rw [q1 _ _ (by simp; try omega)]; simp [go_sem]
    have c2 : w1.cell? ⟨w.heap.size + 1, 2, none⟩ = some (.int .i64 0) := by rw [q1 _ _ (by simp; try omega)]; simp [go_sem]
    have c3 : w1.cell? ⟨w.heap.size + 1, 3, none⟩ = some (.int .i64 0) := by rw [q1 _ _ (by simp; try omega)]; simp [go_sem]
    go_wp2_with (go_at_call 89; refine (isscope_any _ _).mono ?_; rintro z w' ⟨rfl, rfl⟩)
    refine bodyPost_ret (v := .tuple #[.agg #[.int .i64 0, .int .i64 0, .int .i64 0, .int .i64 0], .int .i64 15]) (by simp [results, Try.results82, go_sem, c0, c1, c2, c3]) rfl ⟨retR ?_, ?_⟩
    · rw [HE.out]; rfl
    · exact (((((((Below.refl _ _).alloc (Nat.le_refl _) _).alloc (by simp) _).trans (k1.mono (by simp; omega))).setCell (by simp) _).setCell (by simp) _).setCell (by simp) _).setCell (by simp) _
  · have HE := Lib.hid he
    clear he
    have hs : scopeB p = true := decide_eq_true (by omega)
    go_enter Try.func82, Try.ntmps82
    go_wp2_with fail
    refine (right_any _ _ _ _ _).mono ?_
    rintro z w1 ⟨rfl, k1⟩
    obtain ⟨q1, q2⟩ := bcell k1
    have hz : w.heap.size + 1 < w1.heap.size := by have := k1.size; simp at this; omega
    have c0 : w1.cell? ⟨w.heap.size + 1, 0, none⟩ = some (.int .i64 0) := by rw [q1 _ _ (by simp; try omega)]; simp [go_sem]
    have c1 : w1.cell? ⟨w.heap.size + 1, 1, none⟩ = some (.int .i64 0) := by rw [q1 _ _ (by simp; try omega)]; simp [go_sem]
    have c2 : w1.cell? ⟨w.heap.size + 1, 2, none⟩ = some (.int .i64 0) := by rw [q1 _ _ (by simp; try omega)]; simp [go_sem]
    have c3 : w1.cell? ⟨w.heap.size + 1, 3, none⟩ = some (.int .i64 0) := by rw [q1 _ _ (by simp; try omega)]; simp [go_sem]
    go_wp2_with (go_at_call 89; refine (isscope_any _ _).mono ?_; rintro z w' ⟨rfl, rfl⟩)
    refine bodyPost_ret (v := .tuple #[.agg #[.int .i64 0, .int .i64 0, .int .i64 0, .int .i64 0], .int .i64 16]) (by simp [results, Try.results82, go_sem, c0, c1, c2, c3]) rfl ⟨retR ?_, ?_⟩
    · rw [HE.out]; rfl
    · exact (((((((Below.refl _ _).alloc (Nat.le_refl _) _).alloc (by simp) _).trans (k1.mono (by simp; omega))).setCell (by simp) _).setCell (by simp) _).setCell (by simp) _).setCell (by simp) _
  · have HE := Lib.hid he
    clear he
    have hs : scopeB p = true := decide_eq_true (by omega)
    have tc : (c == 7) = false := by simp; omega
    go_enter Try.func82, Try.ntmps82
    go_wp2_with fail
    refine (right_any _ _ _ _ _).mono ?_
    rintro z w1 ⟨rfl, k1⟩
    obtain ⟨q1, q2⟩ := bcell k1
    have hz : w.heap.size + 1 < w1.heap.size := by have := k1.size; simp at this; omega
    have c0 : w1.cell? ⟨w.heap.size + 1, 0, none⟩ = some (.int .i64 0) := by rw [q1 _ _ (by simp; try omega)]; simp [go_sem]
    have c1 : w1.cell? ⟨w.heap.size + 1, 1, none⟩ = some (.int .i64 0) := by rw [q1 _ _ (by simp; try omega)]; simp [go_sem]
    have c2 : w1.cell? ⟨w.heap.size + 1, 2, none⟩ = some (.int .i64 0) := by rw [q1 _ _ (by simp; try omega)]; simp [go_sem]
    have c3 : w1.cell? ⟨w.heap.size + 1, 3, none⟩ = some (.int .i64 0) := by rw [q1 _ _ (by simp; try omega)]; simp [go_sem]
    have d0 : w1.cell? ⟨w.heap.size, 0, none⟩ = some (.int .i64 2) := by rw [q1 _ _ (by simp; try omega)]; simp [go_sem]
    have d1 : w1.cell? ⟨w.heap.size, 1, none⟩ = some (.int .i64 c) := by rw [q1 _ _ (by simp; try omega)]; simp [go_sem]
    have d2 : w1.cell? ⟨w.heap.size, 2, none⟩ = some (.int .i64 p) := by rw [q1 _ _ (by simp; try omega)]; simp [go_sem]
    have d3 : w1.cell? ⟨w.heap.size, 3, none⟩ = some (.int .i64 e) := by rw [q1 _ _ (by simp; try omega)]; simp [go_sem]
    go_wp2_with (go_at_call 89; refine (isscope_any _ _).mono ?_; rintro z w' ⟨rfl, rfl⟩)
    refine bodyPost_ret (v := .tuple #[.agg #[.int .i64 2, .int .i64 (c + 1), .int .i64 p, .int .i64 e], .int .i64 0]) (by simp [results, Try.results82, go_sem, c0, c1, c2, c3]) rfl ⟨retR ?_, ?_⟩
    · rw [HE.out]
    · exact ((((((((Below.refl _ _).alloc (Nat.le_refl _) _).alloc (by simp) _).trans (k1.mono (by simp; omega))).setCell (by simp) _).setCell (by simp) _).setCell (by simp) _).setCell (by simp) _).setCell (by simp) _

set_option maxHeartbeats 2000000 in
theorem refenter_any (s c p e f : Int) (w : World) :
    Calls Try.prog 61 #[.agg #[.int .i64 s, .int .i64 c, .int .i64 p, .int .i64 e], .int .i64 f] w fun z w' => z = .returned (.tuple #[.agg #[.int .i64 (entV s c p e f).s, .int .i64 (entV s c p e f).c, .int .i64 (entV s c p e f).p, .int .i64 (entV s c p e f).e], .int .i64 (entV s c p e f).x]) ∧ Below w.heap.size w w' := by
  rcases ent_cases s c p e f with ⟨hr, he⟩ | ⟨hr, hf, he⟩ | ⟨hr, f1, f2, rfl, he⟩ | ⟨hr, f1, f2, rfl, he⟩ | ⟨hr, f1, f2, rfl, he⟩ | ⟨hr, f1, f2, rfl, hp, he⟩ | ⟨hr, f1, f2, rfl, rfl, rfl, he⟩ | ⟨hr, f1, f2, rfl, rfl, hc1, hc2, he⟩
  · have HE := Lib.hid he
    clear he
    go_enter Try.func61, Try.ntmps61
    go_wp2_with fail
    refine (refright_any _ _ _ _ _).mono ?_
    rintro z w1 ⟨rfl, k1⟩
    obtain ⟨q1, q2⟩ := bcell k1
    have hz : w.heap.size + 1 < w1.heap.size := by have := k1.size; simp at this; omega
    have c0 : w1.cell? ⟨w.heap.size + 1, 0, none⟩ = some (.int .i64 0) := by rw [q1 _ _ (by simp; try omega)]; simp [go_sem]
    have c1 : w1.cell? ⟨w.heap.size + 1, 1, none⟩ = some (.int .i64 0) := by rw [q1 _ _ (by simp; try omega)]; simp [go_sem]
    have c2 : w1.cell? ⟨w.heap.size + 1, 2, none⟩ = some (.int .i64 0) := by rw [q1 _ _ (by simp; try omega)]; simp [go_sem]
    have c3 : w1.cell? ⟨w.heap.size + 1, 3, none⟩ = some (.int .i64 0) := by rw [q1 _ _ (by simp; try omega)]; simp [go_sem]
    go_wp2
    refine bodyPost_ret (v := .tuple #[.agg #[.int .i64 0, .int .i64 0, .int .i64 0, .int .i64 0], .int .i64 1]) (by simp [results, Try.results61, go_sem, c0, c1, c2, c3]) rfl ⟨retR ?_, ?_⟩
    · rw [HE.out]; rfl
    · exact (((((((Below.refl _ _).alloc (Nat.le_refl _) _).alloc (by simp) _).trans (k1.mono (by simp; omega))).setCell (by simp) _).setCell (by simp) _).setCell (by simp) _).setCell (by simp) _
  · have HE := Lib.hid he
    clear he
    rcases hf with hf | hf
    all_goals
      go_enter Try.func61, Try.ntmps61
      go_wp2_with fail
      refine (refright_any _ _ _ _ _).mono ?_
      rintro z w1 ⟨rfl, k1⟩
      obtain ⟨q1, q2⟩ := bcell k1
      have hz : w.heap.size + 1 < w1.heap.size := by have := k1.size; simp at this; omega
      have c0 : w1.cell? ⟨w.heap.size + 1, 0, none⟩ = some (.int .i64 0) := by rw [q1 _ _ (by simp; try omega)]; simp [go_sem]
      have c1 : w1.cell? ⟨w.heap.size + 1, 1, none⟩ = some (.int .i64 0) := by rw [q1 _ _ (by simp; try omega)]; simp [go_sem]
      have c2 : w1.cell? ⟨w.heap.size + 1, 2, none⟩ = some (.int .i64 0) := by rw [q1 _ _ (by simp; try omega)]; simp [go_sem]
      have c3 : w1.cell? ⟨w.heap.size + 1, 3, none⟩ = some (.int .i64 0) := by rw [q1 _ _ (by simp; try omega)]; simp [go_sem]
      go_wp2
      refine bodyPost_ret (v := .tuple #[.agg #[.int .i64 0, .int .i64 0, .int .i64 0, .int .i64 0], .int .i64 1]) (by simp [results, Try.results61, go_sem, c0, c1, c2, c3]) rfl ⟨retR ?_, ?_⟩
      · rw [HE.out]; rfl
      · exact (((((((Below.refl _ _).alloc (Nat.le_refl _) _).alloc (by simp) _).trans (k1.mono (by simp; omega))).setCell (by simp) _).setCell (by simp) _).setCell (by simp) _).setCell (by simp) _
  · have HE := Lib.hid he
    clear he
    go_enter Try.func61, Try.ntmps61
    go_wp2_with fail
    refine (refright_any _ _ _ _ _).mono ?_
    rintro z w1 ⟨rfl, k1⟩
    obtain ⟨q1, q2⟩ := bcell k1
    have hz : w.heap.size + 1 < w1.heap.size := by have := k1.size; simp at this; omega
    have c0 : w1.cell? ⟨w.heap.size + 1, 0, none⟩ = some (.int .i64 0) := by rw [q1 _ _ (by simp; try omega)]; simp [go_sem]
    have c1 : w1.cell? ⟨w.heap.size + 1, 1, none⟩ = some (.int .i64 0) := by rw [q1 _ _ (by simp; try omega)]; simp [go_sem]
    have c2 : w1.cell? ⟨w.heap.size + 1, 2, none⟩ = some (.int .i64 0) := by rw [q1 _ _ (by simp; try omega)]; simp [go_sem]
    have c3 : w1.cell? ⟨w.heap.size + 1, 3, none⟩ = some (.int .i64 0) := by rw [q1 _ _ (by simp; try omega)]; simp [go_sem]
    go_wp2
    refine bodyPost_ret (v := .tuple #[.agg #[.int .i64 0, .int .i64 0, .int .i64 0, .int .i64 0], .int .i64 11]) (by simp [results, Try.results61, go_sem, c0, c1, c2, c3]) rfl ⟨retR ?_, ?_⟩
    · rw [HE.out]; rfl
    · exact (((((((Below.refl _ _).alloc (Nat.le_refl _) _).alloc (by simp) _).trans (k1.mono (by simp; omega))).setCell (by simp) _).setCell (by simp) _).setCell (by simp) _).setCell (by simp) _
  · have HE := Lib.hid he
    clear he
    go_enter Try.func61, Try.ntmps61
    go_wp2_with fail
    refine (refright_any _ _ _ _ _).mono ?_
    rintro z w1 ⟨rfl, k1⟩
    obtain ⟨q1, q2⟩ := bcell k1
    have hz : w.heap.size + 1 < w1.heap.size := by have := k1.size; simp at this; omega
    have c0 : w1.cell? ⟨w.heap.size + 1, 0, none⟩ = some (.int .i64 0) := by rw [q1 _ _ (by simp; try omega)]; simp [go_sem]
    have c1 : w1.cell? ⟨w.heap.size + 1, 1, none⟩ = some (.int .i64 0) := by rw [q1 _ _ (by simp; try omega)]; simp [go_sem]
    have c2 : w1.cell? ⟨w.heap.size + 1, 2, none⟩ = some (.int .i64 0) := by rw [q1 _ _ (by simp; try omega)]; simp [go_sem]
    have c3 : w1.cell? ⟨w.heap.size + 1, 3, none⟩ = some (.int .i64 0) := by rw [q1 _ _ (by simp; try omega)]; simp [go_sem]
    go_wp2
    refine bodyPost_ret (v := .tuple #[.agg #[.int .i64 0, .int .i64 0, .int .i64 0, .int .i64 0], .int .i64 10]) (by simp [results, Try.results61, go_sem, c0, c1, c2, c3]) rfl ⟨retR ?_, ?_⟩
    · rw [HE.out]; rfl
    · exact (((((((Below.refl _ _).alloc (Nat.le_refl _) _).alloc (by simp) _).trans (k1.mono (by simp; omega))).setCell (by simp) _).setCell (by simp) _).setCell (by simp) _).setCell (by simp) _
  · have HE := Lib.hid he
    clear he
    go_enter Try.func61, Try.ntmps61
    go_wp2_with fail
    refine (refright_any _ _ _ _ _).mono ?_
    rintro z w1 ⟨rfl, k1⟩
    obtain ⟨q1, q2⟩ := bcell k1
    have hz : w.heap.size + 1 < w1.heap.size := by have := k1.size; simp at this; omega
    have c0 : w1.cell? ⟨w.heap.size + 1, 0, none⟩ = some (.int .i64 0) := by rw [q1 _ _ (by simp; try omega)]; simp [go_sem]
    have c1 : w1.cell? ⟨w.heap.size + 1, 1, none⟩ = some (.int .i64 0) := by rw [q1 _ _ (by simp; try omega)]; simp [go_sem]
    have c2 : w1.cell? ⟨w.heap.size + 1, 2, none⟩ = some (.int .i64 0) := by rw [q1 _ _ (by simp; try omega)]; simp [go_sem]
    have c3 : w1.cell? ⟨w.heap.size + 1, 3, none⟩ = some (.int .i64 0) := by rw [q1 _ _ (by simp; try omega)]; simp [go_sem]
    have d0 : w1.cell? ⟨w.heap.size, 0, none⟩ = some (.int .i64 1) := by rw [q1 _ _ (by simp; try omega)]; simp [go_sem]
    have d1 : w1.cell? ⟨w.heap.size, 1, none⟩ = some (.int .i64 c) := by rw [q1 _ _ (by simp; try omega)]; simp [go_sem]
    have d2 : w1.cell? ⟨w.heap.size, 2, none⟩ = some (.int .i64 p) := by rw [q1 _ _ (by simp; try omega)]; simp [go_sem]
    have d3 : w1.cell? ⟨w.heap.size, 3, none⟩ = some (.int .i64 e) := by rw [q1 _ _ (by simp; try omega)]; simp [go_sem]
    go_wp2
    refine bodyPost_ret (v := .tuple #[.agg #[.int .i64 2, .int .i64 1, .int .i64 f, .int .i64 e], .int .i64 0]) (by simp [results, Try.results61, go_sem, c0, c1, c2, c3]) rfl ⟨retR ?_, ?_⟩
    · rw [HE.out]
    · exact (((((((Below.refl _ _).alloc (Nat.le_refl _) _).alloc (by simp) _).trans (k1.mono (by simp; omega))).setCell (by simp) _).setCell (by simp) _).setCell (by simp) _).setCell (by simp) _
  · have HE := Lib.hid he
    clear he
    have tp : (p != f) = true := by simpa using hp
    clear hp
    go_enter Try.func61, Try.ntmps61
    go_wp2_with fail
    refine (refright_any _ _ _ _ _).mono ?_
    rintro z w1 ⟨rfl, k1⟩
    obtain ⟨q1, q2⟩ := bcell k1
    have hz : w.heap.size + 1 < w1.heap.size := by have := k1.size; simp at this; omega
    have c0 : w1.cell? ⟨w.heap.size + 1, 0, none⟩ = some (.int .i64 0) := by rw [q1 _ _ (by simp; try omega)]; simp [go_sem]
    have c1 : w1.cell? ⟨w.heap.size + 1, 1, none⟩ = some (.int .i64 0) := by rw [q1 _ _ (by simp; try omega)]; simp [go_sem]
    have c2 : w1.cell? ⟨w.heap.size + 1, 2, none⟩ = some (.int .i64 0) := by rw [q1 _ _ (by simp; try omega)]; simp [go_sem]
    have c3 : w1.cell? ⟨w.heap.size + 1, 3, none⟩ = some (.int .i64 0) := by rw [q1 _ _ (by simp; try omega)]; simp [go_sem]
    go_wp2
    refine bodyPost_ret (v := .tuple #[.agg #[.int .i64 0, .int .i64 0, .int .i64 0, .int .i64 0], .int .i64 15]) (by simp [results, Try.results61, go_sem, c0, c1, c2, c3]) rfl ⟨retR ?_, ?_⟩
    · rw [HE.out]; rfl
    · exact (((((((Below.refl _ _).alloc (Nat.le_refl _) _).alloc (by simp) _).trans (k1.mono (by simp; omega))).setCell (by simp) _).setCell (by simp) _).setCell (by simp) _).setCell (by simp) _
  · have HE := Lib.hid he
    clear he
    go_enter Try.func61, Try.ntmps61
    go_wp2_with fail
    refine (refright_any _ _ _ _ _).mono ?_
    rintro z w1 ⟨rfl, k1⟩
    obtain ⟨q1, q2⟩ := bcell k1
    have hz : w.heap.size + 1 < w1.heap.size := by have := k1.size; simp at this; omega
    have c0 : w1.cell? ⟨w.heap.size + 1, 0, none⟩ = some (.int .i64 0) := by rw [q1 _ _ (by simp; try omega)]; simp [go_sem]
    have c1 : w1.cell? ⟨w.heap.size + 1, 1, none⟩ = some (.int .i64 0) := by rw [q1 _ _ (by simp; try omega)]; simp [go_sem]
    have c2 : w1.cell? ⟨w.heap.size + 1, 2, none⟩ = some (.int .i64 0) := by rw [q1 _ _ (by simp; try omega)]; simp [go_sem]
    have c3 : w1.cell? ⟨w.heap.size + 1, 3, none⟩ = some (.int .i64 0) := by rw [q1 _ _ (by simp; try omega)]; simp [go_sem]
    go_wp2
    refine bodyPost_ret (v := .tuple #[.agg #[.int .i64 0, .int .i64 0, .int .i64 0, .int .i64 0], .int .i64 16]) (by simp [results, Try.results61, go_sem, c0, c1, c2, c3]) rfl ⟨retR ?_, ?_⟩
    · rw [HE.out]; rfl
    · exact (((((((Below.refl _ _).alloc (Nat.le_refl _) _).alloc (by simp) _).trans (k1.mono (by simp; omega))).setCell (by simp) _).setCell (by simp) _).setCell (by simp) _).setCell (by simp) _
  · have HE := Lib.hid he
    clear he
    have tc : (c == 7) = false := by simp; omega
    go_enter Try.func61, Try.ntmps61
    go_wp2_with fail
    refine (refright_any _ _ _ _ _).mono ?_
    rintro z w1 ⟨rfl, k1⟩
    obtain ⟨q1, q2⟩ := bcell k1
    have hz : w.heap.size + 1 < w1.heap.size := by have := k1.size; simp at this; omega
    have c0 : w1.cell? ⟨w.heap.size + 1, 0, none⟩ = some (.int .i64 0) := by rw [q1 _ _ (by simp; try omega)]; simp [go_sem]
    have c1 : w1.cell? ⟨w.heap.size + 1, 1, none⟩ = some (.int .i64 0) := by rw [q1 _ _ (by simp; try omega)]; simp [go_sem]
    have c2 : w1.cell? ⟨w.heap.size + 1, 2, none⟩ = some (.int .i64 0) := by rw [q1 _ _ (by simp; try omega)]; simp [go_sem]
    have c3 : w1.cell? ⟨w.heap.size + 1, 3, none⟩ = some (.int .i64 0) := by rw [q1 _ _ (by simp; try omega)]; simp [go_sem]
    have d0 : w1.cell? ⟨w.heap.size, 0, none⟩ = some (.int .i64 2) := by rw [q1 _ _ (by simp; try omega)]; simp [go_sem]
    have d1 : w1.cell? ⟨w.heap.size, 1, none⟩ = some (.int .i64 c) := by rw [q1 _ _ (by simp; try omega)]; simp [go_sem]
    have d2 : w1.cell? ⟨w.heap.size, 2, none⟩ = some (.int .i64 p) := by rw [q1 _ _ (by simp; try omega)]; simp [go_sem]
    have d3 : w1.cell? ⟨w.heap.size, 3, none⟩ = some (.int .i64 e) := by rw [q1 _ _ (by simp; try omega)]; simp [go_sem]
    go_wp2
    refine bodyPost_ret (v := .tuple #[.agg #[.int .i64 2, .int .i64 (c + 1), .int .i64 p, .int .i64 e], .int .i64 0]) (by simp [results, Try.results61, go_sem, c0, c1, c2, c3]) rfl ⟨retR ?_, ?_⟩
    · rw [HE.out]
    · exact ((((((((Below.refl _ _).alloc (Nat.le_refl _) _).alloc (by simp) _).trans (k1.mono (by simp; omega))).setCell (by simp) _).setCell (by simp) _).setCell (by simp) _).setCell (by simp) _).setCell (by simp) _
end Go.Proofs.Ytkkmhapfhnnooaa.Ctl
