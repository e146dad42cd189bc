/-
  Contracts of thing.At, Slot, behind and Mark, for every argument, over the arena's invariant.
-/
import Derived.Test.YtgihoicppeegaaaThing
namespace Go.Proofs.Ytgihoicppeegaaa.Thing
open Go.ChangeShapes Go.WideShapes Go.ChangeAt Go.RowKit
open Mem Arena Held
open Heads (U Y P unV firstV secondV rightB packV retY)
set_option linter.unusedVariables false

set_option maxHeartbeats 1000000 in
theorem at_any (w : World) (B g n : Nat) (f : Nat → Int) (a : Int) (h : Ar w B g n f) (a1 : -9223372036854775808 ≤ a) (a2 : a ≤ 9223372036854775807) :
    Calls Try.prog 9 #[.pointer (some ⟨B, 0, none⟩), .int .i64 a] w fun z w' => z = .returned (.tuple #[.agg #[.int .i64 (atV n f a).s, .int .i64 (atV n f a).n, .int .i64 (atV n f a).t, .bool (atV n f a).d, .int .i64 (atV n f a).c, .int .i64 (atV n f a).e], .int .i64 (atV n f a).err]) ∧ Below w.heap.size w w' := by
  have S0 := (St.start w).new [.int .i64 0, .int .i64 0, .int .i64 0, .bool false, .int .i64 0, .int .i64 0] 30
  have h0 : Ar (w.alloc (.cells #[.int .i64 0, .int .i64 0, .int .i64 0, .bool false, .int .i64 0, .int .i64 0] 30)) B g n f := h.below ((Below.refl _ _).alloc (Nat.le_refl _) _) h.head.lt h.body.lt
  by_cases k1 : okW n a = true
  · have E1 := Lib.hid (errW_yes k1)
    obtain ⟨i, hi, rfl, ei⟩ := okW_idx k1
    have V1 : Hid (wordV n f (8 * (i : Int)) = f i) := Lib.hid (by unfold wordV; rw [if_pos k1, ei])
    have hl := h.len
    by_cases k2 : i + 1 < n
    · have A : Hid (atV n f (8 * (i : Int)) = unV (f i) (f (i + 1))) := Lib.hid (atV_mk f k2)
      have hw2 := word_ok _ B g n (i + 1) f (8 * (i : Int) + 8) h0 k2 (by omega)
      have ⟨f1, f2⟩ := h.fit i
      have ⟨f3, f4⟩ := h.fit (i + 1)
      clear k1
      rw [A.out]
      go_enter Try.func9, Try.ntmps9
      go_wp2_with fail
      refine (word_any _ B g n f _ h0 a1 a2).mono ?_
      rintro z w1 ⟨rfl, rfl⟩
      rw [E1.out, V1.out]
      go_wp2_with fail
      refine hw2.mono ?_
      rintro z w1 ⟨rfl, rfl⟩
      go_wp2_with fail
      refine (lift S0 (Heads.unpack_any _ _ _ f1 f2 f3 f4)).mono ?_
      rintro z w1 ⟨rfl, S1⟩
      obtain ⟨ql, q0, q1, q2, q3, q4, q5⟩ := S1.get6 0 rfl
      have qf := (S1.get 0 rfl).fz
      go_wp2
      refine bodyPost_ret (v := .tuple #[.agg #[.int .i64 (unV (f i) (f (i + 1))).s, .int .i64 (unV (f i) (f (i + 1))).n, .int .i64 (unV (f i) (f (i + 1))).t, .bool (unV (f i) (f (i + 1))).d, .int .i64 (unV (f i) (f (i + 1))).c, .int .i64 (unV (f i) (f (i + 1))).e], .int .i64 (unV (f i) (f (i + 1))).err]) (by simp [results, Try.results9, go_sem, q0, q1, q2, q3, q4, q5]) rfl ⟨rfl, ?_⟩
      exact (((((S1.below.setCell (by simp) _).setCell (by simp) _).setCell (by simp) _).setCell (by simp) _).setCell (by simp) _).setCell (by simp) _
    · have A : Hid (atV n f (8 * (i : Int)) = badU) := Lib.hid (atV_no (by
        have : okW n (8 * (i : Int) + 8) = false := okW_no (.inr (.inl (by omega)))
        unfold pairW
        rw [this, Bool.and_false]))
      have E2 : Hid (errW n (8 * (i : Int) + 8) = 1) := Lib.hid (errW_no (okW_no (.inr (.inl (by omega)))))
      clear k1
      rw [A.out]
      go_enter Try.func9, Try.ntmps9
      go_wp2_with fail
      refine (word_any _ B g n f _ h0 a1 a2).mono ?_
      rintro z w1 ⟨rfl, rfl⟩
      rw [E1.out, V1.out]
      go_wp2_with fail
      refine (word_any _ B g n f _ h0 (by omega) (by omega)).mono ?_
      rintro z w1 ⟨rfl, rfl⟩
      rw [E2.out]
      go_wp2
      refine bodyPost_ret (v := .tuple #[.agg #[.int .i64 0, .int .i64 0, .int .i64 0, .bool false, .int .i64 0, .int .i64 0], .int .i64 18]) (by simp [results, Try.results9, go_sem]) rfl ⟨rfl, ?_⟩
      exact S0.below
  · have k1' : okW n a = false := by simpa using k1
    have E1 := Lib.hid (errW_no k1')
    have A : Hid (atV n f a = badU) := Lib.hid (atV_no (by unfold pairW; rw [k1', Bool.false_and]))
    clear k1 k1'
    rw [A.out]
    go_enter Try.func9, Try.ntmps9
    go_wp2_with fail
    refine (word_any _ B g n f _ h0 a1 a2).mono ?_
    rintro z w1 ⟨rfl, rfl⟩
    rw [E1.out]
    go_wp2
    refine bodyPost_ret (v := .tuple #[.agg #[.int .i64 0, .int .i64 0, .int .i64 0, .bool false, .int .i64 0, .int .i64 0], .int .i64 18]) (by simp [results, Try.results9, go_sem]) rfl ⟨rfl, ?_⟩
    exact S0.below
end Go.Proofs.Ytgihoicppeegaaa.Thing
