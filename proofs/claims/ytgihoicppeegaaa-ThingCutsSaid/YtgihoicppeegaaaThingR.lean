/-
  Contracts of the document's own answers for layer 8: At, Slot and Mark, over the invariant Rf: the very values that thing's contracts name.
-/
import Derived.Test.YtgihoicppeegaaaWalkB
namespace Go.Proofs.Ytgihoicppeegaaa.Thing
open Go.ChangeShapes Go.WideShapes Go.ChangeAt Go.RowKit
open Mem Arena Held Ref
open Heads (U Y P unV firstV secondV rightB packV retY)
set_option linter.unusedVariables false

set_option maxHeartbeats 1000000 in
theorem refat_any (w : World) (B g n : Nat) (f : Nat → Int) (a : Int) (h : Rf w B g n f) (a1 : -9223372036854775808 ≤ a) (a2 : a ≤ 9223372036854775807) :
    Calls Try.prog 10 #[.pointer (some ⟨B, 0, none⟩), .int .i64 a] w fun z w' => z = .returned (.tuple #[.agg #[.int .i64 (atV n f a).s, .int .i64 (atV n f a).n, .int .i64 (atV n f a).t, .bool (atV n f a).d, .int .i64 (atV n f a).c, .int .i64 (atV n f a).e], .int .i64 (atV n f a).err]) ∧ Below w.heap.size w w' := by
  have S0 := (St.start w).new [.int .i64 0, .int .i64 0, .int .i64 0, .bool false, .int .i64 0, .int .i64 0] 30
  have h0 : Rf (w.alloc (.cells #[.int .i64 0, .int .i64 0, .int .i64 0, .bool false, .int .i64 0, .int .i64 0] 30)) B g n f := h.below ((Below.refl _ _).alloc (Nat.le_refl _) _) h.head.lt h.body.lt
  have hl := h.len
  by_cases k1 : okW n a = true
  · have E1 := Lib.hid k1
    obtain ⟨i, hi, rfl, ei⟩ := okW_idx k1
    have V1 : Hid (wordV n f (8 * (i : Int)) = f i) := Lib.hid (by unfold wordV; rw [if_pos k1, ei])
    have EW := Lib.hid (errW_yes k1)
    have hm : min (8 * (i : Int)) 1000000 = 8 * (i : Int) := by omega
    by_cases k2 : i + 1 < n
    · have A : Hid (atV n f (8 * (i : Int)) = unV (f i) (f (i + 1))) := Lib.hid (atV_mk f k2)
      have k3 : okW n (8 * (i : Int) + 8) = true := okW_yes (by omega) (by omega) (by omega)
      have E2 := Lib.hid k3
      have V2 : Hid (wordV n f (8 * (i : Int) + 8) = f (i + 1)) := Lib.hid (by unfold wordV; rw [if_pos k3, show (8 * (i : Int) + 8).toNat / 8 = i + 1 by omega])
      have EW2 := Lib.hid (errW_yes k3)
      have ⟨f1, f2⟩ := h.fit i
      have ⟨f3, f4⟩ := h.fit (i + 1)
      clear k1 k3
      rw [A.out]
      go_enter Try.func10, Try.ntmps10
      go_wp2_with fail
      refine (is_any _ B g n f _ h0 a1 a2).mono ?_
      rintro z w1 ⟨rfl, rfl⟩
      rw [E1.out]
      go_wp2_with fail
      refine (is_any _ B g n f _ h0 (by omega) (by omega)).mono ?_
      rintro z w1 ⟨rfl, rfl⟩
      rw [E2.out]
      go_wp2_with fail
      refine (Ref.word_any _ B g n f _ h0 a1 a2).mono ?_
      rintro z w1 ⟨rfl, rfl⟩
      rw [V1.out]
      go_wp2_with fail
      refine (Ref.word_any _ B g n f _ h0 (by omega) (by omega)).mono ?_
      rintro z w1 ⟨rfl, rfl⟩
      rw [V2.out]
      go_wp2_with fail
      refine (lift S0 (Heads.refunpack_any _ _ _ f1 f2 f3 f4)).mono ?_
      rintro z w1 ⟨rfl, S1⟩
      obtain ⟨ql, q0, q1, q2, q3, q4, q5⟩ := S1.get6 0 rfl
      have qf := (S1.get 0 rfl).fz
      go_wp2
      refine bodyPost_ret (v := .tuple #[.agg #[.int .i64 (unV (f i) (f (i + 1))).s, .int .i64 (unV (f i) (f (i + 1))).n, .int .i64 (unV (f i) (f (i + 1))).t, .bool (unV (f i) (f (i + 1))).d, .int .i64 (unV (f i) (f (i + 1))).c, .int .i64 (unV (f i) (f (i + 1))).e], .int .i64 (unV (f i) (f (i + 1))).err]) (by simp [results, Try.results10, go_sem, q0, q1, q2, q3, q4, q5]) rfl ⟨rfl, ?_⟩
      exact (((((S1.below.setCell (by simp) _).setCell (by simp) _).setCell (by simp) _).setCell (by simp) _).setCell (by simp) _).setCell (by simp) _
    · have k3 : okW n (8 * (i : Int) + 8) = false := okW_no (.inr (.inl (by omega)))
      have A : Hid (atV n f (8 * (i : Int)) = badU) := Lib.hid (atV_no (by unfold pairW; rw [k3, Bool.and_false]))
      have E2 := Lib.hid k3
      clear k1 k3
      rw [A.out]
      go_enter Try.func10, Try.ntmps10
      go_wp2_with fail
      refine (is_any _ B g n f _ h0 a1 a2).mono ?_
      rintro z w1 ⟨rfl, rfl⟩
      rw [E1.out]
      go_wp2_with fail
      refine (is_any _ B g n f _ h0 (by omega) (by omega)).mono ?_
      rintro z w1 ⟨rfl, rfl⟩
      rw [E2.out]
      go_wp2
      refine bodyPost_ret (v := .tuple #[.agg #[.int .i64 0, .int .i64 0, .int .i64 0, .bool false, .int .i64 0, .int .i64 0], .int .i64 18]) (by simp [results, Try.results10, go_sem]) rfl ⟨rfl, ?_⟩
      exact S0.below
  · have k1' : okW n a = false := by simpa using k1
    have E1 := Lib.hid k1'
    have A : Hid (atV n f a = badU) := Lib.hid (atV_no (by unfold pairW; rw [k1', Bool.false_and]))
    clear k1 k1'
    rw [A.out]
    rcases (show (a ≤ 1000000 ∧ min a 1000000 = a) ∨ (1000000 < a ∧ min a 1000000 = 1000000) by omega) with ⟨m1, m2⟩ | ⟨m1, m2⟩
    all_goals
      go_enter Try.func10, Try.ntmps10
      go_wp2_with fail
      refine (is_any _ B g n f _ h0 a1 a2).mono ?_
      rintro z w1 ⟨rfl, rfl⟩
      rw [E1.out]
      go_wp2_with fail
      refine (is_any _ B g n f _ h0 (by omega) (by omega)).mono ?_
      rintro z w1 ⟨rfl, rfl⟩
      go_wp2
      refine bodyPost_ret (v := .tuple #[.agg #[.int .i64 0, .int .i64 0, .int .i64 0, .bool false, .int .i64 0, .int .i64 0], .int .i64 18]) (by simp [results, Try.results10, go_sem]) rfl ⟨rfl, ?_⟩
      exact S0.below

set_option maxHeartbeats 1000000 in
theorem refslot_any (w : World) (B g n : Nat) (f : Nat → Int) (a x : Int) (h : Rf w B g n f) (a1 : -9223372036854775808 ≤ a) (a2 : a ≤ 9223372036854775807) (x1 : -9223372036854775808 ≤ x) (x2 : x ≤ 9223372036854775807) :
    Calls Try.prog 12 #[.pointer (some ⟨B, 0, none⟩), .int .i64 a, .int .i64 x] w fun z w' => z = .returned (.tuple #[.int .i64 (slotV n f a x).n, .int .i64 (slotV n f a x).err]) ∧ Below w.heap.size w w' := by
  have hl := h.len
  have hA := refat_any w B g n f a h a1 a2
  rcases at_cases n h.fit a with e0 | ⟨i, s, k, t, d, c, e, hi, rfl, h1, h2, _⟩
  · have HB : Hid (slotV n f a x = ⟨0, 18⟩) := Lib.hid (by unfold slotV; rw [e0]; rfl)
    rw [e0] at hA
    clear e0
    go_enter Try.func12, Try.ntmps12
    go_wp2_with fail
    refine (lift (St.start w) hA).mono ?_
    rintro z w1 ⟨rfl, S1⟩
    rw [show badU = ⟨0, 0, 0, false, 0, 0, 18⟩ from rfl]
    go_wp2
    go_ret2
    exact ⟨retY HB.out, (S1.alloc _).below⟩
  · obtain ⟨b1, b2, b3, b4, b5, b6, b7, b8, b9, b10⟩ := Heads.rbounds h2
    rw [h1] at hA
    by_cases hx : 0 ≤ x ∧ x < k
    · have HB : Hid (slotV n f (8 * (i : Int)) x = ⟨8 * (i : Int) + 16 + 8 * x, 0⟩) := Lib.hid (by unfold slotV; rw [h1]; dsimp only; rw [if_pos rfl, if_pos hx])
      obtain ⟨y1, y2⟩ := hx
      clear h1 h2
      go_enter Try.func12, Try.ntmps12
      go_wp2_with fail
      refine (lift (St.start w) hA).mono ?_
      rintro z w1 ⟨rfl, S1⟩
      go_wp2
      go_ret2
      exact ⟨retY HB.out, (S1.alloc _).below⟩
    · have HB : Hid (slotV n f (8 * (i : Int)) x = ⟨0, 21⟩) := Lib.hid (by unfold slotV; rw [h1]; dsimp only; rw [if_pos rfl, if_neg hx])
      rcases (show x < 0 ∨ (0 ≤ x ∧ k ≤ x) by omega) with y1 | ⟨y1, y2⟩
      all_goals
        clear h1 h2 hx
        go_enter Try.func12, Try.ntmps12
        go_wp2_with fail
        refine (lift (St.start w) hA).mono ?_
        rintro z w1 ⟨rfl, S1⟩
        go_wp2
        go_ret2
        exact ⟨retY HB.out, (S1.alloc _).below⟩

set_option maxHeartbeats 1000000 in
theorem refmark_any (w : World) (B g n : Nat) (f : Nat → Int) (a : Int) (h : Rf w B g n f) (a1 : -9223372036854775808 ≤ a) (a2 : a ≤ 9223372036854775807) :
    Calls Try.prog 17 #[.pointer (some ⟨B, 0, none⟩), .int .i64 a] w fun z w' => z = .returned (.int .i64 (atV n f a).err) ∧ Rf w' B g n (markF n f a) ∧ w.grownBy w' (some g) := by
  have hl := h.len
  have hA := refat_any w B g n f a h a1 a2
  rcases at_cases n h.fit a with e0 | ⟨i, s, k, t, d, c, e, hi, rfl, h1, h2, _⟩
  · have HM : Hid (markF n f a = f) := Lib.hid (by unfold markF; rw [e0]; rfl)
    rw [e0] at hA ⊢
    clear e0
    go_enter Try.func17, Try.ntmps17
    go_wp2_with fail
    refine (lift (St.start w) hA).mono ?_
    rintro z w1 ⟨rfl, S1⟩
    rw [show badU = ⟨0, 0, 0, false, 0, 0, 18⟩ from rfl]
    go_wp2
    go_ret
    exact ⟨rfl, by rw [HM.out]; exact h.below (S1.alloc _).below h.head.lt h.body.lt, only_below (S1.alloc _).below⟩
  · have hi' : i < n := by omega
    have HM : Hid (markF n f (8 * (i : Int)) = setF f i (firstV s k t true)) := Lib.hid (by unfold markF; rw [h1]; dsimp only; rw [if_pos rfl, show (8 * (i : Int)).toNat / 8 = i by omega])
    have HP : Hid (packV s k t true c e = ⟨firstV s k t true, secondV c e, 0⟩) := Lib.hid (Heads.pack_yes true h2)
    have HE := Lib.hid (errW_yes (okW_mk hi'))
    have HF : Hid (putF n f (8 * (i : Int)) (firstV s k t true) = setF f i (firstV s k t true)) := Lib.hid (by unfold putF; rw [if_pos (okW_mk hi'), show (8 * (i : Int)).toNat / 8 = i by omega])
    obtain ⟨_, _, _, _, _, _, _, q1, q2, _⟩ := Heads.words_parts true h2
    rw [h1] at hA ⊢
    clear h1 h2
    go_enter Try.func17, Try.ntmps17
    go_wp2_with fail
    refine (lift (St.start w) hA).mono ?_
    rintro z w1 ⟨rfl, S1⟩
    have S2 := S1.new [.int .i64 s, .int .i64 k, .int .i64 t, .bool true, .int .i64 c, .int .i64 e] 30
    go_wp2_with fail
    refine (lift S2 (Heads.refpack_any _ _ _ _ _ _ _)).mono ?_
    rintro z w2 ⟨rfl, S3⟩
    rw [HP.out]
    go_wp2_with fail
    refine (Ref.put_any _ B g n f _ _ (h.below S3.below h.head.lt h.body.lt) a1 a2 q1 q2).mono ?_
    rintro z w3 ⟨rfl, h3, g3⟩
    rw [HE.out]
    go_wp2
    go_ret
    exact ⟨rfl, by rw [HM.out, ← HF.out]; exact h3, only_of_below S3.below g3⟩
end Go.Proofs.Ytgihoicppeegaaa.Thing
