/-
  Contracts of thing.behind, Slot and Mark, for every argument, over the arena's invariant.
-/
import Derived.Test.YtgihoicppeegaaaThingB
namespace Go.Proofs.Ytgihoicppeegaaa.Thing
open Go.ChangeShapes Go.WideShapes Go.ChangeAt Go.RowKit
open Mem Arena Held
open Heads (U Y P unV firstV secondV rightB packV retY)
set_option linter.unusedVariables false

/-- Where the object at a place ends. -/
def behV (n : Nat) (f : Nat → Int) (a : Int) : Y := if (atV n f a).err = 0 then ⟨a + 8 * (atV n f a).s, 0⟩ else ⟨0, 18⟩
theorem at_err (n : Nat) {f : Nat → Int} (hf : Fit f) (a : Int) : (atV n f a).err = 0 ∨ (atV n f a).err = 18 := by
  rcases at_cases n hf a with e | ⟨i, s, k, t, d, c, e, hi, rfl, h1, h2, _⟩
  · exact .inr (by rw [e]; rfl)
  · exact .inl (by rw [h1])

set_option maxHeartbeats 1000000 in
theorem behind_any (w : World) (B g n : Nat) (f : Nat → Int) (a : Int) (h : Ar w B g n f) (a1 : -9223372036854775808 ≤ a) (a2 : a ≤ 9223372036854775807) :
    Calls Try.prog 45 #[.pointer (some ⟨B, 0, none⟩), .int .i64 a] w fun z w' => z = .returned (.tuple #[.int .i64 (behV n f a).n, .int .i64 (behV n f a).err]) ∧ Below w.heap.size w w' := by
  have hl := h.len
  have hA := at_any w B g n f a h a1 a2
  rcases at_cases n h.fit a with e0 | ⟨i, s, k, t, d, c, e, hi, rfl, h1, h2, _⟩
  · have HB : Hid (behV n f a = ⟨0, 18⟩) := Lib.hid (by unfold behV; rw [e0]; rfl)
    rw [e0] at hA
    clear e0
    go_enter Try.func45, Try.ntmps45
    go_wp2_with fail
    refine (lift (St.start w) hA).mono ?_
    rintro z w1 ⟨rfl, S1⟩
    rw [show badU = ⟨0, 0, 0, false, 0, 0, 18⟩ from rfl]
    go_wp2
    go_ret2
    exact ⟨retY HB.out, (S1.alloc _).below⟩
  · have HB : Hid (behV n f (8 * (i : Int)) = ⟨8 * (i : Int) + 8 * s, 0⟩) := Lib.hid (by unfold behV; rw [h1]; rfl)
    obtain ⟨b1, b2, b3, b4, b5, b6, b7, b8, b9, b10⟩ := Heads.rbounds h2
    rw [h1] at hA
    clear h1 h2
    go_enter Try.func45, Try.ntmps45
    go_wp2_with fail
    refine (lift (St.start w) hA).mono ?_
    rintro z w1 ⟨rfl, S1⟩
    go_wp2
    go_ret2
    exact ⟨retY (HB.out.trans (by congr 1; omega)), (S1.alloc _).below⟩

set_option maxHeartbeats 1000000 in
theorem slot_any (w : World) (B g n : Nat) (f : Nat → Int) (a x : Int) (h : Ar w B g n f) (a1 : -9223372036854775808 ≤ a) (a2 : a ≤ 9223372036854775807) (x1 : -9223372036854775808 ≤ x) (x2 : x ≤ 9223372036854775807) :
    Calls Try.prog 11 #[.pointer (some ⟨B, 0, none⟩), .int .i64 a, .int .i64 x] w fun z w' => z = .returned (.tuple #[.int .i64 (slotV n f a x).n, .int .i64 (slotV n f a x).err]) ∧ Below w.heap.size w w' := by
  have hl := h.len
  have hA := at_any w B g n f a h a1 a2
  rcases at_cases n h.fit a with e0 | ⟨i, s, k, t, d, c, e, hi, rfl, h1, h2, _⟩
  · have HB : Hid (slotV n f a x = ⟨0, 18⟩) := Lib.hid (by unfold slotV; rw [e0]; rfl)
    rw [e0] at hA
    clear e0
    go_enter Try.func11, Try.ntmps11
    go_wp2_with fail
    refine (lift (St.start w) hA).mono ?_
    rintro z w1 ⟨rfl, S1⟩
    rw [show badU = ⟨0, 0, 0, false, 0, 0, 18⟩ from rfl]
    go_wp2
    go_ret2
    exact ⟨retY HB.out, (S1.alloc _).below⟩
  · obtain ⟨b1, b2, b3, b4, b5, b6, b7, b8, b9, b10⟩ := Heads.rbounds h2
    rw [h1] at hA
    by_cases hx : 0 ≤ x ∧ x < k
    · have HB : Hid (slotV n f (8 * (i : Int)) x = ⟨8 * (i : Int) + 16 + 8 * x, 0⟩) := Lib.hid (by unfold slotV; rw [h1]; dsimp only; rw [if_pos rfl, if_pos hx])
      have W : Hid (Arena.withinB x 0 (k - 1) = true) := Lib.hid (decide_eq_true (by omega))
      obtain ⟨y1, y2⟩ := hx
      clear h1 h2
      go_enter Try.func11, Try.ntmps11
      go_wp2_with fail
      refine (lift (St.start w) hA).mono ?_
      rintro z w1 ⟨rfl, S1⟩
      go_wp2_with fail
      refine (Arena.within_any _ _ _ _).mono ?_
      rintro z w2 ⟨rfl, rfl⟩
      rw [W.out]
      go_wp2
      go_ret2
      exact ⟨retY (HB.out.trans (by congr 1; omega)), (S1.alloc _).below⟩
    · have HB : Hid (slotV n f (8 * (i : Int)) x = ⟨0, 21⟩) := Lib.hid (by unfold slotV; rw [h1]; dsimp only; rw [if_pos rfl, if_neg hx])
      have W : Hid (Arena.withinB x 0 (k - 1) = false) := Lib.hid (decide_eq_false (by omega))
      clear h1 h2 hx
      go_enter Try.func11, Try.ntmps11
      go_wp2_with fail
      refine (lift (St.start w) hA).mono ?_
      rintro z w1 ⟨rfl, S1⟩
      go_wp2_with fail
      refine (Arena.within_any _ _ _ _).mono ?_
      rintro z w2 ⟨rfl, rfl⟩
      rw [W.out]
      go_wp2
      go_ret2
      exact ⟨retY HB.out, (S1.alloc _).below⟩

/-- Behind a call that only makes memory, and a change of block g alone: nothing below that is not g's has changed. -/
theorem only_of_below {w w1 w2 : World} {g : Nat} (h : Below w.heap.size w w1) (k : w1.grownBy w2 (some g)) : w.grownBy w2 (some g) :=
  ⟨k.os.trans h.os, k.tape.trans h.tape, k.output.trans h.output, Nat.le_trans h.size k.size, fun i hi hne => (k.block i (Nat.lt_of_lt_of_le hi h.size) hne).trans (h.block i hi)⟩
theorem only_below {w w1 : World} {g : Option Nat} (h : Below w.heap.size w w1) : w.grownBy w1 g :=
  ⟨h.os, h.tape, h.output, h.size, fun i hi _ => h.block i hi⟩

set_option maxHeartbeats 1000000 in
theorem mark_any (w : World) (B g n : Nat) (f : Nat → Int) (a : Int) (h : Ar w B g n f) (a1 : -9223372036854775808 ≤ a) (a2 : a ≤ 9223372036854775807) :
    Calls Try.prog 16 #[.pointer (some ⟨B, 0, none⟩), .int .i64 a] w fun z w' => z = .returned (.int .i64 (atV n f a).err) ∧ Ar w' B g n (markF n f a) ∧ w.grownBy w' (some g) := by
  have hl := h.len
  have hA := at_any w B g n f a h a1 a2
  rcases at_cases n h.fit a with e0 | ⟨i, s, k, t, d, c, e, hi, rfl, h1, h2, _⟩
  · have HM : Hid (markF n f a = f) := Lib.hid (by unfold markF; rw [e0]; rfl)
    rw [e0] at hA ⊢
    clear e0
    go_enter Try.func16, Try.ntmps16
    go_wp2_with fail
    refine (lift (St.start w) hA).mono ?_
    rintro z w1 ⟨rfl, S1⟩
    rw [show badU = ⟨0, 0, 0, false, 0, 0, 18⟩ from rfl]
    go_wp2
    go_ret
    exact ⟨rfl, by rw [HM.out]; exact h.below (S1.alloc _).below h.head.lt h.body.lt, only_below (S1.alloc _).below⟩
  · have HM : Hid (markF n f (8 * (i : Int)) = setF f i (firstV s k t true)) := Lib.hid (by unfold markF; rw [h1]; dsimp only; rw [if_pos rfl, show (8 * (i : Int)).toNat / 8 = i by omega])
    have HP : Hid (packV s k t true c e = ⟨firstV s k t true, secondV c e, 0⟩) := Lib.hid (Heads.pack_yes true h2)
    obtain ⟨_, _, _, _, _, _, _, q1, q2, _⟩ := Heads.words_parts true h2
    have hi' : i < n := by omega
    rw [h1] at hA ⊢
    clear h1 h2
    go_enter Try.func16, Try.ntmps16
    go_wp2_with fail
    refine (lift (St.start w) hA).mono ?_
    rintro z w1 ⟨rfl, S1⟩
    have S2 := S1.new [.int .i64 s, .int .i64 k, .int .i64 t, .bool true, .int .i64 c, .int .i64 e] 30
    go_wp2_with fail
    refine (lift S2 (Heads.pack_any _ _ _ _ _ _ _)).mono ?_
    rintro z w2 ⟨rfl, S3⟩
    rw [HP.out]
    go_wp2_with fail
    refine (put_ok _ B g n i f _ _ (h.below S3.below h.head.lt h.body.lt) hi' rfl q1 q2).mono ?_
    rintro z w3 ⟨rfl, h3, g3⟩
    go_wp2
    go_ret
    exact ⟨rfl, by rw [HM.out]; exact h3, only_of_below S3.below g3⟩
end Go.Proofs.Ytgihoicppeegaaa.Thing
