/-
  Contracts of the document's own answers for layer 2 (penfoldref02) over the invariant Rf: the words lie in one row; each call returns the very values that arena's contracts name, and leaves the same state.
-/
import Derived.Test.YtgihoicppeegaaaShown
import Derived.Deep.QuietTactic
import Derived.BigQuiet
namespace Go.Proofs.Ytgihoicppeegaaa.Ref
open Go.ChangeShapes Go.WideShapes Go.ChangeAt Go.RowKit Mem Arena
set_option linter.unusedVariables false

structure Rf (w : World) (B g n : Nat) (f : Nat → Int) : Prop where
  head : w.rowIs B 49 1 (fun _ => .slice (some ⟨g, 0, none⟩) n n)
  body : w.rowIs g 45 n (fun i => .int .u64 (f i))
  fit : Fit f
  len : n ≤ 8192

theorem Rf.ne {w : World} {B g n : Nat} {f : Nat → Int} (h : Rf w B g n f) : B ≠ g := rows_ne h.head h.body (by decide)
theorem Rf.cell {w : World} {B g n : Nat} {f : Nat → Int} (h : Rf w B g n f) : w.cell? ⟨B, 0, none⟩ = some (.slice (some ⟨g, 0, none⟩) n n) := h.head.cell (i := 0) (by omega)
theorem Rf.kept {w w' : World} {B g n : Nat} {f : Nat → Int} {row : Option Nat} (h : Rf w B g n f) (k : w.grownBy w' row) (h1 : row ≠ some B) (h2 : row ≠ some g) : Rf w' B g n f :=
  ⟨h.head.of_block (k.block B h.head.lt (fun e => h1 e.symm)), h.body.of_block (k.block g h.body.lt (fun e => h2 e.symm)), h.fit, h.len⟩
theorem Rf.below {w w' : World} {B g n N : Nat} {f : Nat → Int} (h : Rf w B g n f) (k : Below N w w') (h1 : B < N) (h2 : g < N) : Rf w' B g n f :=
  ⟨h.head.of_block (k.block B h1), h.body.of_block (k.block g h2), h.fit, h.len⟩
theorem Rf.set {w : World} {B g n : Nat} {f : Nat → Int} (h : Rf w B g n f) (i : Nat) (x : Int) (x1 : 0 ≤ x) (x2 : x ≤ 18446744073709551615) : Rf (w.setCell ⟨g, i, none⟩ (.int .u64 x)) B g n (setF f i x) := by
  refine ⟨h.head.setOther h.ne _, (h.body.set i _).congr fun j _ => ?_, h.fit.set _ _ x1 x2, h.len⟩
  unfold setF
  split <;> rfl
theorem Rf.drew {w : World} {B g n : Nat} {f : Nat → Int} (h : Rf w B g n f) : Rf w.drew B g n f := ⟨h.head.drew, h.body.drew, h.fit, h.len⟩

theorem info_u64 : (Try.prog.info? 45).map (fun i => (i.zero, i.size, i.bytes)) = some (some (.int .u64 0), 1, 8) := by kernel_rfl
theorem under_words : Try.prog.underlying 22 = some (.slice 45) := by kernel_rfl
theorem make_words (k : Nat) (hk : k ≤ 8192) (W : World) : (Instr.makeSlice 22 (.int .i64 (k : Int)) (.int .i64 (k : Int))).run Try.prog W =
    .ok (.slice (some ⟨W.heap.size, 0, none⟩) k k) (W.alloc (.cells (madeCells #[.int .u64 0] k) 45)) := by
  obtain ⟨i0, hi, hz0, hz1, hz2⟩ := info_parts info_u64
  have h := run_make (P := Try.prog) W 22 45 i0 (.int .u64 0) under_words hi hz0 .i64 .i64 (k : Int) (k : Int) (by omega) (by omega) (by rw [hz2]; omega) (by omega)
  rw [hz1, Nat.mul_one, show (k : Int).toNat = k by omega] at h
  exact h
theorem new_end (w : World) (k : Nat) (hk : k ≤ 8192) :
    Rf ((w.alloc (.cells (madeCells #[.int .u64 0] k) 45)).alloc (.cells #[.slice (some ⟨w.heap.size, 0, none⟩) k k] 49)) (w.heap.size + 1) w.heap.size k (fun _ => 0) := by
  have e : (w.alloc (.cells (madeCells #[.int .u64 0] k) 45)).heap.size = w.heap.size + 1 := by simp
  refine ⟨?_, (World.rowIs_made w (.int .u64 0) k 45).alloc _, Fit.zero, hk⟩
  have := World.rowIs_alloc (w.alloc (.cells (madeCells #[.int .u64 0] k) 45)) #[.slice (some ⟨w.heap.size, 0, none⟩) k k] 49 (fun _ => .slice (some ⟨w.heap.size, 0, none⟩) k k)
    (fun i hi => by
      have : i = 0 := by simpa using hi
      subst this
      rfl)
  rw [e] at this
  exact this

set_option maxHeartbeats 400000 in
theorem new_any (w : World) (k : Nat) (hk : k ≤ 8192) :
    Calls Try.prog 25 #[.int .i64 (8 * (k : Int))] w fun e w' => e = .returned (.pointer (some ⟨w.heap.size + 1, 0, none⟩)) ∧ Rf w' (w.heap.size + 1) w.heap.size k (fun _ => 0) ∧ Below w.heap.size w w' ∧ w'.heap.size = w.heap.size + 2 := by
  have hmk := make_words k hk
  have hd : 8 * (k : Int) / 8 = (k : Int) := by omega
  go_enter Try.func25, Try.ntmps25
  go_wp2
  go_ret
  exact ⟨rfl, new_end w k hk, ((Below.refl _ _).alloc (Nat.le_refl _) _).alloc (by simp) _, by simp⟩

set_option maxHeartbeats 400000 in
theorem is_any (w : World) (B g n : Nat) (f : Nat → Int) (a : Int) (h : Rf w B g n f) (a1 : -9223372036854775808 ≤ a) (a2 : a ≤ 9223372036854775807) :
    Calls Try.prog 28 #[.pointer (some ⟨B, 0, none⟩), .int .i64 a] w fun e w' => e = .returned (.bool (okW n a)) ∧ w = w' := by
  have hl := h.len
  have hc := h.cell
  by_cases h0 : 0 ≤ a
  · have b0 : decide (0 ≤ a) = true := decide_eq_true h0
    by_cases h1 : a < 8 * (n : Int)
    · have b1 : decide (a < 8 * (n : Int)) = true := decide_eq_true h1
      by_cases h8 : a % 8 = 0
      · have q : (a % 8 == 0) = true := by simpa using h8
        have K := Lib.hid (okW_yes h0 h1 h8)
        clear h8
        go_enter Try.func28, Try.ntmps28
        go_wp2
        go_ret
        exact ⟨ret_bool K.out.symm, rfl⟩
      · have q : (a % 8 == 0) = false := by simpa using h8
        have K := Lib.hid (okW_no (n := n) (a := a) (.inr (.inr h8)))
        clear h8
        go_enter Try.func28, Try.ntmps28
        go_wp2
        go_ret
        exact ⟨ret_bool K.out.symm, rfl⟩
    · have b1 : decide (a < 8 * (n : Int)) = false := decide_eq_false h1
      have K := Lib.hid (okW_no (n := n) (a := a) (.inr (.inl (by omega))))
      go_enter Try.func28, Try.ntmps28
      go_wp2
      go_ret
      exact ⟨ret_bool K.out.symm, rfl⟩
  · have b0 : decide (0 ≤ a) = false := decide_eq_false h0
    have K := Lib.hid (okW_no (n := n) (a := a) (.inl (by omega)))
    go_enter Try.func28, Try.ntmps28
    go_wp2
    go_ret
    exact ⟨ret_bool K.out.symm, rfl⟩

set_option maxHeartbeats 400000 in
theorem word_any (w : World) (B g n : Nat) (f : Nat → Int) (a : Int) (h : Rf w B g n f) (a1 : -9223372036854775808 ≤ a) (a2 : a ≤ 9223372036854775807) :
    Calls Try.prog 29 #[.pointer (some ⟨B, 0, none⟩), .int .i64 a] w fun e w' => e = .returned (.tuple #[.int .u64 (wordV n f a), .int .i64 (errW n a)]) ∧ w = w' := by
  have hl := h.len
  have hc := h.cell
  by_cases hk : okW n a = true
  · obtain ⟨i, hi, rfl, hj⟩ := okW_idx hk
    have hcell := h.body.cell hi
    have hd : 8 * (i : Int) / 8 = (i : Int) := by omega
    have HJ := Lib.hid hj
    clear hj
    go_enter Try.func29, Try.ntmps29
    go_wp2_with (go_at_call 28; refine (is_any _ B g n f _ h a1 a2).mono ?_; rintro e w' ⟨rfl, rfl⟩)
    go_ret2
    exact ⟨ret2 (by unfold wordV; rw [if_pos hk, HJ.out]) (errW_yes hk).symm, rfl⟩
  · have hq : okW n a = false := by simpa using hk
    clear hk
    go_enter Try.func29, Try.ntmps29
    go_wp2_with (go_at_call 28; refine (is_any _ B g n f _ h a1 a2).mono ?_; rintro e w' ⟨rfl, rfl⟩)
    go_ret2
    exact ⟨ret2 (by unfold wordV; rw [if_neg (by simp [hq])]) (errW_no hq).symm, rfl⟩

set_option maxHeartbeats 400000 in
theorem put_any (w : World) (B g n : Nat) (f : Nat → Int) (a x : Int) (h : Rf w B g n f) (a1 : -9223372036854775808 ≤ a) (a2 : a ≤ 9223372036854775807) (x1 : 0 ≤ x) (x2 : x ≤ 18446744073709551615) :
    Calls Try.prog 26 #[.pointer (some ⟨B, 0, none⟩), .int .i64 a, .int .u64 x] w fun e w' => e = .returned (.int .i64 (errW n a)) ∧ Rf w' B g n (putF n f a x) ∧ w.grownBy w' (some g) := by
  have hl := h.len
  have hc := h.cell
  by_cases hk : okW n a = true
  · obtain ⟨i, hi, rfl, hj⟩ := okW_idx hk
    have hcell := h.body.cell hi
    have hfz := h.body.frozen i
    have hd : 8 * (i : Int) / 8 = (i : Int) := by omega
    have HJ := Lib.hid hj
    clear hj
    go_enter Try.func26, Try.ntmps26
    go_wp2_with (go_at_call 28; refine (is_any _ B g n f _ h a1 a2).mono ?_; rintro e w' ⟨rfl, rfl⟩)
    go_ret
    exact ⟨ret_int (errW_yes hk).symm, by unfold putF; rw [if_pos hk, HJ.out]; exact h.set i x x1 x2, only_setCell (World.grownBy.refl _ _) _ _⟩
  · have hq : okW n a = false := by simpa using hk
    clear hk
    go_enter Try.func26, Try.ntmps26
    go_wp2_with (go_at_call 28; refine (is_any _ B g n f _ h a1 a2).mono ?_; rintro e w' ⟨rfl, rfl⟩)
    go_ret
    exact ⟨ret_int (errW_no hq).symm, by unfold putF; rw [if_neg (by simp [hq])]; exact h, World.grownBy.refl _ _⟩
end Go.Proofs.Ytgihoicppeegaaa.Ref
