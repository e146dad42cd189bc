/-
  The document's examples at the head of all laws of layer 3 hold.
-/
import Derived.Test.YtkogamgnkccdlaaCtlF
namespace Go.Proofs.Ytkogamgnkccdlaa.Ctl
open Go.ChangeShapes Go.WideShapes Go.ChangeAt Go.RowKit
set_option linter.unusedVariables false

theorem bounds_i64 {a : Int} (h : (Lit.int .i64 a).wf = true) : -9223372036854775808 ≤ a ∧ a ≤ 9223372036854775807 := by
  simp only [Lit.wf, IntKind.min, IntKind.max, IntKind.signed, IntKind.bits, Bool.and_eq_true, decide_eq_true_eq, if_true] at h
  omega
theorem bounds_u64 {a : Int} (h : (Lit.int .u64 a).wf = true) : 0 ≤ a ∧ a ≤ 18446744073709551615 := by
  simp [Lit.wf, IntKind.min, IntKind.max, IntKind.signed, IntKind.bits] at h
  omega
theorem bounds_u8 {a : Int} (h : (Lit.int .u8 a).wf = true) : 0 ≤ a ∧ a ≤ 255 := by
  simp [Lit.wf, IntKind.min, IntKind.max, IntKind.signed, IntKind.bits] at h
  omega

set_option maxHeartbeats 1000000 in
theorem shown_any (w : World) : Calls Try.prog 9 #[] w fun e w' => e = .returned (.bool true) ∧ Below w.heap.size w w' := by
  have H1 := Lib.hid (show packV 1 0 (-1) 1 = 262145 by decide)
  have H2 := Lib.hid (show packE 1 0 (-1) 1 = 0 by decide)
  have H3 := Lib.hid (show entV 1 0 (-1) 0 0 = ⟨2, 1, 0, 0, 0⟩ by unfold entV; rw [if_pos (by decide)]; rfl)
  go_enter Try.func9, Try.ntmps9
  go_wp2_with fail
  refine (pack_any _ _ _ _ _).mono ?_
  rintro z w1 ⟨rfl, k1⟩
  rw [H1.out, H2.out]
  go_wp2_with fail
  refine (enter_any _ _ _ _ _ _).mono ?_
  rintro z w2 ⟨rfl, k2⟩
  rw [H3.out]
  go_wp2
  go_ret
  exact ⟨rfl, (k1.trans (k2.mono k1.size)).alloc (Nat.le_trans k1.size k2.size) _⟩
end Go.Proofs.Ytkogamgnkccdlaa.Ctl
