/-
  penfoldlaw04.GroundNew returns true for every place and size, and changes nothing; no condition.
-/
import Derived.Test.YtnekbbdodhokbaaRows
import Derived.Test.YtnekbbdodhokbaaArgs
import Derived.Test.YtnekbbdodhokbaaShown
namespace Go.Proofs.Ytnekbbdodhokbaa.groundNew
open Go.ChangeShapes Go.WideShapes Go.ChangeAt Go.RowKit
set_option linter.unusedVariables false

open Gr Gm

set_option maxRecDepth 100000 in
set_option maxHeartbeats 8000000 in
theorem walk (at_ : Int) (size : Int) (w : World) (wat_ : (Lit.int .i64 at_).wf = true) (wsize : (Lit.int .i64 size).wf = true) :
    Calls Try.prog 4 #[.int .i64 at_, .int .i64 size] w fun e w' => e = .returned (.bool true) ∧ Below w.heap.size w w' := by
  have ⟨w1, w2⟩ := bounds_i64 wat_
  have ⟨w3, w4⟩ := bounds_i64 wsize
  by_cases h0 : 0 ≤ at_
  rotate_left
  · have q0 : decide (0 ≤ at_) = false := by simpa using h0
    have hno : boundB at_ = false ∨ (boundB at_ = true ∧ boundB size = false) := by
      unfold boundB
      exact .inl (decide_eq_false (by omega))
    go_enter Try.func4, Try.ntmps4
    go_wp2_with fail
    refine (shown_any _).mono ?_
    rintro e W1 ⟨rfl, k1⟩
    go_wp2_with fail
    refine (new_no _ _ _ hno).mono ?_
    rintro e w' ⟨rfl, rfl⟩
    go_wp2_with fail
    go_ret
    exact ⟨rfl, k1⟩
  have q0 : decide (0 ≤ at_) = true := by simpa using h0
  by_cases h1 : 0 ≤ size
  rotate_left
  · have q1 : decide (0 ≤ size) = false := by simpa using h1
    have hno : boundB at_ = false ∨ (boundB at_ = true ∧ boundB size = false) := by
      unfold boundB
      by_cases k : 0 ≤ at_ ∧ at_ ≤ 65536 ∧ at_ % 8 = 0
      · exact .inr ⟨decide_eq_true k, decide_eq_false (by omega)⟩
      · exact .inl (decide_eq_false k)
    go_enter Try.func4, Try.ntmps4
    go_wp2_with fail
    refine (shown_any _).mono ?_
    rintro e W1 ⟨rfl, k1⟩
    go_wp2_with fail
    refine (new_no _ _ _ hno).mono ?_
    rintro e w' ⟨rfl, rfl⟩
    go_wp2_with fail
    go_ret
    exact ⟨rfl, k1⟩
  have q1 : decide (0 ≤ size) = true := by simpa using h1
  by_cases h2 : at_ ≤ 65536
  rotate_left
  · have q2 : decide (at_ ≤ 65536) = false := by simpa using h2
    have hno : boundB at_ = false ∨ (boundB at_ = true ∧ boundB size = false) := by
      unfold boundB
      exact .inl (decide_eq_false (by omega))
    go_enter Try.func4, Try.ntmps4
    go_wp2_with fail
    refine (shown_any _).mono ?_
    rintro e W1 ⟨rfl, k1⟩
    go_wp2_with fail
    refine (new_no _ _ _ hno).mono ?_
    rintro e w' ⟨rfl, rfl⟩
    go_wp2_with fail
    go_ret
    exact ⟨rfl, k1⟩
  have q2 : decide (at_ ≤ 65536) = true := by simpa using h2
  by_cases h3 : size ≤ 65536
  rotate_left
  · have q3 : decide (size ≤ 65536) = false := by simpa using h3
    have hno : boundB at_ = false ∨ (boundB at_ = true ∧ boundB size = false) := by
      unfold boundB
      by_cases k : 0 ≤ at_ ∧ at_ ≤ 65536 ∧ at_ % 8 = 0
      · exact .inr ⟨decide_eq_true k, decide_eq_false (by omega)⟩
      · exact .inl (decide_eq_false k)
    go_enter Try.func4, Try.ntmps4
    go_wp2_with fail
    refine (shown_any _).mono ?_
    rintro e W1 ⟨rfl, k1⟩
    go_wp2_with fail
    refine (new_no _ _ _ hno).mono ?_
    rintro e w' ⟨rfl, rfl⟩
    go_wp2_with fail
    go_ret
    exact ⟨rfl, k1⟩
  have q3 : decide (size ≤ 65536) = true := by simpa using h3
  by_cases h4 : at_ % 8 = 0
  rotate_left
  · have q4 : (at_ % 8 == 0) = false := by simpa using h4
    have hno : boundB at_ = false ∨ (boundB at_ = true ∧ boundB size = false) := by
      unfold boundB
      exact .inl (decide_eq_false (by omega))
    clear h4
    go_enter Try.func4, Try.ntmps4
    go_wp2_with fail
    refine (shown_any _).mono ?_
    rintro e W1 ⟨rfl, k1⟩
    go_wp2_with fail
    refine (new_no _ _ _ hno).mono ?_
    rintro e w' ⟨rfl, rfl⟩
    go_wp2_with fail
    go_ret
    exact ⟨rfl, k1⟩
  have q4 : (at_ % 8 == 0) = true := by simpa using h4
  by_cases h5 : size % 8 = 0
  rotate_left
  · have q5 : (size % 8 == 0) = false := by simpa using h5
    have hno : boundB at_ = false ∨ (boundB at_ = true ∧ boundB size = false) := by
      unfold boundB
      by_cases k : 0 ≤ at_ ∧ at_ ≤ 65536 ∧ at_ % 8 = 0
      · exact .inr ⟨decide_eq_true k, decide_eq_false (by omega)⟩
      · exact .inl (decide_eq_false k)
    clear h5
    go_enter Try.func4, Try.ntmps4
    go_wp2_with fail
    refine (shown_any _).mono ?_
    rintro e W1 ⟨rfl, k1⟩
    go_wp2_with fail
    refine (new_no _ _ _ hno).mono ?_
    rintro e w' ⟨rfl, rfl⟩
    go_wp2_with fail
    go_ret
    exact ⟨rfl, k1⟩
  have q5 : (size % 8 == 0) = true := by simpa using h5
  have hA : boundB at_ = true := decide_eq_true ⟨h0, h2, h4⟩
  have hS : boundB size = true := decide_eq_true ⟨h1, h3, h5⟩
  have hne : (newL at_ size).length ≤ 200000 := by unfold newL; split <;> simp
  clear h4 h5
  by_cases hz : size = 0
  · subst hz
    have n0 := Lib.hid (show newL at_ 0 = [] by simp [newL])
    go_enter Try.func4, Try.ntmps4
    go_wp2_with fail
    refine (shown_any _).mono ?_
    rintro e W1 ⟨rfl, k1⟩
    go_wp2_with fail
    refine (new_at W1 _ _ W1.heap.size hA hS (Nat.le_refl _)).mono ?_
    rintro e W2 ⟨rfl, h2, k2, z2⟩
    go_wp2_with fail
    refine (free_any _ _ _ _ _ _ h2 hne).mono ?_
    rintro e W3 ⟨V, c, rfl, hE, hn, k3⟩
    rw [n0.out]
    go_wp2_with fail
    go_ret
    exact ⟨rfl, (k1.trans (k2.mono k1.size)).trans (k3.mono (by have := k1.size; omega))⟩
  · have n0 := Lib.hid (show newL at_ size = [(at_, size)] by simp [newL, hz])
    have hz' : (size == 0) = false := by simpa using hz
    go_enter Try.func4, Try.ntmps4
    go_wp2_with fail
    refine (shown_any _).mono ?_
    rintro e W1 ⟨rfl, k1⟩
    go_wp2_with fail
    refine (new_at W1 _ _ W1.heap.size hA hS (Nat.le_refl _)).mono ?_
    rintro e W2 ⟨rfl, h2, k2, z2⟩
    go_wp2_with fail
    refine (free_any _ _ _ _ _ _ h2 hne).mono ?_
    rintro e W3 ⟨V, c, rfl, hE, hn, k3⟩
    rw [n0.out] at hE ⊢
    obtain ⟨g, rfl, _, x0, x1⟩ := hE.cell (k := 0) (by simp)
    go_wp2_with fail
    go_ret
    exact ⟨rfl, (k1.trans (k2.mono k1.size)).trans (k3.mono (by have := k1.size; omega))⟩

set_option maxRecDepth 100000 in
theorem lifted (os : Os) (started : os.Started) (H : Type) (enc : TypeId × Value → H) :
    ReturnsInHanded {} Try.checked os 4 .any (Rows.groundNewSpec.pre6 enc Try.prog Try.f4 Rows.groundNewRow.domain false) (Rows.groundNewSpec.post enc Try.prog Try.f4 false true false false) := by
  refine returnsInHanded_of_change (C := Try.checked) Args.own started (by kernel_rfl) Try.func4
    (ChangeSpec.witness6 (enc := enc) (C := Try.checked) false ⟨#[], #[.int .i64 0, .int .i64 0], []⟩ 8 (by kernel_rfl) (by kernel_rfl) (by kernel_rfl) (by kernel_rfl)) ?_
  intro W base args ds gs before hval0 hW hcnd _
  have hval : ∀ (j : Nat) t v, Try.f4.params[j]? = some t → args[j]? = some v → Value.okWide Try.prog W .any base t v := hval0
  have hW' := hW
  obtain ⟨p, q, hA0, hV, rfl, hfz, hnd⟩ := hW
  have hA : DataW.TrodAll enc Try.prog W 0 (fun _ => true) true Try.f4.params.toList args.toList ds p := hA0
  rw [Try.params4] at hA hval
  obtain ⟨v0, vs0, d0, ds0, p0, q0, hargs, rfl, rfl, h0, r0⟩ := trodAll_cons hA
  obtain ⟨v1, vs1, d1, ds1, p1, q1, rfl, rfl, rfl, h1, r1⟩ := trodAll_cons r0
  obtain ⟨rfl, rfl, rfl⟩ := trodAll_nil r1
  obtain rfl : args = #[v0, v1] := by cases args; simp_all
  obtain ⟨rfl, rfl⟩ := trodVars_none hV
  have lt0 := Args.trod_below h0
  obtain ⟨at_, rfl, rfl, rfl, wat_⟩ := open_int Try.underlying3 (hval 0 3 v0 rfl rfl) h0
  have lt1 := Args.trod_below h1
  obtain ⟨size, rfl, rfl, rfl, wsize⟩ := open_int Try.underlying3 (hval 1 3 v1 rfl rfl) h1
  clear hA0 hval0
  refine (walk at_ size W wat_ wsize).mono fun e W' ⟨he, bel⟩ => ?_
  subst he
  exact ⟨_, rfl, _, _, _, [], _, [], hW', trodAll_mk1 (shut_bool Try.underlying4 _), trodAll_cons_mk (Below.trod Args.laidOut (by kernel_rfl) (of_decide_eq_true (by kernel_rfl)) h0 bel lt0) (trodAll_cons_mk (Below.trod Args.laidOut (by kernel_rfl) (of_decide_eq_true (by kernel_rfl)) h1 bel lt1) (trodAll_mk0)), rfl, bel.frame _, fun h => by cases h⟩

theorem over : Rows.groundNewRow.holds Try.pinned (OpenSpec.ofChange Rows.groundNewSpec) :=
  OpenClaim.holds_of_wide 4 Try.f4 rfl rfl rfl rfl rfl rfl rfl ⟨rfl, rfl, rfl, rfl, rfl⟩ rfl rfl rfl rfl rfl (by kernel_rfl) Try.func4 (by kernel_rfl)
    (of_decide_eq_true (by kernel_rfl)) (by unfold Func.isWrapper; rw [if_neg (of_decide_eq_false (by kernel_rfl))]; exact ⟨rfl, rfl⟩)
    (fun os started H enc _ => lifted os started H enc)

theorem proved : Rows.GroundNewSaid :=
  over
end Go.Proofs.Ytnekbbdodhokbaa.groundNew
