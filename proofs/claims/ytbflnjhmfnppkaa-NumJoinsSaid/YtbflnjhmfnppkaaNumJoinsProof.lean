/-
  penfoldlaw01.NumJoins returns true for every two uint64; no condition.
-/
import Derived.Test.YtbflnjhmfnppkaaRows
import Derived.WalkKit
import Derived.ProofKit
import Derived.OpenShut
import Derived.Test.YtbflnjhmfnppkaaNum
namespace Go.Proofs.Ytbflnjhmfnppkaa.numJoins
open Go.ChangeShapes Go.WideShapes Go.ChangeAt Go.RowKit
set_option linter.unusedVariables false      -- a walk need not use every 'w<i>' (that an integer argument fits its kind)

theorem own : ownKnob Try.prog.godebug = none := by kernel_rfl

theorem facts (x y : Int) (x1 : 0 ≤ x) (x2 : x ≤ 1152921504606846975) (y1 : 0 ≤ y) (y2 : y ≤ 1152921504606846975) :
    0 ≤ Num.wordsV x ∧ Num.wordsV x ≤ 1152921504606846975 ∧ 0 ≤ Num.wordsV y ∧ Num.wordsV y ≤ 1152921504606846975 ∧ 0 ≤ Num.wordsV (x + y) ∧ Num.wordsV (x + y) ≤ 1152921504606846975 ∧
    Num.wordsV (x + y) ≤ Num.wordsV x + Num.wordsV y ∧ Num.wordsV x + Num.wordsV y ≤ Num.wordsV (x + y) + 1 ∧ Num.wordsV (x / 8 * 8 + y) = x / 8 + Num.wordsV y := by
  have e1 : Num.wordsV x = Num.upV x / 8 := rfl
  have e2 : Num.wordsV y = Num.upV y / 8 := rfl
  have e3 : Num.wordsV (x + y) = Num.upV (x + y) / 8 := rfl
  have e4 : Num.wordsV (x / 8 * 8 + y) = Num.upV (x / 8 * 8 + y) / 8 := rfl
  rw [Num.upV_ok _ (by omega) (by omega)] at e1 e2 e3 e4
  refine ⟨by omega, by omega, by omega, by omega, by omega, by omega, by omega, by omega, by omega⟩

/-! ### STEP 1: THE WALK: the Go text returns true. 'Grown w w'': the world has at most new blocks (Derived/RowKit3.lean). Part the cases AHEAD of 'go_enter' where a test parts the walk; take each callee by a contract of your own. -/
set_option maxHeartbeats 8000000 in
theorem walk (a0 : Int) (a1 : Int) (w0 : (Lit.int .u64 a0).wf = true) (w1 : (Lit.int .u64 a1).wf = true) (w : World) :
    Calls Try.prog 7 #[.int .u64 a0, .int .u64 a1] w fun e w' => e = .returned (.bool true) ∧ Grown w w' := by
  have ⟨x1, x2⟩ := Num.ubounds w0
  have ⟨y1, y2⟩ := Num.ubounds w1
  obtain ⟨x, hx, p1, p2⟩ : ∃ m, bits .and .u64 a0 1152921504606846975 = m ∧ 0 ≤ m ∧ m ≤ 1152921504606846975 := ⟨_, Num.mask60 a0 x1 x2, by omega, by omega⟩
  obtain ⟨y, hy, q1, q2⟩ : ∃ m, bits .and .u64 a1 1152921504606846975 = m ∧ 0 ≤ m ∧ m ≤ 1152921504606846975 := ⟨_, Num.mask60 a1 y1 y2, by omega, by omega⟩
  have hz := Num.clear3 x p1 (by omega)
  have ⟨f1, f2, f3, f4, f5, f6, f7, f8, f9⟩ := facts x y p1 p2 q1 q2
  have F9 : (Num.wordsV (x / 8 * 8 + y) == x / 8 + Num.wordsV y) = true := by simpa using f9
  clear f9
  go_enter Try.func7, Try.ntmps7
  go_wp2_with (first
    | (go_at_call 9; refine (Num.shown_any _).mono ?_; rintro e w' ⟨rfl, rfl⟩)
    | (go_at_call 14; refine (Num.words_ok _ _ (by omega) (by omega)).mono ?_; rintro e w' ⟨rfl, rfl⟩))
  go_ret
  exact ⟨rfl, Grown.refl _⟩

/-! ### THE ROW's STEP: WRITTEN OUT: LEAVE IT -/
set_option maxRecDepth 100000 in
theorem lifted (os : Os) (started : os.Started) (H : Type) (enc : TypeId × Value → H) :
    ReturnsInHanded {} Try.checked os 7 .any (Rows.numJoinsSpec.pre6 enc Try.prog Try.f7 Rows.numJoinsRow.domain false) (Rows.numJoinsSpec.post enc Try.prog Try.f7 false true false false) := by
  refine returnsInHanded_of_change (C := Try.checked) own started (by kernel_rfl) Try.func7
    (ChangeSpec.witness6 (enc := enc) (C := Try.checked) false ⟨#[], #[.int .u64 0, .int .u64 0], []⟩ 8 (by kernel_rfl) (by kernel_rfl) (by kernel_rfl) (by kernel_rfl)) ?_
  intro W base args ds gs before hval0 hW hcnd _
  have hval : ∀ (j : Nat) t v, Try.f7.params[j]? = some t → args[j]? = some v → Value.okWide Try.prog W .any base t v := hval0
  have hW' := hW
  obtain ⟨p, q, hA0, hV, rfl, hfz, hnd⟩ := hW
  have hA : DataW.TrodAll enc Try.prog W 0 (fun _ => true) true Try.f7.params.toList args.toList ds p := hA0
  rw [Try.params7] at hA hval
  obtain ⟨v0, vs0, d0, ds0, p0, q0, hargs, rfl, rfl, h0, r0⟩ := trodAll_cons hA
  obtain ⟨v1, vs1, d1, ds1, p1, q1, rfl, rfl, rfl, h1, r1⟩ := trodAll_cons r0
  obtain ⟨rfl, rfl, rfl⟩ := trodAll_nil r1
  obtain rfl : args = #[v0, v1] := by cases args; simp_all
  obtain ⟨rfl, rfl⟩ := trodVars_none hV
  obtain ⟨a0, rfl, rfl, rfl, w0⟩ := open_int Try.underlying28 (hval 0 28 v0 rfl rfl) h0
  obtain ⟨a1, rfl, rfl, rfl, w1⟩ := open_int Try.underlying28 (hval 1 28 v1 rfl rfl) h1
  clear hA0 hval0
  simp only [List.append_nil] at hW'
  refine (walk a0 a1 w0 w1 W).mono fun e W' ⟨he, hg⟩ => ?_
  subst he
  exact ⟨_, rfl, post_of_same (pa := []) (pv := []) hW' (fun _ _ _ => (trodAll_cons_mk (shut_bool Try.underlying4 _) trodAll_mk0)) (fun sp _ => (trodAll_cons_mk (shut_int Try.underlying28 w0) (trodAll_cons_mk (shut_int Try.underlying28 w1) trodAll_mk0))) (fun _ _ => rfl) rfl
    (hg.frame _) hg.2.1 (ok_one (by kernel_rfl) rfl (okWide_bool_mk Try.underlying4 _))⟩

theorem over : Rows.numJoinsRow.holds Try.pinned (OpenSpec.ofChange Rows.numJoinsSpec) :=
  OpenClaim.holds_of_wide 7 Try.f7 rfl rfl rfl rfl rfl rfl rfl ⟨rfl, rfl, rfl, rfl, rfl⟩ rfl rfl rfl rfl rfl (by kernel_rfl) Try.func7 (by kernel_rfl)
    (of_decide_eq_true (by kernel_rfl)) (by unfold Func.isWrapper; first | (rw [if_pos (by decide +kernel)]; kernel_rfl) | (rw [if_neg (by decide +kernel)]; exact ⟨rfl, rfl⟩))
    (fun os started H enc _ => lifted os started H enc)

/-- ████ THE STATEMENT ████ -/
theorem proved : Rows.NumJoinsSaid :=
  over
end Go.Proofs.Ytbflnjhmfnppkaa.numJoins
