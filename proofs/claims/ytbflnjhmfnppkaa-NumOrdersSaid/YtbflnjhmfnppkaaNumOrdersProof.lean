/-
  penfoldlaw01.NumOrders returns true for every three integers of 64 bits; no condition.
-/
import Derived.Test.YtbflnjhmfnppkaaRows
import Derived.WalkKit
import Derived.ProofKit
import Derived.OpenShut
import Derived.Test.YtbflnjhmfnppkaaNum
namespace Go.Proofs.Ytbflnjhmfnppkaa.numOrders
open Go.ChangeShapes Go.WideShapes Go.ChangeAt Go.RowKit
set_option linter.unusedVariables false      -- a walk need not use every 'w<i>' (that an integer argument fits its kind)

theorem own : ownKnob Try.prog.godebug = none := by kernel_rfl

theorem order_facts (a b c : Int) (h1 : Num.addE a b = 0) (h2 : Num.addE a c = 0) : (Num.addV a b < Num.addV a c) ↔ b < c := by
  unfold Num.addE at h1 h2
  split at h1
  · omega
  · split at h2
    · omega
    · unfold Num.addV; rw [if_neg (by assumption), if_neg (by assumption)]; omega
theorem val (a b : Int) (h : Num.addE a b = 0) : Num.addV a b = a + b := by
  unfold Num.addE at h
  split at h
  · omega
  · unfold Num.addV; rw [if_neg (by assumption)]
theorem three_facts (a b c : Int) (h1 : Num.addE a b = 0) (h2 : Num.addE (Num.addV a b) c = 0) (h3 : Num.addE b c = 0) (h4 : Num.addE a (Num.addV b c) = 0) : Num.addV (Num.addV a b) c = Num.addV a (Num.addV b c) := by
  rw [val _ _ h2, val _ _ h4, val _ _ h1, val _ _ h3]; omega

/-! ### STEP 1: THE WALK: the Go text returns true. 'Grown w w'': the world has at most new blocks (Derived/RowKit3.lean). Part the cases AHEAD of 'go_enter' where a test parts the walk; take each callee by a contract of your own. -/
set_option maxHeartbeats 8000000 in
theorem walk (a0 : Int) (a1 : Int) (a2 : Int) (w0 : (Lit.int .i64 a0).wf = true) (w1 : (Lit.int .i64 a1).wf = true) (w2 : (Lit.int .i64 a2).wf = true) (w : World) :
    Calls Try.prog 8 #[.int .i64 a0, .int .i64 a1, .int .i64 a2] w fun e w' => e = .returned (.bool true) ∧ Grown w w' := by
  have ⟨x1, x2⟩ := Num.bounds w0
  have ⟨y1, y2⟩ := Num.bounds w1
  have ⟨z1, z2⟩ := Num.bounds w2
  have ⟨u1, u2⟩ := Num.addV_le a0 a1
  have ⟨v1, v2⟩ := Num.addV_le a1 a2
  have key : (Num.addE a0 a1 != 0) = true ∨ ((Num.addE a0 a1 != 0) = false ∧
      ((Num.addE a0 a2 != 0) = true ∨ (Num.addE a0 a2 != 0) = false ∧ decide (a1 < a2) = true ∧ decide (Num.addV a0 a1 < Num.addV a0 a2) = true ∨ (Num.addE a0 a2 != 0) = false ∧ decide (a1 < a2) = false ∧ decide (Num.addV a0 a1 < Num.addV a0 a2) = false) ∧
      ((Num.addE (Num.addV a0 a1) a2 != 0) = true ∨ (Num.addE (Num.addV a0 a1) a2 != 0) = false ∧ (Num.addE a1 a2 != 0) = true ∨ (Num.addE (Num.addV a0 a1) a2 != 0) = false ∧ (Num.addE a1 a2 != 0) = false ∧ (Num.addE a0 (Num.addV a1 a2) != 0) = true ∨
        (Num.addE (Num.addV a0 a1) a2 != 0) = false ∧ (Num.addE a1 a2 != 0) = false ∧ (Num.addE a0 (Num.addV a1 a2) != 0) = false ∧ (Num.addV (Num.addV a0 a1) a2 == Num.addV a0 (Num.addV a1 a2)) = true)) := by
    have o := order_facts a0 a1 a2
    have t := three_facts a0 a1 a2
    simp only [bne_iff_ne, bne_eq_false_iff_eq, decide_eq_true_eq, decide_eq_false_iff_not, beq_iff_eq]
    by_cases e1 : Num.addE a0 a1 = 0
    · refine .inr ⟨e1, ?_, ?_⟩
      · by_cases e2 : Num.addE a0 a2 = 0
        · have o' := o e1 e2
          by_cases hl : a1 < a2
          · exact .inr (.inl ⟨e2, hl, o'.2 hl⟩)
          · exact .inr (.inr ⟨e2, hl, fun h => hl (o'.1 h)⟩)
        · exact .inl e2
      · by_cases e2 : Num.addE (Num.addV a0 a1) a2 = 0
        · by_cases e3 : Num.addE a1 a2 = 0
          · by_cases e4 : Num.addE a0 (Num.addV a1 a2) = 0
            · exact .inr (.inr (.inr ⟨e2, e3, e4, t e1 e2 e3 e4⟩))
            · exact .inr (.inr (.inl ⟨e2, e3, e4⟩))
          · exact .inr (.inl ⟨e2, e3⟩)
        · exact .inl e2
    · exact .inl e1
  rcases key with k | ⟨k, k1, k2⟩
  · go_enter Try.func8, Try.ntmps8
    go_wp2_with (first
      | (go_at_call 9; refine (Num.shown_any _).mono ?_; rintro e w' ⟨rfl, rfl⟩)
      | (go_at_call 10; refine (Num.add_any _ _ _ (by omega) (by omega) (by omega) (by omega)).mono ?_; rintro e w' ⟨rfl, rfl⟩))
    go_ret
    exact ⟨rfl, Grown.refl _⟩
  · rcases k1 with k1 | ⟨k1, k3, k4⟩ | ⟨k1, k3, k4⟩ <;> rcases k2 with k2 | ⟨k2, k5⟩ | ⟨k2, k5, k6⟩ | ⟨k2, k5, k6, k7⟩
    all_goals
      go_enter Try.func8, Try.ntmps8
      go_wp2_with (first
        | (go_at_call 9; refine (Num.shown_any _).mono ?_; rintro e w' ⟨rfl, rfl⟩)
        | (go_at_call 10; refine (Num.add_any _ _ _ (by omega) (by omega) (by omega) (by omega)).mono ?_; rintro e w' ⟨rfl, rfl⟩))
      go_ret
      exact ⟨rfl, Grown.refl _⟩

/-! ### THE ROW's STEP: WRITTEN OUT: LEAVE IT -/
set_option maxRecDepth 100000 in
theorem lifted (os : Os) (started : os.Started) (H : Type) (enc : TypeId × Value → H) :
    ReturnsInHanded {} Try.checked os 8 .any (Rows.numOrdersSpec.pre6 enc Try.prog Try.f8 Rows.numOrdersRow.domain false) (Rows.numOrdersSpec.post enc Try.prog Try.f8 false true false false) := by
  refine returnsInHanded_of_change (C := Try.checked) own started (by kernel_rfl) Try.func8
    (ChangeSpec.witness6 (enc := enc) (C := Try.checked) false ⟨#[], #[.int .i64 0, .int .i64 0, .int .i64 0], []⟩ 8 (by kernel_rfl) (by kernel_rfl) (by kernel_rfl) (by kernel_rfl)) ?_
  intro W base args ds gs before hval0 hW hcnd _
  have hval : ∀ (j : Nat) t v, Try.f8.params[j]? = some t → args[j]? = some v → Value.okWide Try.prog W .any base t v := hval0
  have hW' := hW
  obtain ⟨p, q, hA0, hV, rfl, hfz, hnd⟩ := hW
  have hA : DataW.TrodAll enc Try.prog W 0 (fun _ => true) true Try.f8.params.toList args.toList ds p := hA0
  rw [Try.params8] at hA hval
  obtain ⟨v0, vs0, d0, ds0, p0, q0, hargs, rfl, rfl, h0, r0⟩ := trodAll_cons hA
  obtain ⟨v1, vs1, d1, ds1, p1, q1, rfl, rfl, rfl, h1, r1⟩ := trodAll_cons r0
  obtain ⟨v2, vs2, d2, ds2, p2, q2, rfl, rfl, rfl, h2, r2⟩ := trodAll_cons r1
  obtain ⟨rfl, rfl, rfl⟩ := trodAll_nil r2
  obtain rfl : args = #[v0, v1, v2] := by cases args; simp_all
  obtain ⟨rfl, rfl⟩ := trodVars_none hV
  obtain ⟨a0, rfl, rfl, rfl, w0⟩ := open_int Try.underlying3 (hval 0 3 v0 rfl rfl) h0
  obtain ⟨a1, rfl, rfl, rfl, w1⟩ := open_int Try.underlying3 (hval 1 3 v1 rfl rfl) h1
  obtain ⟨a2, rfl, rfl, rfl, w2⟩ := open_int Try.underlying3 (hval 2 3 v2 rfl rfl) h2
  clear hA0 hval0
  simp only [List.append_nil] at hW'
  refine (walk a0 a1 a2 w0 w1 w2 W).mono fun e W' ⟨he, hg⟩ => ?_
  subst he
  exact ⟨_, rfl, post_of_same (pa := []) (pv := []) hW' (fun _ _ _ => (trodAll_cons_mk (shut_bool Try.underlying4 _) trodAll_mk0)) (fun sp _ => (trodAll_cons_mk (shut_int Try.underlying3 w0) (trodAll_cons_mk (shut_int Try.underlying3 w1) (trodAll_cons_mk (shut_int Try.underlying3 w2) trodAll_mk0)))) (fun _ _ => rfl) rfl
    (hg.frame _) hg.2.1 (ok_one (by kernel_rfl) rfl (okWide_bool_mk Try.underlying4 _))⟩

theorem over : Rows.numOrdersRow.holds Try.pinned (OpenSpec.ofChange Rows.numOrdersSpec) :=
  OpenClaim.holds_of_wide 8 Try.f8 rfl rfl rfl rfl rfl rfl rfl ⟨rfl, rfl, rfl, rfl, rfl⟩ rfl rfl rfl rfl rfl (by kernel_rfl) Try.func8 (by kernel_rfl)
    (of_decide_eq_true (by kernel_rfl)) (by unfold Func.isWrapper; first | (rw [if_pos (by decide +kernel)]; kernel_rfl) | (rw [if_neg (by decide +kernel)]; exact ⟨rfl, rfl⟩))
    (fun os started H enc _ => lifted os started H enc)

/-- ████ THE STATEMENT ████ -/
theorem proved : Rows.NumOrdersSaid :=
  over
end Go.Proofs.Ytbflnjhmfnppkaa.numOrders
