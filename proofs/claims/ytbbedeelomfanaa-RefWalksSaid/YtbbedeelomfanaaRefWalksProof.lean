/-
  penfoldlaw06.RefWalks returns true for every two refs of three integers; no condition.
-/
import Derived.Test.YtbbedeelomfanaaRows
import Derived.Test.YtbbedeelomfanaaArgs
import Derived.Test.YtbbedeelomfanaaRefsC
namespace Go.Proofs.Ytbbedeelomfanaa.refWalks
open Go.ChangeShapes Go.WideShapes Go.ChangeAt Go.RowKit
set_option linter.unusedVariables false

open Refs Held

theorem in_order {s e a s' e' a' : Int} (hr : rightB s e a = true) (hr' : rightB s' e' a' = true) :
    rightB s e a' = true ∧ (a < a' ∧ handle s e a < handle s e a' ∨ a' ≤ a ∧ handle s e a' ≤ handle s e a) ∧ (e' ≤ e ∨ e < e' ∧ handle s e a < handle s' e' a') := by
  obtain ⟨b1, b2, b3, b4, b5, b6, b7⟩ := rbounds hr
  obtain ⟨c1, c2, c3, c4, c5, c6, c7⟩ := rbounds hr'
  refine ⟨decide_eq_true (by omega), ?_, ?_⟩
  · unfold handle
    omega
  · unfold handle
    omega

set_option maxRecDepth 100000 in
set_option maxHeartbeats 8000000 in
theorem walk (a0 a1 a2 : Int) (b0 b1 b2 : Int) (w : World) (wa0 : (Lit.int .i64 a0).wf = true) (wa1 : (Lit.int .i64 a1).wf = true) (wa2 : (Lit.int .i64 a2).wf = true) (wb0 : (Lit.int .i64 b0).wf = true) (wb1 : (Lit.int .i64 b1).wf = true) (wb2 : (Lit.int .i64 b2).wf = true) :
    Calls Try.prog 5 #[.agg #[.int .i64 a0, .int .i64 a1, .int .i64 a2], .agg #[.int .i64 b0, .int .i64 b1, .int .i64 b2]] w fun e w' => e = .returned (.bool true) ∧ Below w.heap.size w w' := by
  clear wa0 wa1 wa2 wb0 wb1 wb2
  obtain ⟨xs, xe, xa, xr, FX⟩ := fit_all a0 a1 a2
  obtain ⟨ys, ye, ya, yr, FY⟩ := fit_all b0 b1 b2
  obtain ⟨zr, hc, hq⟩ := in_order xr yr
  have HX : Hid (packV xs xe xa = ⟨handle xs xe xa, 0⟩) := Lib.hid (pack_yes xr)
  have HY : Hid (packV ys ye ya = ⟨handle ys ye ya, 0⟩) := Lib.hid (pack_yes yr)
  have HZ : Hid (packV xs xe ya = ⟨handle xs xe ya, 0⟩) := Lib.hid (pack_yes zr)
  clear xr yr zr
  generalize handle xs xe xa = P at *
  generalize handle ys ye ya = Q at *
  generalize handle xs xe ya = R at *
  go_enter Try.func5, Try.ntmps5
  have S0 := ((St.start w).new [.int .i64 a0, .int .i64 a1, .int .i64 a2] 23).new [.int .i64 b0, .int .i64 b1, .int .i64 b2] 23
  simp only [World.size_alloc] at S0
  go_wp2_with fail
  refine (lift S0 (shown_any _)).mono ?_
  rintro z w1 ⟨rfl, S1⟩
  clear S0
  obtain ⟨qal, qa0, qa1, qa2⟩ := S1.get3 1 rfl
  go_wp2_with fail
  refine (lift S1 (FX _)).mono ?_
  rintro z w2 ⟨rfl, S2⟩
  clear qal qa0 qa1 qa2 S1
  obtain ⟨qbl, qb0, qb1, qb2⟩ := S2.get3 0 rfl
  go_wp2_with fail
  refine (lift (S2.new [.int .i64 xs, .int .i64 xe, .int .i64 xa] 23) (FY _)).mono ?_
  rintro z w3 ⟨rfl, S3⟩
  clear qbl qb0 qb1 qb2 S2
  obtain ⟨qxl, qx0, qx1, qx2⟩ := S3.get3 0 rfl
  have T3 := (S3.new [.int .i64 ys, .int .i64 ye, .int .i64 ya] 23).new [.int .i64 xs, .int .i64 xe, .int .i64 ya] 23
  simp only [World.size_alloc] at T3
  clear S3
  have S3 := T3
  clear T3
  go_wp2_with fail
  refine (lift S3 (pack_any _ _ _ _)).mono ?_
  rintro z w4 ⟨rfl, S4⟩
  rw [HX.out]
  clear qxl qx0 qx1 qx2 S3
  obtain ⟨qyl, qy0, qy1, qy2⟩ := S4.get3 1 rfl
  go_wp2_with fail
  refine (lift S4 (pack_any _ _ _ _)).mono ?_
  rintro z w5 ⟨rfl, S5⟩
  rw [HY.out]
  clear qyl qy0 qy1 qy2 S4
  obtain ⟨qzl, qz0, qz1, qz2⟩ := S5.get3 0 rfl
  go_wp2_with fail
  refine (lift S5 (pack_any _ _ _ _)).mono ?_
  rintro z w6 ⟨rfl, S6⟩
  rw [HZ.out]
  clear qzl qz0 qz1 qz2 S5
  obtain ⟨qxl, qx0, qx1, qx2⟩ := S6.get3 2 rfl
  obtain ⟨qyl, qy0, qy1, qy2⟩ := S6.get3 1 rfl
  obtain ⟨qzl, qz0, qz1, qz2⟩ := S6.get3 0 rfl
  clear HX HY HZ FX FY
  rcases hc with ⟨t0, t1⟩ | ⟨t0, t1⟩ <;> rcases hq with t2 | ⟨t2, t3⟩
  all_goals
    as_aux_lemma =>
      go_wp2
      go_ret
      exact ⟨rfl, S6.below⟩

set_option maxRecDepth 100000 in
theorem lifted (os : Os) (started : os.Started) (H : Type) (enc : TypeId × Value → H) :
    ReturnsInHanded {} Try.checked os 5 .any (Rows.refWalksSpec.pre6 enc Try.prog Try.f5 Rows.refWalksRow.domain false) (Rows.refWalksSpec.post enc Try.prog Try.f5 false true false false) := by
  refine returnsInHanded_of_change (C := Try.checked) Args.own started (by kernel_rfl) Try.func5
    (ChangeSpec.witness6 (enc := enc) (C := Try.checked) false ⟨#[], #[.agg #[.int .i64 0, .int .i64 0, .int .i64 0], .agg #[.int .i64 0, .int .i64 0, .int .i64 0]], []⟩ 8 (by kernel_rfl) (by kernel_rfl) (by kernel_rfl) (by kernel_rfl)) ?_
  intro W base args ds gs before hval0 hW hcnd _
  have hval : ∀ (j : Nat) t v, Try.f5.params[j]? = some t → args[j]? = some v → Value.okWide Try.prog W .any base t v := hval0
  have hW' := hW
  obtain ⟨p, q, hA0, hV, rfl, hfz, hnd⟩ := hW
  have hA : DataW.TrodAll enc Try.prog W 0 (fun _ => true) true Try.f5.params.toList args.toList ds p := hA0
  rw [Try.params5] at hA hval
  obtain ⟨v0, vs0, d0, ds0, p0, q0, hargs, rfl, rfl, h0, r0⟩ := trodAll_cons hA
  obtain ⟨v1, vs1, d1, ds1, p1, q1, rfl, rfl, rfl, h1, r1⟩ := trodAll_cons r0
  obtain ⟨rfl, rfl, rfl⟩ := trodAll_nil r1
  obtain rfl : args = #[v0, v1] := by cases args; simp_all
  obtain ⟨rfl, rfl⟩ := trodVars_none hV
  have lt0 := Args.trod_below h0
  obtain ⟨az, hv0, ha⟩ := Args.rec_in (ks := [.i64, .i64, .i64]) Try.underlying23 (by kernel_rfl) (by kernel_rfl) (hval 0 23 v0 rfl rfl) h0
  obtain rfl : v0 = .agg #[.int .i64 (az 0), .int .i64 (az 1), .int .i64 (az 2)] := hv0
  have lt1 := Args.trod_below h1
  obtain ⟨bz, hv1, hb⟩ := Args.rec_in (ks := [.i64, .i64, .i64]) Try.underlying23 (by kernel_rfl) (by kernel_rfl) (hval 1 23 v1 rfl rfl) h1
  obtain rfl : v1 = .agg #[.int .i64 (bz 0), .int .i64 (bz 1), .int .i64 (bz 2)] := hv1
  clear hA0 hval0
  refine (walk (az 0) (az 1) (az 2) (bz 0) (bz 1) (bz 2) W (ha 0) (ha 1) (ha 2) (hb 0) (hb 1) (hb 2)).mono fun e W' ⟨he, bel⟩ => ?_
  subst he
  exact ⟨_, rfl, _, _, _, [], _, [], hW', trodAll_mk1 (shut_bool Try.underlying4 _), trodAll_cons_mk (Below.trod Args.laidOut (by kernel_rfl) (of_decide_eq_true (by kernel_rfl)) h0 bel lt0) (trodAll_cons_mk (Below.trod Args.laidOut (by kernel_rfl) (of_decide_eq_true (by kernel_rfl)) h1 bel lt1) (trodAll_mk0)), rfl, bel.frame _, fun h => by cases h⟩

theorem over : Rows.refWalksRow.holds Try.pinned (OpenSpec.ofChange Rows.refWalksSpec) :=
  OpenClaim.holds_of_wide 5 Try.f5 rfl rfl rfl rfl rfl rfl rfl ⟨rfl, rfl, rfl, rfl, rfl⟩ rfl rfl rfl rfl rfl (by kernel_rfl) Try.func5 (by kernel_rfl)
    (of_decide_eq_true (by kernel_rfl)) (by unfold Func.isWrapper; rw [if_neg (of_decide_eq_false (by kernel_rfl))]; exact ⟨rfl, rfl⟩)
    (fun os started H enc _ => lifted os started H enc)

theorem proved : Rows.RefWalksSaid :=
  over
end Go.Proofs.Ytbbedeelomfanaa.refWalks
