/-
  penfoldlaw07.HeadFits returns true for every two integers and every head of five integers and a bool; no condition.
-/
import Derived.Test.YtggbchjbiifpoaaRows
import Derived.Test.YtggbchjbiifpoaaArgs
import Derived.Test.YtggbchjbiifpoaaArgsB
import Derived.Test.YtggbchjbiifpoaaHeadsE
namespace Go.Proofs.Ytggbchjbiifpoaa.headFits
open Go.ChangeShapes Go.WideShapes Go.ChangeAt Go.RowKit
set_option linter.unusedVariables false

open Heads Held

set_option maxRecDepth 100000 in
set_option maxHeartbeats 8000000 in
theorem walk (n : Int) (b : Int) (h0 : Int) (h1 : Int) (h2 : Int) (h3 : Bool) (h4 : Int) (h5 : Int) (w : World) (wn : (Lit.int .i64 n).wf = true) (wb : (Lit.int .i64 b).wf = true) (wh0 : (Lit.int .i64 h0).wf = true) (wh1 : (Lit.int .i64 h1).wf = true) (wh2 : (Lit.int .i64 h2).wf = true) (wh4 : (Lit.int .i64 h4).wf = true) (wh5 : (Lit.int .i64 h5).wf = true) :
    Calls Try.prog 7 #[.int .i64 n, .int .i64 b, .agg #[.int .i64 h0, .int .i64 h1, .int .i64 h2, .bool h3, .int .i64 h4, .int .i64 h5]] w fun e w' => e = .returned (.bool true) ∧ Below w.heap.size w w' := by
  clear wn wb wh0 wh1 wh2 wh4 wh5
  obtain ⟨xs, xn, xt, xc, xe, xr, FX⟩ := fit_all h0 h1 h2 h3 h4 h5
  by_cases hm : mayB n b = true
  · obtain ⟨m1, m2, m3, m4⟩ := of_decide_eq_true hm
    obtain ⟨b1, b2, b3, b4, b5, b6, b7, b8, b9, b10⟩ := rbounds xr
    have hr : rightB (2 + n + (b + 7) / 8) n xt xc xe = true := decide_eq_true (by omega)
    have HR := Lib.hid hr
    have HW : Hid (wordsV n b = ⟨2 + n + (b + 7) / 8, 0⟩) := Lib.hid (if_pos hm)
    have HP := Lib.hid (pack_yes h3 hr)
    have T1 : decide (b ≤ 8 * (2 + n + (b + 7) / 8 - 2 - n)) = true := by simp; omega
    have T2 : decide (8 * (2 + n + (b + 7) / 8 - 2 - n) < b + 8) = true := by simp; omega
    clear hr hm xr b1 b2 b3 b4 b5 b6 b7 b8 b9 b10
    go_enter Try.func7, Try.ntmps7
    have S0 := (St.start w).new [.int .i64 h0, .int .i64 h1, .int .i64 h2, .bool h3, .int .i64 h4, .int .i64 h5] 24
    go_wp2_with fail
    refine (lift S0 (shown_any _)).mono ?_
    rintro z w1 ⟨rfl, S1⟩
    clear S0
    obtain ⟨hl, h_0, h_1, h_2, h_3, h_4, h_5⟩ := S1.get6 0 rfl
    go_wp2_with fail
    refine (words_any _ _ _).mono ?_
    rintro z w2 ⟨rfl, rfl⟩
    rw [HW.out]
    go_wp2_with fail
    refine (lift S1 (FX _)).mono ?_
    rintro z w2 ⟨rfl, S2⟩
    clear S1 hl h_0 h_1 h_2 h_3 h_4 h_5
    go_wp2_with fail
    refine (lift (S2.new [.int .i64 (2 + n + (b + 7) / 8), .int .i64 n, .int .i64 xt, .bool h3, .int .i64 xc, .int .i64 xe] 24) (pack_any _ _ _ _ _ _ _)).mono ?_
    rintro z w3 ⟨rfl, S3⟩
    rw [HP.out]
    clear S2
    obtain ⟨hl, h_0, h_1, h_2, h_3, h_4, h_5⟩ := S3.get6 0 rfl
    go_wp2_with fail
    refine (lift S3 (right_any _ _ _ _ _ _ _)).mono ?_
    rintro z w4 ⟨rfl, S4⟩
    rw [HR.out]
    clear S3 hl h_0 h_1 h_2 h_3 h_4 h_5
    go_wp2
    go_ret
    exact ⟨rfl, S4.below⟩
  · have HW : Hid (wordsV n b = ⟨0, 1⟩) := Lib.hid (if_neg hm)
    have HM : Hid (¬ (0 ≤ n ∧ n ≤ 6 ∧ 0 ≤ b ∧ b ≤ 512)) := Lib.hid (fun k => hm (decide_eq_true k))
    clear hm
    go_enter Try.func7, Try.ntmps7
    have S0 := (St.start w).new [.int .i64 h0, .int .i64 h1, .int .i64 h2, .bool h3, .int .i64 h4, .int .i64 h5] 24
    go_wp2_with fail
    refine (lift S0 (shown_any _)).mono ?_
    rintro z w1 ⟨rfl, S1⟩
    clear S0
    go_wp2_with fail
    refine (words_any _ _ _).mono ?_
    rintro z w2 ⟨rfl, rfl⟩
    rw [HW.out]
    by_cases m1 : 0 ≤ n
    · by_cases m2 : n ≤ 6
      · by_cases m3 : 0 ≤ b
        · have m4 : decide (b ≤ 512) = false := by have := HM.out; simp; omega
          clear HM
          go_wp2
          go_ret
          exact ⟨rfl, S1.below⟩
        · have m4 : decide (0 ≤ b) = false := by simpa using m3
          clear HM m3
          go_wp2
          go_ret
          exact ⟨rfl, S1.below⟩
      · have m4 : decide (n ≤ 6) = false := by simpa using m2
        clear HM m2
        go_wp2
        go_ret
        exact ⟨rfl, S1.below⟩
    · have m4 : decide (0 ≤ n) = false := by simpa using m1
      clear HM m1
      go_wp2
      go_ret
      exact ⟨rfl, S1.below⟩

set_option maxRecDepth 100000 in
theorem lifted (os : Os) (started : os.Started) (H : Type) (enc : TypeId × Value → H) :
    ReturnsInHanded {} Try.checked os 7 .any (Rows.headFitsSpec.pre6 enc Try.prog Try.f7 Rows.headFitsRow.domain false) (Rows.headFitsSpec.post enc Try.prog Try.f7 false true false false) := by
  refine returnsInHanded_of_change (C := Try.checked) Args.own started (by kernel_rfl) Try.func7
    (ChangeSpec.witness6 (enc := enc) (C := Try.checked) false ⟨#[], #[.int .i64 0, .int .i64 0, .agg #[.int .i64 0, .int .i64 0, .int .i64 0, .bool false, .int .i64 0, .int .i64 0]], []⟩ 8 (by kernel_rfl) (by kernel_rfl) (by kernel_rfl) (by kernel_rfl)) ?_
  intro W base args ds gs before hval0 hW hcnd _
  have hval : ∀ (j : Nat) t v, Try.f7.params[j]? = some t → args[j]? = some v → Value.okWide Try.prog W .any base t v := hval0
  have hW' := hW
  obtain ⟨p, q, hA0, hV, rfl, hfz, hnd⟩ := hW
  have hA : DataW.TrodAll enc Try.prog W 0 (fun _ => true) true Try.f7.params.toList args.toList ds p := hA0
  rw [Try.params7] at hA hval
  obtain ⟨v0, vs0, d0, ds0, p0, q0, hargs, rfl, rfl, h0, r0⟩ := trodAll_cons hA
  obtain ⟨v1, vs1, d1, ds1, p1, q1, rfl, rfl, rfl, h1, r1⟩ := trodAll_cons r0
  obtain ⟨v2, vs2, d2, ds2, p2, q2, rfl, rfl, rfl, h2, r2⟩ := trodAll_cons r1
  obtain ⟨rfl, rfl, rfl⟩ := trodAll_nil r2
  obtain rfl : args = #[v0, v1, v2] := by cases args; simp_all
  obtain ⟨rfl, rfl⟩ := trodVars_none hV
  have lt0 := Args.trod_below h0
  obtain ⟨n, rfl, rfl, rfl, wn⟩ := open_int Try.underlying3 (hval 0 3 v0 rfl rfl) h0
  have lt1 := Args.trod_below h1
  obtain ⟨b, rfl, rfl, rfl, wb⟩ := open_int Try.underlying3 (hval 1 3 v1 rfl rfl) h1
  have lt2 := Args.trod_below h2
  obtain ⟨hz, hv2, hh⟩ := Args.plain_in (ks := [some .i64, some .i64, some .i64, none, some .i64, some .i64]) Try.underlying24 (by kernel_rfl) (by kernel_rfl) (hval 2 24 v2 rfl rfl) h2
  obtain rfl : v2 = .agg #[.int .i64 (hz 0), .int .i64 (hz 1), .int .i64 (hz 2), .bool (hz 3 != 0), .int .i64 (hz 4), .int .i64 (hz 5)] := hv2
  clear hA0 hval0
  refine (walk n b (hz 0) (hz 1) (hz 2) (hz 3 != 0) (hz 4) (hz 5) W wn wb (hh 0) (hh 1) (hh 2) (hh 4) (hh 5)).mono fun e W' ⟨he, bel⟩ => ?_
  subst he
  exact ⟨_, rfl, _, _, _, [], _, [], hW', trodAll_mk1 (shut_bool Try.underlying4 _), trodAll_cons_mk (Below.trod Args.laidOut (by kernel_rfl) (of_decide_eq_true (by kernel_rfl)) h0 bel lt0) (trodAll_cons_mk (Below.trod Args.laidOut (by kernel_rfl) (of_decide_eq_true (by kernel_rfl)) h1 bel lt1) (trodAll_cons_mk (Below.trod Args.laidOut (by kernel_rfl) (of_decide_eq_true (by kernel_rfl)) h2 bel lt2) (trodAll_mk0))), rfl, bel.frame _, fun h => by cases h⟩

theorem over : Rows.headFitsRow.holds Try.pinned (OpenSpec.ofChange Rows.headFitsSpec) :=
  OpenClaim.holds_of_wide 7 Try.f7 rfl rfl rfl rfl rfl rfl rfl ⟨rfl, rfl, rfl, rfl, rfl⟩ rfl rfl rfl rfl rfl (by kernel_rfl) Try.func7 (by kernel_rfl)
    (of_decide_eq_true (by kernel_rfl)) (by unfold Func.isWrapper; rw [if_neg (of_decide_eq_false (by kernel_rfl))]; exact ⟨rfl, rfl⟩)
    (fun os started H enc _ => lifted os started H enc)

theorem proved : Rows.HeadFitsSaid :=
  over
end Go.Proofs.Ytggbchjbiifpoaa.headFits
