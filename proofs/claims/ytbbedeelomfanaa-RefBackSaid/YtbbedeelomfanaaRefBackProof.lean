/-
  penfoldlaw06.RefBack returns true for every two refs of three integers and every word of 64 bits; no condition.
-/
import Derived.Test.YtbbedeelomfanaaRows
import Derived.Test.YtbbedeelomfanaaArgs
import Derived.Test.YtbbedeelomfanaaRefsC
namespace Go.Proofs.Ytbbedeelomfanaa.refBack
open Go.ChangeShapes Go.WideShapes Go.ChangeAt Go.RowKit
set_option linter.unusedVariables false

open Refs Held

theorem un_back {s e a : Int} (hr : rightB s e a = true) : unV (handle s e a) = ⟨s, e, a, 0⟩ ∧ 0 < handle s e a ∧ handle s e a < 72057594037927936 := by
  obtain ⟨b1, b2, b3, b4, b5, b6, b7⟩ := rbounds hr
  have e1 : handle s e a / 16777216 % 256 = s := by unfold handle; omega
  have e2 : handle s e a / 4294967296 = e := by unfold handle; omega
  have e3 : 8 * (handle s e a % 16777216) = a := by unfold handle; omega
  refine ⟨?_, by unfold handle; omega, by unfold handle; omega⟩
  unfold unV unB
  rw [e1, e2, e3, if_pos hr]
theorem un_all (h : Int) (h1 : 0 ≤ h) : ∃ s e a k g m, unV h = ⟨s, e, a, k⟩ ∧ packV s e a = ⟨g, m⟩ ∧ (k = 0 ∧ m = 0 ∧ g = h ∨ k = 18 ∧ s = 0 ∧ e = 0 ∧ a = 0) := by
  rcases refun_parts h h1 with ⟨e1, e2, _⟩ | ⟨e1, _⟩
  · exact ⟨_, _, _, _, _, _, e1, e2, .inl ⟨rfl, rfl, rfl⟩⟩
  · exact ⟨_, _, _, _, _, _, e1, rfl, .inr ⟨rfl, rfl, rfl, rfl⟩⟩
theorem one_handle {s e a s' e' a' : Int} (hr : rightB s e a = true) (hr' : rightB s' e' a' = true) (h : handle s e a = handle s' e' a') : s = s' ∧ e = e' ∧ a = a' := by
  obtain ⟨b1, b2, b3, b4, b5, b6, b7⟩ := rbounds hr
  obtain ⟨c1, c2, c3, c4, c5, c6, c7⟩ := rbounds hr'
  unfold handle at h
  omega
theorem parts {s e a s' e' a' : Int} (hr : rightB s e a = true) (hr' : rightB s' e' a' = true) :
    ((handle s e a == handle s' e' a') = true ∧ (s == s') = true ∧ (e == e') = true ∧ (a == a') = true) ∨
    ((handle s e a == handle s' e' a') = false ∧ (s == s') = false) ∨
    ((handle s e a == handle s' e' a') = false ∧ (s == s') = true ∧ (e == e') = false) ∨
    ((handle s e a == handle s' e' a') = false ∧ (s == s') = true ∧ (e == e') = true ∧ (a == a') = false) := by
  by_cases h1 : s = s'
  · by_cases h2 : e = e'
    · by_cases h3 : a = a'
      · subst h1 h2 h3
        exact .inl ⟨by simp, by simp, by simp, by simp⟩
      · exact .inr (.inr (.inr ⟨by simp only [beq_eq_false_iff_ne, ne_eq]; exact fun k => h3 (one_handle hr hr' k).2.2, by simpa using h1, by simpa using h2, by simpa using h3⟩))
    · exact .inr (.inr (.inl ⟨by simp only [beq_eq_false_iff_ne, ne_eq]; exact fun k => h2 (one_handle hr hr' k).2.1, by simpa using h1, by simpa using h2⟩))
  · exact .inr (.inl ⟨by simp only [beq_eq_false_iff_ne, ne_eq]; exact fun k => h1 (one_handle hr hr' k).1, by simpa using h1⟩)

set_option maxRecDepth 100000 in
set_option maxHeartbeats 8000000 in
theorem walk (a0 a1 a2 : Int) (b0 b1 b2 : Int) (h : Int) (w : World) (wa0 : (Lit.int .i64 a0).wf = true) (wa1 : (Lit.int .i64 a1).wf = true) (wa2 : (Lit.int .i64 a2).wf = true) (wb0 : (Lit.int .i64 b0).wf = true) (wb1 : (Lit.int .i64 b1).wf = true) (wb2 : (Lit.int .i64 b2).wf = true) (wh : (Lit.int .u64 h).wf = true) :
    Calls Try.prog 4 #[.agg #[.int .i64 a0, .int .i64 a1, .int .i64 a2], .agg #[.int .i64 b0, .int .i64 b1, .int .i64 b2], .int .u64 h] w fun e w' => e = .returned (.bool true) ∧ Below w.heap.size w w' := by
  have ⟨h1, h2⟩ := bounds_u64 wh
  clear wh wa0 wa1 wa2 wb0 wb1 wb2
  obtain ⟨xs, xe, xa, xr, FX⟩ := fit_all a0 a1 a2
  obtain ⟨ys, ye, ya, yr, FY⟩ := fit_all b0 b1 b2
  obtain ⟨s, e, c, k, g, m, hu, hp, hc⟩ := un_all h h1
  have HX : Hid (packV xs xe xa = ⟨handle xs xe xa, 0⟩) := Lib.hid (pack_yes xr)
  have HY : Hid (packV ys ye ya = ⟨handle ys ye ya, 0⟩) := Lib.hid (pack_yes yr)
  obtain ⟨ux, p1, p2⟩ := un_back xr
  have HU := Lib.hid ux
  have HV := Lib.hid hu
  have HP := Lib.hid hp
  have hq := parts xr yr
  clear ux hu hp xr yr
  generalize handle xs xe xa = P at *
  generalize handle ys ye ya = Q at *
  go_enter Try.func4, Try.ntmps4
  have S0 := ((St.start w).new [.int .i64 a0, .int .i64 a1, .int .i64 a2] 23).new [.int .i64 b0, .int .i64 b1, .int .i64 b2] 23
  simp only [World.size_alloc] at S0
  go_wp2_with fail
  refine (lift S0 (shown_any _)).mono ?_
  rintro z w1 ⟨rfl, S1⟩
  clear S0
  obtain ⟨qal, qa0, qa1, qa2⟩ := S1.get3 1 rfl
  go_wp2_with fail
  refine (lift S1 (FX _)).mono ?_
  rintro z w2 ⟨rfl, S2⟩
  clear qal qa0 qa1 qa2 S1
  obtain ⟨qbl, qb0, qb1, qb2⟩ := S2.get3 0 rfl
  go_wp2_with fail
  refine (lift (S2.new [.int .i64 xs, .int .i64 xe, .int .i64 xa] 23) (FY _)).mono ?_
  rintro z w3 ⟨rfl, S3⟩
  clear qbl qb0 qb1 qb2 S2
  obtain ⟨qxl, qx0, qx1, qx2⟩ := S3.get3 0 rfl
  go_wp2_with fail
  refine (lift (S3.new [.int .i64 ys, .int .i64 ye, .int .i64 ya] 23) (pack_any _ _ _ _)).mono ?_
  rintro z w4 ⟨rfl, S4⟩
  rw [HX.out]
  clear qxl qx0 qx1 qx2 S3
  obtain ⟨qyl, qy0, qy1, qy2⟩ := S4.get3 0 rfl
  go_wp2_with fail
  refine (lift S4 (pack_any _ _ _ _)).mono ?_
  rintro z w5 ⟨rfl, S5⟩
  rw [HY.out]
  clear qyl qy0 qy1 qy2 S4
  go_wp2_with fail
  refine (lift S5 (unpack_any _ _ (by omega) (by omega))).mono ?_
  rintro z w6 ⟨rfl, S6⟩
  rw [HU.out]
  clear S5
  go_wp2_with fail
  refine (lift (S6.new [.int .i64 xs, .int .i64 xe, .int .i64 xa] 23) (unpack_any _ _ h1 h2)).mono ?_
  rintro z w7 ⟨rfl, S7⟩
  rw [HV.out]
  clear S6
  go_wp2_with fail
  refine (lift (S7.new [.int .i64 s, .int .i64 e, .int .i64 c] 23) (pack_any _ _ _ _)).mono ?_
  rintro z w8 ⟨rfl, S8⟩
  rw [HP.out]
  clear S7
  obtain ⟨qxl, qx0, qx1, qx2⟩ := S8.get3 3 rfl
  obtain ⟨qyl, qy0, qy1, qy2⟩ := S8.get3 2 rfl
  obtain ⟨qzl, qz0, qz1, qz2⟩ := S8.get3 1 rfl
  obtain ⟨qrl, qr0, qr1, qr2⟩ := S8.get3 0 rfl
  clear HX HY HU HV HP FX FY
  rcases hq with ⟨t0, t1, t2, t3⟩ | ⟨t0, t1⟩ | ⟨t0, t1, t2⟩ | ⟨t0, t1, t2, t3⟩ <;> rcases hc with ⟨rfl, rfl, rfl⟩ | ⟨rfl, rfl, rfl, rfl⟩
  all_goals
    as_aux_lemma =>
      go_wp2
      go_ret
      exact ⟨rfl, S8.below⟩

set_option maxRecDepth 100000 in
theorem lifted (os : Os) (started : os.Started) (H : Type) (enc : TypeId × Value → H) :
    ReturnsInHanded {} Try.checked os 4 .any (Rows.refBackSpec.pre6 enc Try.prog Try.f4 Rows.refBackRow.domain false) (Rows.refBackSpec.post enc Try.prog Try.f4 false true false false) := by
  refine returnsInHanded_of_change (C := Try.checked) Args.own started (by kernel_rfl) Try.func4
    (ChangeSpec.witness6 (enc := enc) (C := Try.checked) false ⟨#[], #[.agg #[.int .i64 0, .int .i64 0, .int .i64 0], .agg #[.int .i64 0, .int .i64 0, .int .i64 0], .int .u64 0], []⟩ 8 (by kernel_rfl) (by kernel_rfl) (by kernel_rfl) (by kernel_rfl)) ?_
  intro W base args ds gs before hval0 hW hcnd _
  have hval : ∀ (j : Nat) t v, Try.f4.params[j]? = some t → args[j]? = some v → Value.okWide Try.prog W .any base t v := hval0
  have hW' := hW
  obtain ⟨p, q, hA0, hV, rfl, hfz, hnd⟩ := hW
  have hA : DataW.TrodAll enc Try.prog W 0 (fun _ => true) true Try.f4.params.toList args.toList ds p := hA0
  rw [Try.params4] at hA hval
  obtain ⟨v0, vs0, d0, ds0, p0, q0, hargs, rfl, rfl, h0, r0⟩ := trodAll_cons hA
  obtain ⟨v1, vs1, d1, ds1, p1, q1, rfl, rfl, rfl, h1, r1⟩ := trodAll_cons r0
  obtain ⟨v2, vs2, d2, ds2, p2, q2, rfl, rfl, rfl, h2, r2⟩ := trodAll_cons r1
  obtain ⟨rfl, rfl, rfl⟩ := trodAll_nil r2
  obtain rfl : args = #[v0, v1, v2] := by cases args; simp_all
  obtain ⟨rfl, rfl⟩ := trodVars_none hV
  have lt0 := Args.trod_below h0
  obtain ⟨az, hv0, ha⟩ := Args.rec_in (ks := [.i64, .i64, .i64]) Try.underlying23 (by kernel_rfl) (by kernel_rfl) (hval 0 23 v0 rfl rfl) h0
  obtain rfl : v0 = .agg #[.int .i64 (az 0), .int .i64 (az 1), .int .i64 (az 2)] := hv0
  have lt1 := Args.trod_below h1
  obtain ⟨bz, hv1, hb⟩ := Args.rec_in (ks := [.i64, .i64, .i64]) Try.underlying23 (by kernel_rfl) (by kernel_rfl) (hval 1 23 v1 rfl rfl) h1
  obtain rfl : v1 = .agg #[.int .i64 (bz 0), .int .i64 (bz 1), .int .i64 (bz 2)] := hv1
  have lt2 := Args.trod_below h2
  obtain ⟨h, rfl, rfl, rfl, wh⟩ := open_int Try.underlying24 (hval 2 24 v2 rfl rfl) h2
  clear hA0 hval0
  refine (walk (az 0) (az 1) (az 2) (bz 0) (bz 1) (bz 2) h W (ha 0) (ha 1) (ha 2) (hb 0) (hb 1) (hb 2) wh).mono fun e W' ⟨he, bel⟩ => ?_
  subst he
  exact ⟨_, rfl, _, _, _, [], _, [], hW', trodAll_mk1 (shut_bool Try.underlying4 _), trodAll_cons_mk (Below.trod Args.laidOut (by kernel_rfl) (of_decide_eq_true (by kernel_rfl)) h0 bel lt0) (trodAll_cons_mk (Below.trod Args.laidOut (by kernel_rfl) (of_decide_eq_true (by kernel_rfl)) h1 bel lt1) (trodAll_cons_mk (Below.trod Args.laidOut (by kernel_rfl) (of_decide_eq_true (by kernel_rfl)) h2 bel lt2) (trodAll_mk0))), rfl, bel.frame _, fun h => by cases h⟩

theorem over : Rows.refBackRow.holds Try.pinned (OpenSpec.ofChange Rows.refBackSpec) :=
  OpenClaim.holds_of_wide 4 Try.f4 rfl rfl rfl rfl rfl rfl rfl ⟨rfl, rfl, rfl, rfl, rfl⟩ rfl rfl rfl rfl rfl (by kernel_rfl) Try.func4 (by kernel_rfl)
    (of_decide_eq_true (by kernel_rfl)) (by unfold Func.isWrapper; rw [if_neg (of_decide_eq_false (by kernel_rfl))]; exact ⟨rfl, rfl⟩)
    (fun os started H enc _ => lifted os started H enc)

theorem proved : Rows.RefBackSaid :=
  over
end Go.Proofs.Ytbbedeelomfanaa.refBack
