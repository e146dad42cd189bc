/-
  penfoldlaw07.HeadBack returns true for every two heads of five integers and a bool, every byte and every two words of 64 bits; no condition.
-/
import Derived.Test.YtggbchjbiifpoaaRows
import Derived.Test.YtggbchjbiifpoaaArgs
import Derived.Test.YtggbchjbiifpoaaArgsB
import Derived.Test.YtggbchjbiifpoaaTurned
import Derived.Deep.DeepCutAuto
namespace Go.Proofs.Ytggbchjbiifpoaa.headBack
open Go.ChangeShapes Go.WideShapes Go.ChangeAt Go.RowKit
set_option linter.unusedVariables false

open Heads Held

theorem mask_u8 (k : Nat) (c : Int) (h : 0 ≤ c) (h' : c ≤ 255) (hk : k ≤ 8 := by decide) : bits .and .u8 c (2 ^ k - 1) = c % 2 ^ k := by
  have := bits_mask .u8 8 (by decide) (fun n h₀ h₁ => by rw [IntKind.wrap_u8']; omega) k hk c h (by omega)
  simpa using this
/-- Other words tell another head, or none. -/
theorem un_other {s n t c e f g : Int} (d : Bool) (hr : rightB s n t c e = true) (f1 : 0 ≤ f) (f2 : f ≤ 18446744073709551615) (g1 : 0 ≤ g) (g2 : g ≤ 18446744073709551615) (h : ¬ (f = firstV s n t d ∧ g = secondV c e)) :
    ∃ os on ot od oc oe ok, unV f g = ⟨os, on, ot, od, oc, oe, ok⟩ ∧ (ok = 18 ∨ ok = 0 ∧ sameB os on ot od oc oe s n t d c e = false) := by
  obtain ⟨os, on, ot, od, oc, oe, ok, a, b, m, h1, h2, h3⟩ := un_all f g f1 f2 g1 g2
  refine ⟨os, on, ot, od, oc, oe, ok, h1, ?_⟩
  rcases h3 with ⟨rfl, rfl, rfl, rfl⟩ | rfl
  · refine .inr ⟨rfl, decide_eq_false ?_⟩
    rintro ⟨rfl, rfl, rfl, rfl, rfl, rfl⟩
    rw [pack_yes _ hr] at h2
    injection h2 with k1 k2 k3
    exact h ⟨k1.symm, k2.symm⟩
  · exact .inl rfl
/-- Two heads have the same words just if they are one. -/
theorem one_head {s n t c e s' n' t' c' e' : Int} (d d' : Bool) (hr : rightB s n t c e = true) (hr' : rightB s' n' t' c' e' = true) :
    (sameB s n t d c e s' n' t' d' c' e' = true ∧ (firstV s' n' t' d' == firstV s n t d) = true ∧ (secondV c' e' == secondV c e) = true) ∨
    (sameB s n t d c e s' n' t' d' c' e' = false ∧ (firstV s' n' t' d' == firstV s n t d) = false) ∨
    (sameB s n t d c e s' n' t' d' c' e' = false ∧ (firstV s' n' t' d' == firstV s n t d) = true ∧ (secondV c' e' == secondV c e) = false) := by
  by_cases h : s = s' ∧ n = n' ∧ t = t' ∧ d = d' ∧ c = c' ∧ e = e'
  · obtain ⟨rfl, rfl, rfl, rfl, rfl, rfl⟩ := h
    exact .inl ⟨decide_eq_true ⟨rfl, rfl, rfl, rfl, rfl, rfl⟩, by simp, by simp⟩
  · have hs : sameB s n t d c e s' n' t' d' c' e' = false := decide_eq_false h
    by_cases h1 : firstV s' n' t' d' = firstV s n t d
    · by_cases h2 : secondV c' e' = secondV c e
      · exfalso
        have u1 := un_back d hr
        have u2 := un_back d' hr'
        rw [h1, h2, u1] at u2
        injection u2 with k1 k2 k3 k4 k5 k6
        exact h ⟨k1, k2, k3, k4, k5, k6⟩
      · exact .inr (.inr ⟨hs, by simpa using h1, by simpa using h2⟩)
    · exact .inr (.inl ⟨hs, by simpa using h1⟩)
/-- Words that are not both the head's own. -/
def Turn (A B : Int) (V : World) (s13 s14 : Value) (wx : World) : Prop := ∃ f g : Int, s13 = .int .u64 f ∧ s14 = .int .u64 g ∧ 0 ≤ f ∧ f ≤ 18446744073709551615 ∧ 0 ≤ g ∧ g ≤ 18446744073709551615 ∧ ¬ (f = A ∧ g = B) ∧ V = wx

set_option maxRecDepth 100000 in
set_option maxHeartbeats 8000000 in
theorem walk (l0 : Int) (l1 : Int) (l2 : Int) (l3 : Bool) (l4 : Int) (l5 : Int) (l6 : Int) (l7 : Int) (l8 : Int) (l9 : Bool) (l10 : Int) (l11 : Int) (k : Int) (v0 v1 : Int) (w : World) (wl0 : (Lit.int .i64 l0).wf = true) (wl1 : (Lit.int .i64 l1).wf = true) (wl2 : (Lit.int .i64 l2).wf = true) (wl4 : (Lit.int .i64 l4).wf = true) (wl5 : (Lit.int .i64 l5).wf = true) (wl6 : (Lit.int .i64 l6).wf = true) (wl7 : (Lit.int .i64 l7).wf = true) (wl8 : (Lit.int .i64 l8).wf = true) (wl10 : (Lit.int .i64 l10).wf = true) (wl11 : (Lit.int .i64 l11).wf = true) (wk : (Lit.int .u8 k).wf = true) (wv0 : (Lit.int .u64 v0).wf = true) (wv1 : (Lit.int .u64 v1).wf = true) :
    Calls Try.prog 4 #[.agg #[.int .i64 l0, .int .i64 l1, .int .i64 l2, .bool l3, .int .i64 l4, .int .i64 l5, .int .i64 l6, .int .i64 l7, .int .i64 l8, .bool l9, .int .i64 l10, .int .i64 l11], .int .u8 k, .agg #[.int .u64 v0, .int .u64 v1]] w fun e w' => e = .returned (.bool true) ∧ Below w.heap.size w w' := by
  have ⟨k1, k2⟩ := bounds_u8 wk
  have ⟨f1, f2⟩ := bounds_u64 wv0
  have ⟨g1, g2⟩ := bounds_u64 wv1
  clear wl0 wl1 wl2 wl4 wl5 wl6 wl7 wl8 wl10 wl11 wk wv0 wv1
  obtain ⟨xs, xn, xt, xc, xe, xr, FX⟩ := fit_all l0 l1 l2 l3 l4 l5
  obtain ⟨ys, yn, yt, yc, ye, yr, FY⟩ := fit_all l6 l7 l8 l9 l10 l11
  have HX := Lib.hid (pack_yes l3 xr)
  have HY := Lib.hid (pack_yes l9 yr)
  have HB := Lib.hid (un_back l3 xr)
  obtain ⟨e1, e2, e3, e4, e5, e6, e7, a1, a2, b1, b2⟩ := words_parts l3 xr
  have HO : Hid _ := Lib.hid (fun f g => un_other (f := f) (g := g) l3 xr)
  obtain ⟨s, n, t, d, c, e, j, p, q, m, hu, hp, hc⟩ := un_all v0 v1 f1 f2 g1 g2
  have HU := Lib.hid hu
  have HP := Lib.hid hp
  have HC := Lib.hid hc
  have m1 := mask_u8 7 k k1 k2
  have m2 := mask_u8 6 k k1 k2
  simp only [Int.reducePow, Int.reduceSub] at m1 m2
  clear e1 e2 e3 e4 e5 e6 e7 hu hp hc
  have HQ := Lib.hid (one_head l3 l9 xr yr)
  clear xr yr
  generalize firstV xs xn xt l3 = A at *
  generalize secondV xc xe = B at *
  generalize firstV ys yn yt l9 = C at *
  generalize secondV yc ye = D at *
  have kl1 : 0 ≤ k % 64 := by omega
  have kl2 : k % 64 < 64 := by omega
  go_enter Try.func4, Try.ntmps4
  have S0 := ((St.start w).new [.int .i64 l0, .int .i64 l1, .int .i64 l2, .bool l3, .int .i64 l4, .int .i64 l5, .int .i64 l6, .int .i64 l7, .int .i64 l8, .bool l9, .int .i64 l10, .int .i64 l11] 37).new [.int .u64 v0, .int .u64 v1] 26
  simp only [World.size_alloc] at S0
  go_wp2_with fail
  refine (lift S0 (shown_any _)).mono ?_
  rintro z w1 ⟨rfl, S1⟩
  clear S0
  have Q := (S1.get 1 rfl).cell
  have q0 := Q 0 _ rfl
  have q1 := Q 1 _ rfl
  have q2 := Q 2 _ rfl
  have q3 := Q 3 _ rfl
  have q4 := Q 4 _ rfl
  have q5 := Q 5 _ rfl
  clear Q
  go_wp2_with fail
  refine (lift S1 (FX _)).mono ?_
  rintro z w2 ⟨rfl, S2⟩
  clear S1 q0 q1 q2 q3 q4 q5
  have ql := (S2.get 1 rfl).lt
  have Q := (S2.get 1 rfl).cell
  have q0 := Q 6 _ rfl
  have q1 := Q 7 _ rfl
  have q2 := Q 8 _ rfl
  have q3 := Q 9 _ rfl
  have q4 := Q 10 _ rfl
  have q5 := Q 11 _ rfl
  clear Q
  go_wp2_with fail
  refine (lift (S2.new [.int .i64 xs, .int .i64 xn, .int .i64 xt, .bool l3, .int .i64 xc, .int .i64 xe] 24) (FY _)).mono ?_
  rintro z w3 ⟨rfl, S3⟩
  clear S2 ql q0 q1 q2 q3 q4 q5
  obtain ⟨ql, q0, q1, q2, q3, q4, q5⟩ := S3.get6 0 rfl
  go_wp2_with fail
  refine (lift (S3.new [.int .i64 ys, .int .i64 yn, .int .i64 yt, .bool l9, .int .i64 yc, .int .i64 ye] 24) (pack_any _ _ _ _ _ _ _)).mono ?_
  rintro z w4 ⟨rfl, S4⟩
  rw [HX.out]
  clear S3 ql q0 q1 q2 q3 q4 q5
  obtain ⟨ql, q0, q1, q2, q3, q4, q5⟩ := S4.get6 0 rfl
  go_wp2_with fail
  refine (lift S4 (pack_any _ _ _ _ _ _ _)).mono ?_
  rintro z w5 ⟨rfl, S5⟩
  rw [HY.out]
  clear S4 ql q0 q1 q2 q3 q4 q5
  go_wp2_with fail
  refine (lift S5 (unpack_any _ _ _ (by omega) (by omega) (by omega) (by omega))).mono ?_
  rintro z w6 ⟨rfl, S6⟩
  rw [HB.out]
  clear S5
  have R6 := S6.new [.int .i64 xs, .int .i64 xn, .int .i64 xt, .bool l3, .int .i64 xc, .int .i64 xe] 24
  clear S6
  go_upto_if 55 with (fail)
  generalize w6.alloc (.cells #[.int .i64 xs, .int .i64 xn, .int .i64 xt, .bool l3, .int .i64 xc, .int .i64 xe] 24) = V6 at *
  go_cut [13, 14] (fun s13 s14 wx => Turn A B V6 s13 s14 wx)
  case first =>
    by_cases hk : k % 128 < 64
    · go_wp2_with fail
      go_meet
      have ⟨t1, t2, t3⟩ := turned_ne A (k % 64) kl1 kl2 a1 a2
      exact ⟨_, _, rfl, rfl, t2, t3, b1, b2, fun x => t1 x.1, rfl⟩
    · go_wp2_with fail
      go_meet
      have ⟨t1, t2, t3⟩ := turned_ne B (k % 64) kl1 kl2 b1 b2
      exact ⟨_, _, rfl, rfl, a1, a2, t2, t3, fun x => t1 x.2, rfl⟩
  case rest =>
    obtain ⟨f, g, rfl, rfl, p1, p2, p3, p4, hne, rfl⟩ := hcut
    obtain ⟨os, on, ot, od, oc, oe, ok, ho, hd⟩ := HO.out f g p1 p2 p3 p4 hne
    clear hne m1 m2 kl1 kl2
    have HH := Lib.hid ho
    have HD := Lib.hid hd
    clear ho hd
    go_wp2_with fail
    refine (lift R6 (unpack_any _ _ _ p1 p2 p3 p4)).mono ?_
    rintro z w7 ⟨rfl, S7⟩
    rw [HH.out]
    clear R6
    obtain ⟨ql, q0, q1⟩ := S7.get2 3 rfl
    go_wp2_with fail
    refine (lift (S7.new [.int .i64 os, .int .i64 on, .int .i64 ot, .bool od, .int .i64 oc, .int .i64 oe] 24) (unpack_any _ _ _ f1 f2 g1 g2)).mono ?_
    rintro z w8 ⟨rfl, S8⟩
    rw [HU.out]
    clear S7 ql q0 q1
    have T8 := S8.new [.int .i64 s, .int .i64 n, .int .i64 t, .bool d, .int .i64 c, .int .i64 e] 24
    clear S8
    go_wp2_with fail
    refine (lift T8 (pack_any _ _ _ _ _ _ _)).mono ?_
    rintro z w9 ⟨rfl, S9⟩
    rw [HP.out]
    clear T8
    obtain ⟨ql, q0, q1, q2, q3, q4, q5⟩ := S9.get6 3 rfl
    go_wp2_with fail
    refine (lift S9 (pack_any _ _ _ _ _ _ _)).mono ?_
    rintro z w10 ⟨rfl, S10⟩
    rw [HY.out]
    clear S9 ql q0 q1 q2 q3 q4 q5
    obtain ⟨xl, x0, x1, x2, x3, x4, x5⟩ := S10.get6 4 rfl
    obtain ⟨yl, y0, y1, y2, y3, y4, y5⟩ := S10.get6 3 rfl
    obtain ⟨zl, z0, z1, z2, z3, z4, z5⟩ := S10.get6 2 rfl
    obtain ⟨ol, o0, o1, o2, o3, o4, o5⟩ := S10.get6 1 rfl
    obtain ⟨vl, v_0, v_1⟩ := S10.get2 5 rfl
    have hd := HD.out
    have hc := HC.out
    have hq := HQ.out
    clear HX HY HB HO HU HP HC HQ HH HD FX FY
    have E0 := run_same xs xn xt l3 xc xe xs xn xt l3 xc xe
    rw [show sameB xs xn xt l3 xc xe xs xn xt l3 xc xe = true from decide_eq_true ⟨rfl, rfl, rfl, rfl, rfl, rfl⟩] at E0
    have E1 := run_same os on ot od oc oe xs xn xt l3 xc xe
    have E2 := run_same xs xn xt l3 xc xe ys yn yt l9 yc ye
    generalize sameB xs xn xt l3 xc xe ys yn yt l9 yc ye = XY at *
    generalize sameB os on ot od oc oe xs xn xt l3 xc xe = OX at *
    rcases hd with rfl | ⟨rfl, rfl⟩ <;> rcases hc with ⟨rfl, rfl, rfl, rfl⟩ | rfl <;> rcases hq with ⟨rfl, t1, t2⟩ | ⟨rfl, t1⟩ | ⟨rfl, t1, t2⟩
    all_goals
      as_aux_lemma =>
        go_wp2
        go_ret
        exact ⟨rfl, S10.below⟩

set_option maxRecDepth 100000 in
theorem lifted (os : Os) (started : os.Started) (H : Type) (enc : TypeId × Value → H) :
    ReturnsInHanded {} Try.checked os 4 .any (Rows.headBackSpec.pre6 enc Try.prog Try.f4 Rows.headBackRow.domain false) (Rows.headBackSpec.post enc Try.prog Try.f4 false true false false) := by
  refine returnsInHanded_of_change (C := Try.checked) Args.own started (by kernel_rfl) Try.func4
    (ChangeSpec.witness6 (enc := enc) (C := Try.checked) false ⟨#[], #[.agg #[.int .i64 0, .int .i64 0, .int .i64 0, .bool false, .int .i64 0, .int .i64 0, .int .i64 0, .int .i64 0, .int .i64 0, .bool false, .int .i64 0, .int .i64 0], .int .u8 0, .agg #[.int .u64 0, .int .u64 0]], []⟩ 8 (by kernel_rfl) (by kernel_rfl) (by kernel_rfl) (by kernel_rfl)) ?_
  intro W base args ds gs before hval0 hW hcnd _
  have hval : ∀ (j : Nat) t v, Try.f4.params[j]? = some t → args[j]? = some v → Value.okWide Try.prog W .any base t v := hval0
  have hW' := hW
  obtain ⟨p, q, hA0, hV, rfl, hfz, hnd⟩ := hW
  have hA : DataW.TrodAll enc Try.prog W 0 (fun _ => true) true Try.f4.params.toList args.toList ds p := hA0
  rw [Try.params4] at hA hval
  obtain ⟨v0, vs0, d0, ds0, p0, q0, hargs, rfl, rfl, h0, r0⟩ := trodAll_cons hA
  obtain ⟨v1, vs1, d1, ds1, p1, q1, rfl, rfl, rfl, h1, r1⟩ := trodAll_cons r0
  obtain ⟨v2, vs2, d2, ds2, p2, q2, rfl, rfl, rfl, h2, r2⟩ := trodAll_cons r1
  obtain ⟨rfl, rfl, rfl⟩ := trodAll_nil r2
  obtain rfl : args = #[v0, v1, v2] := by cases args; simp_all
  obtain ⟨rfl, rfl⟩ := trodVars_none hV
  have lt0 := Args.trod_below h0
  obtain ⟨lz, hv0, hl⟩ := Args.plains_in (m := 2) (e := 24) (ks := [some .i64, some .i64, some .i64, none, some .i64, some .i64]) (by kernel_rfl) Try.underlying24 (by kernel_rfl) (by kernel_rfl) (by kernel_rfl) (hval 0 37 v0 rfl rfl) h0
  obtain rfl : v0 = .agg #[.int .i64 (lz 0), .int .i64 (lz 1), .int .i64 (lz 2), .bool (lz 3 != 0), .int .i64 (lz 4), .int .i64 (lz 5), .int .i64 (lz 6), .int .i64 (lz 7), .int .i64 (lz 8), .bool (lz 9 != 0), .int .i64 (lz 10), .int .i64 (lz 11)] := hv0
  have lt1 := Args.trod_below h1
  obtain ⟨k, rfl, rfl, rfl, wk⟩ := open_int Try.underlying5 (hval 1 5 v1 rfl rfl) h1
  have lt2 := Args.trod_below h2
  obtain ⟨vz, hv2, hv⟩ := Args.arr_in (m := 2) (k := .u64) (e := 25) (by kernel_rfl) (by kernel_rfl) (by kernel_rfl) (by kernel_rfl) (hval 2 26 v2 rfl rfl) h2
  obtain rfl : v2 = .agg #[.int .u64 (vz 0), .int .u64 (vz 1)] := hv2.trans (by kernel_rfl)
  clear hA0 hval0
  refine (walk (lz 0) (lz 1) (lz 2) (lz 3 != 0) (lz 4) (lz 5) (lz 6) (lz 7) (lz 8) (lz 9 != 0) (lz 10) (lz 11) k (vz 0) (vz 1) W (hl 0) (hl 1) (hl 2) (hl 4) (hl 5) (hl 6) (hl 7) (hl 8) (hl 10) (hl 11) wk (hv 0) (hv 1)).mono fun e W' ⟨he, bel⟩ => ?_
  subst he
  exact ⟨_, rfl, _, _, _, [], _, [], hW', trodAll_mk1 (shut_bool Try.underlying4 _), trodAll_cons_mk (Below.trod Args.laidOut (by kernel_rfl) (of_decide_eq_true (by kernel_rfl)) h0 bel lt0) (trodAll_cons_mk (Below.trod Args.laidOut (by kernel_rfl) (of_decide_eq_true (by kernel_rfl)) h1 bel lt1) (trodAll_cons_mk (Below.trod Args.laidOut (by kernel_rfl) (of_decide_eq_true (by kernel_rfl)) h2 bel lt2) (trodAll_mk0))), rfl, bel.frame _, fun h => by cases h⟩

theorem over : Rows.headBackRow.holds Try.pinned (OpenSpec.ofChange Rows.headBackSpec) :=
  OpenClaim.holds_of_wide 4 Try.f4 rfl rfl rfl rfl rfl rfl rfl ⟨rfl, rfl, rfl, rfl, rfl⟩ rfl rfl rfl rfl rfl (by kernel_rfl) Try.func4 (by kernel_rfl)
    (of_decide_eq_true (by kernel_rfl)) (by unfold Func.isWrapper; rw [if_neg (of_decide_eq_false (by kernel_rfl))]; exact ⟨rfl, rfl⟩)
    (fun os started H enc _ => lifted os started H enc)

theorem proved : Rows.HeadBackSaid :=
  over
end Go.Proofs.Ytggbchjbiifpoaa.headBack
