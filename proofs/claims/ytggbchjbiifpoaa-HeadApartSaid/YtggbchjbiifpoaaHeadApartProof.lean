/-
  penfoldlaw07.HeadApart returns true for every head of five integers and a bool, every ref of three integers and every two bytes; no condition.
-/
import Derived.Test.YtggbchjbiifpoaaRows
import Derived.Test.YtggbchjbiifpoaaArgs
import Derived.Test.YtggbchjbiifpoaaArgsB
import Derived.Test.YtggbchjbiifpoaaTurned
import Derived.Test.YtggbchjbiifpoaaR6
namespace Go.Proofs.Ytggbchjbiifpoaa.headApart
open Go.ChangeShapes Go.WideShapes Go.ChangeAt Go.RowKit
set_option linter.unusedVariables false

open Heads Held

/-- A word whose topmost byte is another is no head's first one. -/
theorem un_low {f g : Int} (h : f / 72057594037927936 ≠ 165) : unV f g = ⟨0, 0, 0, false, 0, 0, 18⟩ := un_no fun k => by
  unfold unB at k
  rw [Bool.and_eq_true] at k
  exact h (of_decide_eq_true k.1).1
theorem ref_high {f : Int} (h : f / 72057594037927936 = 165) : R6.unV f = ⟨0, 0, 0, 18⟩ := if_neg fun k => by
  have := R6.rbounds (show R6.rightB _ _ _ = true from k)
  omega
theorem more (n b : Int) (n1 : 0 ≤ n) (n2 : n ≤ 5) (b1 : 0 ≤ b) (b2 : b ≤ 255) : ∃ s t u : Int, wordsV n b = ⟨s, 0⟩ ∧ wordsV (n + 1) b = ⟨t, 0⟩ ∧ wordsV n (b + 8) = ⟨u, 0⟩ ∧ 0 ≤ s ∧ s ≤ 100 ∧ (t == s + 1) = true ∧ (u == s + 1) = true ∧ decide (2 + n ≤ s) = true := by
  refine ⟨_, _, _, if_pos (decide_eq_true (by omega)), if_pos (decide_eq_true (by omega)), if_pos (decide_eq_true (by omega)), by omega, by omega, ?_, ?_, decide_eq_true (by omega)⟩ <;> rw [beq_iff_eq] <;> omega

set_option maxRecDepth 100000 in
set_option maxHeartbeats 8000000 in
theorem walk (h0 : Int) (h1 : Int) (h2 : Int) (h3 : Bool) (h4 : Int) (h5 : Int) (r0 r1 r2 : Int) (n0 n1 : Int) (w : World) (wh0 : (Lit.int .i64 h0).wf = true) (wh1 : (Lit.int .i64 h1).wf = true) (wh2 : (Lit.int .i64 h2).wf = true) (wh4 : (Lit.int .i64 h4).wf = true) (wh5 : (Lit.int .i64 h5).wf = true) (wr0 : (Lit.int .i64 r0).wf = true) (wr1 : (Lit.int .i64 r1).wf = true) (wr2 : (Lit.int .i64 r2).wf = true) (wn0 : (Lit.int .u8 n0).wf = true) (wn1 : (Lit.int .u8 n1).wf = true) :
    Calls Try.prog 5 #[.agg #[.int .i64 h0, .int .i64 h1, .int .i64 h2, .bool h3, .int .i64 h4, .int .i64 h5], .agg #[.int .i64 r0, .int .i64 r1, .int .i64 r2], .agg #[.int .u8 n0, .int .u8 n1]] w fun e w' => e = .returned (.bool true) ∧ Below w.heap.size w w' := by
  have ⟨m1, m2⟩ := bounds_u8 wn0
  have ⟨m3, m4⟩ := bounds_u8 wn1
  clear wh0 wh1 wh2 wh4 wh5 wr0 wr1 wr2 wn0 wn1
  obtain ⟨xs, xn, xt, xc, xe, xr, FX⟩ := fit_all h0 h1 h2 h3 h4 h5
  obtain ⟨ys, ye, ya, yr, FY⟩ := R6.fit_all r0 r1 r2
  have HX := Lib.hid (pack_yes h3 xr)
  have HY := Lib.hid (R6.pack_yes yr)
  obtain ⟨e1, e2, e3, e4, e5, e6, e7, a1, a2, b1, b2⟩ := words_parts h3 xr
  have py : 0 ≤ R6.handle ys ye ya ∧ R6.handle ys ye ya < 72057594037927936 := by
    have := R6.rbounds yr
    unfold R6.handle
    omega
  clear e1 e2 e3 e4 e6 e7 xr yr
  generalize firstV xs xn xt h3 = A at *
  generalize secondV xc xe = B at *
  generalize R6.handle ys ye ya = C at *
  obtain ⟨p1, p2⟩ := py
  have T0 : (A != C) = true := by simp only [bne_iff_ne, ne_eq]; omega
  have HU := Lib.hid (un_low (f := C) (g := B) (by omega))
  have HZ := Lib.hid (un_low (f := 0) (g := B) (by decide))
  have HR := Lib.hid (ref_high (f := A) e5)
  obtain ⟨s, t, u, hs, ht, hu, s1, s2, T1, T2, T3⟩ := more (n0 % 6) n1 (by omega) (by omega) m3 m4
  have HA := Lib.hid hs
  have HB := Lib.hid ht
  have HC := Lib.hid hu
  have k1 : 0 ≤ n0 % 6 := by omega
  have k2 : n0 % 6 ≤ 5 := by omega
  clear e5 hs ht hu
  go_enter Try.func5, Try.ntmps5
  have S0 := (((St.start w).new [.int .i64 h0, .int .i64 h1, .int .i64 h2, .bool h3, .int .i64 h4, .int .i64 h5] 24).new [.int .i64 r0, .int .i64 r1, .int .i64 r2] 41).new [.int .u8 n0, .int .u8 n1] 42
  simp only [World.size_alloc] at S0
  go_wp2_with fail
  refine (lift S0 (shown_any _)).mono ?_
  rintro z w1 ⟨rfl, S1⟩
  clear S0
  obtain ⟨hl, h_0, h_1, h_2, h_3, h_4, h_5⟩ := S1.get6 2 rfl
  go_wp2_with fail
  refine (lift S1 (FX _)).mono ?_
  rintro z w2 ⟨rfl, S2⟩
  clear S1 hl h_0 h_1 h_2 h_3 h_4 h_5
  go_wp2_with fail
  refine (lift (S2.new [.int .i64 xs, .int .i64 xn, .int .i64 xt, .bool h3, .int .i64 xc, .int .i64 xe] 24) (pack_any _ _ _ _ _ _ _)).mono ?_
  rintro z w3 ⟨rfl, S3⟩
  rw [HX.out]
  clear S2
  obtain ⟨rl, r_0, r_1, r_2⟩ := S3.get3 2 rfl
  go_wp2_with fail
  refine (lift S3 (FY _)).mono ?_
  rintro z w4 ⟨rfl, S4⟩
  clear S3 rl r_0 r_1 r_2
  go_wp2_with fail
  refine (lift S4 (R6.refpack_any _ _ _ _)).mono ?_
  rintro z w5 ⟨rfl, S5⟩
  rw [HY.out]
  clear S4
  go_wp2_with fail
  refine (lift S5 (unpack_any _ _ _ (by omega) (by omega) (by omega) (by omega))).mono ?_
  rintro z w6 ⟨rfl, S6⟩
  rw [HU.out]
  clear S5
  go_wp2_with fail
  refine (lift (S6.new [.int .i64 0, .int .i64 0, .int .i64 0, .bool false, .int .i64 0, .int .i64 0] 24) (unpack_any _ _ _ (by omega) (by omega) (by omega) (by omega))).mono ?_
  rintro z w7 ⟨rfl, S7⟩
  rw [HZ.out]
  clear S6
  go_wp2_with fail
  refine (lift (S7.new [.int .i64 0, .int .i64 0, .int .i64 0, .bool false, .int .i64 0, .int .i64 0] 24) (R6.refunpack_any _ _ (by omega) (by omega))).mono ?_
  rintro z w8 ⟨rfl, S8⟩
  rw [HR.out]
  clear S7
  have R8 := S8.new [.int .i64 0, .int .i64 0, .int .i64 0] 41
  clear S8
  obtain ⟨nl, n_0, n_1⟩ := R8.get2 4 rfl
  go_wp2_with fail
  refine (words_any _ _ _).mono ?_
  rintro z w9 ⟨rfl, rfl⟩
  rw [HA.out]
  go_wp2_with fail
  refine (words_any _ _ _).mono ?_
  rintro z w9 ⟨rfl, rfl⟩
  rw [HB.out]
  go_wp2_with fail
  refine (words_any _ _ _).mono ?_
  rintro z w9 ⟨rfl, rfl⟩
  rw [HC.out]
  go_wp2
  go_ret
  exact ⟨rfl, R8.below⟩

set_option maxRecDepth 100000 in
theorem lifted (os : Os) (started : os.Started) (H : Type) (enc : TypeId × Value → H) :
    ReturnsInHanded {} Try.checked os 5 .any (Rows.headApartSpec.pre6 enc Try.prog Try.f5 Rows.headApartRow.domain false) (Rows.headApartSpec.post enc Try.prog Try.f5 false true false false) := by
  refine returnsInHanded_of_change (C := Try.checked) Args.own started (by kernel_rfl) Try.func5
    (ChangeSpec.witness6 (enc := enc) (C := Try.checked) false ⟨#[], #[.agg #[.int .i64 0, .int .i64 0, .int .i64 0, .bool false, .int .i64 0, .int .i64 0], .agg #[.int .i64 0, .int .i64 0, .int .i64 0], .agg #[.int .u8 0, .int .u8 0]], []⟩ 8 (by kernel_rfl) (by kernel_rfl) (by kernel_rfl) (by kernel_rfl)) ?_
  intro W base args ds gs before hval0 hW hcnd _
  have hval : ∀ (j : Nat) t v, Try.f5.params[j]? = some t → args[j]? = some v → Value.okWide Try.prog W .any base t v := hval0
  have hW' := hW
  obtain ⟨p, q, hA0, hV, rfl, hfz, hnd⟩ := hW
  have hA : DataW.TrodAll enc Try.prog W 0 (fun _ => true) true Try.f5.params.toList args.toList ds p := hA0
  rw [Try.params5] at hA hval
  obtain ⟨v0, vs0, d0, ds0, p0, q0, hargs, rfl, rfl, h0, r0⟩ := trodAll_cons hA
  obtain ⟨v1, vs1, d1, ds1, p1, q1, rfl, rfl, rfl, h1, r1⟩ := trodAll_cons r0
  obtain ⟨v2, vs2, d2, ds2, p2, q2, rfl, rfl, rfl, h2, r2⟩ := trodAll_cons r1
  obtain ⟨rfl, rfl, rfl⟩ := trodAll_nil r2
  obtain rfl : args = #[v0, v1, v2] := by cases args; simp_all
  obtain ⟨rfl, rfl⟩ := trodVars_none hV
  have lt0 := Args.trod_below h0
  obtain ⟨hz, hv0, hh⟩ := Args.plain_in (ks := [some .i64, some .i64, some .i64, none, some .i64, some .i64]) Try.underlying24 (by kernel_rfl) (by kernel_rfl) (hval 0 24 v0 rfl rfl) h0
  obtain rfl : v0 = .agg #[.int .i64 (hz 0), .int .i64 (hz 1), .int .i64 (hz 2), .bool (hz 3 != 0), .int .i64 (hz 4), .int .i64 (hz 5)] := hv0
  have lt1 := Args.trod_below h1
  obtain ⟨rz, hv1, hr⟩ := Args.rec_in (ks := [.i64, .i64, .i64]) Try.underlying41 (by kernel_rfl) (by kernel_rfl) (hval 1 41 v1 rfl rfl) h1
  obtain rfl : v1 = .agg #[.int .i64 (rz 0), .int .i64 (rz 1), .int .i64 (rz 2)] := hv1
  have lt2 := Args.trod_below h2
  obtain ⟨nz, hv2, hn⟩ := Args.arr_in (m := 2) (k := .u8) (e := 5) (by kernel_rfl) (by kernel_rfl) (by kernel_rfl) (by kernel_rfl) (hval 2 42 v2 rfl rfl) h2
  obtain rfl : v2 = .agg #[.int .u8 (nz 0), .int .u8 (nz 1)] := hv2.trans (by kernel_rfl)
  clear hA0 hval0
  refine (walk (hz 0) (hz 1) (hz 2) (hz 3 != 0) (hz 4) (hz 5) (rz 0) (rz 1) (rz 2) (nz 0) (nz 1) W (hh 0) (hh 1) (hh 2) (hh 4) (hh 5) (hr 0) (hr 1) (hr 2) (hn 0) (hn 1)).mono fun e W' ⟨he, bel⟩ => ?_
  subst he
  exact ⟨_, rfl, _, _, _, [], _, [], hW', trodAll_mk1 (shut_bool Try.underlying4 _), trodAll_cons_mk (Below.trod Args.laidOut (by kernel_rfl) (of_decide_eq_true (by kernel_rfl)) h0 bel lt0) (trodAll_cons_mk (Below.trod Args.laidOut (by kernel_rfl) (of_decide_eq_true (by kernel_rfl)) h1 bel lt1) (trodAll_cons_mk (Below.trod Args.laidOut (by kernel_rfl) (of_decide_eq_true (by kernel_rfl)) h2 bel lt2) (trodAll_mk0))), rfl, bel.frame _, fun h => by cases h⟩

theorem over : Rows.headApartRow.holds Try.pinned (OpenSpec.ofChange Rows.headApartSpec) :=
  OpenClaim.holds_of_wide 5 Try.f5 rfl rfl rfl rfl rfl rfl rfl ⟨rfl, rfl, rfl, rfl, rfl⟩ rfl rfl rfl rfl rfl (by kernel_rfl) Try.func5 (by kernel_rfl)
    (of_decide_eq_true (by kernel_rfl)) (by unfold Func.isWrapper; rw [if_neg (of_decide_eq_false (by kernel_rfl))]; exact ⟨rfl, rfl⟩)
    (fun os started H enc _ => lifted os started H enc)

theorem proved : Rows.HeadApartSaid :=
  over
end Go.Proofs.Ytggbchjbiifpoaa.headApart
