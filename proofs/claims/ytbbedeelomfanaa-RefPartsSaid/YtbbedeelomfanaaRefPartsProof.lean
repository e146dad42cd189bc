/-
  penfoldlaw06.RefParts returns true for every ref of three integers and every byte; no condition.
-/
import Derived.Test.YtbbedeelomfanaaRows
import Derived.Test.YtbbedeelomfanaaArgs
import Derived.Test.YtbbedeelomfanaaRefsC
namespace Go.Proofs.Ytbbedeelomfanaa.refParts
open Go.ChangeShapes Go.WideShapes Go.ChangeAt Go.RowKit
set_option linter.unusedVariables false

open Refs Held

theorem too_great {s e a : Int} (hr : rightB s e a = true) : rightB 8 e a = false ∧ rightB s 16777216 a = false ∧ rightB s e 65536 = false := by
  obtain ⟨b1, b2, b3, b4, b5, b6, b7⟩ := rbounds hr
  exact ⟨decide_eq_false (by omega), decide_eq_false (by omega), decide_eq_false (by omega)⟩
theorem stands {s e a : Int} (hr : rightB s e a = true) : (0 ≤ handle s e a ∧ handle s e a ≤ 18446744073709551615) ∧ (handle s e a % 16777216 == a / 8) = true ∧ (handle s e a / 16777216 % 256 == s) = true ∧ (handle s e a / 4294967296 == e) = true := by
  obtain ⟨b1, b2, b3, b4, b5, b6, b7⟩ := rbounds hr
  simp only [beq_iff_eq]
  unfold handle
  omega

set_option maxRecDepth 100000 in
set_option maxHeartbeats 8000000 in
theorem walk (r0 r1 r2 : Int) (n : Int) (w : World) (wr0 : (Lit.int .i64 r0).wf = true) (wr1 : (Lit.int .i64 r1).wf = true) (wr2 : (Lit.int .i64 r2).wf = true) (wn : (Lit.int .u8 n).wf = true) :
    Calls Try.prog 6 #[.agg #[.int .i64 r0, .int .i64 r1, .int .i64 r2], .int .u8 n] w fun e w' => e = .returned (.bool true) ∧ Below w.heap.size w w' := by
  have ⟨n1, n2⟩ := bounds_u8 wn
  clear wn wr0 wr1 wr2
  obtain ⟨s, e, a, hr, F⟩ := fit_all r0 r1 r2
  obtain ⟨g1, g2, g3⟩ := too_great hr
  obtain ⟨b1, b2, b3, b4, b5, b6, b7⟩ := rbounds hr
  obtain ⟨⟨t0, t1⟩, t2, t3, t4⟩ := stands hr
  have H : Hid (packV s e a = ⟨handle s e a, 0⟩) := Lib.hid (pack_yes hr)
  have G1 : Hid (packV 8 e a = ⟨0, 1⟩) := Lib.hid (pack_no g1)
  have G2 : Hid (packV s 16777216 a = ⟨0, 1⟩) := Lib.hid (pack_no g2)
  have G3 : Hid (packV s e 65536 = ⟨0, 1⟩) := Lib.hid (pack_no g3)
  clear hr g1 g2 g3
  generalize handle s e a = P at *
  rcases (show n % 3 = 0 ∨ n % 3 = 1 ∨ n % 3 = 2 by omega) with h | h | h
  · as_aux_lemma =>
      have m : (n % 3 == 0) = true := by simpa using h
      clear h
      go_enter Try.func6, Try.ntmps6
      have S0 := (St.start w).new [.int .i64 r0, .int .i64 r1, .int .i64 r2] 23
      go_wp2_with fail
      refine (lift S0 (shown_any _)).mono ?_
      rintro z w1 ⟨rfl, S1⟩
      clear S0
      obtain ⟨qrl, qr0, qr1, qr2⟩ := S1.get3 0 rfl
      go_wp2_with fail
      refine (lift S1 (F _)).mono ?_
      rintro z w2 ⟨rfl, S2⟩
      clear qrl qr0 qr1 qr2 S1
      have T2 := S2.new [.int .i64 s, .int .i64 e, .int .i64 a] 23
      clear S2
      have S2 := T2
      clear T2
      go_wp2_with fail
      refine (lift S2 (pack_any _ _ _ _)).mono ?_
      rintro z w3 ⟨rfl, S3⟩
      rw [H.out]
      clear S2
      obtain ⟨qxl, qx0, qx1, qx2⟩ := S3.get3 0 rfl
      go_wp2_with fail
      have T3 := S3.new [.int .i64 8, .int .i64 e, .int .i64 a] 23
      clear S3
      have S3 := T3
      clear T3
      refine (lift S3 (pack_any _ _ _ _)).mono ?_
      rintro z w4 ⟨rfl, S4⟩
      rw [G1.out]
      clear qxl qx0 qx1 qx2 S3
      obtain ⟨qxl, qx0, qx1, qx2⟩ := S4.get3 1 rfl
      go_wp2
      go_ret
      exact ⟨rfl, S4.below⟩
  · as_aux_lemma =>
      have m0 : (n % 3 == 0) = false := by simp; omega
      have m : (n % 3 == 1) = true := by simpa using h
      clear h
      go_enter Try.func6, Try.ntmps6
      have S0 := (St.start w).new [.int .i64 r0, .int .i64 r1, .int .i64 r2] 23
      go_wp2_with fail
      refine (lift S0 (shown_any _)).mono ?_
      rintro z w1 ⟨rfl, S1⟩
      clear S0
      obtain ⟨qrl, qr0, qr1, qr2⟩ := S1.get3 0 rfl
      go_wp2_with fail
      refine (lift S1 (F _)).mono ?_
      rintro z w2 ⟨rfl, S2⟩
      clear qrl qr0 qr1 qr2 S1
      have T2 := S2.new [.int .i64 s, .int .i64 e, .int .i64 a] 23
      clear S2
      have S2 := T2
      clear T2
      go_wp2_with fail
      refine (lift S2 (pack_any _ _ _ _)).mono ?_
      rintro z w3 ⟨rfl, S3⟩
      rw [H.out]
      clear S2
      obtain ⟨qxl, qx0, qx1, qx2⟩ := S3.get3 0 rfl
      go_wp2_with fail
      have T3 := S3.new [.int .i64 s, .int .i64 16777216, .int .i64 a] 23
      clear S3
      have S3 := T3
      clear T3
      refine (lift S3 (pack_any _ _ _ _)).mono ?_
      rintro z w4 ⟨rfl, S4⟩
      rw [G2.out]
      clear qxl qx0 qx1 qx2 S3
      obtain ⟨qxl, qx0, qx1, qx2⟩ := S4.get3 1 rfl
      go_wp2
      go_ret
      exact ⟨rfl, S4.below⟩
  · as_aux_lemma =>
      have m0 : (n % 3 == 0) = false := by simp; omega
      have m : (n % 3 == 1) = false := by simp; omega
      clear h
      go_enter Try.func6, Try.ntmps6
      have S0 := (St.start w).new [.int .i64 r0, .int .i64 r1, .int .i64 r2] 23
      go_wp2_with fail
      refine (lift S0 (shown_any _)).mono ?_
      rintro z w1 ⟨rfl, S1⟩
      clear S0
      obtain ⟨qrl, qr0, qr1, qr2⟩ := S1.get3 0 rfl
      go_wp2_with fail
      refine (lift S1 (F _)).mono ?_
      rintro z w2 ⟨rfl, S2⟩
      clear qrl qr0 qr1 qr2 S1
      have T2 := S2.new [.int .i64 s, .int .i64 e, .int .i64 a] 23
      clear S2
      have S2 := T2
      clear T2
      go_wp2_with fail
      refine (lift S2 (pack_any _ _ _ _)).mono ?_
      rintro z w3 ⟨rfl, S3⟩
      rw [H.out]
      clear S2
      obtain ⟨qxl, qx0, qx1, qx2⟩ := S3.get3 0 rfl
      go_wp2_with fail
      have T3 := S3.new [.int .i64 s, .int .i64 e, .int .i64 65536] 23
      clear S3
      have S3 := T3
      clear T3
      refine (lift S3 (pack_any _ _ _ _)).mono ?_
      rintro z w4 ⟨rfl, S4⟩
      rw [G3.out]
      clear qxl qx0 qx1 qx2 S3
      obtain ⟨qxl, qx0, qx1, qx2⟩ := S4.get3 1 rfl
      go_wp2
      go_ret
      exact ⟨rfl, S4.below⟩

set_option maxRecDepth 100000 in
theorem lifted (os : Os) (started : os.Started) (H : Type) (enc : TypeId × Value → H) :
    ReturnsInHanded {} Try.checked os 6 .any (Rows.refPartsSpec.pre6 enc Try.prog Try.f6 Rows.refPartsRow.domain false) (Rows.refPartsSpec.post enc Try.prog Try.f6 false true false false) := by
  refine returnsInHanded_of_change (C := Try.checked) Args.own started (by kernel_rfl) Try.func6
    (ChangeSpec.witness6 (enc := enc) (C := Try.checked) false ⟨#[], #[.agg #[.int .i64 0, .int .i64 0, .int .i64 0], .int .u8 0], []⟩ 8 (by kernel_rfl) (by kernel_rfl) (by kernel_rfl) (by kernel_rfl)) ?_
  intro W base args ds gs before hval0 hW hcnd _
  have hval : ∀ (j : Nat) t v, Try.f6.params[j]? = some t → args[j]? = some v → Value.okWide Try.prog W .any base t v := hval0
  have hW' := hW
  obtain ⟨p, q, hA0, hV, rfl, hfz, hnd⟩ := hW
  have hA : DataW.TrodAll enc Try.prog W 0 (fun _ => true) true Try.f6.params.toList args.toList ds p := hA0
  rw [Try.params6] at hA hval
  obtain ⟨v0, vs0, d0, ds0, p0, q0, hargs, rfl, rfl, h0, r0⟩ := trodAll_cons hA
  obtain ⟨v1, vs1, d1, ds1, p1, q1, rfl, rfl, rfl, h1, r1⟩ := trodAll_cons r0
  obtain ⟨rfl, rfl, rfl⟩ := trodAll_nil r1
  obtain rfl : args = #[v0, v1] := by cases args; simp_all
  obtain ⟨rfl, rfl⟩ := trodVars_none hV
  have lt0 := Args.trod_below h0
  obtain ⟨rz, hv0, hr⟩ := Args.rec_in (ks := [.i64, .i64, .i64]) Try.underlying23 (by kernel_rfl) (by kernel_rfl) (hval 0 23 v0 rfl rfl) h0
  obtain rfl : v0 = .agg #[.int .i64 (rz 0), .int .i64 (rz 1), .int .i64 (rz 2)] := hv0
  have lt1 := Args.trod_below h1
  obtain ⟨n, rfl, rfl, rfl, wn⟩ := open_int Try.underlying5 (hval 1 5 v1 rfl rfl) h1
  clear hA0 hval0
  refine (walk (rz 0) (rz 1) (rz 2) n W (hr 0) (hr 1) (hr 2) wn).mono fun e W' ⟨he, bel⟩ => ?_
  subst he
  exact ⟨_, rfl, _, _, _, [], _, [], hW', trodAll_mk1 (shut_bool Try.underlying4 _), trodAll_cons_mk (Below.trod Args.laidOut (by kernel_rfl) (of_decide_eq_true (by kernel_rfl)) h0 bel lt0) (trodAll_cons_mk (Below.trod Args.laidOut (by kernel_rfl) (of_decide_eq_true (by kernel_rfl)) h1 bel lt1) (trodAll_mk0)), rfl, bel.frame _, fun h => by cases h⟩

theorem over : Rows.refPartsRow.holds Try.pinned (OpenSpec.ofChange Rows.refPartsSpec) :=
  OpenClaim.holds_of_wide 6 Try.f6 rfl rfl rfl rfl rfl rfl rfl ⟨rfl, rfl, rfl, rfl, rfl⟩ rfl rfl rfl rfl rfl (by kernel_rfl) Try.func6 (by kernel_rfl)
    (of_decide_eq_true (by kernel_rfl)) (by unfold Func.isWrapper; rw [if_neg (of_decide_eq_false (by kernel_rfl))]; exact ⟨rfl, rfl⟩)
    (fun os started H enc _ => lifted os started H enc)

theorem proved : Rows.RefPartsSaid :=
  over
end Go.Proofs.Ytbbedeelomfanaa.refParts
