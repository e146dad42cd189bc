/-
  penfoldlaw06.RefAll returns true for every three integers (a ref) and every word of 64 bits; no condition.
-/
import Derived.Test.YtbbedeelomfanaaRows
import Derived.Test.YtbbedeelomfanaaArgs
import Derived.Test.YtbbedeelomfanaaRefsC
namespace Go.Proofs.Ytbbedeelomfanaa.refAll
open Go.ChangeShapes Go.WideShapes Go.ChangeAt Go.RowKit
set_option linter.unusedVariables false

open Refs Held

set_option maxRecDepth 100000 in
set_option maxHeartbeats 8000000 in
theorem walk (r0 r1 r2 : Int) (h : Int) (w : World) (wr0 : (Lit.int .i64 r0).wf = true) (wr1 : (Lit.int .i64 r1).wf = true) (wr2 : (Lit.int .i64 r2).wf = true) (wh : (Lit.int .u64 h).wf = true) :
    Calls Try.prog 3 #[.agg #[.int .i64 r0, .int .i64 r1, .int .i64 r2], .int .u64 h] w fun e w' => e = .returned (.bool true) ∧ Below w.heap.size w w' := by
  have ⟨h1, h2⟩ := bounds_u64 wh
  clear wh wr0 wr1 wr2
  go_enter Try.func3, Try.ntmps3
  have S0 := (St.start w).new [.int .i64 r0, .int .i64 r1, .int .i64 r2] 23
  go_wp2_with fail
  refine (lift S0 (shown_any _)).mono ?_
  rintro z w1 ⟨rfl, S1⟩
  clear S0
  obtain ⟨qrl, qr0, qr1, qr2⟩ := S1.get3 0 rfl
  go_wp2_with fail
  refine (lift S1 (pack_any _ _ _ _)).mono ?_
  rintro z w2 ⟨rfl, S2⟩
  clear qrl qr0 qr1 qr2 S1
  obtain ⟨qrl, qr0, qr1, qr2⟩ := S2.get3 0 rfl
  go_wp2_with fail
  refine (lift S2 (refpack_any _ _ _ _)).mono ?_
  rintro z w3 ⟨rfl, S3⟩
  clear qrl qr0 qr1 qr2 S2
  go_wp2_with fail
  refine (lift S3 (unpack_any _ _ h1 h2)).mono ?_
  rintro z w4 ⟨rfl, S4⟩
  clear S3
  go_wp2_with fail
  refine (lift (S4.new [.int .i64 ((unV h).s), .int .i64 ((unV h).e), .int .i64 ((unV h).a)] 23) (refunpack_any _ _ h1 h2)).mono ?_
  rintro z w5 ⟨rfl, S5⟩
  clear S4
  obtain ⟨qxl, qx0, qx1, qx2⟩ := S5.get3 0 rfl
  go_wp2
  go_ret
  exact ⟨rfl, (S5.new _ _).below⟩

set_option maxRecDepth 100000 in
theorem lifted (os : Os) (started : os.Started) (H : Type) (enc : TypeId × Value → H) :
    ReturnsInHanded {} Try.checked os 3 .any (Rows.refAllSpec.pre6 enc Try.prog Try.f3 Rows.refAllRow.domain false) (Rows.refAllSpec.post enc Try.prog Try.f3 false true false false) := by
  refine returnsInHanded_of_change (C := Try.checked) Args.own started (by kernel_rfl) Try.func3
    (ChangeSpec.witness6 (enc := enc) (C := Try.checked) false ⟨#[], #[.agg #[.int .i64 0, .int .i64 0, .int .i64 0], .int .u64 0], []⟩ 8 (by kernel_rfl) (by kernel_rfl) (by kernel_rfl) (by kernel_rfl)) ?_
  intro W base args ds gs before hval0 hW hcnd _
  have hval : ∀ (j : Nat) t v, Try.f3.params[j]? = some t → args[j]? = some v → Value.okWide Try.prog W .any base t v := hval0
  have hW' := hW
  obtain ⟨p, q, hA0, hV, rfl, hfz, hnd⟩ := hW
  have hA : DataW.TrodAll enc Try.prog W 0 (fun _ => true) true Try.f3.params.toList args.toList ds p := hA0
  rw [Try.params3] at hA hval
  obtain ⟨v0, vs0, d0, ds0, p0, q0, hargs, rfl, rfl, h0, r0⟩ := trodAll_cons hA
  obtain ⟨v1, vs1, d1, ds1, p1, q1, rfl, rfl, rfl, h1, r1⟩ := trodAll_cons r0
  obtain ⟨rfl, rfl, rfl⟩ := trodAll_nil r1
  obtain rfl : args = #[v0, v1] := by cases args; simp_all
  obtain ⟨rfl, rfl⟩ := trodVars_none hV
  have lt0 := Args.trod_below h0
  obtain ⟨rz, hv0, hr⟩ := Args.rec_in (ks := [.i64, .i64, .i64]) Try.underlying23 (by kernel_rfl) (by kernel_rfl) (hval 0 23 v0 rfl rfl) h0
  obtain rfl : v0 = .agg #[.int .i64 (rz 0), .int .i64 (rz 1), .int .i64 (rz 2)] := hv0
  have lt1 := Args.trod_below h1
  obtain ⟨h, rfl, rfl, rfl, wh⟩ := open_int Try.underlying24 (hval 1 24 v1 rfl rfl) h1
  clear hA0 hval0
  refine (walk (rz 0) (rz 1) (rz 2) h W (hr 0) (hr 1) (hr 2) wh).mono fun e W' ⟨he, bel⟩ => ?_
  subst he
  exact ⟨_, rfl, _, _, _, [], _, [], hW', trodAll_mk1 (shut_bool Try.underlying4 _), trodAll_cons_mk (Below.trod Args.laidOut (by kernel_rfl) (of_decide_eq_true (by kernel_rfl)) h0 bel lt0) (trodAll_cons_mk (Below.trod Args.laidOut (by kernel_rfl) (of_decide_eq_true (by kernel_rfl)) h1 bel lt1) (trodAll_mk0)), rfl, bel.frame _, fun h => by cases h⟩

theorem over : Rows.refAllRow.holds Try.pinned (OpenSpec.ofChange Rows.refAllSpec) :=
  OpenClaim.holds_of_wide 3 Try.f3 rfl rfl rfl rfl rfl rfl rfl ⟨rfl, rfl, rfl, rfl, rfl⟩ rfl rfl rfl rfl rfl (by kernel_rfl) Try.func3 (by kernel_rfl)
    (of_decide_eq_true (by kernel_rfl)) (by unfold Func.isWrapper; rw [if_neg (of_decide_eq_false (by kernel_rfl))]; exact ⟨rfl, rfl⟩)
    (fun os started H enc _ => lifted os started H enc)

theorem proved : Rows.RefAllSaid :=
  over
end Go.Proofs.Ytbbedeelomfanaa.refAll
