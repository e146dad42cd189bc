/-
  penfoldlaw03.CtlParts returns true for every four integers and every byte; no condition.
-/
import Derived.Test.YtkogamgnkccdlaaRows
import Derived.Test.YtkogamgnkccdlaaArgs
import Derived.Test.YtkogamgnkccdlaaSt
namespace Go.Proofs.Ytkogamgnkccdlaa.ctlParts
open Go.ChangeShapes Go.WideShapes Go.ChangeAt Go.RowKit
set_option linter.unusedVariables false

open Ctl

set_option maxRecDepth 100000 in
set_option maxHeartbeats 8000000 in
theorem walk (c0 c1 c2 c3 : Int) (n : Int) (w : World) (wc0 : (Lit.int .i64 c0).wf = true) (wc1 : (Lit.int .i64 c1).wf = true) (wc2 : (Lit.int .i64 c2).wf = true) (wc3 : (Lit.int .i64 c3).wf = true) (wn : (Lit.int .u8 n).wf = true) :
    Calls Try.prog 6 #[.agg #[.int .i64 c0, .int .i64 c1, .int .i64 c2, .int .i64 c3], .int .u8 n] w fun e w' => e = .returned (.bool true) ∧ Below w.heap.size w w' := by
  have ⟨n1, n2⟩ := bounds_u8 wn
  clear wn wc0 wc1 wc2 wc3
  obtain ⟨s, c, p, e, P, hx, px, ex, ux, p1, p2, p3, xb, fx⟩ := fit_all c0 c1 c2 c3
  obtain ⟨b1, b2, b3, b4, b5, b6, b7, b8⟩ := xb
  have t1 : (P % 4 == s) = true := by simp; omega
  have t2 : (P / 4 % 256 == c) = true := by simp; omega
  have t3 : (P / 1024 % 256 == p + 1) = true := by simp; omega
  have t4 : (P / 262144 == e) = true := by simp; omega
  have hn : ¬ rightB s (8 + n) p e = true := fun h => by have := of_decide_eq_true (show decide _ = true from h); omega
  have PY := Lib.hid (show packV s (8 + n) p e = 0 by unfold packV; rw [if_neg hn])
  have EY := Lib.hid (show packE s (8 + n) p e = 1 by unfold packE; rw [if_neg hn])
  have FX := Lib.hid fx
  have PX := Lib.hid px
  have EX := Lib.hid ex
  clear fx px ex ux p3 hx hn
  go_enter Try.func6, Try.ntmps6
  have S0 := (St.start w).new c0 c1 c2 c3 23
  go_wp2_with fail
  refine (lift S0 (shown_any _)).mono ?_
  rintro z w1 ⟨rfl, S1⟩
  clear S0
  obtain ⟨qcl, qca, qcb, qcc, qcd⟩ := S1.get 0 rfl
  go_wp2_with fail
  refine (lift S1 (FX.out _)).mono ?_
  rintro z w2 ⟨rfl, S2⟩
  clear qcl qca qcb qcc qcd S1
  go_wp2_with fail
  refine (lift (S2.new s c p e 23) (pack_any _ _ _ _ _)).mono ?_
  rintro z w3 ⟨rfl, S3⟩
  rw [PX.out, EX.out]
  clear S2
  obtain ⟨qxl, qxa, qxb, qxc, qxd⟩ := S3.get 0 rfl
  go_wp2_with fail
  refine (lift (S3.new s (8 + n) p e 23) (pack_any _ _ _ _ _)).mono ?_
  rintro z w4 ⟨rfl, S4⟩
  rw [PY.out, EY.out]
  clear qxl qxa qxb qxc qxd S3
  obtain ⟨qxl, qxa, qxb, qxc, qxd⟩ := S4.get 1 rfl
  go_wp2
  go_ret
  exact ⟨rfl, S4.below⟩

set_option maxRecDepth 100000 in
theorem lifted (os : Os) (started : os.Started) (H : Type) (enc : TypeId × Value → H) :
    ReturnsInHanded {} Try.checked os 6 .any (Rows.ctlPartsSpec.pre6 enc Try.prog Try.f6 Rows.ctlPartsRow.domain false) (Rows.ctlPartsSpec.post enc Try.prog Try.f6 false true false false) := by
  refine returnsInHanded_of_change (C := Try.checked) Args.own started (by kernel_rfl) Try.func6
    (ChangeSpec.witness6 (enc := enc) (C := Try.checked) false ⟨#[], #[.agg #[.int .i64 0, .int .i64 0, .int .i64 0, .int .i64 0], .int .u8 0], []⟩ 8 (by kernel_rfl) (by kernel_rfl) (by kernel_rfl) (by kernel_rfl)) ?_
  intro W base args ds gs before hval0 hW hcnd _
  have hval : ∀ (j : Nat) t v, Try.f6.params[j]? = some t → args[j]? = some v → Value.okWide Try.prog W .any base t v := hval0
  have hW' := hW
  obtain ⟨p, q, hA0, hV, rfl, hfz, hnd⟩ := hW
  have hA : DataW.TrodAll enc Try.prog W 0 (fun _ => true) true Try.f6.params.toList args.toList ds p := hA0
  rw [Try.params6] at hA hval
  obtain ⟨v0, vs0, d0, ds0, p0, q0, hargs, rfl, rfl, h0, r0⟩ := trodAll_cons hA
  obtain ⟨v1, vs1, d1, ds1, p1, q1, rfl, rfl, rfl, h1, r1⟩ := trodAll_cons r0
  obtain ⟨rfl, rfl, rfl⟩ := trodAll_nil r1
  obtain rfl : args = #[v0, v1] := by cases args; simp_all
  obtain ⟨rfl, rfl⟩ := trodVars_none hV
  have lt0 := Args.trod_below h0
  obtain ⟨cz, hv0, hc⟩ := Args.rec_in (ks := [.i64, .i64, .i64, .i64]) Try.underlying23 (by kernel_rfl) (by kernel_rfl) (hval 0 23 v0 rfl rfl) h0
  obtain rfl : v0 = .agg #[.int .i64 (cz 0), .int .i64 (cz 1), .int .i64 (cz 2), .int .i64 (cz 3)] := hv0
  have lt1 := Args.trod_below h1
  obtain ⟨n, rfl, rfl, rfl, wn⟩ := open_int Try.underlying5 (hval 1 5 v1 rfl rfl) h1
  clear hA0 hval0
  refine (walk (cz 0) (cz 1) (cz 2) (cz 3) n W (hc 0) (hc 1) (hc 2) (hc 3) wn).mono fun e W' ⟨he, bel⟩ => ?_
  subst he
  exact ⟨_, rfl, _, _, _, [], _, [], hW', trodAll_mk1 (shut_bool Try.underlying4 _), trodAll_cons_mk (Below.trod Args.laidOut (by kernel_rfl) (of_decide_eq_true (by kernel_rfl)) h0 bel lt0) (trodAll_cons_mk (Below.trod Args.laidOut (by kernel_rfl) (of_decide_eq_true (by kernel_rfl)) h1 bel lt1) (trodAll_mk0)), rfl, bel.frame _, fun h => by cases h⟩

theorem over : Rows.ctlPartsRow.holds Try.pinned (OpenSpec.ofChange Rows.ctlPartsSpec) :=
  OpenClaim.holds_of_wide 6 Try.f6 rfl rfl rfl rfl rfl rfl rfl ⟨rfl, rfl, rfl, rfl, rfl⟩ rfl rfl rfl rfl rfl (by kernel_rfl) Try.func6 (by kernel_rfl)
    (of_decide_eq_true (by kernel_rfl)) (by unfold Func.isWrapper; rw [if_neg (of_decide_eq_false (by kernel_rfl))]; exact ⟨rfl, rfl⟩)
    (fun os started H enc _ => lifted os started H enc)

theorem proved : Rows.CtlPartsSaid :=
  over
end Go.Proofs.Ytkogamgnkccdlaa.ctlParts
