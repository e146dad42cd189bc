/-
  penfoldlaw03.CtlAll returns true for every four integers, every integer and every word of 64 bits; no condition.
-/
import Derived.Test.YtkogamgnkccdlaaRows
import Derived.Test.YtkogamgnkccdlaaArgs
import Derived.Test.YtkogamgnkccdlaaSt
namespace Go.Proofs.Ytkogamgnkccdlaa.ctlAll
open Go.ChangeShapes Go.WideShapes Go.ChangeAt Go.RowKit
set_option linter.unusedVariables false

open Ctl

set_option maxRecDepth 100000 in
set_option maxHeartbeats 8000000 in
theorem walk (c0 c1 c2 c3 : Int) (f : Int) (x : Int) (w : World) (wc0 : (Lit.int .i64 c0).wf = true) (wc1 : (Lit.int .i64 c1).wf = true) (wc2 : (Lit.int .i64 c2).wf = true) (wc3 : (Lit.int .i64 c3).wf = true) (wf : (Lit.int .i64 f).wf = true) (wx : (Lit.int .u64 x).wf = true) :
    Calls Try.prog 3 #[.agg #[.int .i64 c0, .int .i64 c1, .int .i64 c2, .int .i64 c3], .int .i64 f, .int .u64 x] w fun e w' => e = .returned (.bool true) ∧ Below w.heap.size w w' := by
  have ⟨x1, x2⟩ := bounds_u64 wx
  clear wx wf wc0 wc1 wc2 wc3
  go_enter Try.func3, Try.ntmps3
  have S0 := (St.start w).new c0 c1 c2 c3 23
  go_wp2_with fail
  refine (lift S0 (shown_any _)).mono ?_
  rintro z w1 ⟨rfl, S1⟩
  clear S0
  obtain ⟨qcl, qca, qcb, qcc, qcd⟩ := S1.get 0 rfl
  go_wp2_with fail
  refine (lift S1 (pack_any _ _ _ _ _)).mono ?_
  rintro z w2 ⟨rfl, S2⟩
  clear qcl qca qcb qcc qcd S1
  obtain ⟨qcl, qca, qcb, qcc, qcd⟩ := S2.get 0 rfl
  go_wp2_with fail
  refine (lift S2 (refpack_any _ _ _ _ _)).mono ?_
  rintro z w3 ⟨rfl, S3⟩
  clear qcl qca qcb qcc qcd S2
  go_wp2_with fail
  refine (lift S3 (unpack_any _ _ x1 x2)).mono ?_
  rintro z w4 ⟨rfl, S4⟩
  clear S3
  go_wp2_with fail
  refine (lift (S4.new (unV x).s (unV x).c (unV x).p (unV x).e 23) (refunpack_any _ _ x1 x2)).mono ?_
  rintro z w5 ⟨rfl, S5⟩
  clear S4
  go_wp2_with fail
  have R5 := (S5.new (unV x).s (unV x).c (unV x).p (unV x).e 23)
  generalize w5.alloc (.cells #[.int .i64 (unV x).s, .int .i64 (unV x).c, .int .i64 (unV x).p, .int .i64 (unV x).e] 23) = V5 at *
  clear S5
  have D5 := R5.drew
  obtain ⟨qcl, qca, qcb, qcc, qcd⟩ := R5.get 2 rfl
  obtain ⟨qpl, qpa, qpb, qpc, qpd⟩ := R5.get 1 rfl
  obtain ⟨qql, qqa, qqb, qqc, qqd⟩ := R5.get 0 rfl
  go_region_held3 (fun w' => w'.cell? ⟨w.heap.size, 0, none⟩ = some (.int .i64 c0) ∧ w'.cell? ⟨w.heap.size, 1, none⟩ = some (.int .i64 c1) ∧ w'.cell? ⟨w.heap.size, 2, none⟩ = some (.int .i64 c2) ∧ w'.cell? ⟨w.heap.size, 3, none⟩ = some (.int .i64 c3) ∧ w'.cell? ⟨w4.heap.size, 0, none⟩ = some (.int .i64 (unV x).s) ∧ w'.cell? ⟨w4.heap.size, 1, none⟩ = some (.int .i64 (unV x).c) ∧ w'.cell? ⟨w4.heap.size, 2, none⟩ = some (.int .i64 (unV x).p) ∧ w'.cell? ⟨w4.heap.size, 3, none⟩ = some (.int .i64 (unV x).e) ∧ w'.cell? ⟨w5.heap.size, 0, none⟩ = some (.int .i64 (unV x).s) ∧ w'.cell? ⟨w5.heap.size, 1, none⟩ = some (.int .i64 (unV x).c) ∧ w'.cell? ⟨w5.heap.size, 2, none⟩ = some (.int .i64 (unV x).p) ∧ w'.cell? ⟨w5.heap.size, 3, none⟩ = some (.int .i64 (unV x).e))
    (first | exact ⟨qca, qcb, qcc, qcd, qpa, qpb, qpc, qpd, qqa, qqb, qqc, qqd⟩ | exact ⟨r0ca, r0cb, r0cc, r0cd, r0pa, r0pb, r0pc, r0pd, r0qa, r0qb, r0qc, r0qd⟩ | exact ⟨r1ca, r1cb, r1cc, r1cd, r1pa, r1pb, r1pc, r1pd, r1qa, r1qb, r1qc, r1qd⟩)
    (first | (go_at_call 14; refine (lift (by assumption) (right_any _ _ _ _ _)).mono ?_; rintro z w6 ⟨rfl, S6⟩; have ⟨r0cl, r0ca, r0cb, r0cc, r0cd⟩ := S6.get 2 rfl; have ⟨r0pl, r0pa, r0pb, r0pc, r0pd⟩ := S6.get 1 rfl; have ⟨r0ql, r0qa, r0qb, r0qc, r0qd⟩ := S6.get 0 rfl) | (go_at_call 15; refine (lift (by assumption) (refright_any _ _ _ _ _)).mono ?_; rintro z w7 ⟨rfl, S7⟩; have ⟨r1cl, r1ca, r1cb, r1cc, r1cd⟩ := S7.get 2 rfl; have ⟨r1pl, r1pa, r1pb, r1pc, r1pd⟩ := S7.get 1 rfl; have ⟨r1ql, r1qa, r1qb, r1qc, r1qd⟩ := S7.get 0 rfl))
  go_wp2_with fail
  refine (lift S7 (enter_any _ _ _ _ _ _)).mono ?_
  rintro z w8 ⟨rfl, S8⟩
  clear qcl qca qcb qcc qcd qpl qpa qpb qpc qpd qql qqa qqb qqc qqd r0cl r0ca r0cb r0cc r0cd r0pl r0pa r0pb r0pc r0pd r0ql r0qa r0qb r0qc r0qd R5 D5 S6 S7
  obtain ⟨qcl, qca, qcb, qcc, qcd⟩ := S8.get 2 rfl
  go_wp2_with fail
  refine (lift (S8.new (entV c0 c1 c2 c3 f).s (entV c0 c1 c2 c3 f).c (entV c0 c1 c2 c3 f).p (entV c0 c1 c2 c3 f).e 23) (refenter_any _ _ _ _ _ _)).mono ?_
  rintro z w9 ⟨rfl, S9⟩
  clear qcl qca qcb qcc qcd S8
  obtain ⟨qcl, qca, qcb, qcc, qcd⟩ := S9.get 3 rfl
  go_wp2_with fail
  refine (lift (S9.new (entV c0 c1 c2 c3 f).s (entV c0 c1 c2 c3 f).c (entV c0 c1 c2 c3 f).p (entV c0 c1 c2 c3 f).e 23) (leave_any _ _ _ _ _)).mono ?_
  rintro z w10 ⟨rfl, S10⟩
  clear qcl qca qcb qcc qcd S9
  obtain ⟨qcl, qca, qcb, qcc, qcd⟩ := S10.get 4 rfl
  go_wp2_with fail
  refine (lift (S10.new (leV c0 c1 c2 c3).s (leV c0 c1 c2 c3).c (leV c0 c1 c2 c3).p (leV c0 c1 c2 c3).e 23) (refleave_any _ _ _ _ _)).mono ?_
  rintro z w11 ⟨rfl, S11⟩
  clear qcl qca qcb qcc qcd S10
  obtain ⟨qcl, qca, qcb, qcc, qcd⟩ := S11.get 5 rfl
  obtain ⟨qml, qma, qmb, qmc, qmd⟩ := S11.get 2 rfl
  obtain ⟨qnl, qna, qnb, qnc, qnd⟩ := S11.get 1 rfl
  obtain ⟨qyl, qya, qyb, qyc, qyd⟩ := S11.get 0 rfl
  go_wp2_with fail
  refine (lift (S11.new (leV c0 c1 c2 c3).s (leV c0 c1 c2 c3).c (leV c0 c1 c2 c3).p (leV c0 c1 c2 c3).e 23) (open_any _ _ _ _ _)).mono ?_
  rintro z w12 ⟨rfl, S12⟩
  clear qcl qca qcb qcc qcd qml qma qmb qmc qmd qnl qna qnb qnc qnd qyl qya qyb qyc qyd S11
  obtain ⟨qcl, qca, qcb, qcc, qcd⟩ := S12.get 6 rfl
  go_wp2_with fail
  refine (lift (S12.new (opV c0 c1 c2 c3).s (opV c0 c1 c2 c3).c (opV c0 c1 c2 c3).p (opV c0 c1 c2 c3).e 23) (refopen_any _ _ _ _ _)).mono ?_
  rintro z w13 ⟨rfl, S13⟩
  clear qcl qca qcb qcc qcd S12
  obtain ⟨qcl, qca, qcb, qcc, qcd⟩ := S13.get 7 rfl
  go_wp2_with fail
  refine (lift (S13.new (opV c0 c1 c2 c3).s (opV c0 c1 c2 c3).c (opV c0 c1 c2 c3).p (opV c0 c1 c2 c3).e 23) (hold_any _ _ _ _ _)).mono ?_
  rintro z w14 ⟨rfl, S14⟩
  clear qcl qca qcb qcc qcd S13
  obtain ⟨qcl, qca, qcb, qcc, qcd⟩ := S14.get 8 rfl
  go_wp2_with fail
  refine (lift (S14.new (hoV c0 c1 c2 c3).s (hoV c0 c1 c2 c3).c (hoV c0 c1 c2 c3).p (hoV c0 c1 c2 c3).e 23) (refhold_any _ _ _ _ _)).mono ?_
  rintro z w15 ⟨rfl, S15⟩
  clear qcl qca qcb qcc qcd S14
  obtain ⟨qrl, qra, qrb, qrc, qrd⟩ := S15.get 2 rfl
  obtain ⟨qsl, qsa, qsb, qsc, qsd⟩ := S15.get 1 rfl
  obtain ⟨qul, qua, qub, quc, qud⟩ := S15.get 0 rfl
  go_wp2
  go_ret
  exact ⟨rfl, (S15.alloc _).below⟩

set_option maxRecDepth 100000 in
theorem lifted (os : Os) (started : os.Started) (H : Type) (enc : TypeId × Value → H) :
    ReturnsInHanded {} Try.checked os 3 .any (Rows.ctlAllSpec.pre6 enc Try.prog Try.f3 Rows.ctlAllRow.domain false) (Rows.ctlAllSpec.post enc Try.prog Try.f3 false true false false) := by
  refine returnsInHanded_of_change (C := Try.checked) Args.own started (by kernel_rfl) Try.func3
    (ChangeSpec.witness6 (enc := enc) (C := Try.checked) false ⟨#[], #[.agg #[.int .i64 0, .int .i64 0, .int .i64 0, .int .i64 0], .int .i64 0, .int .u64 0], []⟩ 8 (by kernel_rfl) (by kernel_rfl) (by kernel_rfl) (by kernel_rfl)) ?_
  intro W base args ds gs before hval0 hW hcnd _
  have hval : ∀ (j : Nat) t v, Try.f3.params[j]? = some t → args[j]? = some v → Value.okWide Try.prog W .any base t v := hval0
  have hW' := hW
  obtain ⟨p, q, hA0, hV, rfl, hfz, hnd⟩ := hW
  have hA : DataW.TrodAll enc Try.prog W 0 (fun _ => true) true Try.f3.params.toList args.toList ds p := hA0
  rw [Try.params3] at hA hval
  obtain ⟨v0, vs0, d0, ds0, p0, q0, hargs, rfl, rfl, h0, r0⟩ := trodAll_cons hA
  obtain ⟨v1, vs1, d1, ds1, p1, q1, rfl, rfl, rfl, h1, r1⟩ := trodAll_cons r0
  obtain ⟨v2, vs2, d2, ds2, p2, q2, rfl, rfl, rfl, h2, r2⟩ := trodAll_cons r1
  obtain ⟨rfl, rfl, rfl⟩ := trodAll_nil r2
  obtain rfl : args = #[v0, v1, v2] := by cases args; simp_all
  obtain ⟨rfl, rfl⟩ := trodVars_none hV
  have lt0 := Args.trod_below h0
  obtain ⟨cz, hv0, hc⟩ := Args.rec_in (ks := [.i64, .i64, .i64, .i64]) Try.underlying23 (by kernel_rfl) (by kernel_rfl) (hval 0 23 v0 rfl rfl) h0
  obtain rfl : v0 = .agg #[.int .i64 (cz 0), .int .i64 (cz 1), .int .i64 (cz 2), .int .i64 (cz 3)] := hv0
  have lt1 := Args.trod_below h1
  obtain ⟨f, rfl, rfl, rfl, wf⟩ := open_int Try.underlying3 (hval 1 3 v1 rfl rfl) h1
  have lt2 := Args.trod_below h2
  obtain ⟨x, rfl, rfl, rfl, wx⟩ := open_int Try.underlying24 (hval 2 24 v2 rfl rfl) h2
  clear hA0 hval0
  refine (walk (cz 0) (cz 1) (cz 2) (cz 3) f x W (hc 0) (hc 1) (hc 2) (hc 3) wf wx).mono fun e W' ⟨he, bel⟩ => ?_
  subst he
  exact ⟨_, rfl, _, _, _, [], _, [], hW', trodAll_mk1 (shut_bool Try.underlying4 _), trodAll_cons_mk (Below.trod Args.laidOut (by kernel_rfl) (of_decide_eq_true (by kernel_rfl)) h0 bel lt0) (trodAll_cons_mk (Below.trod Args.laidOut (by kernel_rfl) (of_decide_eq_true (by kernel_rfl)) h1 bel lt1) (trodAll_cons_mk (Below.trod Args.laidOut (by kernel_rfl) (of_decide_eq_true (by kernel_rfl)) h2 bel lt2) (trodAll_mk0))), rfl, bel.frame _, fun h => by cases h⟩

theorem over : Rows.ctlAllRow.holds Try.pinned (OpenSpec.ofChange Rows.ctlAllSpec) :=
  OpenClaim.holds_of_wide 3 Try.f3 rfl rfl rfl rfl rfl rfl rfl ⟨rfl, rfl, rfl, rfl, rfl⟩ rfl rfl rfl rfl rfl (by kernel_rfl) Try.func3 (by kernel_rfl)
    (of_decide_eq_true (by kernel_rfl)) (by unfold Func.isWrapper; rw [if_neg (of_decide_eq_false (by kernel_rfl))]; exact ⟨rfl, rfl⟩)
    (fun os started H enc _ => lifted os started H enc)

theorem proved : Rows.CtlAllSaid :=
  over
end Go.Proofs.Ytkogamgnkccdlaa.ctlAll
