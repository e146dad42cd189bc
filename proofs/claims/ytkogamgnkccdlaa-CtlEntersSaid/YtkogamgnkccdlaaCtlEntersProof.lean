/-
  penfoldlaw03.CtlEnters returns true for every four integers and every byte; no condition.
-/
import Derived.Test.YtkogamgnkccdlaaRows
import Derived.Test.YtkogamgnkccdlaaArgs
import Derived.Test.YtkogamgnkccdlaaSt
namespace Go.Proofs.Ytkogamgnkccdlaa.ctlEnters
open Go.ChangeShapes Go.WideShapes Go.ChangeAt Go.RowKit
set_option linter.unusedVariables false

open Ctl

set_option maxRecDepth 100000 in
set_option maxHeartbeats 8000000 in
theorem walk (c0 c1 c2 c3 : Int) (n : Int) (w : World) (wc0 : (Lit.int .i64 c0).wf = true) (wc1 : (Lit.int .i64 c1).wf = true) (wc2 : (Lit.int .i64 c2).wf = true) (wc3 : (Lit.int .i64 c3).wf = true) (wn : (Lit.int .u8 n).wf = true) :
    Calls Try.prog 5 #[.agg #[.int .i64 c0, .int .i64 c1, .int .i64 c2, .int .i64 c3], .int .u8 n] w fun e w' => e = .returned (.bool true) ∧ Below w.heap.size w w' := by
  have ⟨n1, n2⟩ := bounds_u8 wn
  clear wn wc0 wc1 wc2 wc3
  obtain ⟨s, c, p, e, P, hx, px, ex, ux, p1, p2, p3, xb, fx⟩ := fit_all c0 c1 c2 c3
  have FX := Lib.hid fx
  have HX := Lib.hid hx
  clear fx px ex ux p1 p2 p3
  obtain ⟨b1, b2, b3, b4, b5, b6, b7, b8⟩ := xb
  obtain ⟨f, hf⟩ : ∃ f, n % 8 = f := ⟨_, rfl⟩
  have g1 : 0 ≤ f := by omega
  have g2 : f ≤ 7 := by omega
  rcases ent_cases s c p e f with ⟨hr, he⟩ | ⟨hr, hg, he⟩ | ⟨hr, f1, f2, rfl, he⟩ | ⟨hr, f1, f2, rfl, he⟩ | ⟨hr, f1, f2, rfl, he⟩ | ⟨hr, f1, f2, rfl, hp, he⟩ | ⟨hr, f1, f2, rfl, rfl, rfl, he⟩ | ⟨hr, f1, f2, rfl, rfl, hc1, hc2, he⟩
  · rw [hr] at hx; cases hx
  · omega
  · as_aux_lemma =>
      have HE := Lib.hid he
      clear he hr hx f1 f2
      go_enter Try.func5, Try.ntmps5
      have S0 := (St.start w).new c0 c1 c2 c3 23
      go_wp2_with fail
      refine (lift S0 (shown_any _)).mono ?_
      rintro z w1 ⟨rfl, S1⟩
      clear S0
      obtain ⟨qcl, qca, qcb, qcc, qcd⟩ := S1.get 0 rfl
      go_wp2_with fail
      refine (lift S1 (FX.out _)).mono ?_
      rintro z w2 ⟨rfl, S2⟩
      clear qcl qca qcb qcc qcd S1
      go_wp2_with fail
      refine (lift (S2.new 0 c p e 23) (enter_any _ _ _ _ _ _)).mono ?_
      rintro z w3 ⟨rfl, S3⟩
      rw [HE.out]
      clear S2
      obtain ⟨qxl, qxa, qxb, qxc, qxd⟩ := S3.get 0 rfl
      go_wp2
      go_ret
      exact ⟨rfl, (S3.alloc _).below⟩
  · as_aux_lemma =>
      have HE := Lib.hid he
      clear he hr hx f1 f2
      go_enter Try.func5, Try.ntmps5
      have S0 := (St.start w).new c0 c1 c2 c3 23
      go_wp2_with fail
      refine (lift S0 (shown_any _)).mono ?_
      rintro z w1 ⟨rfl, S1⟩
      clear S0
      obtain ⟨qcl, qca, qcb, qcc, qcd⟩ := S1.get 0 rfl
      go_wp2_with fail
      refine (lift S1 (FX.out _)).mono ?_
      rintro z w2 ⟨rfl, S2⟩
      clear qcl qca qcb qcc qcd S1
      go_wp2_with fail
      refine (lift (S2.new 3 c p e 23) (enter_any _ _ _ _ _ _)).mono ?_
      rintro z w3 ⟨rfl, S3⟩
      rw [HE.out]
      clear S2
      obtain ⟨qxl, qxa, qxb, qxc, qxd⟩ := S3.get 0 rfl
      go_wp2
      go_ret
      exact ⟨rfl, (S3.alloc _).below⟩
  · as_aux_lemma =>
      have HE := Lib.hid he
      clear he hr hx f1 f2
      have r1 : rightB 2 1 f e = true := decide_eq_true (by omega)
      have r2 : rightB 3 0 f e = true := decide_eq_true (by omega)
      have r3 : rightB 2 1 f e = true := decide_eq_true (by omega)
      have HL := Lib.hid (show leV 2 1 f e = ⟨3, 0, f, e, 0⟩ by unfold leV; rw [if_pos r1]; rfl)
      have HO := Lib.hid (show opV 3 0 f e = ⟨1, 0, -1, (e + 1) % 16777216, 0⟩ by unfold opV; rw [if_pos r2]; rfl)
      have HH := Lib.hid (show hoV 3 0 f e = ⟨2, 1, f, e, 0⟩ by unfold hoV; rw [if_pos r2]; rfl)
      have HY := Lib.hid (show opV 2 1 f e = ⟨0, 0, 0, 0, 11⟩ by unfold opV; rw [if_pos r1]; rfl)
      have HZ := Lib.hid (show entV 3 0 f e f = ⟨0, 0, 0, 0, 10⟩ by unfold entV; rw [if_pos ⟨r2, g1, g2⟩]; rfl)
      go_enter Try.func5, Try.ntmps5
      have S0 := (St.start w).new c0 c1 c2 c3 23
      go_wp2_with fail
      refine (lift S0 (shown_any _)).mono ?_
      rintro z w1 ⟨rfl, S1⟩
      clear S0
      obtain ⟨qcl, qca, qcb, qcc, qcd⟩ := S1.get 0 rfl
      go_wp2_with fail
      refine (lift S1 (FX.out _)).mono ?_
      rintro z w2 ⟨rfl, S2⟩
      clear qcl qca qcb qcc qcd S1
      go_wp2_with fail
      refine (lift (S2.new 1 c p e 23) (enter_any _ _ _ _ _ _)).mono ?_
      rintro z w3 ⟨rfl, S3⟩
      rw [HE.out]
      clear S2
      obtain ⟨qxl, qxa, qxb, qxc, qxd⟩ := S3.get 0 rfl
      go_wp2_with fail
      refine (lift (S3.new 2 1 f e 23) (leave_any _ _ _ _ _)).mono ?_
      rintro z w4 ⟨rfl, S4⟩
      rw [HL.out]
      clear qxl qxa qxb qxc qxd S3
      obtain ⟨qxl, qxa, qxb, qxc, qxd⟩ := S4.get 1 rfl
      obtain ⟨qyl, qya, qyb, qyc, qyd⟩ := S4.get 0 rfl
      go_wp2_with fail
      refine (lift (S4.new 3 0 f e 23) (right_any _ _ _ _ _)).mono ?_
      rintro z w5 ⟨rfl, S5⟩
      clear qxl qxa qxb qxc qxd qyl qya qyb qyc qyd S4
      obtain ⟨qxl, qxa, qxb, qxc, qxd⟩ := S5.get 2 rfl
      obtain ⟨qyl, qya, qyb, qyc, qyd⟩ := S5.get 1 rfl
      obtain ⟨qzl, qza, qzb, qzc, qzd⟩ := S5.get 0 rfl
      go_wp2_with fail
      refine (lift S5 (right_any _ _ _ _ _)).mono ?_
      rintro z w6 ⟨rfl, S6⟩
      clear qxl qxa qxb qxc qxd qyl qya qyb qyc qyd qzl qza qzb qzc qzd S5
      obtain ⟨qxl, qxa, qxb, qxc, qxd⟩ := S6.get 2 rfl
      obtain ⟨qyl, qya, qyb, qyc, qyd⟩ := S6.get 1 rfl
      obtain ⟨qzl, qza, qzb, qzc, qzd⟩ := S6.get 0 rfl
      go_wp2_with fail
      refine (lift S6 (open_any _ _ _ _ _)).mono ?_
      rintro z w7 ⟨rfl, S7⟩
      rw [HO.out]
      clear qxl qxa qxb qxc qxd qyl qya qyb qyc qyd qzl qza qzb qzc qzd S6
      obtain ⟨qxl, qxa, qxb, qxc, qxd⟩ := S7.get 2 rfl
      obtain ⟨qyl, qya, qyb, qyc, qyd⟩ := S7.get 1 rfl
      obtain ⟨qzl, qza, qzb, qzc, qzd⟩ := S7.get 0 rfl
      go_wp2_with fail
      refine (lift (S7.new 1 0 (-1) ((e + 1) % 16777216) 23) (hold_any _ _ _ _ _)).mono ?_
      rintro z w8 ⟨rfl, S8⟩
      rw [HH.out]
      clear qxl qxa qxb qxc qxd qyl qya qyb qyc qyd qzl qza qzb qzc qzd S7
      obtain ⟨qxl, qxa, qxb, qxc, qxd⟩ := S8.get 3 rfl
      obtain ⟨qyl, qya, qyb, qyc, qyd⟩ := S8.get 2 rfl
      obtain ⟨qzl, qza, qzb, qzc, qzd⟩ := S8.get 1 rfl
      obtain ⟨qol, qoa, qob, qoc, qod⟩ := S8.get 0 rfl
      go_wp2_with fail
      refine (lift (S8.new 2 1 f e 23) (open_any _ _ _ _ _)).mono ?_
      rintro z w9 ⟨rfl, S9⟩
      rw [HY.out]
      clear qxl qxa qxb qxc qxd qyl qya qyb qyc qyd qzl qza qzb qzc qzd qol qoa qob qoc qod S8
      obtain ⟨qxl, qxa, qxb, qxc, qxd⟩ := S9.get 4 rfl
      obtain ⟨qyl, qya, qyb, qyc, qyd⟩ := S9.get 3 rfl
      obtain ⟨qzl, qza, qzb, qzc, qzd⟩ := S9.get 2 rfl
      obtain ⟨qol, qoa, qob, qoc, qod⟩ := S9.get 1 rfl
      obtain ⟨qhl, qha, qhb, qhc, qhd⟩ := S9.get 0 rfl
      go_wp2_with fail
      refine (lift (S9.new 0 0 0 0 23) (enter_any _ _ _ _ _ _)).mono ?_
      rintro z w10 ⟨rfl, S10⟩
      rw [HZ.out]
      clear qxl qxa qxb qxc qxd qyl qya qyb qyc qyd qzl qza qzb qzc qzd qol qoa qob qoc qod qhl qha qhb qhc qhd S9
      obtain ⟨qxl, qxa, qxb, qxc, qxd⟩ := S10.get 5 rfl
      obtain ⟨qyl, qya, qyb, qyc, qyd⟩ := S10.get 4 rfl
      obtain ⟨qzl, qza, qzb, qzc, qzd⟩ := S10.get 3 rfl
      obtain ⟨qol, qoa, qob, qoc, qod⟩ := S10.get 2 rfl
      obtain ⟨qhl, qha, qhb, qhc, qhd⟩ := S10.get 1 rfl
      go_wp2
      go_ret
      exact ⟨rfl, (S10.alloc _).below⟩
  · as_aux_lemma =>
      have HE := Lib.hid he
      clear he hr hx f1 f2
      have tp : (p != f) = true := by simpa using hp
      clear hp
      go_enter Try.func5, Try.ntmps5
      have S0 := (St.start w).new c0 c1 c2 c3 23
      go_wp2_with fail
      refine (lift S0 (shown_any _)).mono ?_
      rintro z w1 ⟨rfl, S1⟩
      clear S0
      obtain ⟨qcl, qca, qcb, qcc, qcd⟩ := S1.get 0 rfl
      go_wp2_with fail
      refine (lift S1 (FX.out _)).mono ?_
      rintro z w2 ⟨rfl, S2⟩
      clear qcl qca qcb qcc qcd S1
      go_wp2_with fail
      refine (lift (S2.new 2 c p e 23) (enter_any _ _ _ _ _ _)).mono ?_
      rintro z w3 ⟨rfl, S3⟩
      rw [HE.out]
      clear S2
      obtain ⟨qxl, qxa, qxb, qxc, qxd⟩ := S3.get 0 rfl
      go_wp2
      go_ret
      exact ⟨rfl, (S3.alloc _).below⟩
  · as_aux_lemma =>
      have HE := Lib.hid he
      clear he hr hx f1 f2
      go_enter Try.func5, Try.ntmps5
      have S0 := (St.start w).new c0 c1 c2 c3 23
      go_wp2_with fail
      refine (lift S0 (shown_any _)).mono ?_
      rintro z w1 ⟨rfl, S1⟩
      clear S0
      obtain ⟨qcl, qca, qcb, qcc, qcd⟩ := S1.get 0 rfl
      go_wp2_with fail
      refine (lift S1 (FX.out _)).mono ?_
      rintro z w2 ⟨rfl, S2⟩
      clear qcl qca qcb qcc qcd S1
      go_wp2_with fail
      refine (lift (S2.new 2 7 p e 23) (enter_any _ _ _ _ _ _)).mono ?_
      rintro z w3 ⟨rfl, S3⟩
      rw [HE.out]
      clear S2
      obtain ⟨qxl, qxa, qxb, qxc, qxd⟩ := S3.get 0 rfl
      go_wp2
      go_ret
      exact ⟨rfl, (S3.alloc _).below⟩
  · as_aux_lemma =>
      have HE := Lib.hid he
      clear he hr hx f1 f2
      have r1 : rightB 2 (c + 1) p e = true := decide_eq_true (by omega)
      have r2 : rightB 2 c p e = true := decide_eq_true (by omega)
      have HL := Lib.hid (show leV 2 (c + 1) p e = ⟨2, c, p, e, 0⟩ by unfold leV; rw [if_pos r1, if_pos rfl, if_neg (by omega), show c + 1 - 1 = c by omega])
      go_enter Try.func5, Try.ntmps5
      have S0 := (St.start w).new c0 c1 c2 c3 23
      go_wp2_with fail
      refine (lift S0 (shown_any _)).mono ?_
      rintro z w1 ⟨rfl, S1⟩
      clear S0
      obtain ⟨qcl, qca, qcb, qcc, qcd⟩ := S1.get 0 rfl
      go_wp2_with fail
      refine (lift S1 (FX.out _)).mono ?_
      rintro z w2 ⟨rfl, S2⟩
      clear qcl qca qcb qcc qcd S1
      go_wp2_with fail
      refine (lift (S2.new 2 c p e 23) (enter_any _ _ _ _ _ _)).mono ?_
      rintro z w3 ⟨rfl, S3⟩
      rw [HE.out]
      clear S2
      obtain ⟨qxl, qxa, qxb, qxc, qxd⟩ := S3.get 0 rfl
      go_wp2_with fail
      refine (lift (S3.new 2 (c + 1) p e 23) (leave_any _ _ _ _ _)).mono ?_
      rintro z w4 ⟨rfl, S4⟩
      rw [HL.out]
      clear qxl qxa qxb qxc qxd S3
      obtain ⟨qxl, qxa, qxb, qxc, qxd⟩ := S4.get 1 rfl
      obtain ⟨qyl, qya, qyb, qyc, qyd⟩ := S4.get 0 rfl
      go_wp2_with fail
      refine (lift (S4.new 2 c p e 23) (right_any _ _ _ _ _)).mono ?_
      rintro z w5 ⟨rfl, S5⟩
      clear qxl qxa qxb qxc qxd qyl qya qyb qyc qyd S4
      obtain ⟨qxl, qxa, qxb, qxc, qxd⟩ := S5.get 2 rfl
      obtain ⟨qyl, qya, qyb, qyc, qyd⟩ := S5.get 1 rfl
      obtain ⟨qzl, qza, qzb, qzc, qzd⟩ := S5.get 0 rfl
      go_wp2_with fail
      refine (lift S5 (right_any _ _ _ _ _)).mono ?_
      rintro z w6 ⟨rfl, S6⟩
      clear qxl qxa qxb qxc qxd qyl qya qyb qyc qyd qzl qza qzb qzc qzd S5
      obtain ⟨qxl, qxa, qxb, qxc, qxd⟩ := S6.get 2 rfl
      obtain ⟨qyl, qya, qyb, qyc, qyd⟩ := S6.get 1 rfl
      obtain ⟨qzl, qza, qzb, qzc, qzd⟩ := S6.get 0 rfl
      go_wp2
      go_ret
      exact ⟨rfl, S6.below⟩

set_option maxRecDepth 100000 in
theorem lifted (os : Os) (started : os.Started) (H : Type) (enc : TypeId × Value → H) :
    ReturnsInHanded {} Try.checked os 5 .any (Rows.ctlEntersSpec.pre6 enc Try.prog Try.f5 Rows.ctlEntersRow.domain false) (Rows.ctlEntersSpec.post enc Try.prog Try.f5 false true false false) := by
  refine returnsInHanded_of_change (C := Try.checked) Args.own started (by kernel_rfl) Try.func5
    (ChangeSpec.witness6 (enc := enc) (C := Try.checked) false ⟨#[], #[.agg #[.int .i64 0, .int .i64 0, .int .i64 0, .int .i64 0], .int .u8 0], []⟩ 8 (by kernel_rfl) (by kernel_rfl) (by kernel_rfl) (by kernel_rfl)) ?_
  intro W base args ds gs before hval0 hW hcnd _
  have hval : ∀ (j : Nat) t v, Try.f5.params[j]? = some t → args[j]? = some v → Value.okWide Try.prog W .any base t v := hval0
  have hW' := hW
  obtain ⟨p, q, hA0, hV, rfl, hfz, hnd⟩ := hW
  have hA : DataW.TrodAll enc Try.prog W 0 (fun _ => true) true Try.f5.params.toList args.toList ds p := hA0
  rw [Try.params5] at hA hval
  obtain ⟨v0, vs0, d0, ds0, p0, q0, hargs, rfl, rfl, h0, r0⟩ := trodAll_cons hA
  obtain ⟨v1, vs1, d1, ds1, p1, q1, rfl, rfl, rfl, h1, r1⟩ := trodAll_cons r0
  obtain ⟨rfl, rfl, rfl⟩ := trodAll_nil r1
  obtain rfl : args = #[v0, v1] := by cases args; simp_all
  obtain ⟨rfl, rfl⟩ := trodVars_none hV
  have lt0 := Args.trod_below h0
  obtain ⟨cz, hv0, hc⟩ := Args.rec_in (ks := [.i64, .i64, .i64, .i64]) Try.underlying23 (by kernel_rfl) (by kernel_rfl) (hval 0 23 v0 rfl rfl) h0
  obtain rfl : v0 = .agg #[.int .i64 (cz 0), .int .i64 (cz 1), .int .i64 (cz 2), .int .i64 (cz 3)] := hv0
  have lt1 := Args.trod_below h1
  obtain ⟨n, rfl, rfl, rfl, wn⟩ := open_int Try.underlying5 (hval 1 5 v1 rfl rfl) h1
  clear hA0 hval0
  refine (walk (cz 0) (cz 1) (cz 2) (cz 3) n W (hc 0) (hc 1) (hc 2) (hc 3) wn).mono fun e W' ⟨he, bel⟩ => ?_
  subst he
  exact ⟨_, rfl, _, _, _, [], _, [], hW', trodAll_mk1 (shut_bool Try.underlying4 _), trodAll_cons_mk (Below.trod Args.laidOut (by kernel_rfl) (of_decide_eq_true (by kernel_rfl)) h0 bel lt0) (trodAll_cons_mk (Below.trod Args.laidOut (by kernel_rfl) (of_decide_eq_true (by kernel_rfl)) h1 bel lt1) (trodAll_mk0)), rfl, bel.frame _, fun h => by cases h⟩

theorem over : Rows.ctlEntersRow.holds Try.pinned (OpenSpec.ofChange Rows.ctlEntersSpec) :=
  OpenClaim.holds_of_wide 5 Try.f5 rfl rfl rfl rfl rfl rfl rfl ⟨rfl, rfl, rfl, rfl, rfl⟩ rfl rfl rfl rfl rfl (by kernel_rfl) Try.func5 (by kernel_rfl)
    (of_decide_eq_true (by kernel_rfl)) (by unfold Func.isWrapper; rw [if_neg (of_decide_eq_false (by kernel_rfl))]; exact ⟨rfl, rfl⟩)
    (fun os started H enc _ => lifted os started H enc)

theorem proved : Rows.CtlEntersSaid :=
  over
end Go.Proofs.Ytkogamgnkccdlaa.ctlEnters
