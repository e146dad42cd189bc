/-
  penfoldlaw03.CtlBack returns true for every eight integers and every word of 64 bits; no condition.
-/
import Derived.Test.YtkogamgnkccdlaaRows
import Derived.Test.YtkogamgnkccdlaaArgs
import Derived.Test.YtkogamgnkccdlaaSt
namespace Go.Proofs.Ytkogamgnkccdlaa.ctlBack
open Go.ChangeShapes Go.WideShapes Go.ChangeAt Go.RowKit
set_option linter.unusedVariables false

open Ctl

set_option maxRecDepth 100000 in
set_option maxHeartbeats 8000000 in
theorem walk (a0 a1 a2 a3 : Int) (b0 b1 b2 b3 : Int) (x : Int) (w : World) (wa0 : (Lit.int .i64 a0).wf = true) (wa1 : (Lit.int .i64 a1).wf = true) (wa2 : (Lit.int .i64 a2).wf = true) (wa3 : (Lit.int .i64 a3).wf = true) (wb0 : (Lit.int .i64 b0).wf = true) (wb1 : (Lit.int .i64 b1).wf = true) (wb2 : (Lit.int .i64 b2).wf = true) (wb3 : (Lit.int .i64 b3).wf = true) (wx : (Lit.int .u64 x).wf = true) :
    Calls Try.prog 4 #[.agg #[.int .i64 a0, .int .i64 a1, .int .i64 a2, .int .i64 a3], .agg #[.int .i64 b0, .int .i64 b1, .int .i64 b2, .int .i64 b3], .int .u64 x] w fun e w' => e = .returned (.bool true) ∧ Below w.heap.size w w' := by
  have ⟨x1, x2⟩ := bounds_u64 wx
  clear wx wa0 wa1 wa2 wa3 wb0 wb1 wb2 wb3
  obtain ⟨xs, xc, xp, xe, P, hx, px, ex, ux, p1, p2, p3, xb, fx⟩ := fit_all a0 a1 a2 a3
  obtain ⟨ys, yc, yp, ye, Q, hy, py, ey, uy, q1, q2, q3, yb, fy⟩ := fit_all b0 b1 b2 b3
  have FX := Lib.hid fx
  have PX := Lib.hid px
  have EX := Lib.hid ex
  have UX := Lib.hid ux
  clear fx px ex ux
  by_cases hs : xs = ys ∧ xc = yc ∧ xp = yp ∧ xe = ye
  · obtain ⟨rfl, rfl, rfl, rfl⟩ := hs
    have FY := Lib.hid fy
    clear fy py ey uy q1 q2 q3 yb hy hx p3 xb
    rcases un_all x x1 x2 with ⟨s, c, p, e, uw, pc, ec, hr⟩ | uw
    · as_aux_lemma =>
        have UW := Lib.hid uw
        have PC := Lib.hid pc
        have EC := Lib.hid ec
        clear uw pc ec
        go_enter Try.func4, Try.ntmps4
        have S0 := St.two w a0 a1 a2 a3 b0 b1 b2 b3 23
        go_wp2_with fail
        refine (lift S0 (shown_any _)).mono ?_
        rintro z w1 ⟨rfl, S1⟩
        clear S0
        obtain ⟨qal, qaa, qab, qac, qad⟩ := S1.get 1 rfl
        go_wp2_with fail
        refine (lift S1 (FX.out _)).mono ?_
        rintro z w2 ⟨rfl, S2⟩
        clear qal qaa qab qac qad S1
        obtain ⟨qbl, qba, qbb, qbc, qbd⟩ := S2.get 0 rfl
        go_wp2_with fail
        refine (lift (S2.new xs xc xp xe 23) (FY.out _)).mono ?_
        rintro z w3 ⟨rfl, S3⟩
        clear qbl qba qbb qbc qbd S2
        obtain ⟨qxl, qxa, qxb, qxc, qxd⟩ := S3.get 0 rfl
        go_wp2_with fail
        refine (lift (S3.new xs xc xp xe 23) (pack_any _ _ _ _ _)).mono ?_
        rintro z w4 ⟨rfl, S4⟩
        rw [PX.out, EX.out]
        clear qxl qxa qxb qxc qxd S3
        obtain ⟨qyl, qya, qyb, qyc, qyd⟩ := S4.get 0 rfl
        go_wp2_with fail
        refine (lift S4 (pack_any _ _ _ _ _)).mono ?_
        rintro z w5 ⟨rfl, S5⟩
        rw [PX.out, EX.out]
        clear qyl qya qyb qyc qyd S4
        go_wp2_with fail
        refine (lift S5 (unpack_any _ _ p1 (by omega))).mono ?_
        rintro z w6 ⟨rfl, S6⟩
        rw [UX.out]
        clear S5
        go_wp2_with fail
        refine (lift (S6.new xs xc xp xe 23) (unpack_any _ _ x1 x2)).mono ?_
        rintro z w7 ⟨rfl, S7⟩
        rw [UW.out]
        clear S6
        go_wp2_with fail
        refine (lift (S7.new s c p e 23) (pack_any _ _ _ _ _)).mono ?_
        rintro z w8 ⟨rfl, S8⟩
        rw [PC.out, EC.out]
        clear S7
        obtain ⟨qxl, qxa, qxb, qxc, qxd⟩ := S8.get 3 rfl
        obtain ⟨qyl, qya, qyb, qyc, qyd⟩ := S8.get 2 rfl
        obtain ⟨qkl, qka, qkb, qkc, qkd⟩ := S8.get 1 rfl
        obtain ⟨qcl, qca, qcb, qcc, qcd⟩ := S8.get 0 rfl
        go_wp2_with (go_at_call 14; refine (lift S8 (right_any _ _ _ _ _)).mono ?_; rintro z w9 ⟨rfl, S9⟩)
        go_ret
        exact ⟨rfl, S9.below⟩
    · as_aux_lemma =>
        have UW := Lib.hid uw
        have PC := Lib.hid (show packV 0 0 0 0 = 0 by decide)
        have EC := Lib.hid (show packE 0 0 0 0 = 1 by decide)
        clear uw
        go_enter Try.func4, Try.ntmps4
        have S0 := St.two w a0 a1 a2 a3 b0 b1 b2 b3 23
        go_wp2_with fail
        refine (lift S0 (shown_any _)).mono ?_
        rintro z w1 ⟨rfl, S1⟩
        clear S0
        obtain ⟨qal, qaa, qab, qac, qad⟩ := S1.get 1 rfl
        go_wp2_with fail
        refine (lift S1 (FX.out _)).mono ?_
        rintro z w2 ⟨rfl, S2⟩
        clear qal qaa qab qac qad S1
        obtain ⟨qbl, qba, qbb, qbc, qbd⟩ := S2.get 0 rfl
        go_wp2_with fail
        refine (lift (S2.new xs xc xp xe 23) (FY.out _)).mono ?_
        rintro z w3 ⟨rfl, S3⟩
        clear qbl qba qbb qbc qbd S2
        obtain ⟨qxl, qxa, qxb, qxc, qxd⟩ := S3.get 0 rfl
        go_wp2_with fail
        refine (lift (S3.new xs xc xp xe 23) (pack_any _ _ _ _ _)).mono ?_
        rintro z w4 ⟨rfl, S4⟩
        rw [PX.out, EX.out]
        clear qxl qxa qxb qxc qxd S3
        obtain ⟨qyl, qya, qyb, qyc, qyd⟩ := S4.get 0 rfl
        go_wp2_with fail
        refine (lift S4 (pack_any _ _ _ _ _)).mono ?_
        rintro z w5 ⟨rfl, S5⟩
        rw [PX.out, EX.out]
        clear qyl qya qyb qyc qyd S4
        go_wp2_with fail
        refine (lift S5 (unpack_any _ _ p1 (by omega))).mono ?_
        rintro z w6 ⟨rfl, S6⟩
        rw [UX.out]
        clear S5
        go_wp2_with fail
        refine (lift (S6.new xs xc xp xe 23) (unpack_any _ _ x1 x2)).mono ?_
        rintro z w7 ⟨rfl, S7⟩
        rw [UW.out]
        clear S6
        go_wp2_with fail
        refine (lift (S7.new 0 0 0 0 23) (pack_any _ _ _ _ _)).mono ?_
        rintro z w8 ⟨rfl, S8⟩
        rw [PC.out, EC.out]
        clear S7
        obtain ⟨qxl, qxa, qxb, qxc, qxd⟩ := S8.get 3 rfl
        obtain ⟨qyl, qya, qyb, qyc, qyd⟩ := S8.get 2 rfl
        obtain ⟨qkl, qka, qkb, qkc, qkd⟩ := S8.get 1 rfl
        obtain ⟨qcl, qca, qcb, qcc, qcd⟩ := S8.get 0 rfl
        go_wp2
        go_ret
        exact ⟨rfl, S8.below⟩
  · have hne : ¬ P = Q := by omega
    have tp : (P == Q) = false := by simpa using hne
    have FY := Lib.hid fy
    have PY := Lib.hid py
    have EY := Lib.hid ey
    have HS := Lib.hid hs
    clear fy py ey uy q1 q2 q3 yb hy hx p3 xb hne hs
    rcases un_all x x1 x2 with ⟨s, c, p, e, uw, pc, ec, hr⟩ | uw
    · as_aux_lemma =>
        have UW := Lib.hid uw
        have PC := Lib.hid pc
        have EC := Lib.hid ec
        clear uw pc ec
        go_enter Try.func4, Try.ntmps4
        have S0 := St.two w a0 a1 a2 a3 b0 b1 b2 b3 23
        go_wp2_with fail
        refine (lift S0 (shown_any _)).mono ?_
        rintro z w1 ⟨rfl, S1⟩
        clear S0
        obtain ⟨qal, qaa, qab, qac, qad⟩ := S1.get 1 rfl
        go_wp2_with fail
        refine (lift S1 (FX.out _)).mono ?_
        rintro z w2 ⟨rfl, S2⟩
        clear qal qaa qab qac qad S1
        obtain ⟨qbl, qba, qbb, qbc, qbd⟩ := S2.get 0 rfl
        go_wp2_with fail
        refine (lift (S2.new xs xc xp xe 23) (FY.out _)).mono ?_
        rintro z w3 ⟨rfl, S3⟩
        clear qbl qba qbb qbc qbd S2
        obtain ⟨qxl, qxa, qxb, qxc, qxd⟩ := S3.get 0 rfl
        go_wp2_with fail
        refine (lift (S3.new ys yc yp ye 23) (pack_any _ _ _ _ _)).mono ?_
        rintro z w4 ⟨rfl, S4⟩
        rw [PX.out, EX.out]
        clear qxl qxa qxb qxc qxd S3
        obtain ⟨qyl, qya, qyb, qyc, qyd⟩ := S4.get 0 rfl
        go_wp2_with fail
        refine (lift S4 (pack_any _ _ _ _ _)).mono ?_
        rintro z w5 ⟨rfl, S5⟩
        rw [PY.out, EY.out]
        clear qyl qya qyb qyc qyd S4
        go_wp2_with fail
        refine (lift S5 (unpack_any _ _ p1 (by omega))).mono ?_
        rintro z w6 ⟨rfl, S6⟩
        rw [UX.out]
        clear S5
        go_wp2_with fail
        refine (lift (S6.new xs xc xp xe 23) (unpack_any _ _ x1 x2)).mono ?_
        rintro z w7 ⟨rfl, S7⟩
        rw [UW.out]
        clear S6
        go_wp2_with fail
        refine (lift (S7.new s c p e 23) (pack_any _ _ _ _ _)).mono ?_
        rintro z w8 ⟨rfl, S8⟩
        rw [PC.out, EC.out]
        clear S7
        obtain ⟨qxl, qxa, qxb, qxc, qxd⟩ := S8.get 3 rfl
        obtain ⟨qyl, qya, qyb, qyc, qyd⟩ := S8.get 2 rfl
        obtain ⟨qkl, qka, qkb, qkc, qkd⟩ := S8.get 1 rfl
        obtain ⟨qcl, qca, qcb, qcc, qcd⟩ := S8.get 0 rfl
        go_wp2_with (go_at_call 14; refine (lift S8 (right_any _ _ _ _ _)).mono ?_; rintro z w9 ⟨rfl, S9⟩)
        all_goals first
          | exact (HS.out ⟨by assumption, by assumption, by assumption, by assumption⟩).elim
          | (go_ret; exact ⟨rfl, S9.below⟩)
    · as_aux_lemma =>
        have UW := Lib.hid uw
        have PC := Lib.hid (show packV 0 0 0 0 = 0 by decide)
        have EC := Lib.hid (show packE 0 0 0 0 = 1 by decide)
        clear uw
        go_enter Try.func4, Try.ntmps4
        have S0 := St.two w a0 a1 a2 a3 b0 b1 b2 b3 23
        go_wp2_with fail
        refine (lift S0 (shown_any _)).mono ?_
        rintro z w1 ⟨rfl, S1⟩
        clear S0
        obtain ⟨qal, qaa, qab, qac, qad⟩ := S1.get 1 rfl
        go_wp2_with fail
        refine (lift S1 (FX.out _)).mono ?_
        rintro z w2 ⟨rfl, S2⟩
        clear qal qaa qab qac qad S1
        obtain ⟨qbl, qba, qbb, qbc, qbd⟩ := S2.get 0 rfl
        go_wp2_with fail
        refine (lift (S2.new xs xc xp xe 23) (FY.out _)).mono ?_
        rintro z w3 ⟨rfl, S3⟩
        clear qbl qba qbb qbc qbd S2
        obtain ⟨qxl, qxa, qxb, qxc, qxd⟩ := S3.get 0 rfl
        go_wp2_with fail
        refine (lift (S3.new ys yc yp ye 23) (pack_any _ _ _ _ _)).mono ?_
        rintro z w4 ⟨rfl, S4⟩
        rw [PX.out, EX.out]
        clear qxl qxa qxb qxc qxd S3
        obtain ⟨qyl, qya, qyb, qyc, qyd⟩ := S4.get 0 rfl
        go_wp2_with fail
        refine (lift S4 (pack_any _ _ _ _ _)).mono ?_
        rintro z w5 ⟨rfl, S5⟩
        rw [PY.out, EY.out]
        clear qyl qya qyb qyc qyd S4
        go_wp2_with fail
        refine (lift S5 (unpack_any _ _ p1 (by omega))).mono ?_
        rintro z w6 ⟨rfl, S6⟩
        rw [UX.out]
        clear S5
        go_wp2_with fail
        refine (lift (S6.new xs xc xp xe 23) (unpack_any _ _ x1 x2)).mono ?_
        rintro z w7 ⟨rfl, S7⟩
        rw [UW.out]
        clear S6
        go_wp2_with fail
        refine (lift (S7.new 0 0 0 0 23) (pack_any _ _ _ _ _)).mono ?_
        rintro z w8 ⟨rfl, S8⟩
        rw [PC.out, EC.out]
        clear S7
        obtain ⟨qxl, qxa, qxb, qxc, qxd⟩ := S8.get 3 rfl
        obtain ⟨qyl, qya, qyb, qyc, qyd⟩ := S8.get 2 rfl
        obtain ⟨qkl, qka, qkb, qkc, qkd⟩ := S8.get 1 rfl
        obtain ⟨qcl, qca, qcb, qcc, qcd⟩ := S8.get 0 rfl
        go_wp2
        all_goals first
          | exact (HS.out ⟨by assumption, by assumption, by assumption, by assumption⟩).elim
          | (go_ret; exact ⟨rfl, S8.below⟩)

set_option maxRecDepth 100000 in
theorem lifted (os : Os) (started : os.Started) (H : Type) (enc : TypeId × Value → H) :
    ReturnsInHanded {} Try.checked os 4 .any (Rows.ctlBackSpec.pre6 enc Try.prog Try.f4 Rows.ctlBackRow.domain false) (Rows.ctlBackSpec.post enc Try.prog Try.f4 false true false false) := by
  refine returnsInHanded_of_change (C := Try.checked) Args.own started (by kernel_rfl) Try.func4
    (ChangeSpec.witness6 (enc := enc) (C := Try.checked) false ⟨#[], #[.agg #[.int .i64 0, .int .i64 0, .int .i64 0, .int .i64 0], .agg #[.int .i64 0, .int .i64 0, .int .i64 0, .int .i64 0], .int .u64 0], []⟩ 8 (by kernel_rfl) (by kernel_rfl) (by kernel_rfl) (by kernel_rfl)) ?_
  intro W base args ds gs before hval0 hW hcnd _
  have hval : ∀ (j : Nat) t v, Try.f4.params[j]? = some t → args[j]? = some v → Value.okWide Try.prog W .any base t v := hval0
  have hW' := hW
  obtain ⟨p, q, hA0, hV, rfl, hfz, hnd⟩ := hW
  have hA : DataW.TrodAll enc Try.prog W 0 (fun _ => true) true Try.f4.params.toList args.toList ds p := hA0
  rw [Try.params4] at hA hval
  obtain ⟨v0, vs0, d0, ds0, p0, q0, hargs, rfl, rfl, h0, r0⟩ := trodAll_cons hA
  obtain ⟨v1, vs1, d1, ds1, p1, q1, rfl, rfl, rfl, h1, r1⟩ := trodAll_cons r0
  obtain ⟨v2, vs2, d2, ds2, p2, q2, rfl, rfl, rfl, h2, r2⟩ := trodAll_cons r1
  obtain ⟨rfl, rfl, rfl⟩ := trodAll_nil r2
  obtain rfl : args = #[v0, v1, v2] := by cases args; simp_all
  obtain ⟨rfl, rfl⟩ := trodVars_none hV
  have lt0 := Args.trod_below h0
  obtain ⟨az, hv0, ha⟩ := Args.rec_in (ks := [.i64, .i64, .i64, .i64]) Try.underlying23 (by kernel_rfl) (by kernel_rfl) (hval 0 23 v0 rfl rfl) h0
  obtain rfl : v0 = .agg #[.int .i64 (az 0), .int .i64 (az 1), .int .i64 (az 2), .int .i64 (az 3)] := hv0
  have lt1 := Args.trod_below h1
  obtain ⟨bz, hv1, hb⟩ := Args.rec_in (ks := [.i64, .i64, .i64, .i64]) Try.underlying23 (by kernel_rfl) (by kernel_rfl) (hval 1 23 v1 rfl rfl) h1
  obtain rfl : v1 = .agg #[.int .i64 (bz 0), .int .i64 (bz 1), .int .i64 (bz 2), .int .i64 (bz 3)] := hv1
  have lt2 := Args.trod_below h2
  obtain ⟨x, rfl, rfl, rfl, wx⟩ := open_int Try.underlying24 (hval 2 24 v2 rfl rfl) h2
  clear hA0 hval0
  refine (walk (az 0) (az 1) (az 2) (az 3) (bz 0) (bz 1) (bz 2) (bz 3) x W (ha 0) (ha 1) (ha 2) (ha 3) (hb 0) (hb 1) (hb 2) (hb 3) wx).mono fun e W' ⟨he, bel⟩ => ?_
  subst he
  exact ⟨_, rfl, _, _, _, [], _, [], hW', trodAll_mk1 (shut_bool Try.underlying4 _), trodAll_cons_mk (Below.trod Args.laidOut (by kernel_rfl) (of_decide_eq_true (by kernel_rfl)) h0 bel lt0) (trodAll_cons_mk (Below.trod Args.laidOut (by kernel_rfl) (of_decide_eq_true (by kernel_rfl)) h1 bel lt1) (trodAll_cons_mk (Below.trod Args.laidOut (by kernel_rfl) (of_decide_eq_true (by kernel_rfl)) h2 bel lt2) (trodAll_mk0))), rfl, bel.frame _, fun h => by cases h⟩

theorem over : Rows.ctlBackRow.holds Try.pinned (OpenSpec.ofChange Rows.ctlBackSpec) :=
  OpenClaim.holds_of_wide 4 Try.f4 rfl rfl rfl rfl rfl rfl rfl ⟨rfl, rfl, rfl, rfl, rfl⟩ rfl rfl rfl rfl rfl (by kernel_rfl) Try.func4 (by kernel_rfl)
    (of_decide_eq_true (by kernel_rfl)) (by unfold Func.isWrapper; rw [if_neg (of_decide_eq_false (by kernel_rfl))]; exact ⟨rfl, rfl⟩)
    (fun os started H enc _ => lifted os started H enc)

theorem proved : Rows.CtlBackSaid :=
  over
end Go.Proofs.Ytkogamgnkccdlaa.ctlBack
