/-
  penfoldlaw05.PlanGrows returns true for every four integers (a plan) and every two bytes (a part and a scope); no condition.
-/
import Derived.Test.YtgkcaijgonadgaaRows
import Derived.Test.YtgkcaijgonadgaaArgs
import Derived.Test.YtgkcaijgonadgaaPlanD
namespace Go.Proofs.Ytgkcaijgonadgaa.planGrows
open Go.ChangeShapes Go.WideShapes Go.ChangeAt Go.RowKit
set_option linter.unusedVariables false

open Plan Held

theorem at_yes {s t i h a c : Int} (hr : rightB s t i h = true) (a1 : 0 ≤ a) (a2 : a ≤ 4) (c1 : 0 ≤ c) (c2 : c < s) : atV s t i h a c = ⟨64 * c + 8 * a, 0⟩ := by
  unfold atV
  rw [if_pos ⟨hr, decide_eq_true ⟨a1, a2⟩⟩, if_pos (show withinB c 0 (s - 1) = true from decide_eq_true ⟨c1, by omega⟩)]
theorem size_yes {s t i h n : Int} (hr : rightB s t i h = true) (e : 64 * s + i + h = n) : sizeV s t i h = ⟨n, 0⟩ := by
  unfold sizeV
  rw [if_pos hr, e]
theorem imm_yes {s t i h n : Int} (hr : rightB s t i h = true) (e : 64 * s = n) : immV s t i h = ⟨n, i, 0⟩ := by
  unfold immV
  rw [if_pos hr, e]
theorem heap_yes {s t i h n : Int} (hr : rightB s t i h = true) (e : 64 * s + i = n) : heapV s t i h = ⟨n, h, 0⟩ := by
  unfold heapV
  rw [if_pos hr, e]

set_option maxRecDepth 100000 in
set_option maxHeartbeats 8000000 in
theorem walk (p0 p1 p2 p3 : Int) (a : Int) (c : Int) (w : World) (wp0 : (Lit.int .i64 p0).wf = true) (wp1 : (Lit.int .i64 p1).wf = true) (wp2 : (Lit.int .i64 p2).wf = true) (wp3 : (Lit.int .i64 p3).wf = true) (wa : (Lit.int .u8 a).wf = true) (wc : (Lit.int .u8 c).wf = true) :
    Calls Try.prog 5 #[.agg #[.int .i64 p0, .int .i64 p1, .int .i64 p2, .int .i64 p3], .int .u8 a, .int .u8 c] w fun e w' => e = .returned (.bool true) ∧ Below w.heap.size w w' := by
  have ⟨a1, a2⟩ := bounds_u8 wa
  have ⟨c1, c2⟩ := bounds_u8 wc
  clear wa wc wp0 wp1 wp2 wp3
  obtain ⟨s, t, i, h, ⟨b1, b2, b3, b4, b5, b6, b7, b8, b9, b10⟩, F⟩ := fit_all p0 p1 p2 p3
  have m1 := Int.emod_nonneg a (show (5 : Int) ≠ 0 by decide)
  have m2 := Int.emod_lt_of_pos a (show (0 : Int) < 5 by decide)
  have m5 := Int.emod_nonneg c (show s ≠ 0 by omega)
  have m6 := Int.emod_lt_of_pos c (show 0 < s by omega)
  by_cases hs : s = 8
  · subst hs
    as_aux_lemma =>
      have HR : Hid (rightB 8 t i h = true) := Lib.hid (decide_eq_true (by omega))
      have HS : Hid (sizeV 8 t i h = ⟨512 + i + h, 0⟩) := Lib.hid (size_yes (decide_eq_true (by omega)) (by omega))
      have HS1 : Hid (sizeV 8 (1 + t % 4) i h = ⟨512 + i + h, 0⟩) := Lib.hid (size_yes (decide_eq_true (by omega)) (by omega))
      have HS2 : Hid (sizeV (8) t i h = ⟨512 + i + h, 0⟩) := Lib.hid (size_yes (decide_eq_true (by omega)) (by omega))
      have HS3 : Hid (sizeV 8 t i (h + 8) = ⟨512 + i + (h + 8), 0⟩) := Lib.hid (size_yes (decide_eq_true (by omega)) (by omega))
      have HA : Hid (atV 8 t i h (a % 5) (c % 8) = ⟨64 * (c % 8) + 8 * (a % 5), 0⟩) := Lib.hid (at_yes (decide_eq_true (by omega)) m1 (by omega) m5 (by omega))
      have HA2 : Hid (atV (8) t i h (a % 5) (c % 8) = ⟨64 * (c % 8) + 8 * (a % 5), 0⟩) := Lib.hid (at_yes (decide_eq_true (by omega)) m1 (by omega) m5 (by omega))
      have HA3 : Hid (atV 8 t i (h + 8) (a % 5) (c % 8) = ⟨64 * (c % 8) + 8 * (a % 5), 0⟩) := Lib.hid (at_yes (decide_eq_true (by omega)) m1 (by omega) m5 (by omega))
      have HI : Hid (immV 8 t i h = ⟨512, i, 0⟩) := Lib.hid (imm_yes (decide_eq_true (by omega)) (by omega))
      have HI2 : Hid (immV (8) t i h = ⟨512, i, 0⟩) := Lib.hid (imm_yes (decide_eq_true (by omega)) (by omega))
      have HH : Hid (heapV 8 t i h = ⟨512 + i, h, 0⟩) := Lib.hid (heap_yes (decide_eq_true (by omega)) (by omega))
      have HH3 : Hid (heapV 8 t i (h + 8) = ⟨512 + i, h + 8, 0⟩) := Lib.hid (heap_yes (decide_eq_true (by omega)) (by omega))
      go_enter Try.func5, Try.ntmps5
      have S0 := (St.start w).new [.int .i64 p0, .int .i64 p1, .int .i64 p2, .int .i64 p3] 23
      go_wp2_with fail
      refine (lift S0 (shown_any _)).mono ?_
      rintro z w1 ⟨rfl, S1⟩
      clear S0
      obtain ⟨qpl, qp0, qp1, qp2, qp3⟩ := S1.get4 0 rfl
      go_wp2_with fail
      refine (lift S1 (F _)).mono ?_
      rintro z w2 ⟨rfl, S2⟩
      clear qpl qp0 qp1 qp2 qp3 S1
      have T2 := ((((S2.new [.int .i64 8, .int .i64 t, .int .i64 i, .int .i64 h] 23).new [.int .i64 8, .int .i64 (1 + t % 4), .int .i64 i, .int .i64 h] 23).new [.int .i64 8, .int .i64 t, .int .i64 i, .int .i64 h] 23).new [.int .i64 8, .int .i64 t, .int .i64 i, .int .i64 (h + 8)] 23)
      simp only [World.size_alloc] at T2
      clear S2
      have S2 := T2
      clear T2
      go_wp2_with fail
      refine (lift S2 (size_any _ _ _ _ _)).mono ?_
      rintro z w3 ⟨rfl, S3⟩
      rw [HS.out]
      clear S2
      obtain ⟨qrl, qr0, qr1, qr2, qr3⟩ := S3.get4 2 rfl
      go_wp2_with fail
      refine (lift S3 (size_any _ _ _ _ _)).mono ?_
      rintro z w4 ⟨rfl, S4⟩
      rw [HS1.out]
      clear qrl qr0 qr1 qr2 qr3 S3
      obtain ⟨qul, qu0, qu1, qu2, qu3⟩ := S4.get4 1 rfl
      go_wp2_with fail
      refine (lift S4 (size_any _ _ _ _ _)).mono ?_
      rintro z w5 ⟨rfl, S5⟩
      rw [HS2.out]
      clear qul qu0 qu1 qu2 qu3 S4
      obtain ⟨qvl, qv0, qv1, qv2, qv3⟩ := S5.get4 0 rfl
      go_wp2_with fail
      refine (lift S5 (size_any _ _ _ _ _)).mono ?_
      rintro z w6 ⟨rfl, S6⟩
      rw [HS3.out]
      clear qvl qv0 qv1 qv2 qv3 S5
      obtain ⟨qfl, qf0, qf1, qf2, qf3⟩ := S6.get4 3 rfl
      go_wp2_with fail
      refine (lift S6 (at_any _ _ _ _ _ _ _)).mono ?_
      rintro z w7 ⟨rfl, S7⟩
      rw [HA.out]
      clear qfl qf0 qf1 qf2 qf3 S6
      obtain ⟨qul, qu0, qu1, qu2, qu3⟩ := S7.get4 1 rfl
      go_wp2_with fail
      refine (lift S7 (at_any _ _ _ _ _ _ _)).mono ?_
      rintro z w8 ⟨rfl, S8⟩
      rw [HA2.out]
      clear qul qu0 qu1 qu2 qu3 S7
      obtain ⟨qvl, qv0, qv1, qv2, qv3⟩ := S8.get4 0 rfl
      go_wp2_with fail
      refine (lift S8 (at_any _ _ _ _ _ _ _)).mono ?_
      rintro z w9 ⟨rfl, S9⟩
      rw [HA3.out]
      clear qvl qv0 qv1 qv2 qv3 S8
      obtain ⟨qfl, qf0, qf1, qf2, qf3⟩ := S9.get4 3 rfl
      go_wp2_with fail
      refine (lift S9 (imm_any _ _ _ _ _)).mono ?_
      rintro z w10 ⟨rfl, S10⟩
      rw [HI.out]
      clear qfl qf0 qf1 qf2 qf3 S9
      obtain ⟨qul, qu0, qu1, qu2, qu3⟩ := S10.get4 1 rfl
      go_wp2_with fail
      refine (lift (S10.new [.int .i64 512, .int .i64 i] 31) (imm_any _ _ _ _ _)).mono ?_
      rintro z w11 ⟨rfl, S11⟩
      rw [HI2.out]
      clear qul qu0 qu1 qu2 qu3 S10
      obtain ⟨qfl, qf0, qf1, qf2, qf3⟩ := S11.get4 4 rfl
      go_wp2_with fail
      refine (lift (S11.new [.int .i64 512, .int .i64 i] 31) (heap_any _ _ _ _ _)).mono ?_
      rintro z w12 ⟨rfl, S12⟩
      rw [HH.out]
      clear qfl qf0 qf1 qf2 qf3 S11
      obtain ⟨qvl, qv0, qv1, qv2, qv3⟩ := S12.get4 2 rfl
      go_wp2_with fail
      refine (lift (S12.new [.int .i64 (512 + i), .int .i64 h] 31) (heap_any _ _ _ _ _)).mono ?_
      rintro z w13 ⟨rfl, S13⟩
      rw [HH3.out]
      clear qvl qv0 qv1 qv2 qv3 S12
      obtain ⟨qkl, qk0, qk1⟩ := S13.get2 2 rfl
      obtain ⟨qll, ql0, ql1⟩ := S13.get2 1 rfl
      obtain ⟨qwl, qw0, qw1⟩ := S13.get2 0 rfl
      clear F HS HS1 HS2 HS3 HA HA2 HA3 HI HI2 HH HH3 HR
      have t2 : (512 + i + (h + 8) == 512 + i + h + 8) = true := by simp; omega
      go_wp2
      go_ret
      exact ⟨rfl, (S13.new _ _).below⟩
  · as_aux_lemma =>
      have HR : Hid (rightB s t i h = true) := Lib.hid (decide_eq_true (by omega))
      have HS : Hid (sizeV s t i h = ⟨64 * s + i + h, 0⟩) := Lib.hid (size_yes (decide_eq_true (by omega)) (by omega))
      have HS1 : Hid (sizeV s (1 + t % 4) i h = ⟨64 * s + i + h, 0⟩) := Lib.hid (size_yes (decide_eq_true (by omega)) (by omega))
      have HS2 : Hid (sizeV (s + 1) t i h = ⟨64 * (s + 1) + i + h, 0⟩) := Lib.hid (size_yes (decide_eq_true (by omega)) (by omega))
      have HS3 : Hid (sizeV s t i (h + 8) = ⟨64 * s + i + (h + 8), 0⟩) := Lib.hid (size_yes (decide_eq_true (by omega)) (by omega))
      have HA : Hid (atV s t i h (a % 5) (c % s) = ⟨64 * (c % s) + 8 * (a % 5), 0⟩) := Lib.hid (at_yes (decide_eq_true (by omega)) m1 (by omega) m5 (by omega))
      have HA2 : Hid (atV (s + 1) t i h (a % 5) (c % s) = ⟨64 * (c % s) + 8 * (a % 5), 0⟩) := Lib.hid (at_yes (decide_eq_true (by omega)) m1 (by omega) m5 (by omega))
      have HA3 : Hid (atV s t i (h + 8) (a % 5) (c % s) = ⟨64 * (c % s) + 8 * (a % 5), 0⟩) := Lib.hid (at_yes (decide_eq_true (by omega)) m1 (by omega) m5 (by omega))
      have HI : Hid (immV s t i h = ⟨64 * s, i, 0⟩) := Lib.hid (imm_yes (decide_eq_true (by omega)) (by omega))
      have HI2 : Hid (immV (s + 1) t i h = ⟨64 * (s + 1), i, 0⟩) := Lib.hid (imm_yes (decide_eq_true (by omega)) (by omega))
      have HH : Hid (heapV s t i h = ⟨64 * s + i, h, 0⟩) := Lib.hid (heap_yes (decide_eq_true (by omega)) (by omega))
      have HH3 : Hid (heapV s t i (h + 8) = ⟨64 * s + i, h + 8, 0⟩) := Lib.hid (heap_yes (decide_eq_true (by omega)) (by omega))
      go_enter Try.func5, Try.ntmps5
      have S0 := (St.start w).new [.int .i64 p0, .int .i64 p1, .int .i64 p2, .int .i64 p3] 23
      go_wp2_with fail
      refine (lift S0 (shown_any _)).mono ?_
      rintro z w1 ⟨rfl, S1⟩
      clear S0
      obtain ⟨qpl, qp0, qp1, qp2, qp3⟩ := S1.get4 0 rfl
      go_wp2_with fail
      refine (lift S1 (F _)).mono ?_
      rintro z w2 ⟨rfl, S2⟩
      clear qpl qp0 qp1 qp2 qp3 S1
      have T2 := ((((S2.new [.int .i64 s, .int .i64 t, .int .i64 i, .int .i64 h] 23).new [.int .i64 s, .int .i64 (1 + t % 4), .int .i64 i, .int .i64 h] 23).new [.int .i64 (s + 1), .int .i64 t, .int .i64 i, .int .i64 h] 23).new [.int .i64 s, .int .i64 t, .int .i64 i, .int .i64 (h + 8)] 23)
      simp only [World.size_alloc] at T2
      clear S2
      have S2 := T2
      clear T2
      go_wp2_with fail
      refine (lift S2 (size_any _ _ _ _ _)).mono ?_
      rintro z w3 ⟨rfl, S3⟩
      rw [HS.out]
      clear S2
      obtain ⟨qrl, qr0, qr1, qr2, qr3⟩ := S3.get4 2 rfl
      go_wp2_with fail
      refine (lift S3 (size_any _ _ _ _ _)).mono ?_
      rintro z w4 ⟨rfl, S4⟩
      rw [HS1.out]
      clear qrl qr0 qr1 qr2 qr3 S3
      obtain ⟨qul, qu0, qu1, qu2, qu3⟩ := S4.get4 1 rfl
      go_wp2_with fail
      refine (lift S4 (size_any _ _ _ _ _)).mono ?_
      rintro z w5 ⟨rfl, S5⟩
      rw [HS2.out]
      clear qul qu0 qu1 qu2 qu3 S4
      obtain ⟨qvl, qv0, qv1, qv2, qv3⟩ := S5.get4 0 rfl
      go_wp2_with fail
      refine (lift S5 (size_any _ _ _ _ _)).mono ?_
      rintro z w6 ⟨rfl, S6⟩
      rw [HS3.out]
      clear qvl qv0 qv1 qv2 qv3 S5
      obtain ⟨qfl, qf0, qf1, qf2, qf3⟩ := S6.get4 3 rfl
      go_wp2_with fail
      refine (lift S6 (at_any _ _ _ _ _ _ _)).mono ?_
      rintro z w7 ⟨rfl, S7⟩
      rw [HA.out]
      clear qfl qf0 qf1 qf2 qf3 S6
      obtain ⟨qul, qu0, qu1, qu2, qu3⟩ := S7.get4 1 rfl
      go_wp2_with fail
      refine (lift S7 (at_any _ _ _ _ _ _ _)).mono ?_
      rintro z w8 ⟨rfl, S8⟩
      rw [HA2.out]
      clear qul qu0 qu1 qu2 qu3 S7
      obtain ⟨qvl, qv0, qv1, qv2, qv3⟩ := S8.get4 0 rfl
      go_wp2_with fail
      refine (lift S8 (at_any _ _ _ _ _ _ _)).mono ?_
      rintro z w9 ⟨rfl, S9⟩
      rw [HA3.out]
      clear qvl qv0 qv1 qv2 qv3 S8
      obtain ⟨qfl, qf0, qf1, qf2, qf3⟩ := S9.get4 3 rfl
      go_wp2_with fail
      refine (lift S9 (imm_any _ _ _ _ _)).mono ?_
      rintro z w10 ⟨rfl, S10⟩
      rw [HI.out]
      clear qfl qf0 qf1 qf2 qf3 S9
      obtain ⟨qul, qu0, qu1, qu2, qu3⟩ := S10.get4 1 rfl
      go_wp2_with fail
      refine (lift (S10.new [.int .i64 (64 * s), .int .i64 i] 31) (imm_any _ _ _ _ _)).mono ?_
      rintro z w11 ⟨rfl, S11⟩
      rw [HI2.out]
      clear qul qu0 qu1 qu2 qu3 S10
      obtain ⟨qfl, qf0, qf1, qf2, qf3⟩ := S11.get4 4 rfl
      go_wp2_with fail
      refine (lift (S11.new [.int .i64 (64 * (s + 1)), .int .i64 i] 31) (heap_any _ _ _ _ _)).mono ?_
      rintro z w12 ⟨rfl, S12⟩
      rw [HH.out]
      clear qfl qf0 qf1 qf2 qf3 S11
      obtain ⟨qvl, qv0, qv1, qv2, qv3⟩ := S12.get4 2 rfl
      go_wp2_with fail
      refine (lift (S12.new [.int .i64 (64 * s + i), .int .i64 h] 31) (heap_any _ _ _ _ _)).mono ?_
      rintro z w13 ⟨rfl, S13⟩
      rw [HH3.out]
      clear qvl qv0 qv1 qv2 qv3 S12
      obtain ⟨qkl, qk0, qk1⟩ := S13.get2 2 rfl
      obtain ⟨qll, ql0, ql1⟩ := S13.get2 1 rfl
      obtain ⟨qwl, qw0, qw1⟩ := S13.get2 0 rfl
      clear F HS HS1 HS2 HS3 HA HA2 HA3 HI HI2 HH HH3 HR
      have t1 : (64 * (s + 1) + i + h == 64 * s + i + h + 64 * (s + 1 - s)) = true := by simp; omega
      have t2 : (64 * s + i + (h + 8) == 64 * s + i + h + 8) = true := by simp; omega
      have t3 : (64 * (s + 1) == 64 * s + 64 * (s + 1 - s)) = true := by simp; omega
      go_wp2
      go_ret
      exact ⟨rfl, (S13.new _ _).below⟩

set_option maxRecDepth 100000 in
theorem lifted (os : Os) (started : os.Started) (H : Type) (enc : TypeId × Value → H) :
    ReturnsInHanded {} Try.checked os 5 .any (Rows.planGrowsSpec.pre6 enc Try.prog Try.f5 Rows.planGrowsRow.domain false) (Rows.planGrowsSpec.post enc Try.prog Try.f5 false true false false) := by
  refine returnsInHanded_of_change (C := Try.checked) Args.own started (by kernel_rfl) Try.func5
    (ChangeSpec.witness6 (enc := enc) (C := Try.checked) false ⟨#[], #[.agg #[.int .i64 0, .int .i64 0, .int .i64 0, .int .i64 0], .int .u8 0, .int .u8 0], []⟩ 8 (by kernel_rfl) (by kernel_rfl) (by kernel_rfl) (by kernel_rfl)) ?_
  intro W base args ds gs before hval0 hW hcnd _
  have hval : ∀ (j : Nat) t v, Try.f5.params[j]? = some t → args[j]? = some v → Value.okWide Try.prog W .any base t v := hval0
  have hW' := hW
  obtain ⟨p, q, hA0, hV, rfl, hfz, hnd⟩ := hW
  have hA : DataW.TrodAll enc Try.prog W 0 (fun _ => true) true Try.f5.params.toList args.toList ds p := hA0
  rw [Try.params5] at hA hval
  obtain ⟨v0, vs0, d0, ds0, p0, q0, hargs, rfl, rfl, h0, r0⟩ := trodAll_cons hA
  obtain ⟨v1, vs1, d1, ds1, p1, q1, rfl, rfl, rfl, h1, r1⟩ := trodAll_cons r0
  obtain ⟨v2, vs2, d2, ds2, p2, q2, rfl, rfl, rfl, h2, r2⟩ := trodAll_cons r1
  obtain ⟨rfl, rfl, rfl⟩ := trodAll_nil r2
  obtain rfl : args = #[v0, v1, v2] := by cases args; simp_all
  obtain ⟨rfl, rfl⟩ := trodVars_none hV
  have lt0 := Args.trod_below h0
  obtain ⟨pz, hv0, hp⟩ := Args.rec_in (ks := [.i64, .i64, .i64, .i64]) Try.underlying23 (by kernel_rfl) (by kernel_rfl) (hval 0 23 v0 rfl rfl) h0
  obtain rfl : v0 = .agg #[.int .i64 (pz 0), .int .i64 (pz 1), .int .i64 (pz 2), .int .i64 (pz 3)] := hv0
  have lt1 := Args.trod_below h1
  obtain ⟨a, rfl, rfl, rfl, wa⟩ := open_int Try.underlying5 (hval 1 5 v1 rfl rfl) h1
  have lt2 := Args.trod_below h2
  obtain ⟨c, rfl, rfl, rfl, wc⟩ := open_int Try.underlying5 (hval 2 5 v2 rfl rfl) h2
  clear hA0 hval0
  refine (walk (pz 0) (pz 1) (pz 2) (pz 3) a c W (hp 0) (hp 1) (hp 2) (hp 3) wa wc).mono fun e W' ⟨he, bel⟩ => ?_
  subst he
  exact ⟨_, rfl, _, _, _, [], _, [], hW', trodAll_mk1 (shut_bool Try.underlying4 _), trodAll_cons_mk (Below.trod Args.laidOut (by kernel_rfl) (of_decide_eq_true (by kernel_rfl)) h0 bel lt0) (trodAll_cons_mk (Below.trod Args.laidOut (by kernel_rfl) (of_decide_eq_true (by kernel_rfl)) h1 bel lt1) (trodAll_cons_mk (Below.trod Args.laidOut (by kernel_rfl) (of_decide_eq_true (by kernel_rfl)) h2 bel lt2) (trodAll_mk0))), rfl, bel.frame _, fun h => by cases h⟩

theorem over : Rows.planGrowsRow.holds Try.pinned (OpenSpec.ofChange Rows.planGrowsSpec) :=
  OpenClaim.holds_of_wide 5 Try.f5 rfl rfl rfl rfl rfl rfl rfl ⟨rfl, rfl, rfl, rfl, rfl⟩ rfl rfl rfl rfl rfl (by kernel_rfl) Try.func5 (by kernel_rfl)
    (of_decide_eq_true (by kernel_rfl)) (by unfold Func.isWrapper; rw [if_neg (of_decide_eq_false (by kernel_rfl))]; exact ⟨rfl, rfl⟩)
    (fun os started H enc _ => lifted os started H enc)

theorem proved : Rows.PlanGrowsSaid :=
  over
end Go.Proofs.Ytgkcaijgonadgaa.planGrows
