/-
  penfoldlaw05.PlanApart returns true for every four integers (a plan) and every two pairs of bytes (parts and scopes); no condition.
-/
import Derived.Test.YtgkcaijgonadgaaRows
import Derived.Test.YtgkcaijgonadgaaArgs
import Derived.Test.YtgkcaijgonadgaaPlanD
namespace Go.Proofs.Ytgkcaijgonadgaa.planApart
open Go.ChangeShapes Go.WideShapes Go.ChangeAt Go.RowKit
set_option linter.unusedVariables false

open Plan Held

theorem at_yes {s t i h a c : Int} (hr : rightB s t i h = true) (a1 : 0 ≤ a) (a2 : a ≤ 4) (c1 : 0 ≤ c) (c2 : c < s) : atV s t i h a c = ⟨64 * c + 8 * a, 0⟩ := by
  unfold atV
  rw [if_pos ⟨hr, decide_eq_true ⟨a1, a2⟩⟩, if_pos (show withinB c 0 (s - 1) = true from decide_eq_true ⟨c1, by omega⟩)]

set_option maxRecDepth 100000 in
set_option maxHeartbeats 8000000 in
theorem walk (p0 p1 p2 p3 : Int) (az : Nat → Int) (cz : Nat → Int) (w : World) (wp0 : (Lit.int .i64 p0).wf = true) (wp1 : (Lit.int .i64 p1).wf = true) (wp2 : (Lit.int .i64 p2).wf = true) (wp3 : (Lit.int .i64 p3).wf = true) (ha : ∀ i, (Lit.int .u8 (az i)).wf = true) (hc : ∀ i, (Lit.int .u8 (cz i)).wf = true) :
    Calls Try.prog 4 #[.agg #[.int .i64 p0, .int .i64 p1, .int .i64 p2, .int .i64 p3], .agg (Array.ofFn (n := 2) fun i => .int .u8 (az i)), .agg (Array.ofFn (n := 2) fun i => .int .u8 (cz i))] w fun e w' => e = .returned (.bool true) ∧ Below w.heap.size w w' := by
  have ⟨a1, a2⟩ := bounds_u8 (ha 0)
  have ⟨a3, a4⟩ := bounds_u8 (ha 1)
  have ⟨c1, c2⟩ := bounds_u8 (hc 0)
  have ⟨c3, c4⟩ := bounds_u8 (hc 1)
  clear ha hc wp0 wp1 wp2 wp3
  obtain ⟨s, t, i, h, ⟨b1, b2, b3, b4, b5, b6, b7, b8, b9, b10⟩, F⟩ := fit_all p0 p1 p2 p3
  have hr : rightB s t i h = true := decide_eq_true (by omega)
  have HS : Hid (sizeV s t i h = ⟨64 * s + i + h, 0⟩) := Lib.hid (by unfold sizeV; rw [if_pos hr])
  have HI : Hid (immV s t i h = ⟨64 * s, i, 0⟩) := Lib.hid (by unfold immV; rw [if_pos hr])
  have HH : Hid (heapV s t i h = ⟨64 * s + i, h, 0⟩) := Lib.hid (by unfold heapV; rw [if_pos hr])
  have HR := Lib.hid hr
  have m1 := Int.emod_nonneg (az 0) (show (5 : Int) ≠ 0 by decide)
  have m2 := Int.emod_lt_of_pos (az 0) (show (0 : Int) < 5 by decide)
  have m3 := Int.emod_nonneg (az 1) (show (5 : Int) ≠ 0 by decide)
  have m4 := Int.emod_lt_of_pos (az 1) (show (0 : Int) < 5 by decide)
  have m5 := Int.emod_nonneg (cz 0) (show s ≠ 0 by omega)
  have m6 := Int.emod_lt_of_pos (cz 0) (show 0 < s by omega)
  have m7 := Int.emod_nonneg (cz 1) (show s ≠ 0 by omega)
  have m8 := Int.emod_lt_of_pos (cz 1) (show 0 < s by omega)
  have HA : Hid (atV s t i h (az 0 % 5) (cz 0 % s) = ⟨64 * (cz 0 % s) + 8 * (az 0 % 5), 0⟩) := Lib.hid (at_yes hr m1 (by omega) m5 m6)
  have HB : Hid (atV s t i h (az 1 % 5) (cz 1 % s) = ⟨64 * (cz 1 % s) + 8 * (az 1 % 5), 0⟩) := Lib.hid (at_yes hr m3 (by omega) m7 m8)
  clear hr
  go_enter Try.func4, Try.ntmps4
  have S0 := ((((St.start w).new [.int .i64 p0, .int .i64 p1, .int .i64 p2, .int .i64 p3] 23).new [.int .u8 (az 0), .int .u8 (az 1)] 38).new [.int .u8 (cz 0), .int .u8 (cz 1)] 38)
  simp only [World.size_alloc] at S0
  go_wp2_with fail
  refine (lift S0 (shown_any _)).mono ?_
  rintro z w1 ⟨rfl, S1⟩
  clear S0
  obtain ⟨qpl, qp0, qp1, qp2, qp3⟩ := S1.get4 2 rfl
  go_wp2_with fail
  refine (lift S1 (F _)).mono ?_
  rintro z w2 ⟨rfl, S2⟩
  clear qpl qp0 qp1 qp2 qp3 S1
  obtain ⟨qal, qa0, qa1⟩ := S2.get2 1 rfl
  obtain ⟨qcl, qc0, qc1⟩ := S2.get2 0 rfl
  go_wp2_with fail
  refine (lift (S2.new [.int .i64 s, .int .i64 t, .int .i64 i, .int .i64 h] 23) (at_any _ _ _ _ _ _ _)).mono ?_
  rintro z w3 ⟨rfl, S3⟩
  rw [HA.out]
  clear qal qa0 qa1 qcl qc0 qc1 S2
  obtain ⟨qfl, qf0, qf1, qf2, qf3⟩ := S3.get4 0 rfl
  go_wp2_with fail
  refine (lift S3 (at_any _ _ _ _ _ _ _)).mono ?_
  rintro z w4 ⟨rfl, S4⟩
  rw [HB.out]
  clear qfl qf0 qf1 qf2 qf3 S3
  obtain ⟨qfl, qf0, qf1, qf2, qf3⟩ := S4.get4 0 rfl
  go_wp2_with fail
  refine (lift S4 (size_any _ _ _ _ _)).mono ?_
  rintro z w5 ⟨rfl, S5⟩
  rw [HS.out]
  clear qfl qf0 qf1 qf2 qf3 S4
  obtain ⟨qfl, qf0, qf1, qf2, qf3⟩ := S5.get4 0 rfl
  go_wp2_with fail
  refine (lift S5 (imm_any _ _ _ _ _)).mono ?_
  rintro z w6 ⟨rfl, S6⟩
  rw [HI.out]
  clear qfl qf0 qf1 qf2 qf3 S5
  obtain ⟨qfl, qf0, qf1, qf2, qf3⟩ := S6.get4 0 rfl
  go_wp2_with fail
  refine (lift (S6.new [.int .i64 (64 * s), .int .i64 i] 31) (heap_any _ _ _ _ _)).mono ?_
  rintro z w7 ⟨rfl, S7⟩
  rw [HH.out]
  clear qfl qf0 qf1 qf2 qf3 S6
  obtain ⟨qfl, qf0, qf1, qf2, qf3⟩ := S7.get4 1 rfl
  go_wp2_with fail
  refine (lift (S7.new [.int .i64 (64 * s + i), .int .i64 h] 31) (right_any _ _ _ _ _)).mono ?_
  rintro z w8 ⟨rfl, S8⟩
  rw [HR.out]
  clear qfl qf0 qf1 qf2 qf3 S7
  obtain ⟨qil, qi0, qi1⟩ := S8.get2 1 rfl
  obtain ⟨qhl, qh0, qh1⟩ := S8.get2 0 rfl
  clear HA HB HS HI HH HR F
  generalize az 0 % 5 = A at *
  generalize az 1 % 5 = B at *
  generalize cz 0 % s = C at *
  generalize cz 1 % s = D at *
  have t1 : ((64 * C + 8 * A) % 8 == 0) = true := by simp; omega
  have t2 : ((64 * s + i + h) % 8 == 0) = true := by simp; omega
  by_cases hA : A = B
  · subst hA
    by_cases hC : C = D
    · subst hC
      go_wp2
      go_ret
      exact ⟨rfl, S8.below⟩
    · have t3 : (C == D) = false := by simpa using hC
      have t4 : (64 * C + 8 * A == 64 * D + 8 * A) = false := by simp; omega
      go_wp2
      go_ret
      exact ⟨rfl, S8.below⟩
  · have t3 : (A == B) = false := by simpa using hA
    have t4 : (64 * C + 8 * A == 64 * D + 8 * B) = false := by simp; omega
    go_wp2
    go_ret
    exact ⟨rfl, S8.below⟩

set_option maxRecDepth 100000 in
theorem lifted (os : Os) (started : os.Started) (H : Type) (enc : TypeId × Value → H) :
    ReturnsInHanded {} Try.checked os 4 .any (Rows.planApartSpec.pre6 enc Try.prog Try.f4 Rows.planApartRow.domain false) (Rows.planApartSpec.post enc Try.prog Try.f4 false true false false) := by
  refine returnsInHanded_of_change (C := Try.checked) Args.own started (by kernel_rfl) Try.func4
    (ChangeSpec.witness6 (enc := enc) (C := Try.checked) false ⟨#[], #[.agg #[.int .i64 0, .int .i64 0, .int .i64 0, .int .i64 0], .agg #[.int .u8 0, .int .u8 0], .agg #[.int .u8 0, .int .u8 0]], []⟩ 8 (by kernel_rfl) (by kernel_rfl) (by kernel_rfl) (by kernel_rfl)) ?_
  intro W base args ds gs before hval0 hW hcnd _
  have hval : ∀ (j : Nat) t v, Try.f4.params[j]? = some t → args[j]? = some v → Value.okWide Try.prog W .any base t v := hval0
  have hW' := hW
  obtain ⟨p, q, hA0, hV, rfl, hfz, hnd⟩ := hW
  have hA : DataW.TrodAll enc Try.prog W 0 (fun _ => true) true Try.f4.params.toList args.toList ds p := hA0
  rw [Try.params4] at hA hval
  obtain ⟨v0, vs0, d0, ds0, p0, q0, hargs, rfl, rfl, h0, r0⟩ := trodAll_cons hA
  obtain ⟨v1, vs1, d1, ds1, p1, q1, rfl, rfl, rfl, h1, r1⟩ := trodAll_cons r0
  obtain ⟨v2, vs2, d2, ds2, p2, q2, rfl, rfl, rfl, h2, r2⟩ := trodAll_cons r1
  obtain ⟨rfl, rfl, rfl⟩ := trodAll_nil r2
  obtain rfl : args = #[v0, v1, v2] := by cases args; simp_all
  obtain ⟨rfl, rfl⟩ := trodVars_none hV
  have lt0 := Args.trod_below h0
  obtain ⟨pz, hv0, hp⟩ := Args.rec_in (ks := [.i64, .i64, .i64, .i64]) Try.underlying23 (by kernel_rfl) (by kernel_rfl) (hval 0 23 v0 rfl rfl) h0
  obtain rfl : v0 = .agg #[.int .i64 (pz 0), .int .i64 (pz 1), .int .i64 (pz 2), .int .i64 (pz 3)] := hv0
  have lt1 := Args.trod_below h1
  obtain ⟨az, rfl, ha⟩ := Args.arr_in (m := 2) (k := .u8) (e := 5) (by kernel_rfl) (by kernel_rfl) (by kernel_rfl) (by kernel_rfl) (hval 1 38 v1 rfl rfl) h1
  have lt2 := Args.trod_below h2
  obtain ⟨cz, rfl, hc⟩ := Args.arr_in (m := 2) (k := .u8) (e := 5) (by kernel_rfl) (by kernel_rfl) (by kernel_rfl) (by kernel_rfl) (hval 2 38 v2 rfl rfl) h2
  clear hA0 hval0
  refine (walk (pz 0) (pz 1) (pz 2) (pz 3) az cz W (hp 0) (hp 1) (hp 2) (hp 3) ha hc).mono fun e W' ⟨he, bel⟩ => ?_
  subst he
  exact ⟨_, rfl, _, _, _, [], _, [], hW', trodAll_mk1 (shut_bool Try.underlying4 _), trodAll_cons_mk (Below.trod Args.laidOut (by kernel_rfl) (of_decide_eq_true (by kernel_rfl)) h0 bel lt0) (trodAll_cons_mk (Below.trod Args.laidOut (by kernel_rfl) (of_decide_eq_true (by kernel_rfl)) h1 bel lt1) (trodAll_cons_mk (Below.trod Args.laidOut (by kernel_rfl) (of_decide_eq_true (by kernel_rfl)) h2 bel lt2) (trodAll_mk0))), rfl, bel.frame _, fun h => by cases h⟩

theorem over : Rows.planApartRow.holds Try.pinned (OpenSpec.ofChange Rows.planApartSpec) :=
  OpenClaim.holds_of_wide 4 Try.f4 rfl rfl rfl rfl rfl rfl rfl ⟨rfl, rfl, rfl, rfl, rfl⟩ rfl rfl rfl rfl rfl (by kernel_rfl) Try.func4 (by kernel_rfl)
    (of_decide_eq_true (by kernel_rfl)) (by unfold Func.isWrapper; rw [if_neg (of_decide_eq_false (by kernel_rfl))]; exact ⟨rfl, rfl⟩)
    (fun os started H enc _ => lifted os started H enc)

theorem proved : Rows.PlanApartSaid :=
  over
end Go.Proofs.Ytgkcaijgonadgaa.planApart
