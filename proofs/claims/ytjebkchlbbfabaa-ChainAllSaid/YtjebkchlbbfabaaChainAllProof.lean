/-
  penfoldlaw09.ChainAll returns true for every slice of entries, every two scopes and every entry, and changes nothing that was there; no condition.
-/
import Derived.Test.YtjebkchlbbfabaaRows
import Derived.Test.YtjebkchlbbfabaaArgs
import Derived.Test.YtjebkchlbbfabaaChF
import Derived.Test.YtjebkchlbbfabaaSt
namespace Go.Proofs.Ytjebkchlbbfabaa.chainAll
open Go.ChangeShapes Go.WideShapes Go.ChangeAt Go.RowKit
set_option linter.unusedVariables false

open Chain Held

set_option maxRecDepth 100000 in
set_option maxHeartbeats 8000000 in
theorem walk (lA : Option Addr) (ln lc : Nat) (lz : Nat → Nat → Int) (scope0 scope1 : Int) (x0 : Int) (x1 : Bool) (w : World) (hl : Args.PRecs [some .i64, none] w lA ln lz) (hlc : ln ≤ lc ∧ lc ≤ maxLen ∧ (lA = none → lc = 0)) (wscope0 : (Lit.int .i64 scope0).wf = true) (wscope1 : (Lit.int .i64 scope1).wf = true) (wx0 : (Lit.int .i64 x0).wf = true) :
    Calls Try.prog 3 #[.slice lA ln lc, .agg #[.int .i64 scope0, .int .i64 scope1], .agg #[.int .i64 x0, .bool x1]] w fun e w' => e = .returned (.bool true) ∧ Below w.heap.size w w' := by
  have L0 := came_in hl hlc
  have hln := listOf_len ln lz
  generalize listOf ln lz = L at *
  subst hln
  clear hl
  have h10 : (L.take 10).length ≤ 10 := by rw [List.length_take]; omega
  go_enter Try.func3, Try.ntmps3
  have S0 := ((St.start w).new [.int .i64 scope0, .int .i64 scope1] 23).new [.int .i64 x0, .bool x1] 25
  simp only [World.size_alloc] at S0
  have L1 := (L0.alloc (.cells #[.int .i64 scope0, .int .i64 scope1] 23)).alloc (.cells #[.int .i64 x0, .bool x1] 25)
  go_wp2_with fail
  refine (shown_any _).mono ?_
  rintro z w1 ⟨rfl, k1⟩
  have S1 := S0.call k1
  have L2 := L1.below k1
  clear S0 L0 L1 k1
  go_wp2_with fail
  refine (few_any _ _ L L2).mono ?_
  rintro z w2 ⟨v, rfl, M2, k2⟩
  have S2 := S1.call k2
  clear S1 L2 k2
  generalize L.take 10 = M at *
  have E0 : Hid (sameB (pushL M (x0, x1)) (pushL M (x0, x1)) = true) := Lib.hid (same_refl _)
  have E1 : Hid (sameB M.dropLast M.dropLast = true) := Lib.hid (same_refl _)
  obtain ⟨xl, x_0, x_1⟩ := S2.get2 0 rfl
  go_wp2_with fail
  refine (push_any _ _ M x0 x1 M2).mono ?_
  rintro z w3 ⟨a, rfl, A3, k3⟩
  have S3 := S2.call k3
  have M3 := M2.below k3
  clear S2 M2 k3 xl x_0 x_1
  obtain ⟨xl, x_0, x_1⟩ := S3.get2 0 rfl
  go_wp2_with fail
  refine (refpush_any _ _ M x0 x1 M3).mono ?_
  rintro z w4 ⟨b, rfl, B4, k4⟩
  have S4 := S3.call k4
  have M4 := M3.below k4
  have A4 := A3.below k4
  clear S3 M3 A3 k4 xl x_0 x_1
  go_wp2_with fail
  refine (same_any _ _ _ _ _ A4 B4).mono ?_
  rintro z w5 ⟨rfl, k5⟩
  rw [E0.out]
  have S5 := S4.call k5
  have M5 := M4.below k5
  clear S4 M4 A4 B4 k5
  go_wp2_with fail
  refine (pop_any _ _ M M5 (by omega)).mono ?_
  rintro z w6 ⟨c, rfl, C6, k6⟩
  have S6 := (S5.call k6).new [.int .i64 (lastV M).1, .bool (lastV M).2] 25
  have M6 := (M5.below k6).alloc (.cells #[.int .i64 (lastV M).1, .bool (lastV M).2] 25)
  have C6' := C6.alloc (.cells #[.int .i64 (lastV M).1, .bool (lastV M).2] 25)
  clear S5 M5 C6 k6
  go_wp2_with fail
  refine (refpop_any _ _ M M6 (by omega)).mono ?_
  rintro z w7 ⟨d, rfl, D7, k7⟩
  have S7 := (S6.call k7).new [.int .i64 (lastV M).1, .bool (lastV M).2] 25
  have M7 := (M6.below k7).alloc (.cells #[.int .i64 (lastV M).1, .bool (lastV M).2] 25)
  have C7 := (C6'.below k7).alloc (.cells #[.int .i64 (lastV M).1, .bool (lastV M).2] 25)
  have D7' := D7.alloc (.cells #[.int .i64 (lastV M).1, .bool (lastV M).2] 25)
  clear S6 M6 C6' D7 k7
  go_wp2_with fail
  refine (same_any _ _ _ _ _ C7 D7').mono ?_
  rintro z w8 ⟨rfl, k8⟩
  rw [E1.out]
  have S8 := S7.call k8
  have M8 := M7.below k8
  clear S7 M7 C7 D7' k8
  have hr : ∀ W, (Op.equalIn 10000 25 (.agg #[.int .i64 (lastV M).1, .bool (lastV M).2]) (.agg #[.int .i64 (lastV M).1, .bool (lastV M).2])).run Try.prog W = .ok true W := fun W => by
    rw [run_eq]; simp [eqB]
  obtain ⟨sl, s_0, s_1⟩ := S8.get2 3 rfl
  obtain ⟨yl, y_0, y_1⟩ := S8.get2 1 rfl
  obtain ⟨zl, z_0, z_1⟩ := S8.get2 0 rfl
  generalize lastV M = y at *
  generalize hpe : pushE M = pe at *
  generalize hpo : popE M = po at *
  go_wp2_with fail
  refine (area_any _ _ _ M8).mono ?_
  rintro z w9 ⟨rfl, rfl⟩
  go_wp2_with fail
  refine (refarea_any _ _ _ M8).mono ?_
  rintro z w9 ⟨rfl, rfl⟩
  go_wp2_with fail
  refine (reach_any _ _ _ _ M8).mono ?_
  rintro z w9 ⟨rfl, k9⟩
  have S9 := S8.call k9
  have M9 := M8.below k9
  clear S8 M8 k9 sl s_0 s_1 yl y_0 y_1 zl z_0 z_1
  go_wp2_with fail
  refine (refreach_any _ _ _ _ M9).mono ?_
  rintro z w10 ⟨rfl, rfl⟩
  go_wp2_with fail
  refine (par_any _ _ _ _ M9).mono ?_
  rintro z w10 ⟨rfl, k10⟩
  have S10 := S9.call k10
  have M10 := M9.below k10
  clear S9 M9 k10
  go_wp2_with fail
  refine (refpar_any _ _ _ _ M10).mono ?_
  rintro z w11 ⟨rfl, rfl⟩
  go_wp2_with fail
  refine (above_any _ _ _ _ _ M10).mono ?_
  rintro z w11 ⟨rfl, k11⟩
  have S11 := S10.call k11
  have M11 := M10.below k11
  clear S10 M10 k11
  go_wp2_with fail
  refine (refabove_any _ _ _ _ _ M11).mono ?_
  rintro z w12 ⟨rfl, rfl⟩
  go_wp2
  go_ret
  exact ⟨rfl, S11.below⟩

set_option maxRecDepth 100000 in
theorem lifted (os : Os) (started : os.Started) (H : Type) (enc : TypeId × Value → H) :
    ReturnsInHanded {} Try.checked os 3 .any (Rows.chainAllSpec.pre6 enc Try.prog Try.f3 Rows.chainAllRow.domain false) (Rows.chainAllSpec.post enc Try.prog Try.f3 false true false false) := by
  refine returnsInHanded_of_change (C := Try.checked) Args.own started (by kernel_rfl) Try.func3
    (ChangeSpec.witness6 (enc := enc) (C := Try.checked) false ⟨#[], #[.slice none 0 0, .agg #[.int .i64 0, .int .i64 0], .agg #[.int .i64 0, .bool false]], []⟩ 8 (by kernel_rfl) (by kernel_rfl) (by kernel_rfl) (by kernel_rfl)) ?_
  intro W base args ds gs before hval0 hW hcnd _
  have hval : ∀ (j : Nat) t v, Try.f3.params[j]? = some t → args[j]? = some v → Value.okWide Try.prog W .any base t v := hval0
  have hW' := hW
  obtain ⟨p, q, hA0, hV, rfl, hfz, hnd⟩ := hW
  have hA : DataW.TrodAll enc Try.prog W 0 (fun _ => true) true Try.f3.params.toList args.toList ds p := hA0
  rw [Try.params3] at hA hval
  obtain ⟨v0, vs0, d0, ds0, p0, q0, hargs, rfl, rfl, h0, r0⟩ := trodAll_cons hA
  obtain ⟨v1, vs1, d1, ds1, p1, q1, rfl, rfl, rfl, h1, r1⟩ := trodAll_cons r0
  obtain ⟨v2, vs2, d2, ds2, p2, q2, rfl, rfl, rfl, h2, r2⟩ := trodAll_cons r1
  obtain ⟨rfl, rfl, rfl⟩ := trodAll_nil r2
  obtain rfl : args = #[v0, v1, v2] := by cases args; simp_all
  obtain ⟨rfl, rfl⟩ := trodVars_none hV
  have lt0 := Args.trod_below h0
  obtain ⟨lA, ln, lc, lz, rfl, hl, hlc⟩ := Args.precs_cap (ks := [some .i64, none]) (e := 25) (by kernel_rfl) Try.underlying25 (by kernel_rfl) (by kernel_rfl) (by decide) (hval 0 22 v0 rfl rfl) h0
  have lt1 := Args.trod_below h1
  obtain ⟨scopez, hv1, hscope⟩ := Args.arr_in (m := 2) (k := .i64) (e := 3) (by kernel_rfl) (by kernel_rfl) (by kernel_rfl) (by kernel_rfl) (hval 1 23 v1 rfl rfl) h1
  obtain rfl : v1 = .agg #[.int .i64 (scopez 0), .int .i64 (scopez 1)] := hv1.trans (by kernel_rfl)
  have lt2 := Args.trod_below h2
  obtain ⟨xz, hv2, hx⟩ := Args.plain_in (ks := [some .i64, none]) Try.underlying25 (by kernel_rfl) (by kernel_rfl) (hval 2 25 v2 rfl rfl) h2
  obtain rfl : v2 = .agg #[.int .i64 (xz 0), .bool (xz 1 != 0)] := hv2
  clear hA0 hval0
  refine (walk lA ln lc lz (scopez 0) (scopez 1) (xz 0) (xz 1 != 0) W hl hlc (hscope 0) (hscope 1) (hx 0)).mono fun e W' ⟨he, bel⟩ => ?_
  subst he
  exact ⟨_, rfl, _, _, _, [], _, [], hW', trodAll_mk1 (shut_bool Try.underlying4 _), trodAll_cons_mk (Below.trod Args.laidOut (by kernel_rfl) (of_decide_eq_true (by kernel_rfl)) h0 bel lt0) (trodAll_cons_mk (Below.trod Args.laidOut (by kernel_rfl) (of_decide_eq_true (by kernel_rfl)) h1 bel lt1) (trodAll_cons_mk (Below.trod Args.laidOut (by kernel_rfl) (of_decide_eq_true (by kernel_rfl)) h2 bel lt2) (trodAll_mk0))), rfl, bel.frame _, fun h => by cases h⟩

theorem over : Rows.chainAllRow.holds Try.pinned (OpenSpec.ofChange Rows.chainAllSpec) :=
  OpenClaim.holds_of_wide 3 Try.f3 rfl rfl rfl rfl rfl rfl rfl ⟨rfl, rfl, rfl, rfl, rfl⟩ rfl rfl rfl rfl rfl (by kernel_rfl) Try.func3 (by kernel_rfl)
    (of_decide_eq_true (by kernel_rfl)) (by unfold Func.isWrapper; rw [if_neg (of_decide_eq_false (by kernel_rfl))]; exact ⟨rfl, rfl⟩)
    (fun os started H enc _ => lifted os started H enc)

theorem proved : Rows.ChainAllSaid :=
  over
end Go.Proofs.Ytjebkchlbbfabaa.chainAll
