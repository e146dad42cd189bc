/-
  penfoldlaw09.ChainIn returns true for every slice of entries, every scope and every two scopes, and changes nothing that was there; no condition.
-/
import Derived.Test.YtjebkchlbbfabaaRows
import Derived.Test.YtjebkchlbbfabaaArgs
import Derived.Test.YtjebkchlbbfabaaChF
import Derived.Test.YtjebkchlbbfabaaSt
namespace Go.Proofs.Ytjebkchlbbfabaa.chainIn
open Go.ChangeShapes Go.WideShapes Go.ChangeAt Go.RowKit
set_option linter.unusedVariables false

open Chain Held

set_option maxRecDepth 100000 in
set_option maxHeartbeats 8000000 in
theorem walk (lA : Option Addr) (ln lc : Nat) (lz : Nat → Nat → Int) (scope : Int) (s0 s1 : Int) (w : World) (hl : Args.PRecs [some .i64, none] w lA ln lz) (hlc : ln ≤ lc ∧ lc ≤ maxLen ∧ (lA = none → lc = 0)) (wscope : (Lit.int .i64 scope).wf = true) (ws0 : (Lit.int .i64 s0).wf = true) (ws1 : (Lit.int .i64 s1).wf = true) :
    Calls Try.prog 7 #[.slice lA ln lc, .int .i64 scope, .agg #[.int .i64 s0, .int .i64 s1]] w fun e w' => e = .returned (.bool true) ∧ Below w.heap.size w w' := by
  have L0 := came_in hl hlc
  have hln := listOf_len ln lz
  generalize listOf ln lz = L at *
  subst hln
  clear hl
  obtain ⟨lc1, lc2, lc3⟩ := hlc
  have hlen : L.length ≤ 9223372036854775807 := by unfold maxLen at lc2; omega
  obtain ⟨n, hn⟩ : ∃ n, n = min L.length 5 := ⟨_, rfl⟩
  have z3 : min (L.length : Int) 5 = (n : Int) := by omega
  obtain ⟨s1', s2'⟩ := slice_h lA L.length lc n (by omega)
  have M0 : Sr w (.slice lA n lc) (L.take n) := L0.part (by omega) (by omega) (Nat.le_refl _)
  have hml : (L.take n).length = n := by rw [List.length_take]; omega
  have P1 : Hid (pushL (L.take n) (scope, false) = L.take n ++ [(scope, false)]) := Lib.hid (if_neg (by omega))
  have P2 : Hid (pushE (L.take n) = 0) := Lib.hid (if_neg (by omega))
  have A1 := Lib.hid (area_snoc (L.take n) (scope, false))
  have R1 := Lib.hid (in_reach (L.take n) scope s0)
  have Q1 := Lib.hid (in_par (L.take n) scope s0)
  have V1 := Lib.hid (in_above (L.take n) scope s0 s1)
  have n5 : n ≤ 5 := by omega
  have HN := Lib.hid hn
  clear L0 hml hn
  generalize L.take n = M at *
  go_enter Try.func7, Try.ntmps7
  have S0 := (St.start w).new [.int .i64 s0, .int .i64 s1] 23
  have M1 := M0.alloc (.cells #[.int .i64 s0, .int .i64 s1] 23)
  go_wp2_with fail
  refine (shown_any _).mono ?_
  rintro z w1 ⟨rfl, k1⟩
  have S1 := S0.call k1
  have M2 := M1.below k1
  clear S0 M0 M1 k1
  go_wp2_with fail
  case inl =>
    have en : n = 5 := by have := HN.out; omega
    subst en
    refine (push_any _ _ M scope false M2).mono ?_
    rintro z w2 ⟨p, rfl, Y2, k2⟩
    rw [P1.out] at Y2
    rw [P2.out]
    have S2 := S1.call k2
    have M3 := M2.below k2
    clear S1 M2 k2
    obtain ⟨sl, s_0, s_1⟩ := S2.get2 0 rfl
    go_wp2_with fail
    refine (area_any _ _ _ Y2).mono ?_
    rintro z w3 ⟨rfl, rfl⟩
    rw [A1.out]
    go_wp2_with fail
    refine (reach_any _ _ _ _ Y2).mono ?_
    rintro z w3 ⟨rfl, k3⟩
    rw [R1.out]
    have S3 := S2.call k3
    have M4 := M3.below k3
    have Y3 := Y2.below k3
    clear S2 M3 Y2 k3 sl s_0 s_1
    go_wp2_with fail
    refine (reach_any _ _ _ _ M4).mono ?_
    rintro z w4 ⟨rfl, k4⟩
    have S4 := S3.call k4
    have M5 := M4.below k4
    have Y4 := Y3.below k4
    clear S3 M4 Y3 k4
    go_wp2_with fail
    refine (par_any _ _ _ _ Y4).mono ?_
    rintro z w5 ⟨rfl, k5⟩
    rw [Q1.out]
    have S5 := S4.call k5
    have M6 := M5.below k5
    have Y5 := Y4.below k5
    clear S4 M5 Y4 k5
    go_wp2_with fail
    refine (par_any _ _ _ _ M6).mono ?_
    rintro z w6 ⟨rfl, k6⟩
    have S6 := S5.call k6
    have M7 := M6.below k6
    have Y6 := Y5.below k6
    clear S5 M6 Y5 k6
    go_wp2_with fail
    refine (above_any _ _ _ _ _ Y6).mono ?_
    rintro z w7 ⟨rfl, k7⟩
    rw [V1.out]
    have S7 := S6.call k7
    have M8 := M7.below k7
    clear S6 M7 Y6 k7
    go_wp2_with fail
    refine (above_any _ _ _ _ _ M8).mono ?_
    rintro z w8 ⟨rfl, k8⟩
    have S8 := S7.call k8
    go_wp2
    go_ret
    exact ⟨rfl, S8.below⟩
  case inr =>
    have en : n = L.length := by have := HN.out; omega
    subst en
    refine (push_any _ _ M scope false M2).mono ?_
    rintro z w2 ⟨p, rfl, Y2, k2⟩
    rw [P1.out] at Y2
    rw [P2.out]
    have S2 := S1.call k2
    have M3 := M2.below k2
    clear S1 M2 k2
    obtain ⟨sl, s_0, s_1⟩ := S2.get2 0 rfl
    go_wp2_with fail
    refine (area_any _ _ _ Y2).mono ?_
    rintro z w3 ⟨rfl, rfl⟩
    rw [A1.out]
    go_wp2_with fail
    refine (reach_any _ _ _ _ Y2).mono ?_
    rintro z w3 ⟨rfl, k3⟩
    rw [R1.out]
    have S3 := S2.call k3
    have M4 := M3.below k3
    have Y3 := Y2.below k3
    clear S2 M3 Y2 k3 sl s_0 s_1
    go_wp2_with fail
    refine (reach_any _ _ _ _ M4).mono ?_
    rintro z w4 ⟨rfl, k4⟩
    have S4 := S3.call k4
    have M5 := M4.below k4
    have Y4 := Y3.below k4
    clear S3 M4 Y3 k4
    go_wp2_with fail
    refine (par_any _ _ _ _ Y4).mono ?_
    rintro z w5 ⟨rfl, k5⟩
    rw [Q1.out]
    have S5 := S4.call k5
    have M6 := M5.below k5
    have Y5 := Y4.below k5
    clear S4 M5 Y4 k5
    go_wp2_with fail
    refine (par_any _ _ _ _ M6).mono ?_
    rintro z w6 ⟨rfl, k6⟩
    have S6 := S5.call k6
    have M7 := M6.below k6
    have Y6 := Y5.below k6
    clear S5 M6 Y5 k6
    go_wp2_with fail
    refine (above_any _ _ _ _ _ Y6).mono ?_
    rintro z w7 ⟨rfl, k7⟩
    rw [V1.out]
    have S7 := S6.call k7
    have M8 := M7.below k7
    clear S6 M7 Y6 k7
    go_wp2_with fail
    refine (above_any _ _ _ _ _ M8).mono ?_
    rintro z w8 ⟨rfl, k8⟩
    have S8 := S7.call k8
    go_wp2
    go_ret
    exact ⟨rfl, S8.below⟩

set_option maxRecDepth 100000 in
theorem lifted (os : Os) (started : os.Started) (H : Type) (enc : TypeId × Value → H) :
    ReturnsInHanded {} Try.checked os 7 .any (Rows.chainInSpec.pre6 enc Try.prog Try.f7 Rows.chainInRow.domain false) (Rows.chainInSpec.post enc Try.prog Try.f7 false true false false) := by
  refine returnsInHanded_of_change (C := Try.checked) Args.own started (by kernel_rfl) Try.func7
    (ChangeSpec.witness6 (enc := enc) (C := Try.checked) false ⟨#[], #[.slice none 0 0, .int .i64 0, .agg #[.int .i64 0, .int .i64 0]], []⟩ 8 (by kernel_rfl) (by kernel_rfl) (by kernel_rfl) (by kernel_rfl)) ?_
  intro W base args ds gs before hval0 hW hcnd _
  have hval : ∀ (j : Nat) t v, Try.f7.params[j]? = some t → args[j]? = some v → Value.okWide Try.prog W .any base t v := hval0
  have hW' := hW
  obtain ⟨p, q, hA0, hV, rfl, hfz, hnd⟩ := hW
  have hA : DataW.TrodAll enc Try.prog W 0 (fun _ => true) true Try.f7.params.toList args.toList ds p := hA0
  rw [Try.params7] at hA hval
  obtain ⟨v0, vs0, d0, ds0, p0, q0, hargs, rfl, rfl, h0, r0⟩ := trodAll_cons hA
  obtain ⟨v1, vs1, d1, ds1, p1, q1, rfl, rfl, rfl, h1, r1⟩ := trodAll_cons r0
  obtain ⟨v2, vs2, d2, ds2, p2, q2, rfl, rfl, rfl, h2, r2⟩ := trodAll_cons r1
  obtain ⟨rfl, rfl, rfl⟩ := trodAll_nil r2
  obtain rfl : args = #[v0, v1, v2] := by cases args; simp_all
  obtain ⟨rfl, rfl⟩ := trodVars_none hV
  have lt0 := Args.trod_below h0
  obtain ⟨lA, ln, lc, lz, rfl, hl, hlc⟩ := Args.precs_cap (ks := [some .i64, none]) (e := 25) (by kernel_rfl) Try.underlying25 (by kernel_rfl) (by kernel_rfl) (by decide) (hval 0 22 v0 rfl rfl) h0
  have lt1 := Args.trod_below h1
  obtain ⟨scope, rfl, rfl, rfl, wscope⟩ := open_int Try.underlying3 (hval 1 3 v1 rfl rfl) h1
  have lt2 := Args.trod_below h2
  obtain ⟨sz, hv2, hs⟩ := Args.arr_in (m := 2) (k := .i64) (e := 3) (by kernel_rfl) (by kernel_rfl) (by kernel_rfl) (by kernel_rfl) (hval 2 23 v2 rfl rfl) h2
  obtain rfl : v2 = .agg #[.int .i64 (sz 0), .int .i64 (sz 1)] := hv2.trans (by kernel_rfl)
  clear hA0 hval0
  refine (walk lA ln lc lz scope (sz 0) (sz 1) W hl hlc wscope (hs 0) (hs 1)).mono fun e W' ⟨he, bel⟩ => ?_
  subst he
  exact ⟨_, rfl, _, _, _, [], _, [], hW', trodAll_mk1 (shut_bool Try.underlying4 _), trodAll_cons_mk (Below.trod Args.laidOut (by kernel_rfl) (of_decide_eq_true (by kernel_rfl)) h0 bel lt0) (trodAll_cons_mk (Below.trod Args.laidOut (by kernel_rfl) (of_decide_eq_true (by kernel_rfl)) h1 bel lt1) (trodAll_cons_mk (Below.trod Args.laidOut (by kernel_rfl) (of_decide_eq_true (by kernel_rfl)) h2 bel lt2) (trodAll_mk0))), rfl, bel.frame _, fun h => by cases h⟩

theorem over : Rows.chainInRow.holds Try.pinned (OpenSpec.ofChange Rows.chainInSpec) :=
  OpenClaim.holds_of_wide 7 Try.f7 rfl rfl rfl rfl rfl rfl rfl ⟨rfl, rfl, rfl, rfl, rfl⟩ rfl rfl rfl rfl rfl (by kernel_rfl) Try.func7 (by kernel_rfl)
    (of_decide_eq_true (by kernel_rfl)) (by unfold Func.isWrapper; rw [if_neg (of_decide_eq_false (by kernel_rfl))]; exact ⟨rfl, rfl⟩)
    (fun os started H enc _ => lifted os started H enc)

theorem proved : Rows.ChainInSaid :=
  over
end Go.Proofs.Ytjebkchlbbfabaa.chainIn
