/-
  penfoldlaw07.HeadAll returns true for every two integers, every head of five integers and a bool, and every two words of 64 bits; no condition.
-/
import Derived.Test.YtggbchjbiifpoaaRows
import Derived.Test.YtggbchjbiifpoaaArgs
import Derived.Test.YtggbchjbiifpoaaArgsB
import Derived.Test.YtggbchjbiifpoaaHeadsE
namespace Go.Proofs.Ytggbchjbiifpoaa.headAll
open Go.ChangeShapes Go.WideShapes Go.ChangeAt Go.RowKit
set_option linter.unusedVariables false

open Heads Held

set_option maxRecDepth 100000 in
set_option maxHeartbeats 8000000 in
theorem walk (n0 n1 : Int) (h0 : Int) (h1 : Int) (h2 : Int) (h3 : Bool) (h4 : Int) (h5 : Int) (v0 v1 : Int) (w : World) (wn0 : (Lit.int .i64 n0).wf = true) (wn1 : (Lit.int .i64 n1).wf = true) (wh0 : (Lit.int .i64 h0).wf = true) (wh1 : (Lit.int .i64 h1).wf = true) (wh2 : (Lit.int .i64 h2).wf = true) (wh4 : (Lit.int .i64 h4).wf = true) (wh5 : (Lit.int .i64 h5).wf = true) (wv0 : (Lit.int .u64 v0).wf = true) (wv1 : (Lit.int .u64 v1).wf = true) :
    Calls Try.prog 3 #[.agg #[.int .i64 n0, .int .i64 n1], .agg #[.int .i64 h0, .int .i64 h1, .int .i64 h2, .bool h3, .int .i64 h4, .int .i64 h5], .agg #[.int .u64 v0, .int .u64 v1]] w fun e w' => e = .returned (.bool true) ∧ Below w.heap.size w w' := by
  have ⟨f1, f2⟩ := bounds_u64 wv0
  have ⟨g1, g2⟩ := bounds_u64 wv1
  clear wn0 wn1 wh0 wh1 wh2 wh4 wh5 wv0 wv1
  go_enter Try.func3, Try.ntmps3
  have S0 := (((St.start w).new [.int .i64 n0, .int .i64 n1] 22).new [.int .i64 h0, .int .i64 h1, .int .i64 h2, .bool h3, .int .i64 h4, .int .i64 h5] 24).new [.int .u64 v0, .int .u64 v1] 26
  simp only [World.size_alloc] at S0
  go_wp2_with fail
  refine (lift S0 (shown_any _)).mono ?_
  rintro z w1 ⟨rfl, S1⟩
  clear S0
  obtain ⟨nl, n_0, n_1⟩ := S1.get2 2 rfl
  obtain ⟨hl, h_0, h_1, h_2, h_3, h_4, h_5⟩ := S1.get6 1 rfl
  go_wp2_with fail
  refine (words_any _ _ _).mono ?_
  rintro z w2 ⟨rfl, rfl⟩
  go_wp2_with fail
  refine (refwords_any _ _ _).mono ?_
  rintro z w2 ⟨rfl, rfl⟩
  go_wp2_with fail
  refine (lift S1 (pack_any _ _ _ _ _ _ _)).mono ?_
  rintro z w2 ⟨rfl, S2⟩
  clear S1 nl n_0 n_1 hl h_0 h_1 h_2 h_3 h_4 h_5
  obtain ⟨hl, h_0, h_1, h_2, h_3, h_4, h_5⟩ := S2.get6 1 rfl
  go_wp2_with fail
  refine (lift S2 (refpack_any _ _ _ _ _ _ _)).mono ?_
  rintro z w3 ⟨rfl, S3⟩
  clear S2 hl h_0 h_1 h_2 h_3 h_4 h_5
  obtain ⟨vl, v_0, v_1⟩ := S3.get2 0 rfl
  go_wp2_with fail
  refine (lift S3 (unpack_any _ _ _ f1 f2 g1 g2)).mono ?_
  rintro z w4 ⟨rfl, S4⟩
  clear S3 vl v_0 v_1
  obtain ⟨vl, v_0, v_1⟩ := S4.get2 0 rfl
  go_wp2_with fail
  refine (lift (S4.new [.int .i64 ((unV v0 v1).s), .int .i64 ((unV v0 v1).n), .int .i64 ((unV v0 v1).t), .bool ((unV v0 v1).d), .int .i64 ((unV v0 v1).c), .int .i64 ((unV v0 v1).e)] 24) (refunpack_any _ _ _ f1 f2 g1 g2)).mono ?_
  rintro z w5 ⟨rfl, S5⟩
  clear S4 vl v_0 v_1
  go_wp2_with fail
  have R5 := (S5.new [.int .i64 (unV v0 v1).s, .int .i64 (unV v0 v1).n, .int .i64 (unV v0 v1).t, .bool (unV v0 v1).d, .int .i64 (unV v0 v1).c, .int .i64 (unV v0 v1).e] 24)
  generalize w5.alloc (.cells #[.int .i64 (unV v0 v1).s, .int .i64 (unV v0 v1).n, .int .i64 (unV v0 v1).t, .bool (unV v0 v1).d, .int .i64 (unV v0 v1).c, .int .i64 (unV v0 v1).e] 24) = V5 at *
  clear S5
  have D5 := R5.drew
  obtain ⟨qhl, qh0, qh1, qh2, qh3, qh4, qh5⟩ := R5.get6 3 rfl; obtain ⟨qxl, qx0, qx1, qx2, qx3, qx4, qx5⟩ := R5.get6 1 rfl; obtain ⟨qyl, qy0, qy1, qy2, qy3, qy4, qy5⟩ := R5.get6 0 rfl
  go_region_held3 (fun w' => w'.cell? ⟨w.heap.size + 1, 0, none⟩ = some (.int .i64 h0) ∧ w'.cell? ⟨w.heap.size + 1, 1, none⟩ = some (.int .i64 h1) ∧ w'.cell? ⟨w.heap.size + 1, 2, none⟩ = some (.int .i64 h2) ∧ w'.cell? ⟨w.heap.size + 1, 3, none⟩ = some (.bool h3) ∧ w'.cell? ⟨w.heap.size + 1, 4, none⟩ = some (.int .i64 h4) ∧ w'.cell? ⟨w.heap.size + 1, 5, none⟩ = some (.int .i64 h5) ∧ w'.cell? ⟨w4.heap.size, 0, none⟩ = some (.int .i64 (unV v0 v1).s) ∧ w'.cell? ⟨w4.heap.size, 1, none⟩ = some (.int .i64 (unV v0 v1).n) ∧ w'.cell? ⟨w4.heap.size, 2, none⟩ = some (.int .i64 (unV v0 v1).t) ∧ w'.cell? ⟨w4.heap.size, 3, none⟩ = some (.bool (unV v0 v1).d) ∧ w'.cell? ⟨w4.heap.size, 4, none⟩ = some (.int .i64 (unV v0 v1).c) ∧ w'.cell? ⟨w4.heap.size, 5, none⟩ = some (.int .i64 (unV v0 v1).e) ∧ w'.cell? ⟨w5.heap.size, 0, none⟩ = some (.int .i64 (unV v0 v1).s) ∧ w'.cell? ⟨w5.heap.size, 1, none⟩ = some (.int .i64 (unV v0 v1).n) ∧ w'.cell? ⟨w5.heap.size, 2, none⟩ = some (.int .i64 (unV v0 v1).t) ∧ w'.cell? ⟨w5.heap.size, 3, none⟩ = some (.bool (unV v0 v1).d) ∧ w'.cell? ⟨w5.heap.size, 4, none⟩ = some (.int .i64 (unV v0 v1).c) ∧ w'.cell? ⟨w5.heap.size, 5, none⟩ = some (.int .i64 (unV v0 v1).e))
    (first | exact ⟨qh0, qh1, qh2, qh3, qh4, qh5, qx0, qx1, qx2, qx3, qx4, qx5, qy0, qy1, qy2, qy3, qy4, qy5⟩ | exact ⟨rh0, rh1, rh2, rh3, rh4, rh5, rx0, rx1, rx2, rx3, rx4, rx5, ry0, ry1, ry2, ry3, ry4, ry5⟩ | exact ⟨sh0, sh1, sh2, sh3, sh4, sh5, sx0, sx1, sx2, sx3, sx4, sx5, sy0, sy1, sy2, sy3, sy4, sy5⟩)
    (first | (go_at_call 15; refine (lift (by assumption) (right_any _ _ _ _ _ _ _)).mono ?_; rintro z w6 ⟨rfl, S6⟩; have ⟨rhl, rh0, rh1, rh2, rh3, rh4, rh5⟩ := S6.get6 3 rfl; have ⟨rxl, rx0, rx1, rx2, rx3, rx4, rx5⟩ := S6.get6 1 rfl; have ⟨ryl, ry0, ry1, ry2, ry3, ry4, ry5⟩ := S6.get6 0 rfl) | (go_at_call 16; refine (lift (by assumption) (refright_any _ _ _ _ _ _ _)).mono ?_; rintro z w7 ⟨rfl, S7⟩; have ⟨shl, sh0, sh1, sh2, sh3, sh4, sh5⟩ := S7.get6 3 rfl; have ⟨sxl, sx0, sx1, sx2, sx3, sx4, sx5⟩ := S7.get6 1 rfl; have ⟨syl, sy0, sy1, sy2, sy3, sy4, sy5⟩ := S7.get6 0 rfl))
  go_wp2
  go_ret
  exact ⟨rfl, S7.below⟩

set_option maxRecDepth 100000 in
theorem lifted (os : Os) (started : os.Started) (H : Type) (enc : TypeId × Value → H) :
    ReturnsInHanded {} Try.checked os 3 .any (Rows.headAllSpec.pre6 enc Try.prog Try.f3 Rows.headAllRow.domain false) (Rows.headAllSpec.post enc Try.prog Try.f3 false true false false) := by
  refine returnsInHanded_of_change (C := Try.checked) Args.own started (by kernel_rfl) Try.func3
    (ChangeSpec.witness6 (enc := enc) (C := Try.checked) false ⟨#[], #[.agg #[.int .i64 0, .int .i64 0], .agg #[.int .i64 0, .int .i64 0, .int .i64 0, .bool false, .int .i64 0, .int .i64 0], .agg #[.int .u64 0, .int .u64 0]], []⟩ 8 (by kernel_rfl) (by kernel_rfl) (by kernel_rfl) (by kernel_rfl)) ?_
  intro W base args ds gs before hval0 hW hcnd _
  have hval : ∀ (j : Nat) t v, Try.f3.params[j]? = some t → args[j]? = some v → Value.okWide Try.prog W .any base t v := hval0
  have hW' := hW
  obtain ⟨p, q, hA0, hV, rfl, hfz, hnd⟩ := hW
  have hA : DataW.TrodAll enc Try.prog W 0 (fun _ => true) true Try.f3.params.toList args.toList ds p := hA0
  rw [Try.params3] at hA hval
  obtain ⟨v0, vs0, d0, ds0, p0, q0, hargs, rfl, rfl, h0, r0⟩ := trodAll_cons hA
  obtain ⟨v1, vs1, d1, ds1, p1, q1, rfl, rfl, rfl, h1, r1⟩ := trodAll_cons r0
  obtain ⟨v2, vs2, d2, ds2, p2, q2, rfl, rfl, rfl, h2, r2⟩ := trodAll_cons r1
  obtain ⟨rfl, rfl, rfl⟩ := trodAll_nil r2
  obtain rfl : args = #[v0, v1, v2] := by cases args; simp_all
  obtain ⟨rfl, rfl⟩ := trodVars_none hV
  have lt0 := Args.trod_below h0
  obtain ⟨nz, hv0, hn⟩ := Args.arr_in (m := 2) (k := .i64) (e := 3) (by kernel_rfl) (by kernel_rfl) (by kernel_rfl) (by kernel_rfl) (hval 0 22 v0 rfl rfl) h0
  obtain rfl : v0 = .agg #[.int .i64 (nz 0), .int .i64 (nz 1)] := hv0.trans (by kernel_rfl)
  have lt1 := Args.trod_below h1
  obtain ⟨hz, hv1, hh⟩ := Args.plain_in (ks := [some .i64, some .i64, some .i64, none, some .i64, some .i64]) Try.underlying24 (by kernel_rfl) (by kernel_rfl) (hval 1 24 v1 rfl rfl) h1
  obtain rfl : v1 = .agg #[.int .i64 (hz 0), .int .i64 (hz 1), .int .i64 (hz 2), .bool (hz 3 != 0), .int .i64 (hz 4), .int .i64 (hz 5)] := hv1
  have lt2 := Args.trod_below h2
  obtain ⟨vz, hv2, hv⟩ := Args.arr_in (m := 2) (k := .u64) (e := 25) (by kernel_rfl) (by kernel_rfl) (by kernel_rfl) (by kernel_rfl) (hval 2 26 v2 rfl rfl) h2
  obtain rfl : v2 = .agg #[.int .u64 (vz 0), .int .u64 (vz 1)] := hv2.trans (by kernel_rfl)
  clear hA0 hval0
  refine (walk (nz 0) (nz 1) (hz 0) (hz 1) (hz 2) (hz 3 != 0) (hz 4) (hz 5) (vz 0) (vz 1) W (hn 0) (hn 1) (hh 0) (hh 1) (hh 2) (hh 4) (hh 5) (hv 0) (hv 1)).mono fun e W' ⟨he, bel⟩ => ?_
  subst he
  exact ⟨_, rfl, _, _, _, [], _, [], hW', trodAll_mk1 (shut_bool Try.underlying4 _), trodAll_cons_mk (Below.trod Args.laidOut (by kernel_rfl) (of_decide_eq_true (by kernel_rfl)) h0 bel lt0) (trodAll_cons_mk (Below.trod Args.laidOut (by kernel_rfl) (of_decide_eq_true (by kernel_rfl)) h1 bel lt1) (trodAll_cons_mk (Below.trod Args.laidOut (by kernel_rfl) (of_decide_eq_true (by kernel_rfl)) h2 bel lt2) (trodAll_mk0))), rfl, bel.frame _, fun h => by cases h⟩

theorem over : Rows.headAllRow.holds Try.pinned (OpenSpec.ofChange Rows.headAllSpec) :=
  OpenClaim.holds_of_wide 3 Try.f3 rfl rfl rfl rfl rfl rfl rfl ⟨rfl, rfl, rfl, rfl, rfl⟩ rfl rfl rfl rfl rfl (by kernel_rfl) Try.func3 (by kernel_rfl)
    (of_decide_eq_true (by kernel_rfl)) (by unfold Func.isWrapper; rw [if_neg (of_decide_eq_false (by kernel_rfl))]; exact ⟨rfl, rfl⟩)
    (fun os started H enc _ => lifted os started H enc)

theorem proved : Rows.HeadAllSaid :=
  over
end Go.Proofs.Ytggbchjbiifpoaa.headAll
