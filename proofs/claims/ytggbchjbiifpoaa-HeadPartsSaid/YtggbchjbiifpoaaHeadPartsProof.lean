/-
  penfoldlaw07.HeadParts returns true for every head of five integers and a bool; no condition.
-/
import Derived.Test.YtggbchjbiifpoaaRows
import Derived.Test.YtggbchjbiifpoaaArgs
import Derived.Test.YtggbchjbiifpoaaArgsB
import Derived.Test.YtggbchjbiifpoaaTurned
namespace Go.Proofs.Ytggbchjbiifpoaa.headParts
open Go.ChangeShapes Go.WideShapes Go.ChangeAt Go.RowKit
set_option linter.unusedVariables false

open Heads Held

set_option maxRecDepth 100000 in
set_option maxHeartbeats 8000000 in
theorem walk (h0 : Int) (h1 : Int) (h2 : Int) (h3 : Bool) (h4 : Int) (h5 : Int) (w : World) (wh0 : (Lit.int .i64 h0).wf = true) (wh1 : (Lit.int .i64 h1).wf = true) (wh2 : (Lit.int .i64 h2).wf = true) (wh4 : (Lit.int .i64 h4).wf = true) (wh5 : (Lit.int .i64 h5).wf = true) :
    Calls Try.prog 6 #[.agg #[.int .i64 h0, .int .i64 h1, .int .i64 h2, .bool h3, .int .i64 h4, .int .i64 h5]] w fun e w' => e = .returned (.bool true) ∧ Below w.heap.size w w' := by
  clear wh0 wh1 wh2 wh4 wh5
  obtain ⟨xs, xn, xt, xc, xe, xr, FX⟩ := fit_all h0 h1 h2 h3 h4 h5
  have HX := Lib.hid (pack_yes h3 xr)
  have HY := Lib.hid (pack_yes (!h3) xr)
  obtain ⟨e1, e2, e3, e4, e5, e6, e7, a1, a2, b1, b2⟩ := words_parts h3 xr
  have T1 : (firstV xs xn xt h3 % 4294967296 == xs) = true := by simpa using e1
  have T2 : (firstV xs xn xt h3 / 4294967296 % 256 == xn) = true := by simpa using e2
  have T3 : (firstV xs xn xt h3 / 1099511627776 % 256 == xt) = true := by simpa using e3
  have T4 : (firstV xs xn xt h3 / 281474976710656 % 256 == bit h3) = true := by simpa using e4
  have T5 : (firstV xs xn xt h3 / 72057594037927936 == 165) = true := by simpa using e5
  have T6 : (secondV xc xe % 256 == xc) = true := by simpa using e6
  have T7 : (secondV xc xe / 256 == xe) = true := by simpa using e7
  have T8 : (bits .xor .u64 (firstV xs xn xt h3) (firstV xs xn xt (!h3)) == 281474976710656) = true := by
    obtain ⟨c1, c2, c3, c4, c5, c6, c7, c8, c9, c10⟩ := rbounds xr
    have E : firstV xs xn xt true = firstV xs xn xt false + 281474976710656 := by rw [firstV_true, firstV_false]; omega
    have X := xor_done (firstV xs xn xt false) (by rw [firstV_false]; omega) (by rw [firstV_false]; omega) (by rw [firstV_false]; omega)
    cases h3
    · rw [show (!false) = true from rfl, E, X.1]; rfl
    · rw [show (!true) = false from rfl, E, X.2]; rfl
  obtain ⟨c1, c2, c3, c4, c5, c6, c7, c8, c9, c10⟩ := rbounds xr
  clear xr e1 e2 e3 e4 e5 e6 e7
  have T9 : (secondV xc xe == secondV xc xe) = true := by simp
  generalize firstV xs xn xt h3 = A at *
  generalize firstV xs xn xt (!h3) = C at *
  generalize secondV xc xe = B at *
  cases h3
  all_goals
    go_enter Try.func6, Try.ntmps6
    go_wp2_with fail
  · refine (lift ((St.start w).new [.int .i64 h0, .int .i64 h1, .int .i64 h2, .bool false, .int .i64 h4, .int .i64 h5] 24) (shown_any _)).mono ?_
    rintro z w1 ⟨rfl, S1⟩
    obtain ⟨hl, h_0, h_1, h_2, h_3, h_4, h_5⟩ := S1.get6 0 rfl
    go_wp2_with fail
    refine (lift S1 (FX _)).mono ?_
    rintro z w2 ⟨rfl, S2⟩
    clear S1 hl h_0 h_1 h_2 h_3 h_4 h_5
    have R2 := (S2.new [.int .i64 xs, .int .i64 xn, .int .i64 xt, .bool false, .int .i64 xc, .int .i64 xe] 24).new [.int .i64 xs, .int .i64 xn, .int .i64 xt, .bool true, .int .i64 xc, .int .i64 xe] 24
    simp only [World.size_alloc] at R2
    clear S2
    go_wp2_with fail
    refine (lift R2 (pack_any _ _ _ _ _ _ _)).mono ?_
    rintro z w3 ⟨rfl, S3⟩
    rw [HX.out]
    clear R2
    obtain ⟨hl, h_0, h_1, h_2, h_3, h_4, h_5⟩ := S3.get6 0 rfl
    go_wp2_with fail
    refine (lift S3 (pack_any _ _ _ _ _ _ _)).mono ?_
    rintro z w4 ⟨rfl, S4⟩
    rw [show packV xs xn xt true xc xe = ⟨C, B, 0⟩ from HY.out]
    clear S3 hl h_0 h_1 h_2 h_3 h_4 h_5
    obtain ⟨hl, h_0, h_1, h_2, h_3, h_4, h_5⟩ := S4.get6 1 rfl
    rw [show bit false = 0 from rfl] at T4
    go_wp2
    go_ret
    exact ⟨rfl, S4.below⟩
  · refine (lift ((St.start w).new [.int .i64 h0, .int .i64 h1, .int .i64 h2, .bool true, .int .i64 h4, .int .i64 h5] 24) (shown_any _)).mono ?_
    rintro z w1 ⟨rfl, S1⟩
    obtain ⟨hl, h_0, h_1, h_2, h_3, h_4, h_5⟩ := S1.get6 0 rfl
    go_wp2_with fail
    refine (lift S1 (FX _)).mono ?_
    rintro z w2 ⟨rfl, S2⟩
    clear S1 hl h_0 h_1 h_2 h_3 h_4 h_5
    have R2 := (S2.new [.int .i64 xs, .int .i64 xn, .int .i64 xt, .bool true, .int .i64 xc, .int .i64 xe] 24).new [.int .i64 xs, .int .i64 xn, .int .i64 xt, .bool false, .int .i64 xc, .int .i64 xe] 24
    simp only [World.size_alloc] at R2
    clear S2
    go_wp2_with fail
    refine (lift R2 (pack_any _ _ _ _ _ _ _)).mono ?_
    rintro z w3 ⟨rfl, S3⟩
    rw [HX.out]
    clear R2
    obtain ⟨hl, h_0, h_1, h_2, h_3, h_4, h_5⟩ := S3.get6 0 rfl
    go_wp2_with fail
    refine (lift S3 (pack_any _ _ _ _ _ _ _)).mono ?_
    rintro z w4 ⟨rfl, S4⟩
    rw [show packV xs xn xt false xc xe = ⟨C, B, 0⟩ from HY.out]
    clear S3 hl h_0 h_1 h_2 h_3 h_4 h_5
    obtain ⟨hl, h_0, h_1, h_2, h_3, h_4, h_5⟩ := S4.get6 1 rfl
    rw [show bit true = 1 from rfl] at T4
    go_wp2
    go_ret
    exact ⟨rfl, S4.below⟩

set_option maxRecDepth 100000 in
theorem lifted (os : Os) (started : os.Started) (H : Type) (enc : TypeId × Value → H) :
    ReturnsInHanded {} Try.checked os 6 .any (Rows.headPartsSpec.pre6 enc Try.prog Try.f6 Rows.headPartsRow.domain false) (Rows.headPartsSpec.post enc Try.prog Try.f6 false true false false) := by
  refine returnsInHanded_of_change (C := Try.checked) Args.own started (by kernel_rfl) Try.func6
    (ChangeSpec.witness6 (enc := enc) (C := Try.checked) false ⟨#[], #[.agg #[.int .i64 0, .int .i64 0, .int .i64 0, .bool false, .int .i64 0, .int .i64 0]], []⟩ 8 (by kernel_rfl) (by kernel_rfl) (by kernel_rfl) (by kernel_rfl)) ?_
  intro W base args ds gs before hval0 hW hcnd _
  have hval : ∀ (j : Nat) t v, Try.f6.params[j]? = some t → args[j]? = some v → Value.okWide Try.prog W .any base t v := hval0
  have hW' := hW
  obtain ⟨p, q, hA0, hV, rfl, hfz, hnd⟩ := hW
  have hA : DataW.TrodAll enc Try.prog W 0 (fun _ => true) true Try.f6.params.toList args.toList ds p := hA0
  rw [Try.params6] at hA hval
  obtain ⟨v0, vs0, d0, ds0, p0, q0, hargs, rfl, rfl, h0, r0⟩ := trodAll_cons hA
  obtain ⟨rfl, rfl, rfl⟩ := trodAll_nil r0
  obtain rfl : args = #[v0] := by cases args; simp_all
  obtain ⟨rfl, rfl⟩ := trodVars_none hV
  have lt0 := Args.trod_below h0
  obtain ⟨hz, hv0, hh⟩ := Args.plain_in (ks := [some .i64, some .i64, some .i64, none, some .i64, some .i64]) Try.underlying24 (by kernel_rfl) (by kernel_rfl) (hval 0 24 v0 rfl rfl) h0
  obtain rfl : v0 = .agg #[.int .i64 (hz 0), .int .i64 (hz 1), .int .i64 (hz 2), .bool (hz 3 != 0), .int .i64 (hz 4), .int .i64 (hz 5)] := hv0
  clear hA0 hval0
  refine (walk (hz 0) (hz 1) (hz 2) (hz 3 != 0) (hz 4) (hz 5) W (hh 0) (hh 1) (hh 2) (hh 4) (hh 5)).mono fun e W' ⟨he, bel⟩ => ?_
  subst he
  exact ⟨_, rfl, _, _, _, [], _, [], hW', trodAll_mk1 (shut_bool Try.underlying4 _), trodAll_cons_mk (Below.trod Args.laidOut (by kernel_rfl) (of_decide_eq_true (by kernel_rfl)) h0 bel lt0) (trodAll_mk0), rfl, bel.frame _, fun h => by cases h⟩

theorem over : Rows.headPartsRow.holds Try.pinned (OpenSpec.ofChange Rows.headPartsSpec) :=
  OpenClaim.holds_of_wide 6 Try.f6 rfl rfl rfl rfl rfl rfl rfl ⟨rfl, rfl, rfl, rfl, rfl⟩ rfl rfl rfl rfl rfl (by kernel_rfl) Try.func6 (by kernel_rfl)
    (of_decide_eq_true (by kernel_rfl)) (by unfold Func.isWrapper; rw [if_neg (of_decide_eq_false (by kernel_rfl))]; exact ⟨rfl, rfl⟩)
    (fun os started H enc _ => lifted os started H enc)

theorem proved : Rows.HeadPartsSaid :=
  over
end Go.Proofs.Ytggbchjbiifpoaa.headParts
