/-
  penfoldlaw05.PlanAll returns true for every four integers (a plan) and every two integers (a part and a scope); no condition.
-/
import Derived.Test.YtgkcaijgonadgaaRows
import Derived.Test.YtgkcaijgonadgaaArgs
import Derived.Test.YtgkcaijgonadgaaPlanD
import Derived.Deep.DeepCutAuto
namespace Go.Proofs.Ytgkcaijgonadgaa.planAll
open Go.ChangeShapes Go.WideShapes Go.ChangeAt Go.RowKit
set_option linter.unusedVariables false

open Plan Held

theorem no4 {a : Int} (h : a < 0 ∨ 4 < a) : (!withinB a 0 4) = true := by
  rw [show withinB a 0 4 = false from decide_eq_false (by omega)]; rfl
theorem yes4 {a : Int} (h : 0 ≤ a) (h' : a ≤ 4) : (!withinB a 0 4) = false := by
  rw [show withinB a 0 4 = true from decide_eq_true (by omega)]; rfl
theorem noc {c n : Int} (h : c < 0 ∨ n ≤ c) : (!withinB c 0 (n - 1)) = true := by
  rw [show withinB c 0 (n - 1) = false from decide_eq_false (by omega)]; rfl
theorem noc_all {c n : Int} (h : ¬ (0 ≤ c ∧ c ≤ n - 1)) : (!withinB c 0 (n - 1)) = true := noc (by omega)
theorem yesc {c n : Int} (h : 0 ≤ c) (h' : c ≤ n - 1) : (!withinB c 0 (n - 1)) = false := by
  rw [show withinB c 0 (n - 1) = true from decide_eq_true (by omega)]; rfl
theorem ok_all {s t i h a c P W : Int} (hr : rightB s t i h = true) (a1 : 0 ≤ a) (a2 : a ≤ 4) (c1 : 0 ≤ c) (c2 : c ≤ s - 1) (e : atV s t i h a c = ⟨P, W⟩) : P = 64 * c + 8 * a ∧ W = 0 := by
  unfold atV at e
  rw [if_pos ⟨hr, decide_eq_true ⟨a1, a2⟩⟩, if_pos (show withinB c 0 (s - 1) = true from decide_eq_true ⟨c1, c2⟩)] at e
  injection e with e1 e2
  exact ⟨e1.symm, e2.symm⟩
theorem no2_all {s t i h a c P W : Int} (hr : rightB s t i h = true) (a1 : 0 ≤ a) (a2 : a ≤ 4) (hc : ¬ (0 ≤ c ∧ c ≤ s - 1)) (e : atV s t i h a c = ⟨P, W⟩) : P = 0 ∧ W = 2 := by
  unfold atV at e
  rw [if_pos ⟨hr, decide_eq_true ⟨a1, a2⟩⟩, if_neg (show ¬ withinB c 0 (s - 1) = true from fun k => hc (of_decide_eq_true k))] at e
  injection e with e1 e2
  exact ⟨e1.symm, e2.symm⟩
theorem no1_all {s t i h a c P W : Int} (hr : rightB s t i h = true) (ha : ¬ (0 ≤ a ∧ a ≤ 4)) (e : atV s t i h a c = ⟨P, W⟩) : P = 0 ∧ W = 1 := by
  unfold atV at e
  rw [if_neg (fun k => ha (of_decide_eq_true k.2))] at e
  injection e with e1 e2
  exact ⟨e1.symm, e2.symm⟩

set_option maxRecDepth 100000 in
set_option maxHeartbeats 8000000 in
theorem walk (p0 p1 p2 p3 : Int) (a : Int) (c : Int) (w : World) (wp0 : (Lit.int .i64 p0).wf = true) (wp1 : (Lit.int .i64 p1).wf = true) (wp2 : (Lit.int .i64 p2).wf = true) (wp3 : (Lit.int .i64 p3).wf = true) (wa : (Lit.int .i64 a).wf = true) (wc : (Lit.int .i64 c).wf = true) :
    Calls Try.prog 3 #[.agg #[.int .i64 p0, .int .i64 p1, .int .i64 p2, .int .i64 p3], .int .i64 a, .int .i64 c] w fun e w' => e = .returned (.bool true) ∧ Below w.heap.size w w' := by
  clear wa wc wp0 wp1 wp2 wp3
  by_cases hr : rightB p0 p1 p2 p3 = true
  · obtain ⟨b1, b2, b3, b4, b5, b6, b7, b8, b9, b10⟩ := rbounds hr
    have HS : Hid (sizeV p0 p1 p2 p3 = ⟨64 * p0 + p2 + p3, 0⟩) := Lib.hid (by unfold sizeV; rw [if_pos hr])
    have HI : Hid (immV p0 p1 p2 p3 = ⟨64 * p0, p2, 0⟩) := Lib.hid (by unfold immV; rw [if_pos hr])
    have HH : Hid (heapV p0 p1 p2 p3 = ⟨64 * p0 + p2, p3, 0⟩) := Lib.hid (by unfold heapV; rw [if_pos hr])
    have HR := Lib.hid hr
    obtain ⟨P, W, HA⟩ : ∃ P W : Int, Hid (atV p0 p1 p2 p3 a c = ⟨P, W⟩) := ⟨_, _, Lib.hid rfl⟩
    clear hr
    as_aux_lemma =>
      go_enter Try.func3, Try.ntmps3
      have S0 := (St.start w).new [.int .i64 p0, .int .i64 p1, .int .i64 p2, .int .i64 p3] 23
      go_wp2_with fail
      refine (lift S0 (shown_any _)).mono ?_
      rintro z w1 ⟨rfl, S1⟩
      clear S0
      obtain ⟨qpl, qp0, qp1, qp2, qp3⟩ := S1.get4 0 rfl
      go_wp2_with fail
      refine (lift S1 (refright_any _ _ _ _ _)).mono ?_
      rintro z w2 ⟨rfl, S2⟩
      rw [HR.out]
      clear qpl qp0 qp1 qp2 qp3 S1
      obtain ⟨qpl, qp0, qp1, qp2, qp3⟩ := S2.get4 0 rfl
      go_wp2_with fail
      refine (lift S2 (size_any _ _ _ _ _)).mono ?_
      rintro z w3 ⟨rfl, S3⟩
      rw [HS.out]
      clear qpl qp0 qp1 qp2 qp3 S2
      obtain ⟨qpl, qp0, qp1, qp2, qp3⟩ := S3.get4 0 rfl
      go_wp2_with fail
      refine (lift S3 (at_any _ _ _ _ _ _ _)).mono ?_
      rintro z w4 ⟨rfl, S4⟩
      rw [HA.out]
      clear qpl qp0 qp1 qp2 qp3 S3
      obtain ⟨qpl, qp0, qp1, qp2, qp3⟩ := S4.get4 0 rfl
      go_wp2_with fail
      refine (lift S4 (imm_any _ _ _ _ _)).mono ?_
      rintro z w5 ⟨rfl, S5⟩
      rw [HI.out]
      clear qpl qp0 qp1 qp2 qp3 S4
      obtain ⟨qpl, qp0, qp1, qp2, qp3⟩ := S5.get4 0 rfl
      go_wp2_with fail
      refine (lift (S5.new [.int .i64 (64 * p0), .int .i64 p2] 31) (heap_any _ _ _ _ _)).mono ?_
      rintro z w6 ⟨rfl, S6⟩
      rw [HH.out]
      clear qpl qp0 qp1 qp2 qp3 S5
      obtain ⟨qpl, qp0, qp1, qp2, qp3⟩ := S6.get4 1 rfl
      go_wp2_with fail
      refine (lift (S6.new [.int .i64 (64 * p0 + p2), .int .i64 p3] 31) (right_any _ _ _ _ _)).mono ?_
      rintro z w7 ⟨rfl, S7⟩
      rw [HR.out]
      clear qpl qp0 qp1 qp2 qp3 S6
      obtain ⟨qpl, qp0, qp1, qp2, qp3⟩ := S7.get4 2 rfl
      obtain ⟨qil, qi0, qi1⟩ := S7.get2 1 rfl
      obtain ⟨qhl, qh0, qh1⟩ := S7.get2 0 rfl
      go_upto_region 13 with (fail)
      go_cut [90] (fun s90 wx => s90 = .bool (!withinB a 0 4) ∧ w7 = wx)
      case first =>
        by_cases a1 : a < 0
        · go_wp2_with fail
          go_meet
          exact ⟨congrArg Value.bool (no4 (Or.inl a1)).symm, rfl⟩
        · by_cases a2 : 4 < a
          · go_wp2_with fail
            go_meet
            exact ⟨congrArg Value.bool (no4 (Or.inr a2)).symm, rfl⟩
          · go_wp2_with fail
            go_meet
            exact ⟨congrArg Value.bool (yes4 (by omega) (by omega)).symm, rfl⟩
      case rest =>
        obtain ⟨rfl, rfl⟩ := hcut
        go_upto_if 90 with (fail)
        go_cut [17, 18] (fun s17 s18 wx => s17 = .int .i64 W ∧ s18 = .int .i64 P ∧ St w wx [(w6.heap.size, [.int .i64 (64 * p0 + p2), .int .i64 p3]), (w5.heap.size, [.int .i64 (64 * p0), .int .i64 p2]), (w.heap.size, [.int .i64 p0, .int .i64 p1, .int .i64 p2, .int .i64 p3])])
        case first =>
          by_cases ha : 0 ≤ a ∧ a ≤ 4
          · obtain ⟨a1, a2⟩ := ha
            rw [yes4 a1 a2]
            go_upto_region 15 with (fail)
            go_cut [98] (fun s98 wx => s98 = .bool (!withinB c 0 (p0 - 1)) ∧ w7 = wx)
            case first =>
              by_cases c1 : c < 0
              · go_wp2_with fail
                go_meet
                exact ⟨congrArg Value.bool (noc (Or.inl c1)).symm, rfl⟩
              · by_cases c2 : p0 ≤ c
                · go_wp2_with fail
                  go_meet
                  exact ⟨congrArg Value.bool (noc (Or.inr c2)).symm, rfl⟩
                · go_wp2_with fail
                  go_meet
                  exact ⟨congrArg Value.bool (yesc (by omega) (by omega)).symm, rfl⟩
            case rest =>
              obtain ⟨rfl, rfl⟩ := hcut
              by_cases hc : 0 ≤ c ∧ c ≤ p0 - 1
              · obtain ⟨c1, c2⟩ := hc
                rw [yesc c1 c2]
                have HP := Lib.hid (ok_all HR.out a1 a2 c1 c2 HA.out)
                go_wp2_with fail
                refine (lift S7 (refat_any _ _ _ a1 a2 c1 (by omega))).mono ?_
                rintro z w8 ⟨rfl, S8⟩
                go_wp2_with fail
                go_meet
                exact ⟨by rw [HP.out.2], by rw [HP.out.1], S8⟩
              · rw [noc_all hc]
                have HP := Lib.hid (no2_all HR.out a1 a2 hc HA.out)
                clear hc
                go_wp2_with fail
                go_meet
                exact ⟨by rw [HP.out.2], by rw [HP.out.1], S7⟩
          · rw [no4 (a := a) (by omega)]
            have HP := Lib.hid (no1_all HR.out ha HA.out)
            clear ha
            go_wp2_with fail
            go_meet
            exact ⟨by rw [HP.out.2], by rw [HP.out.1], S7⟩
        case rest =>
          obtain ⟨rfl, rfl, S8⟩ := hcut
          clear qpl qp0 qp1 qp2 qp3 qil qi0 qi1 qhl qh0 qh1 S7
          obtain ⟨qpl, qp0, qp1, qp2, qp3⟩ := S8.get4 2 rfl
          obtain ⟨qil, qi0, qi1⟩ := S8.get2 1 rfl
          obtain ⟨qhl, qh0, qh1⟩ := S8.get2 0 rfl
          go_upto_region 18 with (fail)
          have D8 := S8.drew
          go_region_held3 (fun w' => w'.cell? ⟨w.heap.size, 0, none⟩ = some (.int .i64 p0) ∧ w'.cell? ⟨w.heap.size, 1, none⟩ = some (.int .i64 p1) ∧ w'.cell? ⟨w.heap.size, 2, none⟩ = some (.int .i64 p2) ∧ w'.cell? ⟨w.heap.size, 3, none⟩ = some (.int .i64 p3) ∧ w'.cell? ⟨w5.heap.size, 0, none⟩ = some (.int .i64 (64 * p0)) ∧ w'.cell? ⟨w5.heap.size, 1, none⟩ = some (.int .i64 p2) ∧ w'.cell? ⟨w6.heap.size, 0, none⟩ = some (.int .i64 (64 * p0 + p2)) ∧ w'.cell? ⟨w6.heap.size, 1, none⟩ = some (.int .i64 p3))
            (first | exact ⟨qp0, qp1, qp2, qp3, qi0, qi1, qh0, qh1⟩ | exact ⟨r0p0, r0p1, r0p2, r0p3, r0i0, r0i1, r0h0, r0h1⟩ | exact ⟨r1p0, r1p1, r1p2, r1p3, r1i0, r1i1, r1h0, r1h1⟩ | exact ⟨r2p0, r2p1, r2p2, r2p3, r2i0, r2i1, r2h0, r2h1⟩)
            (first | (go_at_call 15; refine (lift (by assumption) (refsize_any _ _ _ _ _ HR.out)).mono ?_; rintro z w9 ⟨rfl, S9⟩; have ⟨r0pl, r0p0, r0p1, r0p2, r0p3⟩ := S9.get4 2 rfl; have ⟨r0il, r0i0, r0i1⟩ := S9.get2 1 rfl; have ⟨r0hl, r0h0, r0h1⟩ := S9.get2 0 rfl) | (go_at_call 16; refine (lift (by assumption) (refimm_any _ _ _ _ _ HR.out)).mono ?_; rintro z w10 ⟨rfl, S10⟩; have ⟨r1pl, r1p0, r1p1, r1p2, r1p3⟩ := S10.get4 2 rfl; have ⟨r1il, r1i0, r1i1⟩ := S10.get2 1 rfl; have ⟨r1hl, r1h0, r1h1⟩ := S10.get2 0 rfl) | (go_at_call 17; refine (lift (by assumption) (refheap_any _ _ _ _ _ HR.out)).mono ?_; rintro z w11 ⟨rfl, S11⟩; have ⟨r2pl, r2p0, r2p1, r2p2, r2p3⟩ := S11.get4 2 rfl; have ⟨r2il, r2i0, r2i1⟩ := S11.get2 1 rfl; have ⟨r2hl, r2h0, r2h1⟩ := S11.get2 0 rfl))
          go_wp2
          go_ret
          exact ⟨rfl, S11.below⟩
  · have hf : rightB p0 p1 p2 p3 = false := by simpa using hr
    have HS : Hid (sizeV p0 p1 p2 p3 = ⟨0, 1⟩) := Lib.hid (by unfold sizeV; rw [if_neg hr])
    have HI : Hid (immV p0 p1 p2 p3 = ⟨0, 0, 1⟩) := Lib.hid (by unfold immV; rw [if_neg hr])
    have HH : Hid (heapV p0 p1 p2 p3 = ⟨0, 0, 1⟩) := Lib.hid (by unfold heapV; rw [if_neg hr])
    have HA : Hid (atV p0 p1 p2 p3 a c = ⟨0, 1⟩) := Lib.hid (by unfold atV; rw [if_neg (fun k => hr k.1)])
    have HR := Lib.hid hf
    clear hr hf
    as_aux_lemma =>
      go_enter Try.func3, Try.ntmps3
      have S0 := (St.start w).new [.int .i64 p0, .int .i64 p1, .int .i64 p2, .int .i64 p3] 23
      go_wp2_with fail
      refine (lift S0 (shown_any _)).mono ?_
      rintro z w1 ⟨rfl, S1⟩
      clear S0
      obtain ⟨qpl, qp0, qp1, qp2, qp3⟩ := S1.get4 0 rfl
      go_wp2_with fail
      refine (lift S1 (refright_any _ _ _ _ _)).mono ?_
      rintro z w2 ⟨rfl, S2⟩
      rw [HR.out]
      clear qpl qp0 qp1 qp2 qp3 S1
      obtain ⟨qpl, qp0, qp1, qp2, qp3⟩ := S2.get4 0 rfl
      go_wp2_with fail
      refine (lift S2 (size_any _ _ _ _ _)).mono ?_
      rintro z w3 ⟨rfl, S3⟩
      rw [HS.out]
      clear qpl qp0 qp1 qp2 qp3 S2
      obtain ⟨qpl, qp0, qp1, qp2, qp3⟩ := S3.get4 0 rfl
      go_wp2_with fail
      refine (lift S3 (at_any _ _ _ _ _ _ _)).mono ?_
      rintro z w4 ⟨rfl, S4⟩
      rw [HA.out]
      clear qpl qp0 qp1 qp2 qp3 S3
      obtain ⟨qpl, qp0, qp1, qp2, qp3⟩ := S4.get4 0 rfl
      go_wp2_with fail
      refine (lift S4 (imm_any _ _ _ _ _)).mono ?_
      rintro z w5 ⟨rfl, S5⟩
      rw [HI.out]
      clear qpl qp0 qp1 qp2 qp3 S4
      obtain ⟨qpl, qp0, qp1, qp2, qp3⟩ := S5.get4 0 rfl
      go_wp2_with fail
      refine (lift (S5.new [.int .i64 0, .int .i64 0] 31) (heap_any _ _ _ _ _)).mono ?_
      rintro z w6 ⟨rfl, S6⟩
      rw [HH.out]
      clear qpl qp0 qp1 qp2 qp3 S5
      obtain ⟨qpl, qp0, qp1, qp2, qp3⟩ := S6.get4 1 rfl
      go_wp2_with fail
      refine (lift (S6.new [.int .i64 0, .int .i64 0] 31) (right_any _ _ _ _ _)).mono ?_
      rintro z w7 ⟨rfl, S7⟩
      rw [HR.out]
      clear qpl qp0 qp1 qp2 qp3 S6
      obtain ⟨qpl, qp0, qp1, qp2, qp3⟩ := S7.get4 2 rfl
      obtain ⟨qil, qi0, qi1⟩ := S7.get2 1 rfl
      obtain ⟨qhl, qh0, qh1⟩ := S7.get2 0 rfl
      go_wp2
      go_ret
      exact ⟨rfl, S7.below⟩

set_option maxRecDepth 100000 in
theorem lifted (os : Os) (started : os.Started) (H : Type) (enc : TypeId × Value → H) :
    ReturnsInHanded {} Try.checked os 3 .any (Rows.planAllSpec.pre6 enc Try.prog Try.f3 Rows.planAllRow.domain false) (Rows.planAllSpec.post enc Try.prog Try.f3 false true false false) := by
  refine returnsInHanded_of_change (C := Try.checked) Args.own started (by kernel_rfl) Try.func3
    (ChangeSpec.witness6 (enc := enc) (C := Try.checked) false ⟨#[], #[.agg #[.int .i64 0, .int .i64 0, .int .i64 0, .int .i64 0], .int .i64 0, .int .i64 0], []⟩ 8 (by kernel_rfl) (by kernel_rfl) (by kernel_rfl) (by kernel_rfl)) ?_
  intro W base args ds gs before hval0 hW hcnd _
  have hval : ∀ (j : Nat) t v, Try.f3.params[j]? = some t → args[j]? = some v → Value.okWide Try.prog W .any base t v := hval0
  have hW' := hW
  obtain ⟨p, q, hA0, hV, rfl, hfz, hnd⟩ := hW
  have hA : DataW.TrodAll enc Try.prog W 0 (fun _ => true) true Try.f3.params.toList args.toList ds p := hA0
  rw [Try.params3] at hA hval
  obtain ⟨v0, vs0, d0, ds0, p0, q0, hargs, rfl, rfl, h0, r0⟩ := trodAll_cons hA
  obtain ⟨v1, vs1, d1, ds1, p1, q1, rfl, rfl, rfl, h1, r1⟩ := trodAll_cons r0
  obtain ⟨v2, vs2, d2, ds2, p2, q2, rfl, rfl, rfl, h2, r2⟩ := trodAll_cons r1
  obtain ⟨rfl, rfl, rfl⟩ := trodAll_nil r2
  obtain rfl : args = #[v0, v1, v2] := by cases args; simp_all
  obtain ⟨rfl, rfl⟩ := trodVars_none hV
  have lt0 := Args.trod_below h0
  obtain ⟨pz, hv0, hp⟩ := Args.rec_in (ks := [.i64, .i64, .i64, .i64]) Try.underlying23 (by kernel_rfl) (by kernel_rfl) (hval 0 23 v0 rfl rfl) h0
  obtain rfl : v0 = .agg #[.int .i64 (pz 0), .int .i64 (pz 1), .int .i64 (pz 2), .int .i64 (pz 3)] := hv0
  have lt1 := Args.trod_below h1
  obtain ⟨a, rfl, rfl, rfl, wa⟩ := open_int Try.underlying3 (hval 1 3 v1 rfl rfl) h1
  have lt2 := Args.trod_below h2
  obtain ⟨c, rfl, rfl, rfl, wc⟩ := open_int Try.underlying3 (hval 2 3 v2 rfl rfl) h2
  clear hA0 hval0
  refine (walk (pz 0) (pz 1) (pz 2) (pz 3) a c W (hp 0) (hp 1) (hp 2) (hp 3) wa wc).mono fun e W' ⟨he, bel⟩ => ?_
  subst he
  exact ⟨_, rfl, _, _, _, [], _, [], hW', trodAll_mk1 (shut_bool Try.underlying4 _), trodAll_cons_mk (Below.trod Args.laidOut (by kernel_rfl) (of_decide_eq_true (by kernel_rfl)) h0 bel lt0) (trodAll_cons_mk (Below.trod Args.laidOut (by kernel_rfl) (of_decide_eq_true (by kernel_rfl)) h1 bel lt1) (trodAll_cons_mk (Below.trod Args.laidOut (by kernel_rfl) (of_decide_eq_true (by kernel_rfl)) h2 bel lt2) (trodAll_mk0))), rfl, bel.frame _, fun h => by cases h⟩

theorem over : Rows.planAllRow.holds Try.pinned (OpenSpec.ofChange Rows.planAllSpec) :=
  OpenClaim.holds_of_wide 3 Try.f3 rfl rfl rfl rfl rfl rfl rfl ⟨rfl, rfl, rfl, rfl, rfl⟩ rfl rfl rfl rfl rfl (by kernel_rfl) Try.func3 (by kernel_rfl)
    (of_decide_eq_true (by kernel_rfl)) (by unfold Func.isWrapper; rw [if_neg (of_decide_eq_false (by kernel_rfl))]; exact ⟨rfl, rfl⟩)
    (fun os started H enc _ => lifted os started H enc)

theorem proved : Rows.PlanAllSaid :=
  over
end Go.Proofs.Ytgkcaijgonadgaa.planAll
