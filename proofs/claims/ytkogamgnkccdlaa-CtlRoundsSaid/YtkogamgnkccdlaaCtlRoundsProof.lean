/-
  penfoldlaw03.CtlRounds returns true for every integer of 64 bits and every two bytes; no condition.
-/
import Derived.Test.YtkogamgnkccdlaaRows
import Derived.Test.YtkogamgnkccdlaaArgs
import Derived.Test.YtkogamgnkccdlaaRound
namespace Go.Proofs.Ytkogamgnkccdlaa.ctlRounds
open Go.ChangeShapes Go.WideShapes Go.ChangeAt Go.RowKit
set_option linter.unusedVariables false

open Ctl

set_option maxRecDepth 100000 in
set_option maxHeartbeats 8000000 in
theorem walk (a : Int) (n : Int) (m : Int) (w : World) (wa : (Lit.int .i64 a).wf = true) (wn : (Lit.int .u8 n).wf = true) (wm : (Lit.int .u8 m).wf = true) :
    Calls Try.prog 7 #[.int .i64 a, .int .u8 n, .int .u8 m] w fun e w' => e = .returned (.bool true) ∧ Below w.heap.size w w' := by
  have ⟨n1, n2⟩ := bounds_u8 wn
  have ⟨m1, m2⟩ := bounds_u8 wm
  obtain ⟨E, hE⟩ : ∃ E, bits .and .i64 a 16777215 = E := ⟨_, rfl⟩
  have hE' : E = a % 16777216 := by rw [← hE]; have := mask_i64 24 (by decide) a; simpa using this
  have e1 : 0 ≤ E := by omega
  have e2 : E ≤ 16777215 := by omega
  obtain ⟨K, hK⟩ : ∃ K : Nat, 1 + n % 7 = (K : Int) := ⟨(1 + n % 7).toNat, by omega⟩
  obtain ⟨A, hA⟩ : ∃ A, m % 8 = A := ⟨_, rfl⟩
  have k1 : 1 ≤ K := by omega
  have k2 : K ≤ 7 := by omega
  have a1 : 0 ≤ A := by omega
  have a2 : A ≤ 7 := by omega
  clear wn wm wa hE'
  go_enter Try.func7, Try.ntmps7
  go_wp2_with fail
  refine (lift (St.start w) (shown_any _)).mono ?_
  rintro z w1 ⟨rfl, S1⟩
  go_wp2_with fail
  have R0 := Ro.new w w1 S1 1 0 (-1) E 23
  rw [hA]
  clear S1 hE hK hA
  go_loopw [12] (fun t wr => ∃ k : Nat, k ≤ K ∧ t = .int .i64 k ∧ Ro w wr w1.heap.size (inS k) k (inP A k) E) (fun t _ => K - (intOf t).toNat)
  case atStart => exact ⟨0, by omega, rfl, R0⟩
  case round =>
    clear R0
    obtain ⟨k, hk, rfl, R⟩ := hrel
    by_cases hlt : k < K
    · as_aux_lemma =>
        have HE := Lib.hid (ent_round A E k a1 a2 e1 e2 (by omega))
        obtain ⟨ql, q0, q1, q2, q3⟩ := R.st.get 0 rfl
        go_wp2_with fail
        refine (R.lift (enter_any _ _ _ _ _ _)).mono ?_
        rintro z w2 ⟨rfl, R2⟩
        rw [HE.out]
        clear ql q0 q1 q2 q3
        obtain ⟨ql, q0, q1, q2, q3⟩ := R2.st.get 0 rfl
        have z0 := R2.fz 0
        have z1 := R2.fz 1
        have z2 := R2.fz 2
        have z3 := R2.fz 3
        go_wp2
        go_roundw
        case rel =>
          refine ⟨k + 1, by omega, by go_num, ?_⟩
          refine Ro.of ((R2.put 2 ((k : Int) + 1) A E).alloc _) ?_ ?_ ?_ rfl
          · unfold inS; rw [if_neg (by omega)]
          · omega
          · unfold inP; rw [if_neg (by omega)]
        case measure => simp [intOf]; omega
    · obtain rfl : k = K := by omega
      have R1 := R.of (show inS k = ouS k 0 by unfold inS ouS; rw [if_neg (by omega), if_neg (by omega)]) (show (k : Int) = (k : Int) - (0 : Nat) by omega) (show inP A k = A by unfold inP; rw [if_neg (by omega)]) rfl
      clear R
      go_wp2_with fail
      go_loopw [15] (fun t wr => ∃ j : Nat, j ≤ k ∧ t = .int .i64 j ∧ Ro w wr w1.heap.size (ouS k j) ((k : Int) - j) A E) (fun t _ => k - (intOf t).toNat)
      case atStart => exact ⟨0, by omega, rfl, R1⟩
      case round =>
        clear R1
        obtain ⟨j, hj, rfl, R⟩ := hrel
        by_cases hlt : j < k
        · by_cases hlast : j + 1 = k
          · as_aux_lemma =>
              have HL := Lib.hid (le_last A E k j a1 a2 e1 e2 hlast (by omega))
              have t1 : ((j : Int) == (k : Int) - 1) = true := by simp; omega
              have t2 : (0 != (k : Int) - 1 - j) = false := by simp; omega
              have HJ := Lib.hid hlast
              clear hlast
              obtain ⟨ql, q0, q1, q2, q3⟩ := R.st.get 0 rfl
              go_wp2_with fail
              refine (R.lift (leave_any _ _ _ _ _)).mono ?_
              rintro z w2 ⟨rfl, R2⟩
              rw [HL.out]
              clear ql q0 q1 q2 q3
              obtain ⟨ql, q0, q1, q2, q3⟩ := R2.st.get 0 rfl
              have z0 := R2.fz 0
              have z1 := R2.fz 1
              have z2 := R2.fz 2
              have z3 := R2.fz 3
              go_wp2
              go_roundw
              case rel =>
                have hl := HJ.out
                refine ⟨j + 1, by omega, by go_num, ?_⟩
                refine Ro.of ((R2.put 3 0 A E).alloc _) ?_ ?_ rfl rfl
                · unfold ouS; rw [if_pos hl]
                · omega
              case measure => simp [intOf]; omega
          · as_aux_lemma =>
              have hm : j + 1 < k := by omega
              have HL := Lib.hid (le_more A E k j a1 a2 e1 e2 hm (by omega))
              have t1 : ((j : Int) == (k : Int) - 1) = false := by simp; omega
              clear hlast
              obtain ⟨ql, q0, q1, q2, q3⟩ := R.st.get 0 rfl
              go_wp2_with fail
              refine (R.lift (leave_any _ _ _ _ _)).mono ?_
              rintro z w2 ⟨rfl, R2⟩
              rw [HL.out]
              clear ql q0 q1 q2 q3
              obtain ⟨ql, q0, q1, q2, q3⟩ := R2.st.get 0 rfl
              have z0 := R2.fz 0
              have z1 := R2.fz 1
              have z2 := R2.fz 2
              have z3 := R2.fz 3
              go_wp2
              go_roundw
              case rel =>
                refine ⟨j + 1, by omega, by go_num, ?_⟩
                refine Ro.of ((R2.put 2 ((k : Int) - 1 - j) A E).alloc _) ?_ ?_ rfl rfl
                · unfold ouS; rw [if_neg (by omega)]
                · omega
              case measure => simp [intOf]; omega
        · obtain rfl : j = k := by omega
          as_aux_lemma =>
            have R3 := R.of (show ouS j j = 3 by unfold ouS; rw [if_pos rfl]) (show (j : Int) - j = 0 by omega) rfl rfl
            clear R
            have r2 : rightB 3 0 A E = true := decide_eq_true (by omega)
            have HO := Lib.hid (show opV 3 0 A E = ⟨1, 0, -1, (E + 1) % 16777216, 0⟩ by unfold opV; rw [if_pos r2]; rfl)
            clear r2
            obtain ⟨ql, q0, q1, q2, q3⟩ := R3.st.get 0 rfl
            go_wp2_with fail
            refine (R3.lift (open_any _ _ _ _ _)).mono ?_
            rintro z w2 ⟨rfl, R2⟩
            rw [HO.out]
            clear ql q0 q1 q2 q3
            go_wp2
            go_ret
            exact ⟨rfl, (R2.alloc _).st.below⟩

set_option maxRecDepth 100000 in
theorem lifted (os : Os) (started : os.Started) (H : Type) (enc : TypeId × Value → H) :
    ReturnsInHanded {} Try.checked os 7 .any (Rows.ctlRoundsSpec.pre6 enc Try.prog Try.f7 Rows.ctlRoundsRow.domain false) (Rows.ctlRoundsSpec.post enc Try.prog Try.f7 false true false false) := by
  refine returnsInHanded_of_change (C := Try.checked) Args.own started (by kernel_rfl) Try.func7
    (ChangeSpec.witness6 (enc := enc) (C := Try.checked) false ⟨#[], #[.int .i64 0, .int .u8 0, .int .u8 0], []⟩ 8 (by kernel_rfl) (by kernel_rfl) (by kernel_rfl) (by kernel_rfl)) ?_
  intro W base args ds gs before hval0 hW hcnd _
  have hval : ∀ (j : Nat) t v, Try.f7.params[j]? = some t → args[j]? = some v → Value.okWide Try.prog W .any base t v := hval0
  have hW' := hW
  obtain ⟨p, q, hA0, hV, rfl, hfz, hnd⟩ := hW
  have hA : DataW.TrodAll enc Try.prog W 0 (fun _ => true) true Try.f7.params.toList args.toList ds p := hA0
  rw [Try.params7] at hA hval
  obtain ⟨v0, vs0, d0, ds0, p0, q0, hargs, rfl, rfl, h0, r0⟩ := trodAll_cons hA
  obtain ⟨v1, vs1, d1, ds1, p1, q1, rfl, rfl, rfl, h1, r1⟩ := trodAll_cons r0
  obtain ⟨v2, vs2, d2, ds2, p2, q2, rfl, rfl, rfl, h2, r2⟩ := trodAll_cons r1
  obtain ⟨rfl, rfl, rfl⟩ := trodAll_nil r2
  obtain rfl : args = #[v0, v1, v2] := by cases args; simp_all
  obtain ⟨rfl, rfl⟩ := trodVars_none hV
  have lt0 := Args.trod_below h0
  obtain ⟨a, rfl, rfl, rfl, wa⟩ := open_int Try.underlying3 (hval 0 3 v0 rfl rfl) h0
  have lt1 := Args.trod_below h1
  obtain ⟨n, rfl, rfl, rfl, wn⟩ := open_int Try.underlying5 (hval 1 5 v1 rfl rfl) h1
  have lt2 := Args.trod_below h2
  obtain ⟨m, rfl, rfl, rfl, wm⟩ := open_int Try.underlying5 (hval 2 5 v2 rfl rfl) h2
  clear hA0 hval0
  refine (walk a n m W wa wn wm).mono fun e W' ⟨he, bel⟩ => ?_
  subst he
  exact ⟨_, rfl, _, _, _, [], _, [], hW', trodAll_mk1 (shut_bool Try.underlying4 _), trodAll_cons_mk (Below.trod Args.laidOut (by kernel_rfl) (of_decide_eq_true (by kernel_rfl)) h0 bel lt0) (trodAll_cons_mk (Below.trod Args.laidOut (by kernel_rfl) (of_decide_eq_true (by kernel_rfl)) h1 bel lt1) (trodAll_cons_mk (Below.trod Args.laidOut (by kernel_rfl) (of_decide_eq_true (by kernel_rfl)) h2 bel lt2) (trodAll_mk0))), rfl, bel.frame _, fun h => by cases h⟩

theorem over : Rows.ctlRoundsRow.holds Try.pinned (OpenSpec.ofChange Rows.ctlRoundsSpec) :=
  OpenClaim.holds_of_wide 7 Try.f7 rfl rfl rfl rfl rfl rfl rfl ⟨rfl, rfl, rfl, rfl, rfl⟩ rfl rfl rfl rfl rfl (by kernel_rfl) Try.func7 (by kernel_rfl)
    (of_decide_eq_true (by kernel_rfl)) (by unfold Func.isWrapper; rw [if_neg (of_decide_eq_false (by kernel_rfl))]; exact ⟨rfl, rfl⟩)
    (fun os started H enc _ => lifted os started H enc)

theorem proved : Rows.CtlRoundsSaid :=
  over
end Go.Proofs.Ytkogamgnkccdlaa.ctlRounds
