/-
  penfoldlaw10.FinKeeps returns true for every slice of ops and every slice of words, and changes nothing that was there; no condition.
-/
import Derived.Test.YtapbhcpcechccaaRows
import Derived.Test.YtapbhcpcechccaaArgs
import Derived.Test.YtapbhcpcechccaaFinaL
import Derived.Test.YtapbhcpcechccaaSt
namespace Go.Proofs.Ytapbhcpcechccaa.finKeeps
open Go.ChangeShapes Go.WideShapes Go.ChangeAt Go.RowKit
set_option linter.unusedVariables false

open Fina Held Slic

set_option maxRecDepth 100000 in
set_option maxHeartbeats 8000000 in
theorem walk (opsA : Option Addr) (opsn opsc : Nat) (opsz : Nat → Nat → Int) (slotsA : Option Addr) (slotsn slotsc : Nat) (slotsz : Nat → Int) (w : World) (hops : Args.PRecs [some .u8, some .i64, some .i64] w opsA opsn opsz) (hopsc : opsn ≤ opsc ∧ opsc ≤ maxLen ∧ (opsA = none → opsc = 0)) (hslots : Args.Ints .u64 w slotsA slotsn slotsz) (hslotsc : slotsn ≤ slotsc ∧ slotsc ≤ maxLen ∧ (slotsA = none → slotsc = 0)) :
    Calls Try.prog 4 #[.slice opsA opsn opsc, .slice slotsA slotsn slotsc] w fun e w' => e = .returned (.bool true) ∧ Below w.heap.size w w' := by
  obtain ⟨L0, bO⟩ := came_ops hops hopsc
  have S0 := came_words hslots hslotsc
  have ho := ops_len opsn opsz
  have hs := words_len slotsn slotsz
  generalize opsOf opsn opsz = L at *
  generalize wordsOf slotsn slotsz = S at *
  subst ho hs
  clear hops hslots
  obtain ⟨oc1, oc2, oc3⟩ := hopsc
  obtain ⟨sc1, sc2, sc3⟩ := hslotsc
  have F := Lib.hid (fitp_ok bO)
  have BO := Lib.hid bO
  clear bO
  go_enter Try.func4, Try.ntmps4
  go_wp2_with fail
  refine (shown_any _).mono ?_
  rintro z w1 ⟨rfl, k1⟩
  have L1 := L0.below k1
  have S1 := S0.below k1
  have B1 := k1
  clear L0 S0 k1
  go_wp2_with fail
  refine (fitone_any _ _ opsA L.length opsc L (one_row w1 opsA L.length opsc _ rfl) (L1.alloc _) BO.out).mono ?_
  rintro z w2 ⟨g, c, A, d, rfl, U2⟩
  have S2 := (S1.alloc _).below U2.below
  have B2 := (B1.alloc B1.size _).trans (U2.below.mono (by have := B1.size; simp; omega))
  clear L1 S1 B1
  have d0 := U2.cell
  have hg := U2.lt
  have P2 := U2.row.sr
  have R2 := U2.rows
  clear U2
  generalize fitP L = P at *
  obtain ⟨f1, f2, f3, f4⟩ := F.out
  have F3 := Lib.hid f3
  clear F f3 BO
  go_wp2_with fail
  refine (few_any _ _ S S2).mono ?_
  rintro z w3 ⟨vs, rfl, S3, rfl⟩
  have T10 : (S.take 10).length ≤ 10 := by rw [List.length_take]; omega
  generalize S.take 10 = T at *
  obtain ⟨TA, tc, rfl, t1, t2⟩ := S3.form
  clear S2
  go_wp2_with (
    refine wpList_app (K := kU) (o := ⟨some 30, _, _, _, _, _⟩) rfl (.tmp 28) (.tmp 29) rfl rfl rfl rfl (Own.empty w2 w2.heap.size (Nat.le_refl _)) (S3.alloc _) (by simp; omega) (by simp) ?_
    intro v4 w4 O4 g4 G4
    rw [List.nil_append] at O4
    have k4 : Below w2.heap.size w2 w4 := G4.below _ _ (Nat.le_refl _) (below_one _ _)
    have d4 := (k4.cell (p := ⟨g, 0, none⟩) hg).trans d0)
  have P4 := P2.below k4
  have R4 := R2.below k4
  have S4 := S3.below k4
  have hg4 := Nat.lt_of_lt_of_le hg k4.size
  have B4 := B2.trans (k4.mono B2.size)
  clear d0 hg P2 R2 S3 g4 G4 k4 B2
  refine (run_any _ _ _ P T P4 (by omega) S4 (by omega) f1 f2).mono ?_
  rintro z w5 ⟨vs, vd, rfl, Q5, D5, k5⟩
  obtain ⟨wl1', wl2, wl3⟩ := walk_len P 0 T
  have HL := Lib.hid wl1'
  clear wl1'
  have WI := Lib.hid (walk_mem P 0 T)
  have WH := Lib.hid (walk_held P 0 T)
  generalize Fina.walk P 0 T = r at *
  obtain ⟨rS, rD, rH, rn⟩ := r
  simp only at HL wl2 wl3 WI WH Q5 D5 ⊢
  obtain ⟨QA, qc, rfl, q1, q2⟩ := Q5.sr.form
  obtain ⟨DA, dc, rfl, q3, q4⟩ := D5.sr.form
  have P5 := P4.below k5
  have R5 := R4.below k5
  have S5 := S4.below k5
  have O5 := O4.sr.below k5
  have Q5' := Q5.sr
  have d5 := (k5.cell (p := ⟨g, 0, none⟩) hg4).trans d4
  have hg5 := Nat.lt_of_lt_of_le hg4 k5.size
  have B5 := B4.trans (k5.mono B4.size)
  clear P4 R4 S4 O4 Q5 D5 d4 hg4 B4 k5
  go_wp2_with fail
  refine (words_any _ _ _ T T O5 S5).mono ?_
  rintro z w6 ⟨rfl, k6⟩
  rw [same_self]
  have P6 := P5.below k6
  have R6 := R5.below k6
  have S6 := S5.below k6
  have Q6 := Q5'.below k6
  have d6 := (k6.cell (p := ⟨g, 0, none⟩) hg5).trans d5
  have hg6 := Nat.lt_of_lt_of_le hg5 k6.size
  have B6 := B5.trans (k6.mono B5.size)
  clear P5 R5 S5 O5 Q5' d5 hg5 B5 k6
  go_wp2_with fail
  go_loop [14, 15] (fun s t => ∃ k : Nat, k ≤ P.length ∧ t = .int .i64 k ∧ s = .bool ((P.take k).any holdV)) (fun _ t => P.length - (intOf t).toNat)
  case atStart => exact ⟨0, by omega, rfl, by simp⟩
  case round =>
    obtain ⟨k, hk, rfl, rfl⟩ := hrel
    by_cases hlt : k < P.length
    · obtain ⟨g2, o2, rfl, hg2, e0, e1, e2⟩ := op_at P6 k hlt
      have T := Lib.hid (List.take_succ_eq_append_getElem hlt)
      have HQ := Lib.hid (show holdV P[k] = ((P[k]).1 == 4) from rfl)
      generalize P[k] = q at *
      obtain ⟨op, a, b⟩ := q
      simp only at e0 e1 e2 HQ
      have y1 : decide ((k : Int) < (P.length : Int)) = true := decide_eq_true (by omega)
      have j0 : (0 : Int) ≤ (k : Int) := by omega
      have j1 : (k : Int) < (P.length : Int) := by omega
      cases hb : (P.take k).any holdV with
      | true =>
        have Y : Hid ((P.take (k + 1)).any holdV = true) := Lib.hid (by rw [T.out, List.any_append, hb]; rfl)
        clear hb
        go_wp2
        go_round
        case rel => exact ⟨k + 1, by omega, by go_num, by rw [Y.out]⟩
        case measure => simp [intOf]; omega
      | false =>
        have Y : Hid ((P.take (k + 1)).any holdV = (op == 4)) := Lib.hid (by rw [T.out, List.any_append, hb]; simp [HQ.out])
        clear hb
        go_wp2
        go_round
        case rel => exact ⟨k + 1, by omega, by go_num, by rw [Y.out]⟩
        case measure => simp [intOf]; omega
    · obtain rfl : k = P.length := by omega
      have y1 : decide ((P.length : Int) < (P.length : Int)) = false := decide_eq_false (by omega)
      have y2 : ((rS.length : Int) != (T.length : Int)) = false := by simpa using (show (rS.length : Int) = (T.length : Int) by have := HL.out; omega)
      have y3 : (rS.length != T.length) = false := by simpa using HL.out
      have y4 : decide ((P.length : Int) < (rn : Int)) = false := decide_eq_false (by omega)
      have y5 : decide ((rn : Int) < (rD.length : Int)) = false := decide_eq_false (by omega)
      have y6 : decide (P.length < rn) = false := decide_eq_false (by omega)
      have y7 : decide (rn < rD.length) = false := decide_eq_false (by omega)
      have RB : Hid (rightB [P] = true) := Lib.hid (by simp [rightB, F3.out])
      have bO : okOs [P] := by intro M hM; simp at hM; subst hM; exact f1
      have two : rH = false ∨ (rH = true ∧ P.any holdV = true) := by
        cases rH with
        | false => exact .inl rfl
        | true => exact .inr ⟨rfl, WH.out rfl⟩
      rw [List.take_length]
      clear f1 f2
      rcases two with rfl | ⟨rfl, h2⟩
      all_goals
        go_wp2_with (
          go_at_call 13
          refine (right_any _ _ [P] R6 bO).mono ?_
          rintro z w7 ⟨rfl, k7⟩
          rw [RB.out]
          have S7 := S6.below k7
          have Q7 := Q6.below k7
          have B7 := B6.trans (k7.mono B6.size))
        go_loopw [16] (fun t wr => ∃ i : Nat, i ≤ rS.length ∧ t = .int .i64 i ∧ Below w7.heap.size w7 wr) (fun t _ => rS.length - (intOf t).toNat)
        case atStart => exact ⟨0, by omega, rfl, Below.refl _ _⟩
        case round =>
          obtain ⟨i, hi, rfl, k8⟩ := hrel
          by_cases hit : i < rS.length
          · have Sr8 := S7.below k8
            obtain ⟨g3, o3, rfl, hg3, c3⟩ := word_at (Q7.below k8) i hit
            have WI2 := Lib.hid (WI.out _ (List.getElem_mem hit))
            generalize rS[i] = x at *
            have y1 : decide ((i : Int) < (rS.length : Int)) = true := decide_eq_true (by omega)
            have i0 : (0 : Int) ≤ (i : Int) := by omega
            have i1 : (i : Int) < (rS.length : Int) := by omega
            have i9 : i ≤ 10 := by have := HL.out; omega
            go_wp2_with fail
            generalize hV : wr = V at *
            clear hV
            go_loopw [17, 18] (fun s t wx => ∃ j : Nat, j ≤ T.length ∧ t = .int .i64 j ∧ s = .bool ((x == 0) || (T.take j).any (x == ·)) ∧ Below V.heap.size V wx) (fun _ t _ => T.length - (intOf t).toNat)
            case atStart => exact ⟨0, by omega, rfl, by simp, Below.refl _ _⟩
            case round =>
              obtain ⟨j, hj, rfl, rfl, k9⟩ := hrel
              by_cases hjt : j < T.length
              · obtain ⟨g4, o4, rfl, hg4, c4⟩ := word_at (Sr8.below k9) j hjt
                have c3' := (k9.cell (p := ⟨g3, o3 + i, none⟩) hg3).trans c3
                have TT := Lib.hid (List.take_succ_eq_append_getElem hjt)
                generalize T[j] = y at *
                have z1 : decide ((j : Int) < (T.length : Int)) = true := decide_eq_true (by omega)
                have j0 : (0 : Int) ≤ (j : Int) := by omega
                have j1 : (j : Int) < (T.length : Int) := by omega
                cases hb : ((x == 0) || (T.take j).any (x == ·)) with
                | true =>
                  have Y : Hid (((x == 0) || (T.take (j + 1)).any (x == ·)) = true) := Lib.hid (by rw [TT.out, List.any_append, ← Bool.or_assoc, hb]; rfl)
                  clear hb
                  go_wp2
                  go_region
                  go_wp2
                  go_roundw
                  case rel => exact ⟨j + 1, by omega, by go_num, by rw [Y.out], k9.drew⟩
                  case measure => simp [intOf]; omega
                | false =>
                  have Y : Hid (((x == 0) || (T.take (j + 1)).any (x == ·)) = (x == y)) := Lib.hid (by rw [TT.out, List.any_append, ← Bool.or_assoc, hb]; simp)
                  clear hb
                  generalize hxy : (x == y) = b at *
                  go_wp2
                  go_region
                  go_wp2
                  go_roundw
                  case rel => exact ⟨j + 1, by omega, by go_num, by rw [Y.out], k9.drew⟩
                  case measure => simp [intOf]; omega
              · obtain rfl : j = T.length := by omega
                have z1 : decide ((T.length : Int) < (T.length : Int)) = false := decide_eq_false (by omega)
                have Y : Hid (((x == 0) || (T.take T.length).any (x == ·)) = true) := Lib.hid (by
                  rw [List.take_length]
                  rcases WI2.out with e | e
                  · simp [e]
                  · rw [List.any_eq_true.2 ⟨x, e, by simp⟩, Bool.or_true])
                rw [Y.out]
                go_wp2
                go_roundw
                case rel => exact ⟨i + 1, by omega, by go_num, k8.trans (k9.mono k8.size)⟩
                case measure => simp [intOf]; omega
          · obtain rfl : i = rS.length := by omega
            have y1 : decide ((rS.length : Int) < (rS.length : Int)) = false := decide_eq_false (by omega)
            go_wp2
            go_ret
            exact ⟨rfl, B7.trans (k8.mono B7.size)⟩

set_option maxRecDepth 100000 in
theorem lifted (os : Os) (started : os.Started) (H : Type) (enc : TypeId × Value → H) :
    ReturnsInHanded {} Try.checked os 4 .any (Rows.finKeepsSpec.pre6 enc Try.prog Try.f4 Rows.finKeepsRow.domain false) (Rows.finKeepsSpec.post enc Try.prog Try.f4 false true false false) := by
  refine returnsInHanded_of_change (C := Try.checked) Args.own started (by kernel_rfl) Try.func4
    (ChangeSpec.witness6 (enc := enc) (C := Try.checked) false ⟨#[], #[.slice none 0 0, .slice none 0 0], []⟩ 8 (by kernel_rfl) (by kernel_rfl) (by kernel_rfl) (by kernel_rfl)) ?_
  intro W base args ds gs before hval0 hW hcnd _
  have hval : ∀ (j : Nat) t v, Try.f4.params[j]? = some t → args[j]? = some v → Value.okWide Try.prog W .any base t v := hval0
  have hW' := hW
  obtain ⟨p, q, hA0, hV, rfl, hfz, hnd⟩ := hW
  have hA : DataW.TrodAll enc Try.prog W 0 (fun _ => true) true Try.f4.params.toList args.toList ds p := hA0
  rw [Try.params4] at hA hval
  obtain ⟨v0, vs0, d0, ds0, p0, q0, hargs, rfl, rfl, h0, r0⟩ := trodAll_cons hA
  obtain ⟨v1, vs1, d1, ds1, p1, q1, rfl, rfl, rfl, h1, r1⟩ := trodAll_cons r0
  obtain ⟨rfl, rfl, rfl⟩ := trodAll_nil r1
  obtain rfl : args = #[v0, v1] := by cases args; simp_all
  obtain ⟨rfl, rfl⟩ := trodVars_none hV
  have lt0 := Args.trod_below h0
  obtain ⟨opsA, opsn, opsc, opsz, rfl, hops, hopsc⟩ := Args.precs_cap (ks := [some .u8, some .i64, some .i64]) (e := 32) (by kernel_rfl) Try.underlying32 (by kernel_rfl) (by kernel_rfl) (by decide) (hval 0 28 v0 rfl rfl) h0
  have lt1 := Args.trod_below h1
  obtain ⟨slotsA, slotsn, slotsc, slotsz, rfl, hslots, hslotsc⟩ := Args.ints_cap (k := .u64) (e := 41) (by kernel_rfl) (by kernel_rfl) (by kernel_rfl) (hval 1 24 v1 rfl rfl) h1
  clear hA0 hval0
  refine (walk opsA opsn opsc opsz slotsA slotsn slotsc slotsz W hops hopsc hslots hslotsc).mono fun e W' ⟨he, bel⟩ => ?_
  subst he
  exact ⟨_, rfl, _, _, _, [], _, [], hW', trodAll_mk1 (shut_bool Try.underlying4 _), trodAll_cons_mk (Below.trod Args.laidOut (by kernel_rfl) (of_decide_eq_true (by kernel_rfl)) h0 bel lt0) (trodAll_cons_mk (Below.trod Args.laidOut (by kernel_rfl) (of_decide_eq_true (by kernel_rfl)) h1 bel lt1) (trodAll_mk0)), rfl, bel.frame _, fun h => by cases h⟩

theorem over : Rows.finKeepsRow.holds Try.pinned (OpenSpec.ofChange Rows.finKeepsSpec) :=
  OpenClaim.holds_of_wide 4 Try.f4 rfl rfl rfl rfl rfl rfl rfl ⟨rfl, rfl, rfl, rfl, rfl⟩ rfl rfl rfl rfl rfl (by kernel_rfl) Try.func4 (by kernel_rfl)
    (of_decide_eq_true (by kernel_rfl)) (by unfold Func.isWrapper; rw [if_neg (of_decide_eq_false (by kernel_rfl))]; exact ⟨rfl, rfl⟩)
    (fun os started H enc _ => lifted os started H enc)

theorem proved : Rows.FinKeepsSaid :=
  over
end Go.Proofs.Ytapbhcpcechccaa.finKeeps
