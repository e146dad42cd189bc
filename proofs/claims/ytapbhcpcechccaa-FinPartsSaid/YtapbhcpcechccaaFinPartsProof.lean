/-
  penfoldlaw10.FinParts returns true for every slice of ops and every slice of words, and changes nothing that was there; no condition.
-/
import Derived.Test.YtapbhcpcechccaaRows
import Derived.Test.YtapbhcpcechccaaArgs
import Derived.Test.YtapbhcpcechccaaFinaL
import Derived.Test.YtapbhcpcechccaaSt
namespace Go.Proofs.Ytapbhcpcechccaa.finParts
open Go.ChangeShapes Go.WideShapes Go.ChangeAt Go.RowKit
set_option linter.unusedVariables false

open Fina Held Slic

set_option maxRecDepth 100000 in
set_option maxHeartbeats 8000000 in
theorem walk (opsA : Option Addr) (opsn opsc : Nat) (opsz : Nat → Nat → Int) (slotsA : Option Addr) (slotsn slotsc : Nat) (slotsz : Nat → Int) (w : World) (hops : Args.PRecs [some .u8, some .i64, some .i64] w opsA opsn opsz) (hopsc : opsn ≤ opsc ∧ opsc ≤ maxLen ∧ (opsA = none → opsc = 0)) (hslots : Args.Ints .u64 w slotsA slotsn slotsz) (hslotsc : slotsn ≤ slotsc ∧ slotsc ≤ maxLen ∧ (slotsA = none → slotsc = 0)) :
    Calls Try.prog 5 #[.slice opsA opsn opsc, .slice slotsA slotsn slotsc] w fun e w' => e = .returned (.bool true) ∧ Below w.heap.size w w' := by
  obtain ⟨L0, bO⟩ := came_ops hops hopsc
  have S0 := came_words hslots hslotsc
  have ho := ops_len opsn opsz
  have hs := words_len slotsn slotsz
  generalize opsOf opsn opsz = L at *
  generalize wordsOf slotsn slotsz = S at *
  subst ho hs
  clear hops hslots
  obtain ⟨oc1, oc2, oc3⟩ := hopsc
  obtain ⟨sc1, sc2, sc3⟩ := hslotsc
  have F := Lib.hid (fitp_ok bO)
  have BO := Lib.hid bO
  clear bO
  go_enter Try.func5, Try.ntmps5
  go_wp2_with fail
  refine (shown_any _).mono ?_
  rintro z w1 ⟨rfl, k1⟩
  have L1 := L0.below k1
  have S1 := S0.below k1
  have B1 := k1
  clear L0 S0 k1
  go_wp2_with fail
  refine (fitone_any _ _ opsA L.length opsc L (one_row w1 opsA L.length opsc _ rfl) (L1.alloc _) BO.out).mono ?_
  rintro z w2 ⟨g, c, A, d, rfl, U2⟩
  have S2 := (S1.alloc _).below U2.below
  have B2 := (B1.alloc B1.size _).trans (U2.below.mono (by have := B1.size; simp; omega))
  clear L1 S1 B1
  have d0 := U2.cell
  have hg := U2.lt
  have P2 := U2.row.sr
  clear U2
  generalize fitP L = P at *
  obtain ⟨f1, f2, f3, f4⟩ := F.out
  clear F f3 BO
  go_wp2_with fail
  refine (few_any _ _ S (S2.alloc _)).mono ?_
  rintro z w3 ⟨vs, rfl, S3, rfl⟩
  have T10 : (S.take 10).length ≤ 10 := by rw [List.length_take]; omega
  generalize S.take 10 = T at *
  obtain ⟨TA, tc, rfl, t1, t2⟩ := S3.form
  clear S2
  go_wp2_with (
    refine wpList_app (K := kU) (o := ⟨some 35, _, _, _, _, _⟩) rfl (.tmp 32) (.tmp 34) rfl rfl rfl rfl (Own.empty w2 w2.heap.size (Nat.le_refl _)) S3 (by simp; omega) (by simp) ?_
    intro v4 w4 O4 g4 G4
    rw [List.nil_append] at O4
    have k4 : Below w2.heap.size w2 w4 := G4.below _ _ (Nat.le_refl _) (below_one _ _))
  have P4 := P2.below k4
  have B4 := B2.trans (k4.mono B2.size)
  clear d0 hg P2 S3 g4 G4 k4 B2
  refine (run_any _ _ _ P T P4 (by omega) O4.sr (by omega) f1 f2).mono ?_
  rintro z w5 ⟨vs, vd, rfl, Q5, D5, k5⟩
  have RR := Lib.hid (show ∀ r, Fina.walk P 0 T = r → r = Fina.walk P 0 T from fun r e => e.symm)
  have WP := Lib.hid (walk_plain P T)
  have R0 := Lib.hid (Runs.start P T)
  generalize hr : Fina.walk P 0 T = r at *
  have HR := Lib.hid hr
  clear hr RR
  obtain ⟨rS, rD, rH, rn⟩ := r
  simp only at Q5 D5 WP ⊢
  have P5 := P4.below k5
  have O5 := O4.below k5
  have B5 := B4.trans (k5.mono B4.size)
  clear P4 O4 B4 k5
  go_wp2_with fail
  have Ab : Own kI (w5.alloc (.cells #[] 3)) w5.heap.size (.slice (some ⟨w5.heap.size, 0, none⟩) 0 0) [] := own_empty w5 _ rfl
  have Pb := P5.below (below_one w5 (.cells #[] 3))
  have Ob := O5.below (below_one w5 (.cells #[] 3))
  have Qb := Q5.below (below_one w5 (.cells #[] 3))
  have Db := D5.below (below_one w5 (.cells #[] 3))
  have Bb := below_one w5 (.cells #[] 3)
  have D0 : Own kI ((w5.alloc (.cells #[] 3)).alloc (.cells #[] 3)) (w5.alloc (.cells #[] 3)).heap.size (.slice (some ⟨w5.heap.size + 1, 0, none⟩) 0 0) [] := own_empty _ _ (by simp)
  have hN : w5.heap.size < (w5.alloc (.cells #[] 3)).heap.size := by simp
  clear O5
  generalize w5.alloc (.cells #[] 3) = wB at *
  go_loopw [13, 15, 18] (fun s b t wr => ∃ (k : Nat) (D : List Int), k ≤ P.length ∧ t = .int .i64 k ∧ b = .bool ((P.take k).any skipB) ∧ Own kI wr wB.heap.size s D ∧ Below wB.heap.size wB wr ∧ D.length ≤ k ∧ Hid (D = says (P.take k))) (fun _ _ t _ => P.length - (intOf t).toNat)
  case atStart => exact ⟨0, [], by omega, rfl, by simp, D0, below_one _ _, by simp, Lib.hid (by simp [says])⟩
  case round =>
    obtain ⟨k, D, hk, rfl, rfl, hD, hB, hl, hS⟩ := hrel
    by_cases hlt : k < P.length
    · obtain ⟨g2, o2, rfl, hg2, e0, e1, e2⟩ := op_at (Pb.below hB) k hlt
      obtain ⟨A6, c6, rfl, m1, m2⟩ := hD.sr.form
      have TT := Lib.hid (List.take_succ_eq_append_getElem hlt)
      have HQ := Lib.hid (show skipB P[k] = ((P[k]).1 == 3) from rfl)
      have HY := Lib.hid (show sayV P[k] = if (P[k]).1 = 0 then [(P[k]).2.1] else [] from rfl)
      generalize P[k] = q at *
      obtain ⟨op, a, b⟩ := q
      simp only at e0 e1 e2 HQ HY
      have y1 : decide ((k : Int) < (P.length : Int)) = true := decide_eq_true (by omega)
      have j0 : (0 : Int) ≤ (k : Int) := by omega
      have j1 : (k : Int) < (P.length : Int) := by omega
      have hws := hB.size
      have one : ∀ bb : Bool, (P.take k).any skipB = bb → Hid ((P.take (k + 1)).any skipB = (bb || (op == 3))) := fun bb e => Lib.hid (by rw [TT.out, List.any_append, e]; simp [HQ.out])
      by_cases h0 : op = 0
      · have q0 : (op == 0) = true := by simpa using h0
        have Y : Hid (D ++ [a] = says (P.take (k + 1))) := Lib.hid (by rw [TT.out, says_snoc, HY.out, if_pos h0, hS.out])
        clear h0
        cases hb : (P.take k).any skipB with
        | true =>
          have X := one _ hb
          clear hb one
          go_upto_region 16 with (fail)
          go_wp2_with (
            refine wpList_app (K := kI) (o := ⟨some 74, _, _, _, _, _⟩) rfl (.tmp 67) (.tmp 73) rfl rfl rfl rfl (hD.below (below_one _ _)) (one_num wr a _ rfl) (by simp; omega) (by simp; omega) ?_
            intro v' w' O' g' G')
          go_roundw
          case rel => exact ⟨k + 1, D ++ [a], by omega, by go_num, by rw [X.out]; rfl, O', G'.below _ _ (Nat.le_refl _) (hB.alloc hB.size _), by simp; omega, Y⟩
          case measure => simp [intOf]; omega
        | false =>
          have X := one _ hb
          clear hb one
          go_upto_region 16 with (fail)
          go_wp2_with (
            refine wpList_app (K := kI) (o := ⟨some 74, _, _, _, _, _⟩) rfl (.tmp 67) (.tmp 73) rfl rfl rfl rfl (hD.below (below_one _ _)) (one_num wr a _ rfl) (by simp; omega) (by simp; omega) ?_
            intro v' w' O' g' G')
          go_roundw
          case rel => exact ⟨k + 1, D ++ [a], by omega, by go_num, by rw [X.out]; rfl, O', G'.below _ _ (Nat.le_refl _) (hB.alloc hB.size _), by simp; omega, Y⟩
          case measure => simp [intOf]; omega
      · have q0 : (op == 0) = false := by simpa using h0
        have Y : Hid (D = says (P.take (k + 1))) := Lib.hid (by rw [TT.out, says_snoc, HY.out, if_neg h0, hS.out, List.append_nil])
        clear h0
        cases hb : (P.take k).any skipB with
        | true =>
          have X := one _ hb
          clear hb one
          go_wp2
          go_roundw
          case rel => exact ⟨k + 1, D, by omega, by go_num, by rw [X.out]; rfl, hD, hB, by omega, Y⟩
          case measure => simp [intOf]; omega
        | false =>
          have X := one _ hb
          clear hb one
          go_wp2
          go_roundw
          case rel => exact ⟨k + 1, D, by omega, by go_num, by rw [X.out]; rfl, hD, hB, by omega, Y⟩
          case measure => simp [intOf]; omega
    · obtain rfl : k = P.length := by omega
      have y1 : decide ((P.length : Int) < (P.length : Int)) = false := decide_eq_false (by omega)
      have HD := Lib.hid (hS.out.trans (by rw [List.take_length]))
      rw [List.take_length]
      have Pc := Pb.below hB
      have Oc := Ob.below hB
      have Qc := Qb.below hB
      have Dc := Db.below hB
      have Ac := Ab.below hB
      have Bc := Bb.trans (hB.mono (Nat.le_of_lt hN))
      have hDc := fun g e => (hD.lt g e).2
      have hlen8 : D.length ≤ 8 := by omega
      clear hS Pb Ob Qb Db Ab Bb hB
      go_wp2_with fail
      generalize hV : wr = wC at *
      clear hV
      generalize u13 = s13 at *
      go_loopw [7, 12, 14, 16, 17] (fun s7 s12 s14 s16 s17 wx => ∃ (n i : Nat) (S' D' : List Int) (h : Bool), s14 = .bool h ∧ s16 = .int .i64 i ∧ s17 = .int .i64 n ∧ n ≤ i ∧ i ≤ P.length + 101 ∧ Own kU wx 0 s7 S' ∧ Own kI wx w5.heap.size s12 D' ∧ (∀ g, s12.ownBlock = some g → g = w5.heap.size ∨ wC.heap.size ≤ g) ∧ Own kI wx wB.heap.size s13 D ∧ Below w5.heap.size w5 wx ∧ wC.heap.size ≤ wx.heap.size ∧ S'.length = T.length ∧ D'.length ≤ n ∧ Hid (Runs P T i S' D' h n)) (fun _ _ _ t _ _ => P.length - (intOf t).toNat)
      case atStart => exact ⟨0, 0, T, [], false, rfl, rfl, rfl, by omega, by omega, Oc.zero (Nat.zero_le _), Ac, fun g e => by injection e with e; exact .inl e.symm, hD, Bc, Nat.le_refl _, rfl, by simp, R0⟩
      case round =>
        obtain ⟨n, i, S', D', h, rfl, rfl, rfl, hni, hi2, O, Dn, hA, Ds, hB, hCs, hS', hD', hR⟩ := hrel
        have Px := P5.below hB
        by_cases hi : i < P.length
        · have z1 : decide ((i : Int) < (P.length : Int)) = true := decide_eq_true (by omega)
          have z2 : decide ((n : Int) < 20) = true := decide_eq_true (by omega)
          have b := left_bd f2 (List.getElem_mem hi) S'
          have e1 : (i : Int) + 1 + leftV S' P[i] = ((i + 1 + (leftV S' P[i]).toNat : Nat) : Int) := by omega
          have Y := Lib.hid (hR.out.step hi)
          have hl2 := slots_len S' P[i]
          have hs3 : (sayV P[i]).length ≤ 1 := by unfold sayV; split <;> simp
          have i2 : i + 1 + (leftV S' P[i]).toNat ≤ P.length + 101 := by omega
          have i3 : i + 1 ≤ i + 1 + (leftV S' P[i]).toNat := by omega
          have hws := hB.size
          cases h with
          | true =>
            go_wp2_with fail
            refine (stepf_yes _ _ _ P S' i Px (by omega) O.sr (by omega) hi f1 f2).mono ?_
            rintro e v2 ⟨vs2, vd2, rfl, O3, D3, k3⟩
            rw [e1]
            clear e1 b
            have D4 := Dn.below k3
            have Ds4 := Ds.below k3
            have hB2 := hB.trans (k3.mono hB.size)
            have hCs2 := Nat.le_trans hCs k3.size
            generalize i + 1 + (leftV S' P[i]).toNat = i' at *
            generalize slotsV S' P[i] = S2 at *
            generalize sayV P[i] = D2' at *
            generalize holdV P[i] = h' at *
            have z3 : decide ((i' : Int) ≤ (i : Int)) = false := decide_eq_false (by omega)
            have z4 : decide (i' ≤ i) = false := decide_eq_false (by omega)
            go_upto_region 23 with (fail)
            go_wp2_with (
              refine wpList_app2 (K := kI) (o := ⟨some 99, _, _, _, _, _⟩) rfl (.tmp 97) (.tmp 98) rfl rfl rfl rfl D4 D3.sr (by omega) hB2.size ?_
              intro v' w' D5 g5 G5 h5)
            go_roundw
            case rel => exact ⟨n + 1, i', S2, D' ++ D2', true, rfl, rfl, by go_num, by omega, by omega, (O3.kept g5 (O3.apart D4 (by decide))).zero (Nat.zero_le _), D5, far_new hA h5 hCs2, Ds4.kept g5 (far_say Ds4 hDc hA hN), G5.below _ _ (Nat.le_refl _) hB2, Nat.le_trans hCs2 G5.size, by omega, by rw [List.length_append]; omega, Y⟩
            case measure => simp [intOf]; omega
          | false =>
            go_wp2_with fail
            refine (stepf_yes _ _ _ P S' i Px (by omega) O.sr (by omega) hi f1 f2).mono ?_
            rintro e v2 ⟨vs2, vd2, rfl, O3, D3, k3⟩
            rw [e1]
            clear e1 b
            have D4 := Dn.below k3
            have Ds4 := Ds.below k3
            have hB2 := hB.trans (k3.mono hB.size)
            have hCs2 := Nat.le_trans hCs k3.size
            generalize i + 1 + (leftV S' P[i]).toNat = i' at *
            generalize slotsV S' P[i] = S2 at *
            generalize sayV P[i] = D2' at *
            generalize holdV P[i] = h' at *
            have z3 : decide ((i' : Int) ≤ (i : Int)) = false := decide_eq_false (by omega)
            have z4 : decide (i' ≤ i) = false := decide_eq_false (by omega)
            go_upto_region 23 with (fail)
            go_wp2_with (
              refine wpList_app2 (K := kI) (o := ⟨some 99, _, _, _, _, _⟩) rfl (.tmp 97) (.tmp 98) rfl rfl rfl rfl D4 D3.sr (by omega) hB2.size ?_
              intro v' w' D5 g5 G5 h5)
            go_roundw
            case rel => exact ⟨n + 1, i', S2, D' ++ D2', h', rfl, rfl, by go_num, by omega, by omega, (O3.kept g5 (O3.apart D4 (by decide))).zero (Nat.zero_le _), D5, far_new hA h5 hCs2, Ds4.kept g5 (far_say Ds4 hDc hA hN), G5.below _ _ (Nat.le_refl _) hB2, Nat.le_trans hCs2 G5.size, by omega, by rw [List.length_append]; omega, Y⟩
            case measure => simp [intOf]; omega
        · have z1 : decide ((i : Int) < (P.length : Int)) = false := decide_eq_false (by omega)
          have E := HR.out.symm.trans (hR.out.done (by omega))
          injection E with e1 e2 e3 e4
          subst e1 e2 e3 e4
          have Q6 := (Q5.below hB).sr
          have D6 := (D5.below hB).sr
          have O6 := O.sr
          have A6 := Dn.sr
          have Y6 := Ds.sr
          have B6 := B5.trans (hB.mono B5.size)
          clear HR hR O Dn hA Ds hB Q5 D5 hCs
          go_wp2_with fail
          refine (words_any _ _ _ _ _ Q6 O6).mono ?_
          rintro z x1 ⟨rfl, k1⟩
          rw [same_self]
          have D7 := D6.below k1
          have A7 := A6.below k1
          have Y7 := Y6.below k1
          have B7 := B6.trans (k1.mono B6.size)
          clear Q6 O6 D6 A6 Y6 B6 k1
          go_wp2_with fail
          refine (ints_any _ _ _ _ _ D7 A7).mono ?_
          rintro z x2 ⟨rfl, k2⟩
          rw [same_self]
          have D8 := D7.below k2
          have Y8 := Y7.below k2
          have B8 := B7.trans (k2.mono B7.size)
          clear D7 A7 Y7 B7 k2
          go_wp2_with fail
          refine (ints_any _ _ _ _ _ D8 Y8).mono ?_
          rintro z x3 ⟨rfl, k3⟩
          have B9 := B8.trans (k3.mono B8.size)
          clear D8 Y8 B8 k3
          cases hk : P.any skipB with
          | true =>
            go_wp2
            go_ret
            exact ⟨rfl, B9⟩
          | false =>
            obtain ⟨g1, g2⟩ := WP.out hk
            rw [g1, HD.out, same_self]
            have g3 : (rn : Int) = (P.length : Int) := by omega
            rw [g3]
            clear g1 g2 g3
            go_wp2
            go_ret
            exact ⟨rfl, B9⟩

set_option maxRecDepth 100000 in
theorem lifted (os : Os) (started : os.Started) (H : Type) (enc : TypeId × Value → H) :
    ReturnsInHanded {} Try.checked os 5 .any (Rows.finPartsSpec.pre6 enc Try.prog Try.f5 Rows.finPartsRow.domain false) (Rows.finPartsSpec.post enc Try.prog Try.f5 false true false false) := by
  refine returnsInHanded_of_change (C := Try.checked) Args.own started (by kernel_rfl) Try.func5
    (ChangeSpec.witness6 (enc := enc) (C := Try.checked) false ⟨#[], #[.slice none 0 0, .slice none 0 0], []⟩ 8 (by kernel_rfl) (by kernel_rfl) (by kernel_rfl) (by kernel_rfl)) ?_
  intro W base args ds gs before hval0 hW hcnd _
  have hval : ∀ (j : Nat) t v, Try.f5.params[j]? = some t → args[j]? = some v → Value.okWide Try.prog W .any base t v := hval0
  have hW' := hW
  obtain ⟨p, q, hA0, hV, rfl, hfz, hnd⟩ := hW
  have hA : DataW.TrodAll enc Try.prog W 0 (fun _ => true) true Try.f5.params.toList args.toList ds p := hA0
  rw [Try.params5] at hA hval
  obtain ⟨v0, vs0, d0, ds0, p0, q0, hargs, rfl, rfl, h0, r0⟩ := trodAll_cons hA
  obtain ⟨v1, vs1, d1, ds1, p1, q1, rfl, rfl, rfl, h1, r1⟩ := trodAll_cons r0
  obtain ⟨rfl, rfl, rfl⟩ := trodAll_nil r1
  obtain rfl : args = #[v0, v1] := by cases args; simp_all
  obtain ⟨rfl, rfl⟩ := trodVars_none hV
  have lt0 := Args.trod_below h0
  obtain ⟨opsA, opsn, opsc, opsz, rfl, hops, hopsc⟩ := Args.precs_cap (ks := [some .u8, some .i64, some .i64]) (e := 32) (by kernel_rfl) Try.underlying32 (by kernel_rfl) (by kernel_rfl) (by decide) (hval 0 28 v0 rfl rfl) h0
  have lt1 := Args.trod_below h1
  obtain ⟨slotsA, slotsn, slotsc, slotsz, rfl, hslots, hslotsc⟩ := Args.ints_cap (k := .u64) (e := 41) (by kernel_rfl) (by kernel_rfl) (by kernel_rfl) (hval 1 24 v1 rfl rfl) h1
  clear hA0 hval0
  refine (walk opsA opsn opsc opsz slotsA slotsn slotsc slotsz W hops hopsc hslots hslotsc).mono fun e W' ⟨he, bel⟩ => ?_
  subst he
  exact ⟨_, rfl, _, _, _, [], _, [], hW', trodAll_mk1 (shut_bool Try.underlying4 _), trodAll_cons_mk (Below.trod Args.laidOut (by kernel_rfl) (of_decide_eq_true (by kernel_rfl)) h0 bel lt0) (trodAll_cons_mk (Below.trod Args.laidOut (by kernel_rfl) (of_decide_eq_true (by kernel_rfl)) h1 bel lt1) (trodAll_mk0)), rfl, bel.frame _, fun h => by cases h⟩

theorem over : Rows.finPartsRow.holds Try.pinned (OpenSpec.ofChange Rows.finPartsSpec) :=
  OpenClaim.holds_of_wide 5 Try.f5 rfl rfl rfl rfl rfl rfl rfl ⟨rfl, rfl, rfl, rfl, rfl⟩ rfl rfl rfl rfl rfl (by kernel_rfl) Try.func5 (by kernel_rfl)
    (of_decide_eq_true (by kernel_rfl)) (by unfold Func.isWrapper; rw [if_neg (of_decide_eq_false (by kernel_rfl))]; exact ⟨rfl, rfl⟩)
    (fun os started H enc _ => lifted os started H enc)

theorem proved : Rows.FinPartsSaid :=
  over
end Go.Proofs.Ytapbhcpcechccaa.finParts
