/-
  penfoldlaw12.ModelLeaves returns true for every three bytes, and changes nothing that was there; no condition.
-/
import Derived.Test.YtneggppfffekdaaGreatRows
import Derived.Test.YtneggppfffekdaaGreatBase
import Derived.Test.YtneggppfffekdaaGreatLits
import Derived.Test.YtneggppfffekdaaGreatNump
import Derived.StillTailTactics
import Derived.Deep.RegionHeld3
import Derived.Deep.DeepCutAuto
namespace Go.Proofs.YtneggppfffekdaaGreat.modelLeaves
open Go.ChangeShapes Go.WideShapes Go.ChangeAt Go.RowKit
set_option linter.unusedVariables false

open Go.Proofs.YtneggppfffekdaaGreat.Mod Slic Sco

set_option maxRecDepth 100000 in
set_option maxHeartbeats 8000000 in
theorem walk (nn : Int) (wh : Int) (oft : Int) (w : World) (wnn : (Lit.int .u8 nn).wf = true) (wwh : (Lit.int .u8 wh).wf = true) (woft : (Lit.int .u8 oft).wf = true) :
    Calls Tryz.prog 6 #[.int .u8 nn, .int .u8 wh, .int .u8 oft] w fun e w' => e = .returned (.bool true) ∧ Below w.heap.size w w' := by
  have ⟨n0, n1⟩ := Held.bounds_u8 wnn
  have ⟨f0, f1⟩ := Held.bounds_u8 wwh
  have ⟨o0, o1⟩ := Held.bounds_u8 woft
  obtain ⟨N, hN⟩ : ∃ N : Nat, (N : Int) = nn % 7 := ⟨(nn % 7).toNat, by omega⟩
  have N7 : N < 7 := by omega
  have tN : Int.tmod nn 7 = (N : Int) := (Int.tmod_eq_emod_of_nonneg n0).trans hN.symm
  obtain ⟨R, hR⟩ : ∃ R : Nat, (R : Int) = oft % 3 := ⟨(oft % 3).toNat, by omega⟩
  have tR : Int.tmod oft 3 = (R : Int) := (Int.tmod_eq_emod_of_nonneg o0).trans hR.symm
  obtain ⟨K, hK⟩ : ∃ K : Nat, 1 + (R : Int) = (K : Int) := ⟨1 + R, by omega⟩
  have K1 : 1 ≤ K := by omega
  have K3 : K ≤ 3 := by omega
  have R2 : R ≤ 2 := by omega
  obtain ⟨V, hV⟩ : ∃ V : Nat, (V : Int) = wh % 64 := ⟨(wh % 64).toNat, by omega⟩
  have V6 : V < 64 := by omega
  have OK := Lib.hid (lv_at K1 K3 V6 N7)
  have HV := Lib.hid hV
  clear hN hR hV
  go_enter Tryz.func6, Tryz.ntmps6
  go_wp2_with fail
  refine (shown_any _).mono ?_
  rintro z w1 ⟨rfl, k1⟩
  go_wp2_with fail
  obtain ⟨r1, r2⟩ := lv_rows w1
  have k2 := k1.trans (r2.mono k1.size)
  refine (some_any _).mono ?_
  rintro z w2 ⟨rfl, k3⟩
  have k4 := k2.trans (Below.mono k3 k2.size)
  have r3 := Fina.Rows.below r1 k3
  go_wp2_with fail
  refine (ms_new (bx := []) k4 (fun x hx => absurd hx List.not_mem_nil) List.nodup_nil 4 2 128 512 _ lvF r3 lv_ok.1 (by decide) lv_ok.2).mono ?_
  rintro z w5 ⟨Z, rfl, M5, _⟩
  obtain ⟨m0, hm0⟩ : ∃ m0, m0 = sh0 := ⟨_, rfl⟩
  have M5 : Ms w w5 Z lvF 4 2 0 m0 [] := by rw [hm0]; exact M5
  replace hm0 := Lib.hid hm0
  clear r1 r2 k2 k1 k3 k4 r3
  obtain ⟨x1, y1, L1, m1, R1⟩ := exX lvF m0 2 0 (crC 100) (by decide)
  have E0 := Lib.hid (show m1 = lvE 0 by rw [← stF_of R1, hm0.out]; rfl)
  replace R1 := Lib.hid R1
  go_wp2_with fail
  refine (ms_as M5 (by omega) (c := crC 100) (cok (by omega) (by omega) (by omega) (by omega) (by omega) (by omega)) 0 R1.out).mono ?_
  rintro e w6 ⟨A6, c6, rfl, _, M6⟩
  clear R1 M5 hm0
  go_wp2_with fail
  clear tR hK R2
  go_loopw [12] (fun u wr => ∃ (i : Nat) (m : Mo), i ≤ K ∧ u = .int .i64 (i : Int) ∧ Hid (m = lvE i) ∧ Ms w wr Z lvF 4 2 (1 + 2 * i) m []) (fun u _ => K - (intOf u).toNat)
  case atStart => exact ⟨0, m1, by omega, rfl, E0, M6⟩
  case round =>
    clear M6 E0
    obtain ⟨i, m, hi, rfl, HE, SO⟩ := hrel
    by_cases hlt : i < K
    · obtain ⟨x2, y2, L2, m2, R2⟩ := exX lvF m 2 (tn i) enC (show inN (tn i) 2 = true from decide_eq_true (by unfold tn; omega))
      have q1 : bits .and .i64 (i : Int) 1 = tn i := by unfold tn; simpa using Ctl.mask_i64 1 (by decide) (i : Int)
      have S2 := Lib.hid (stF_of R2)
      replace R2 := Lib.hid R2
      by_cases h1 : i = 1
      · as_aux_lemma =>
          subst h1
          obtain ⟨x3, y3, L3, m3, R3⟩ := exX lvF m2 2 0 (inC 0) (by decide)
          have E1 := Lib.hid (show m3 = lvE (1 + 1) by
            show _ = enR 1 (lvE 1)
            rw [enR, if_pos rfl, ← HE.out, S2.out, stF_of R3])
          replace R3 := Lib.hid R3
          go_wp2_with fail
          refine (ms_as SO (by omega) (c := enC) (cok (by omega) (by omega) (by omega) (by omega) (by omega) (by omega)) (tn 1) R2.out).mono ?_
          rintro e w7 ⟨A7, c7, rfl, _, M7⟩
          go_wp2_with fail
          refine (ms_as M7 (by omega) (c := inC 0) (cok (by omega) (by omega) (by omega) (by omega) (by omega) (by omega)) 0 R3.out).mono ?_
          rintro e w8 ⟨A8, c8, rfl, _, M8⟩
          go_wp2
          go_roundw
          case rel => exact ⟨1 + 1, m3, by omega, by go_num, E1, M8.mono (by omega)⟩
          case measure => simp [intOf]; omega
      · as_aux_lemma =>
          have d1 : ((i : Int) == 1) = false := by simp; omega
          have E1 := Lib.hid (show m2 = lvE (i + 1) by
            show _ = enR i (lvE i)
            rw [enR, if_neg h1, ← HE.out, S2.out])
          clear h1
          go_wp2_with fail
          refine (ms_as SO (by omega) (c := enC) (cok (by omega) (by omega) (by omega) (by omega) (by omega) (by omega)) (tn i) R2.out).mono ?_
          rintro e w7 ⟨A7, c7, rfl, _, M7⟩
          go_wp2
          go_roundw
          case rel => exact ⟨i + 1, m2, by omega, by go_num, E1, M7.mono (by omega)⟩
          case measure => simp [intOf]; omega
    · obtain rfl : i = K := by omega
      go_upto_if 78 with (fail)
      go_cut [81] (fun _ wx => ∃ m' : Mo, Hid (m' = lvI i) ∧ Ms w wx Z lvF 4 2 10 m' [])
      case first =>
        by_cases hk : 1 < i
        · have d1 : decide ((1 : Int) < (i : Int)) = true := decide_eq_true (by omega)
          obtain ⟨x3, y3, L3, m3, R3⟩ := exX lvF m 2 0 (inC 1) (by decide)
          have E1 := Lib.hid (show m3 = lvI i by
            unfold lvI
            rw [if_pos hk, ← HE.out, stF_of R3])
          replace R3 := Lib.hid R3
          go_wp2_with fail
          refine (ms_as SO (by omega) (c := inC 1) (cok (by omega) (by omega) (by omega) (by omega) (by omega) (by omega)) 0 R3.out).mono ?_
          rintro e w8 ⟨A8, c8, rfl, _, M8⟩
          go_wp2_with fail
          go_meet
          exact ⟨m3, E1, M8.mono (by omega)⟩
        · have d1 : decide ((1 : Int) < (i : Int)) = false := decide_eq_false (by omega)
          have E1 := Lib.hid (show m = lvI i by
            unfold lvI
            rw [if_neg hk, ← HE.out])
          go_wp2_with fail
          go_meet
          exact ⟨m, E1, SO.mono (by omega)⟩
      case rest =>
        obtain ⟨mi, HI, SI⟩ := hcut
        clear HE SO hlt
        have O0 := Slic.Own.empty (K := Fina.kI) wc wc.heap.size (Nat.le_refl _)
        obtain ⟨ex0, SK, H0⟩ := SI.keep O0 (below_one _ _)
        clear O0 SI
        have SK : Ms w (wc.alloc (.cells #[] 3)) Z lvF 4 2 10 mi ([] ++ ex0) := SK
        obtain ⟨v0, hv0⟩ : ∃ v, v = Value.slice (some ⟨wc.heap.size, 0, none⟩) 0 0 := ⟨_, rfl⟩
        rw [← hv0] at H0
        have HI0 := Lib.hid (show mi = lvA i V 0 from HI.out)
        clear HI
        go_wp2_with fail
        rw [← hv0]
        clear hv0
        go_loopw [13, 14, 15] (fun vw mw u wr => ∃ (j : Nat) (m : Mo) (ex : Bx), j ≤ N ∧ u = .int .i64 (j : Int) ∧ mw = .int .i64 ((wnt V j).length : Int) ∧ Hid (m = lvA i V j) ∧ Hold Fina.kI vw (wnt V j) ex ∧ (wnt V j).length ≤ j ∧ Ms w wr Z lvF 4 2 (10 + j) m ex) (fun _ _ u _ => N - (intOf u).toNat)
        case atStart => exact ⟨0, mi, ex0, by omega, rfl, rfl, HI0, H0, Nat.le_refl _, SK⟩
        case round =>
          clear SK H0 HI0
          obtain ⟨j, m, ex, hj, rfl, rfl, HJ, HW, hlw, SO⟩ := hrel
          by_cases hlt : j < N
          · have HB := bit_at f0 f1 HV.out (j := j) (by omega)
            by_cases hb : V / 2 ^ j % 2 = 1
            · as_aux_lemma =>
                rw [hb] at HB
                have HB : bits .and .u8 (wh / 2 ^ j) 1 = 1 := HB
                obtain ⟨t3, ht3⟩ : ∃ t3 : Nat, t3 = j % 3 := ⟨_, rfl⟩
                have e3 : (j : Int) % 3 = (t3 : Int) := by omega
                obtain ⟨G, hG⟩ : ∃ G : Int, 1 + (t3 : Int) = G := ⟨_, rfl⟩
                have G0 : 1 ≤ G := by omega
                have G3 : G ≤ 3 := by omega
                have hT := Lib.hid (show tg V j = G by unfold tg; rw [hb, Nat.one_mul, ← ht3]; omega)
                have hW1 := Lib.hid (show wnt V (j + 1) = [G] ++ wnt V j by
                  show (if 0 < tg V j then tg V j :: wnt V j else wnt V j) = _
                  rw [hT.out, if_pos (by omega)]
                  rfl)
                obtain ⟨x7, y7, L7, m7, R7⟩ := exX lvF m 2 0 (alC G) (by decide)
                have c0 := OK.out.ok j hlt
                rw [← HJ.out, hT.out, anF_of R7] at c0
                obtain rfl : x7 = 0 := c0
                have E7 := Lib.hid (show m7 = lvA i V (j + 1) by
                  show _ = stF lvF (lvA i V j) 0 (alC (tg V j))
                  rw [hT.out, ← HJ.out, stF_of R7])
                replace R7 := Lib.hid R7
                clear hb ht3
                go_wp2_with fail
                refine (ms_as SO (by omega) (c := alC G) (cok (by omega) (by omega) (by omega) (by omega) (by omega) (by omega)) 0 R7.out).mono ?_
                rintro e w7 ⟨A7, c7, rfl, _, M7⟩
                have M8 := M7.new #[.int .i64 0, .int .i64 y7, .slice A7 L7.length c7] anT
                obtain ⟨a0, _, _⟩ := M8.cells3 0 rfl
                obtain ⟨W, hW⟩ : ∃ W : World, W = w7.alloc (.cells #[.int .i64 0, .int .i64 y7, .slice A7 L7.length c7] anT) := ⟨_, rfl⟩
                have hx := (M8.hold HW (fun x hx => List.mem_cons_of_mem _ hx)).sr
                rw [← hW] at M8 a0 hx
                have O1 := Slic.Own.lit (K := Fina.kI) W W.heap.size (Nat.le_refl _) [G] #[.int .i64 G] rfl (by show 1 ≤ maxLen; decide) 1 rfl
                go_upto_region 26 with (fail)
                rw [← hW]
                clear hW
                go_wp2_with (refine Slic.wpList_app (K := Fina.kI) (o := ⟨some 114, _, _, _, _, _⟩) rfl (.tmp 112) (.tmp 113) rfl rfl rfl rfl O1 (hx.alloc _) (by show 1 + _ ≤ _; omega) (by simp) ?_; intro v9 w9 O9 g9 G9)
                have j9 := G9.below _ _ (Nat.le_refl _) (below_one W _)
                obtain ⟨ex9, M9, H9⟩ := M8.keep O9 j9
                have M9 := M9.less (List.sublist_append_right _ ex9)
                rw [← hW1.out] at H9
                have LE := Lib.hid (show (((wnt V j).length : Int) + 1) = ((wnt V (j + 1)).length : Int) by rw [hW1.out, List.length_append]; simp; omega)
                have LE2 : (wnt V (j + 1)).length ≤ j + 1 := by rw [hW1.out, List.length_append]; simp; omega
                clear O9 g9 G9 j9 hx M8 a0 O1 M7 R7 SO HW
                go_wp2
                go_roundw
                case rel => exact ⟨j + 1, m7, ex9, by omega, by go_num, by rw [← LE.out], E7, H9, LE2, M9⟩
                case measure => simp [intOf]; omega
            · as_aux_lemma =>
                have hb0 : V / 2 ^ j % 2 = 0 := by omega
                rw [hb0] at HB
                have HB : bits .and .u8 (wh / 2 ^ j) 1 = 0 := HB
                have hT := Lib.hid (show tg V j = 0 by unfold tg; rw [hb0, Nat.zero_mul]; rfl)
                have hW1 := Lib.hid (show wnt V (j + 1) = wnt V j by
                  show (if 0 < tg V j then tg V j :: wnt V j else wnt V j) = _
                  rw [hT.out, if_neg (by omega)])
                obtain ⟨x7, y7, L7, m7, R7⟩ := exX lvF m 2 0 (alC 0) (by decide)
                have c0 := OK.out.ok j hlt
                rw [← HJ.out, hT.out, anF_of R7] at c0
                obtain rfl : x7 = 0 := c0
                have E7 := Lib.hid (show m7 = lvA i V (j + 1) by
                  show _ = stF lvF (lvA i V j) 0 (alC (tg V j))
                  rw [hT.out, ← HJ.out, stF_of R7])
                replace R7 := Lib.hid R7
                clear hb hb0
                go_wp2_with fail
                refine (ms_as SO (by omega) (c := alC 0) (cok (by omega) (by omega) (by omega) (by omega) (by omega) (by omega)) 0 R7.out).mono ?_
                rintro e w7 ⟨A7, c7, rfl, _, M7⟩
                have M8 := M7.new #[.int .i64 0, .int .i64 y7, .slice A7 L7.length c7] anT
                obtain ⟨a0, _, _⟩ := M8.cells3 0 rfl
                go_wp2
                go_roundw
                case rel => exact ⟨j + 1, m7, ex, by omega, by go_num, by rw [hW1.out], E7, by rw [hW1.out]; exact HW, by rw [hW1.out]; omega, M8.drop 1⟩
                case measure => simp [intOf]; omega
          · as_aux_lemma =>
              obtain rfl : j = N := by omega
              obtain ⟨xg, yg, Lg, mg, Rg⟩ := exX lvF m 2 0 gaC (by decide)
              have EG := Lib.hid (show mg = lvX i V j 0 by
                show _ = stF lvF (lvA i V j) 0 gaC
                rw [← HJ.out, stF_of Rg])
              replace Rg := Lib.hid Rg
              go_wp2_with fail
              refine (ms_as SO (by omega) (c := gaC) (cok (by omega) (by omega) (by omega) (by omega) (by omega) (by omega)) 0 Rg.out).mono ?_
              rintro e wg ⟨Ag, cg, rfl, _, MG⟩
              have O0 := Slic.Own.empty (K := Fina.kI) wg wg.heap.size (Nat.le_refl _)
              obtain ⟨ex0, SK, H0⟩ := MG.keep O0 (below_one _ _)
              clear O0 MG Rg HJ SO
              have SK : Ms w (wg.alloc (.cells #[] 3)) Z lvF 4 2 (10 + j + 1) mg (ex ++ ex0) := SK
              obtain ⟨v0, hv0⟩ : ∃ v, v = Value.slice (some ⟨wg.heap.size, 0, none⟩) 0 0 := ⟨_, rfl⟩
              rw [← hv0] at H0
              go_wp2_with fail
              rw [← hv0]
              clear hv0
              generalize hVr : wr = Vr at *
              clear hVr
              have HX0 := EG
              go_loopw [19, 20, 21] (fun vs ts u wr => ∃ (q : Nat) (m : Mo) (ey : Bx), q ≤ 12 ∧ u = .int .i64 (q : Int) ∧ ts = .int .i64 (lvN i V j q) ∧ Hid (m = lvX i V j q) ∧ Hold Fina.kI vs (lvS i V j q) ey ∧ Ms w wr Z lvF 4 2 (20 + q) m (ex ++ ey)) (fun _ _ u _ => 12 - (intOf u).toNat)
              case atStart => exact ⟨0, mg, ex0, by omega, rfl, rfl, HX0, H0, SK.mono (by omega)⟩
              case round =>
                clear SK H0 HX0 EG
                obtain ⟨q, m, ey, hq, rfl, rfl, HX, HS, SO⟩ := hrel
                by_cases hq12 : q < 12
                · as_aux_lemma =>
                    obtain ⟨x7, y7, L7, m7, R7⟩ := exX lvF m 2 (tn q) exC (show inN (tn q) 2 = true from decide_eq_true (by unfold tn; omega))
                    have q1 : bits .and .i64 (q : Int) 1 = tn q := by unfold tn; simpa using Ctl.mask_i64 1 (by decide) (q : Int)
                    have E7 := Lib.hid (show m7 = lvX i V j (q + 1) by
                      show _ = stF lvF (lvX i V j q) (tn q) exC
                      rw [← HX.out, stF_of R7])
                    have ES := Lib.hid (show lvS i V j (q + 1) = lvS i V j q ++ L7 by
                      show lvS i V j q ++ (anF lvF (lvX i V j q) (tn q) exC).said = _
                      rw [← HX.out, anF_of R7])
                    have EN : lvN i V j (q + 1) = lvN i V j q + y7 := by
                      show lvN i V j q + (anF lvF (lvX i V j q) (tn q) exC).n = _
                      rw [← HX.out, anF_of R7]
                    obtain ⟨n0', n1', l0'⟩ := OK.out.bd q (by omega)
                    obtain ⟨n0'', n1'', l1'⟩ := OK.out.bd (q + 1) (by omega)
                    have LL : (lvS i V j q).length + L7.length ≤ 1000000 := by
                      rw [ES.out, List.length_append] at l1'
                      omega
                    obtain ⟨N1, hN1⟩ : ∃ N1, N1 = lvN i V j q := ⟨_, rfl⟩
                    rw [← hN1] at EN n0' n1' ⊢
                    rw [EN] at n0'' n1''
                    have wN : IntKind.i64.wrap (N1 + y7) = N1 + y7 := IntWalk.i64_in _ (by omega)
                    replace EN := Lib.hid EN
                    replace R7 := Lib.hid R7
                    clear hN1
                    go_wp2_with fail
                    refine (ms_as SO (by omega) (c := exC) (cok (by omega) (by omega) (by omega) (by omega) (by omega) (by omega)) (tn q) R7.out).mono ?_
                    rintro e w7 ⟨A7, c7, rfl, sd, M7⟩
                    have M8 := M7.new #[.int .i64 x7, .int .i64 y7, .slice A7 L7.length c7] anT
                    obtain ⟨_, a1, a2⟩ := M8.cells3 0 rfl
                    obtain ⟨W, hW⟩ : ∃ W : World, W = w7.alloc (.cells #[.int .i64 x7, .int .i64 y7, .slice A7 L7.length c7] anT) := ⟨_, rfl⟩
                    have hx := (sd.sr).alloc (.cells #[.int .i64 x7, .int .i64 y7, .slice A7 L7.length c7] anT)
                    have hl := l0'
                    have O1 := M8.hold HS (fun x hx => by simp [hx])
                    rw [← hW] at M8 a1 a2 hx O1
                    have hb7 : w.heap.size ≤ W.heap.size := M8.below.size
                    go_upto_region 35 with (fail)
                    rw [← hW]
                    clear hW
                    go_wp2_with (refine wpList_grow (K := Fina.kI) (o := ⟨some 136, _, _, _, _, _⟩) rfl (.tmp 133) (.tmp 135) rfl rfl rfl rfl O1 hx LL hb7 ?_; intro v9 w9 O9 g9 h9; obtain ⟨ey9, M9, H9⟩ := Ms.grown (bx := (w7.heap.size, .cells #[.int .i64 x7, .int .i64 y7, .slice A7 L7.length c7] anT (0, 0)) :: ex) M8 HS O9 g9 h9 (by decide); obtain ⟨_, b1, _⟩ := Ms.cells3 M9 0 rfl)
                    go_roundw
                    case rel => exact ⟨q + 1, m7, ey9, by omega, by go_num, by rw [EN.out], E7, by rw [ES.out]; exact H9, M9.drop 1⟩
                    case measure => simp [intOf]; omega
                · as_aux_lemma =>
                    obtain rfl : q = 12 := by omega
                    have KO := OK.out
                    have hs1 : seeC m.F.R 1 = ⟨1, 0, -1, 1, 0⟩ := by rw [HX.out]; exact KO.see
                    have hu1 : (m.ar 1).u = 0 := by rw [HX.out]; exact KO.us
                    have hg1 : (m.ar 1).g = 0 := by rw [HX.out]; exact KO.gt
                    have HSW : lvS i V j 12 = wnt V j := KO.said
                    have HNN : lvN i V j 12 = ((wnt V j).length : Int) := KO.many
                    rw [HSW] at HS
                    rw [HNN]
                    replace hs1 := Lib.hid hs1
                    obtain ⟨x8, y8, L8, m8, R8⟩ := exX lvF m 2 1 enC (by decide)
                    have S8 := Lib.hid (show m8 = lvY i V j by
                      show _ = stF lvF (lvX i V j 12) 1 enC
                      rw [← HX.out, stF_of R8])
                    obtain ⟨rg, hrg⟩ : ∃ rg : Int, (m8.th 0).r 1 = rg := ⟨_, rfl⟩
                    obtain ⟨ra, hra⟩ : ∃ ra : Int, IntKind.i64.wrap rg = ra := ⟨_, rfl⟩
                    have rb : -9223372036854775808 ≤ ra ∧ ra ≤ 9223372036854775807 := by rw [← hra, IntKind.wrap_i64]; omega
                    obtain ⟨x9, y9, L9, m9, R9⟩ := exX lvF m8 2 1 ⟨1, 0, 0, 0, ra, 0, 0⟩ (by decide)
                    have S9 := Lib.hid (show m9 = lvZ i V j by
                      show _ = stF lvF (lvY i V j) 1 ⟨1, 0, 0, 0, IntKind.i64.wrap (((lvY i V j).th 0).r 1), 0, 0⟩
                      rw [← S8.out, hrg, hra, stF_of R9])
                    obtain ⟨xa, ya, La, ma, Ra⟩ := exX lvF m9 2 1 ldC (by decide)
                    obtain ⟨xb, yb, Lb, mb, Rb⟩ := exX lvF ma 2 1 a6C (by decide)
                    have c1 : j = 0 ∨ xa = 19 := by
                      have := KO.ld
                      rw [← S9.out, anF_of Ra] at this
                      exact this
                    have c2 : xb = 0 := by
                      have := KO.al
                      rw [← S9.out, stF_of Ra, anF_of Rb] at this
                      exact this
                    subst c2
                    replace R8 := Lib.hid R8
                    replace R9 := Lib.hid R9
                    replace Ra := Lib.hid Ra
                    replace Rb := Lib.hid Rb
                    clear KO HSW HNN S8 S9 HX
                    generalize hWL : wnt V j = WL at *
                    clear hWL
                    go_wp2_with fail
                    refine (ms_ctl SO 1 hs1.out).mono ?_
                    rintro e wb ⟨rfl, SC, _⟩
                    have SD := SC.new #[.int .i64 1, .int .i64 0, .int .i64 (-1), .int .i64 1] 64
                    obtain ⟨d0, d1, d2, d3⟩ := SD.cells4 0 rfl
                    clear SO SC
                    obtain ⟨Aw, cw, hvw, _⟩ := (SD.hold HW (fun x hx => by simp [hx])).sr
                    obtain ⟨As, cs, hvs, _⟩ := (SD.hold HS (fun x hx => by simp [hx])).sr
                    subst hvw hvs
                    go_wp2_with fail
                    refine (ms_port SD (i := 1) (by omega) (by omega) hg1).mono ?_
                    rintro e wq ⟨rfl, rfl⟩
                    go_wp2_with fail
                    refine (ms_used SD (i := 1) (by omega) (by omega) hu1).mono ?_
                    rintro e wq ⟨rfl, rfl⟩
                    clear hu1 hg1 hs1
                    have SW := (SD.hold HW (fun x hx => by simp [hx])).sr
                    have SS := (SD.hold HS (fun x hx => by simp [hx])).sr
                    obtain ⟨WW, hWW⟩ : ∃ W : World, W = wb.alloc (.cells #[.int .i64 1, .int .i64 0, .int .i64 (-1), .int .i64 1] 64) := ⟨_, rfl⟩
                    rw [← hWW] at SD SW SS d0 d1 d2 d3
                    go_wp2_with fail
                    rw [← hWW]
                    clear hWW
                    generalize hVq : wr = Vq at *
                    clear hVq
                    go_loopw [26] (fun u wz => ∃ y : Nat, y ≤ WL.length ∧ u = .int .i64 (y : Int) ∧ Ms w wz Z lvF 4 2 (20 + 12) m ((wb.heap.size, .cells #[.int .i64 1, .int .i64 0, .int .i64 (-1), .int .i64 1] 64 (0, 0)) :: (ex ++ ey))) (fun u _ => WL.length - (intOf u).toNat)
                    case atStart => exact ⟨0, by omega, rfl, SD⟩
                    case round =>
                      clear SD SW SS d0 d1 d2 d3
                      obtain ⟨y, hy, rfl, SD⟩ := hrel
                      have SW := (SD.hold HW (fun x hx => by simp [hx])).sr
                      have SS := (SD.hold HS (fun x hx => by simp [hx])).sr
                      by_cases hyl : y < WL.length
                      · as_aux_lemma =>
                          obtain ⟨g1, o1, rfl, _, q1⟩ := SW.at y hyl
                          obtain ⟨g2, o2, rfl, _, q2⟩ := SS.at y hyl
                          have q1 := q1 0 _ rfl
                          have q2 := q2 0 _ rfl
                          rw [show o1 + (y * Fina.kI.m + 0) = o1 + y by simp [Fina.kI]] at q1
                          rw [show o2 + (y * Fina.kI.m + 0) = o2 + y by simp [Fina.kI]] at q2
                          generalize WL[y] = vy at q1 q2
                          have y0 : (0 : Int) ≤ (y : Int) := by omega
                          have y1 : (y : Int) < (WL.length : Int) := by omega
                          have y2 : (vy != vy) = false := by simp
                          go_wp2_with fail
                          go_region
                          go_wp2
                          go_roundw
                          case rel => exact ⟨y + 1, by omega, by go_num, SD.drew⟩
                          case measure => simp [intOf]; omega
                      · as_aux_lemma =>
                          obtain rfl : y = WL.length := by omega
                          clear SW SS HW HS
                          have SE := SD.drop 1
                          have SE : Ms w wr Z lvF 4 2 (20 + 12) m (ex ++ ey) := SE
                          clear SD
                          go_wp2_with fail
                          refine (ms_as SE (by omega) (c := enC) (cok (by omega) (by omega) (by omega) (by omega) (by omega) (by omega)) 1 R8.out).mono ?_
                          rintro e w8 ⟨A8, c8, rfl, _, M8⟩
                          go_wp2_with fail
                          refine (first_any M8 (by omega)).mono ?_
                          rintro e w8b ⟨rfl, M8b⟩
                          rw [hrg]
                          go_wp2_with fail
                          refine (ms_as M8b (by omega) (c := ⟨1, 0, 0, 0, ra, 0, 0⟩) (cok (by omega) (by omega) (by omega) (by omega) (by omega) (by omega)) 1 R9.out).mono ?_
                          rintro e w9 ⟨A9, c9, rfl, _, M9⟩
                          go_wp2_with fail
                          refine (ms_as M9 (by omega) (c := ldC) (cok (by omega) (by omega) (by omega) (by omega) (by omega) (by omega)) 1 Ra.out).mono ?_
                          rintro e wa ⟨Aa, ca, rfl, _, Ma⟩
                          have Ma := Ma.new #[.int .i64 xa, .int .i64 ya, .slice Aa La.length ca] anT
                          go_wp2_with fail
                          refine (ms_as Ma (by omega) (c := a6C) (cok (by omega) (by omega) (by omega) (by omega) (by omega) (by omega)) 1 Rb.out).mono ?_
                          rintro e wb2 ⟨Ab, cb, rfl, _, Mb⟩
                          have Mb := Mb.new #[.int .i64 0, .int .i64 yb, .slice Ab Lb.length cb] anT
                          obtain ⟨a0, _, _⟩ := Mb.cells3 1 rfl
                          obtain ⟨b0, _, _⟩ := Mb.cells3 0 rfl
                          rcases c1 with h0 | h0
                          · have z0 : ((j : Int) == 0) = true := by simp; omega
                            as_aux_lemma =>
                              go_wp2
                              go_ret
                              exact ⟨rfl, Mb.below⟩
                          · subst h0
                            by_cases hj0 : j = 0
                            · have z0 : ((j : Int) == 0) = true := by simp; omega
                              as_aux_lemma =>
                                go_wp2
                                go_ret
                                exact ⟨rfl, Mb.below⟩
                            · have z0 : ((j : Int) == 0) = false := by simp; omega
                              as_aux_lemma =>
                                go_wp2
                                go_ret
                                exact ⟨rfl, Mb.below⟩

set_option maxRecDepth 100000 in
theorem lifted (os : Os) (started : os.Started) (H : Type) (enc : TypeId × Value → H) :
    ReturnsInHanded {} Tryz.checked os 6 .any (Rows.modelLeavesSpec.pre6 enc Tryz.prog Tryz.f6 Rows.modelLeavesRow.domain false) (Rows.modelLeavesSpec.post enc Tryz.prog Tryz.f6 false true false false) := by
  refine returnsInHanded_of_change (C := Tryz.checked) Args.own started (by kernel_rfl) Tryz.func6
    (ChangeSpec.witness6 (enc := enc) (C := Tryz.checked) false ⟨#[], #[.int .u8 0, .int .u8 0, .int .u8 0], []⟩ 8 (by kernel_rfl) (by kernel_rfl) (by kernel_rfl) (by kernel_rfl)) ?_
  intro W base args ds gs before hval0 hW hcnd _
  have hval : ∀ (j : Nat) t v, Tryz.f6.params[j]? = some t → args[j]? = some v → Value.okWide Tryz.prog W .any base t v := hval0
  have hW' := hW
  obtain ⟨p, q, hA0, hV, rfl, hfz, hnd⟩ := hW
  have hA : DataW.TrodAll enc Tryz.prog W 0 (fun _ => true) true Tryz.f6.params.toList args.toList ds p := hA0
  rw [Tryz.params6] at hA hval
  obtain ⟨v0, vs0, d0, ds0, p0, q0, hargs, rfl, rfl, h0, r0⟩ := trodAll_cons hA
  obtain ⟨v1, vs1, d1, ds1, p1, q1, rfl, rfl, rfl, h1, r1⟩ := trodAll_cons r0
  obtain ⟨v2, vs2, d2, ds2, p2, q2, rfl, rfl, rfl, h2, r2⟩ := trodAll_cons r1
  obtain ⟨rfl, rfl, rfl⟩ := trodAll_nil r2
  obtain rfl : args = #[v0, v1, v2] := by cases args; simp_all
  obtain ⟨rfl, rfl⟩ := trodVars_none hV
  have lt0 := Args.trod_below h0
  obtain ⟨nn, rfl, rfl, rfl, wnn⟩ := open_int Tryz.underlying5 (hval 0 5 v0 rfl rfl) h0
  have lt1 := Args.trod_below h1
  obtain ⟨wh, rfl, rfl, rfl, wwh⟩ := open_int Tryz.underlying5 (hval 1 5 v1 rfl rfl) h1
  have lt2 := Args.trod_below h2
  obtain ⟨oft, rfl, rfl, rfl, woft⟩ := open_int Tryz.underlying5 (hval 2 5 v2 rfl rfl) h2
  clear hA0 hval0
  refine (walk nn wh oft W wnn wwh woft).mono fun e W' ⟨he, bel⟩ => ?_
  subst he
  exact ⟨_, rfl, _, _, _, [], _, [], hW', trodAll_mk1 (shut_bool Tryz.underlying4 _), trodAll_cons_mk (Below.trod Args.laidOut (by kernel_rfl) (of_decide_eq_true (by kernel_rfl)) h0 bel lt0) (trodAll_cons_mk (Below.trod Args.laidOut (by kernel_rfl) (of_decide_eq_true (by kernel_rfl)) h1 bel lt1) (trodAll_cons_mk (Below.trod Args.laidOut (by kernel_rfl) (of_decide_eq_true (by kernel_rfl)) h2 bel lt2) (trodAll_mk0))), rfl, bel.frame _, fun h => by cases h⟩

theorem over : Rows.modelLeavesRow.holds Tryz.pinned (OpenSpec.ofChange Rows.modelLeavesSpec) :=
  OpenClaim.holds_of_wide 6 Tryz.f6 rfl rfl rfl rfl rfl rfl rfl ⟨rfl, rfl, rfl, rfl, rfl⟩ rfl rfl rfl rfl rfl (by kernel_rfl) Tryz.func6 (by kernel_rfl)
    (of_decide_eq_true (by kernel_rfl)) (by unfold Func.isWrapper; rw [if_neg (of_decide_eq_false (by kernel_rfl))]; exact ⟨rfl, rfl⟩)
    (fun os started H enc _ => lifted os started H enc)

theorem proved : Rows.ModelLeavesSaid :=
  over
end Go.Proofs.YtneggppfffekdaaGreat.modelLeaves
