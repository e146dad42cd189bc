/-
  penfoldlaw12.ModelHeld returns true for every two bytes and bool, and changes nothing that was there; no condition.
-/
import Derived.Test.YtneggppfffekdaaGreatRows
import Derived.Test.YtneggppfffekdaaGreatBase
import Derived.Test.YtneggppfffekdaaGreatHels
import Derived.Test.YtneggppfffekdaaGreatNump
import Derived.StillTailTactics
import Derived.Deep.RegionHeld3
import Derived.Deep.DeepCutAuto
namespace Go.Proofs.YtneggppfffekdaaGreat.modelHeld
open Go.ChangeShapes Go.WideShapes Go.ChangeAt Go.RowKit
set_option linter.unusedVariables false

open Go.Proofs.YtneggppfffekdaaGreat.Mod Slic Sco

set_option maxRecDepth 100000 in
set_option maxHeartbeats 8000000 in
theorem walk (nn : Int) (wh : Int) (pt : Bool) (w : World) (wnn : (Lit.int .u8 nn).wf = true) (wwh : (Lit.int .u8 wh).wf = true) :
    Calls Tryz.prog 12 #[.int .u8 nn, .int .u8 wh, .bool pt] w fun e w' => e = .returned (.bool true) ∧ Below w.heap.size w w' := by
  have ⟨n0, n1⟩ := Held.bounds_u8 wnn
  have ⟨f0, f1⟩ := Held.bounds_u8 wwh
  obtain ⟨R, hR⟩ : ∃ R : Nat, (R : Int) = nn % 5 := ⟨(nn % 5).toNat, by omega⟩
  have tR : Int.tmod nn 5 = (R : Int) := (Int.tmod_eq_emod_of_nonneg n0).trans hR.symm
  obtain ⟨K, hK⟩ : ∃ K : Nat, 1 + (R : Int) = (K : Int) := ⟨1 + R, by omega⟩
  have K1 : 1 ≤ K := by omega
  have K5 : K ≤ 5 := by omega
  have R2 : R ≤ 4 := by omega
  obtain ⟨V, hV⟩ : ∃ V : Nat, (V : Int) = wh % 32 := ⟨(wh % 32).toNat, by omega⟩
  have V6 : V < 32 := by omega
  have OK := Lib.hid (hd_at pt K1 K5 V6)
  have HV := Lib.hid hV
  clear hR hV
  go_enter Tryz.func12, Tryz.ntmps12
  go_wp2_with fail
  refine (shown_any _).mono ?_
  rintro z w1 ⟨rfl, k1⟩
  go_wp2_with fail
  obtain ⟨r1, r2⟩ := hd_rows w1
  have k2 := k1.trans (r2.mono k1.size)
  refine (some_any _).mono ?_
  rintro z w2 ⟨rfl, k3⟩
  have k4 := k2.trans (Below.mono k3 k2.size)
  have r3 := Fina.Rows.below r1 k3
  go_wp2_with fail
  refine (ms_new (bx := []) k4 (fun x hx => absurd hx List.not_mem_nil) List.nodup_nil 4 2 128 512 _ hdF r3 hd_ok.1 (by decide) hd_ok.2).mono ?_
  rintro z w5 ⟨Z, rfl, M5, _⟩
  obtain ⟨m0, hm0⟩ : ∃ m0, m0 = sh0 := ⟨_, rfl⟩
  have M5 : Ms w w5 Z hdF 4 2 0 m0 [] := by rw [hm0]; exact M5
  clear r1 r2 k2 k1 k3 k4 r3
  obtain ⟨x1, y1, L1, m1, R1⟩ := exX hdF m0 2 0 ⟨7, 1, 0, 0, 0, 0, 0⟩ (by decide)
  obtain ⟨x2, y2, L2, m2, R2'⟩ := exX hdF m1 2 0 (crC 400) (by decide)
  obtain ⟨x3, y3, L3, m3, R3⟩ := exX hdF m2 2 0 enC (by decide)
  have E3 := Lib.hid (show m3 = hdA pt V 0 by
    show _ = stF hdF (stF hdF (stF hdF sh0 0 ⟨7, 1, 0, 0, 0, 0, 0⟩) 0 (crC 400)) 0 enC
    rw [← hm0, stF_of R1, stF_of R2', stF_of R3])
  replace R1 := Lib.hid R1
  replace R2' := Lib.hid R2'
  replace R3 := Lib.hid R3
  clear hm0
  go_wp2_with fail
  refine (ms_as M5 (by omega) (c := ⟨7, 1, 0, 0, 0, 0, 0⟩) (cok (by omega) (by omega) (by omega) (by omega) (by omega) (by omega)) 0 R1.out).mono ?_
  rintro e w6 ⟨A6, c6, rfl, _, M6⟩
  go_wp2_with fail
  refine (ms_as M6 (by omega) (c := crC 400) (cok (by omega) (by omega) (by omega) (by omega) (by omega) (by omega)) 0 R2'.out).mono ?_
  rintro e w7 ⟨A7, c7, rfl, _, M7⟩
  go_wp2_with fail
  refine (ms_as M7 (by omega) (c := enC) (cok (by omega) (by omega) (by omega) (by omega) (by omega) (by omega)) 0 R3.out).mono ?_
  rintro e w8 ⟨A8, c8, rfl, _, M8⟩
  clear R1 R2' R3 M5 M6 M7
  have O0 := Slic.Own.empty (K := Fina.kU) w8 w8.heap.size (Nat.le_refl _)
  obtain ⟨eh, MK, H0⟩ := M8.keep O0 (below_one _ _)
  have MK : Ms w (w8.alloc (.cells #[] 50)) Z hdF 4 2 3 m3 ([] ++ eh) := MK
  have hsz8 : (w8.alloc (.cells #[] 50)).heap.size = w8.heap.size + 1 := World.size_alloc _ _
  have O1 := Slic.Own.empty (K := Fina.kI) (w8.alloc (.cells #[] 50)) (w8.alloc (.cells #[] 50)).heap.size (Nat.le_refl _)
  obtain ⟨ew, MW, H1⟩ := MK.keep O1 (below_one _ _)
  have MW : Ms w ((w8.alloc (.cells #[] 50)).alloc (.cells #[] 3)) Z hdF 4 2 3 m3 (eh ++ ew) := MW
  rw [hsz8] at H1
  obtain ⟨vh, hvh⟩ : ∃ v, v = Value.slice (some ⟨w8.heap.size, 0, none⟩) 0 0 := ⟨_, rfl⟩
  obtain ⟨vw, hvw⟩ : ∃ v, v = Value.slice (some ⟨w8.heap.size + 1, 0, none⟩) 0 0 := ⟨_, rfl⟩
  rw [← hvh] at H0
  rw [← hvw] at H1
  have MW := MW.swap
  clear M8 MK O0 O1 hsz8
  go_wp2_with fail
  rw [← hvh, ← hvw]
  clear tR hK R2 hvh hvw
  go_loopw [12, 13, 14] (fun hv wv u wr => ∃ (i : Nat) (m : Mo) (eh ew : Bx), i ≤ K ∧ u = .int .i64 (i : Int) ∧ Hid (m = hdA pt V i) ∧ Hold Fina.kU hv (hdH pt V i) eh ∧ Hold Fina.kI wv (hdW V i) ew ∧ Ms w wr Z hdF 4 2 (3 + 2 * i) m (ew ++ eh)) (fun _ _ u _ => K - (intOf u).toNat)
  case atStart => exact ⟨0, m3, eh, ew, by omega, rfl, E3, H0, H1, MW⟩
  case round =>
    clear MW E3 H0 H1
    obtain ⟨i, m, eh, ew, hi, rfl, HE, HH, HW, SO⟩ := hrel
    by_cases hlt : i < K
    · as_aux_lemma =>
        have HB := bit_at5 f0 f1 HV.out (j := i) (by omega)
        obtain ⟨TG, hTG⟩ : ∃ TG, TG = htg V i := ⟨_, rfl⟩
        have T0 : 0 ≤ TG ∧ TG ≤ 1 := by rw [hTG]; unfold htg; split <;> omega
        obtain ⟨T00, T01⟩ := T0
        obtain ⟨B, hB⟩ : ∃ B : Int, ((V / 2 ^ i % 2 : Nat) : Int) = B := ⟨_, rfl⟩
        have B01 : 0 ≤ B ∧ B ≤ 1 := by omega
        obtain ⟨B0, B1⟩ := B01
        have hTB : TG = if i = 0 then 0 else B := by rw [hTG, ← hB]; rfl
        rw [hB] at HB
        replace hTB := Lib.hid hTB
        replace hTG := Lib.hid hTG
        clear hB
        go_upto_if 83 with (fail)
        go_cut [15] (fun s wx => s = .int .i64 TG ∧ wr = wx)
        case first =>
          by_cases h0 : i = 0
          · subst h0
            have h2 : TG = 0 := by rw [hTB.out, if_pos rfl]
            subst h2
            as_aux_lemma =>
              go_wp2
              go_meet
              exact ⟨rfl, rfl⟩
          · have d1 : ((i : Int) == 0) = false := by simp; omega
            have h2 : TG = B := by rw [hTB.out, if_neg h0]
            subst h2
            as_aux_lemma =>
              go_wp2
              go_meet
              exact ⟨rfl, rfl⟩
        case rest =>
          obtain ⟨rfl, rfl⟩ := hcut
          clear HB hTB B0 B1
          obtain ⟨x7, y7, L7, m7, R7⟩ := exX hdF m 2 0 (halC TG) (by decide)
          have EN := Lib.hid (show hdN pt V i = y7 by
            unfold hdN
            rw [← HE.out, ← hTG.out, anF_of R7])
          obtain ⟨y0, y1'⟩ := OK.out.nu i hlt
          rw [EN.out] at y0 y1'
          have wy : IntKind.u64.wrap y7 = y7 := Ctl.wraps_u64 _ y0 (by omega)
          have E7 := Lib.hid (show hdA pt V (i + 1) = hdR pt m7 by
            show hdR pt (stF hdF (hdA pt V i) 0 (halC (htg V i))) = _
            rw [← HE.out, ← hTG.out, stF_of R7])
          replace R7 := Lib.hid R7
          go_wp2_with fail
          refine (ms_as SO (by omega) (c := halC TG) (cok (by omega) (by omega) (by omega) (by omega) (by omega) (by omega)) 0 R7.out).mono ?_
          rintro e w7 ⟨A7, c7, rfl, _, M7⟩
          have M8 := M7.new #[.int .i64 x7, .int .i64 y7, .slice A7 L7.length c7] anT
          clear R7 SO M7 HE
          go_upto_if 91 with (fail)
          go_cut [94] (fun _ wx => ∃ m' : Mo, Hid (m' = hdA pt V (i + 1)) ∧ Ms w wx Z hdF 4 2 (3 + 2 * (i + 1)) m' ((w7.heap.size, .cells #[.int .i64 x7, .int .i64 y7, .slice A7 L7.length c7] anT (0, 0)) :: (ew ++ eh)))
          case first =>
            cases pt with
            | true =>
              obtain ⟨x8, y8, L8, m8, R8⟩ := exX hdF m7 2 0 stC (by decide)
              have E8 := Lib.hid (show m8 = hdA true V (i + 1) by
                rw [E7.out]
                show _ = stF hdF m7 0 stC
                rw [stF_of R8])
              replace R8 := Lib.hid R8
              as_aux_lemma =>
                go_wp2_with fail
                refine (ms_as M8 (by omega) (c := stC) (cok (by omega) (by omega) (by omega) (by omega) (by omega) (by omega)) 0 R8.out).mono ?_
                rintro e w8 ⟨A8, c8, rfl, _, M9⟩
                go_wp2_with fail
                go_meet
                exact ⟨m8, E8, M9.mono (by omega)⟩
            | false =>
              have E8 := Lib.hid (show m7 = hdA false V (i + 1) by
                rw [E7.out]
                rfl)
              as_aux_lemma =>
                go_wp2_with fail
                go_meet
                exact ⟨m7, E8, M8.mono (by omega)⟩
          case rest =>
            obtain ⟨m8, E8, M9⟩ := hcut
            clear M8 E7
            obtain ⟨_, a1, _⟩ := M9.cells3 0 rfl
            have LH := hdH_len pt V i
            have LW := hdW_len V i
            have EH := Lib.hid (show hdH pt V i ++ [y7] = hdH pt V (i + 1) by
              show _ = hdH pt V i ++ [hdN pt V i]
              rw [EN.out])
            have EW := Lib.hid (show [7 + TG] ++ hdW V i = hdW V (i + 1) by
              show _ = (7 + htg V i) :: hdW V i
              rw [← hTG.out]
              rfl)
            have wT : IntKind.i64.wrap (7 + TG) = 7 + TG := IntWalk.i64_in _ (by omega)
            obtain ⟨TT, hTT⟩ : ∃ TT, 7 + TG = TT := ⟨_, rfl⟩
            have M10 := M9.alloc (.cells #[.int .u64 y7] 50)
            have O10 := M10.hold HH (fun x hx => by simp [hx])
            have hx10 := (Slic.Own.lit (K := Fina.kU) wc wc.heap.size (Nat.le_refl _) [y7] #[.int .u64 y7] rfl (by show 1 ≤ maxLen; decide) 1 rfl).sr
            have hb10 : w.heap.size ≤ (wc.alloc (.cells #[.int .u64 y7] 50)).heap.size := M10.below.size
            go_upto_region 21 with (fail)
            go_wp2_with (first
              | (refine wpList_grows (K := Fina.kU) (o := ⟨some 100, _, _, _, _, _⟩) rfl (.tmp 95) (.tmp 99) rfl rfl rfl rfl O10 hx10 (by rw [LH]; show _ + 1 ≤ _; omega) hb10 ?_
                 intro v9 w9 O9 g9 h9
                 rw [EH.out] at O9
                 obtain ⟨eh9, M11, H9⟩ := Ms.grown (bx := (w7.heap.size, .cells #[.int .i64 x7, .int .i64 y7, .slice A7 L7.length c7] anT (0, 0)) :: ew) M10 HH O9 g9 h9 (by decide))
              | (refine Slic.wpList_app (K := Fina.kI) (o := ⟨some 105, _, _, _, _, _⟩) rfl (.tmp 103) (.tmp 104) rfl rfl rfl rfl (Slic.Own.lit (K := Fina.kI) w9 w9.heap.size (Nat.le_refl _) [TT] #[.int .i64 TT] rfl (by show 1 ≤ maxLen; decide) 1 rfl) ((M11.hold HW (fun x hx => by simp [hx])).sr.alloc _) (by rw [LW]; show 1 + _ ≤ _; omega) (by simp) ?_
                 intro v13 w13 O13 g13 G13
                 have j13 := G13.below _ _ (Nat.le_refl _) (below_one w9 _)
                 rw [← hTT, EW.out] at O13
                 obtain ⟨ew13, M13, H13⟩ := M11.keep O13 j13))
            go_roundw
            case rel =>
              refine ⟨i + 1, m8, eh9, ew13, by omega, by go_num, E8, H9, H13, ?_⟩
              rw [show (((w7.heap.size, Obj.cells #[.int .i64 x7, .int .i64 y7, .slice A7 L7.length c7] anT (0, 0)) :: ew) ++ eh9) ++ ew13 = ((w7.heap.size, Obj.cells #[.int .i64 x7, .int .i64 y7, .slice A7 L7.length c7] anT (0, 0)) :: ew) ++ (eh9 ++ ew13) from List.append_assoc _ _ _] at M13
              exact (M13.less (List.sublist_append_right _ _)).swap
            case measure => simp [intOf]; omega
    · as_aux_lemma =>
        obtain rfl : i = K := by omega
        have KO := OK.out
        obtain ⟨xe, ye, Le, me, Re⟩ := exX hdF m 2 0 exC (by decide)
        have xe25 : xe = 25 := by
          have := KO.xc
          rw [← HE.out, anF_of Re] at this
          exact this
        have yei : ye = (i : Int) := by
          have := KO.xn
          rw [← HE.out, anF_of Re] at this
          exact this
        have Lei : Le = hdW V i := by
          have := KO.xs
          rw [← HE.out, anF_of Re] at this
          exact this
        have EX := Lib.hid (show me = hdX pt V i by
          show _ = stF hdF (hdA pt V i) 0 exC
          rw [← HE.out, stF_of Re])
        subst xe25 yei Lei
        replace Re := Lib.hid Re
        have hs1 : seeC me.F.R 1 = ⟨2, 1, 0, 0, 0⟩ := by rw [EX.out]; exact KO.see
        replace hs1 := Lib.hid hs1
        have he1 : (me.ents 0).length = 1 := by rw [EX.out]; exact KO.ent
        replace he1 := Lib.hid he1
        have LH := hdH_len pt V i
        have LW := hdW_len V i
        obtain ⟨Ah, ch, hvh, _⟩ := (SO.hold HH (fun x hx => by simp [hx])).sr
        obtain ⟨Aw, cw, hvw, _⟩ := (SO.hold HW (fun x hx => by simp [hx])).sr
        subst hvh hvw
        rw [LH] at HH ⊢
        rw [LW] at HW ⊢
        clear HE KO
        go_wp2_with fail
        refine (ms_as SO (by omega) (c := exC) (cok (by omega) (by omega) (by omega) (by omega) (by omega) (by omega)) 0 Re.out).mono ?_
        rintro e we ⟨Ae, ce, rfl, sd, M7⟩
        have S7 := sd.sr
        rw [LW] at S7 ⊢
        have M8 := M7.new #[.int .i64 25, .int .i64 (i : Int), .slice Ae i ce] anT
        have S8 := S7.alloc (.cells #[.int .i64 25, .int .i64 (i : Int), .slice Ae i ce] anT)
        clear Re SO M7 sd S7
        go_wp2_with fail
        refine (ms_ctl M8 1 hs1.out).mono ?_
        rintro e wb ⟨rfl, M9, q9⟩
        have S9 := S8.below q9
        have M10 := M9.new #[.int .i64 2, .int .i64 1, .int .i64 0, .int .i64 0] 64
        have S10 := S9.alloc (.cells #[.int .i64 2, .int .i64 1, .int .i64 0, .int .i64 0] 64)
        clear M8 S8 M9 S9 q9 hs1
        go_wp2_with fail
        refine (ms_regs M10 0 (by omega)).mono ?_
        rintro e wc ⟨gr, cr, rfl, OR, _, r1, _, _, M11, q11⟩
        have S11 := S10.below q11
        have gl := (OR.lt gr rfl).2
        obtain ⟨a0, a1, a2⟩ := M11.cells3 1 rfl
        obtain ⟨d0, d1, d2, d3⟩ := M11.cells4 0 rfl
        clear M10 S10 OR q11
        go_wp2_with fail
        refine (ms_ents M11 0 (by omega)).mono ?_
        rintro e wd ⟨Ad, cd, rfl, _, M12, q12⟩
        rw [he1.out]
        have S12 := S11.below q12
        have r12 : wd.cell? ⟨gr, 1, none⟩ = some (.int .u64 ((me.th 0).r 1)) := (q12.cell (p := ⟨gr, 1, none⟩) gl).trans r1
        have gl2 : gr < wd.heap.size := Nat.lt_of_lt_of_le gl q12.size
        clear M11 S11 r1 gl a0 a1 a2 d0 d1 d2 d3 q12 he1
        obtain ⟨RR, hRR⟩ : ∃ RR, RR = (me.th 0).r 1 := ⟨_, rfl⟩
        rw [← hRR] at r12
        replace hRR := Lib.hid hRR
        go_wp2_with fail
        generalize hVq : wr = Vq at *
        clear hVq
        go_loopw [23] (fun u wz => ∃ y : Nat, y ≤ i ∧ u = .int .i64 (y : Int) ∧ Ms w wz Z hdF 4 2 (3 + 2 * i + 1) me ((wb.heap.size, .cells #[.int .i64 2, .int .i64 1, .int .i64 0, .int .i64 0] 64 (0, 0)) :: (we.heap.size, .cells #[.int .i64 25, .int .i64 (i : Int), .slice Ae i ce] anT (0, 0)) :: (ew ++ eh)) ∧ Sr Fina.kI wz (.slice Ae i ce) (hdW V i) ∧ wz.cell? ⟨gr, 1, none⟩ = some (.int .u64 RR) ∧ gr < wz.heap.size) (fun u _ => i - (intOf u).toNat)
        case atStart => exact ⟨0, by omega, rfl, M12, S12, r12, gl2⟩
        case round =>
          clear M12 S12 r12 gl2
          obtain ⟨y, hy, rfl, M12, S12, r12, gl2⟩ := hrel
          by_cases hyi : y < i
          · as_aux_lemma =>
              obtain ⟨NN, hNN⟩ : ∃ NN, NN = hdN pt V y := ⟨_, rfl⟩
              have nb := OK.out.nu y hyi
              rw [← hNN] at nb
              obtain ⟨nb0, nb1⟩ := nb
              have hx : wf64 NN := ⟨nb0, by omega⟩
              obtain ⟨HX, hHX⟩ : ∃ HX, HX = hdV pt V i y := ⟨_, rfl⟩
              have hsl : slotsV me NN = ([HX], true) := by rw [hNN, hHX, EX.out]; exact OK.out.sl y hyi
              obtain ⟨g1, o1, rfl, _, q1⟩ := (M12.hold HH (fun x hx => by simp [hx])).sr.at y (by rw [LH]; exact hyi)
              have q1 := q1 0 _ rfl
              have hg := hdH_get pt V i y hyi
              rw [List.getElem?_eq_getElem (by rw [LH]; exact hyi)] at hg
              injection hg with hg
              rw [show o1 + (y * Fina.kU.m + 0) = o1 + y by simp [Fina.kU], hg, ← hNN] at q1
              have y1 : (y : Int) < (i : Int) := by omega
              replace hNN := Lib.hid hNN
              have hHX2 := Lib.hid (show HX = if pt = true ∧ (y = 0 ∨ V / 2 ^ y % 2 = 0) then RR else 0 by rw [hHX, hRR.out, EX.out]; rfl)
              clear hg hHX
              go_wp2_with fail
              refine (ms_slots M12 NN hx hsl).mono ?_
              rintro e wq ⟨us, rfl, OU, M13, q13⟩
              have S13 := S12.below q13
              have r13 : wq.cell? ⟨gr, 1, none⟩ = some (.int .u64 RR) := (q13.cell (p := ⟨gr, 1, none⟩) gl2).trans r12
              have gl3 : gr < wq.heap.size := Nat.lt_of_lt_of_le gl2 q13.size
              obtain ⟨gu, cu, rfl, _⟩ := OU.form (by show 0 < 1; decide)
              have c0 := (fun (v : Value) (hv : (Fina.kU.enc HX)[0]? = some v) => (by
                obtain ⟨g', o', e', _, hc⟩ := OU.sr.at 0 (by show 0 < 1; decide)
                injection e' with e'
                injection e' with e1 e2
                subst e1 e2
                exact hc 0 v hv : wq.cell? ⟨gu, 0 + (0 * Fina.kU.m + 0), none⟩ = some v)) _ rfl
              have c0 : wq.cell? ⟨gu, 0, none⟩ = some (.int .u64 HX) := c0
              clear M12 S12 r12 gl2 q13 hsl hx q1 OU
              have HB := bit_at5 f0 f1 HV.out (j := y) (by omega)
              obtain ⟨B, hB⟩ : ∃ B : Int, ((V / 2 ^ y % 2 : Nat) : Int) = B := ⟨_, rfl⟩
              rw [hB] at HB
              obtain ⟨TB, hTB⟩ : ∃ TB : Bool, TB = (pt && (decide (y = 0) || decide (B = 0))) := ⟨_, rfl⟩
              have hHX3 := Lib.hid (show HX = if TB = true then RR else 0 by
                rw [hHX2.out, hTB]
                have hBy : B = 0 ↔ V / 2 ^ y % 2 = 0 := by omega
                by_cases c : pt = true ∧ (y = 0 ∨ V / 2 ^ y % 2 = 0)
                · rw [if_pos c, if_pos (by simp only [Bool.and_eq_true, Bool.or_eq_true, decide_eq_true_eq]; exact ⟨c.1, c.2.imp id hBy.2⟩)]
                · rw [if_neg c, if_neg (by simp only [Bool.and_eq_true, Bool.or_eq_true, decide_eq_true_eq]; exact fun h => c ⟨h.1, h.2.imp id hBy.1⟩)])
              replace hTB := Lib.hid hTB
              clear hHX2 hB
              go_upto_region 33 with (fail)
              go_cut [176] (fun s wx => s = .bool TB ∧ wq = wx)
              case first =>
                cases pt with
                | false =>
                  have h2 := Lib.hid (show TB = false by rw [hTB.out]; rfl)
                  as_aux_lemma =>
                    go_wp2
                    go_meet
                    exact ⟨by rw [h2.out], rfl⟩
                | true =>
                  by_cases h0 : y = 0
                  · have d1 : ((y : Int) == 0) = true := by simp; omega
                    have h2 := Lib.hid (show TB = true by rw [hTB.out, decide_eq_true h0]; rfl)
                    as_aux_lemma =>
                      go_wp2
                      go_meet
                      exact ⟨by rw [h2.out], rfl⟩
                  · have d1 : ((y : Int) == 0) = false := by simp; omega
                    have h2 := Lib.hid (show TB = (B == 0) by rw [hTB.out, decide_eq_false h0]; by_cases hB0 : B = 0 <;> simp [hB0])
                    clear h0
                    as_aux_lemma =>
                      go_wp2
                      go_meet
                      exact ⟨by rw [h2.out], rfl⟩
              case rest =>
              obtain ⟨rfl, rfl⟩ := hcut
              go_upto_if 176 with (fail)
              go_cut [26] (fun s wx => s = .int .u64 HX ∧ wq = wx)
              case first =>
                cases TB with
                | false =>
                  have h2 : HX = 0 := by rw [hHX3.out, if_neg (by simp)]
                  subst h2
                  as_aux_lemma =>
                    go_wp2
                    go_meet
                    exact ⟨rfl, rfl⟩
                | true =>
                  have h2 : HX = RR := by rw [hHX3.out, if_pos rfl]
                  subst h2
                  as_aux_lemma =>
                    go_wp2
                    go_meet
                    exact ⟨rfl, rfl⟩
              case rest =>
                obtain ⟨rfl, rfl⟩ := hcut
                clear HB hHX3 hTB
                obtain ⟨g2, o2, rfl, _, q2⟩ := S13.at y (by rw [LW]; exact hyi)
                obtain ⟨g3, o3, rfl, _, q3⟩ := (M13.hold HW (fun x hx => by simp [hx])).sr.at y (by rw [LW]; exact hyi)
                have q2 := q2 0 _ rfl
                have q3 := q3 0 _ rfl
                rw [show o2 + (y * Fina.kI.m + 0) = o2 + y by simp [Fina.kI]] at q2
                rw [show o3 + (y * Fina.kI.m + 0) = o3 + y by simp [Fina.kI]] at q3
                generalize (hdW V i)[y] = vy at q2 q3
                obtain ⟨_, _, a2⟩ := M13.cells3 1 rfl
                have y0 : (0 : Int) ≤ (y : Int) := by omega
                have y2 : (vy != vy) = false := by simp
                have y3 : (HX != HX) = false := by simp
                clear hNN y1
                have y1 : (y : Int) < (i : Int) := by omega
                go_wp2_with fail
                go_region
                go_wp2
                go_roundw
                case rel => exact ⟨y + 1, by omega, by go_num, M13.drew, S13.drew, r13, gl3⟩
                case measure => simp [intOf]; omega
          · as_aux_lemma =>
              obtain rfl : y = i := by omega
              obtain ⟨xf, yf, Lf, mf, Rf⟩ := exX hdF me 2 0 exC (by decide)
              have KO := OK.out
              have xf0 : xf = 0 := by
                have := KO.yc
                rw [← EX.out, anF_of Rf] at this
                exact this
              have yf0 : yf = 0 := by
                have := KO.yn
                rw [← EX.out, anF_of Rf] at this
                exact this
              have Lf0 : Lf = [] := by
                have := KO.ys
                rw [← EX.out, anF_of Rf] at this
                exact this
              have EY : mf = hdY pt V y := by
                show _ = stF hdF (hdX pt V y) 0 exC
                rw [← EX.out, stF_of Rf]
              subst xf0 yf0 Lf0
              replace Rf := Lib.hid Rf
              have hs1 : seeC mf.F.R 1 = ⟨1, 0, -1, 1, 0⟩ := by rw [EY]; exact KO.ysee
              replace hs1 := Lib.hid hs1
              obtain ⟨NN, hNN⟩ : ∃ NN, NN = hdN pt V 0 := ⟨_, rfl⟩
              have nb := KO.nu 0 (by omega)
              rw [← hNN] at nb
              obtain ⟨nb0, nb1⟩ := nb
              have hx : wf64 NN := ⟨nb0, by omega⟩
              have hsl : slotsV mf NN = ([], false) := by rw [hNN, EY]; exact KO.gone
              have hg := hdH_get pt V y 0 (by omega)
              rw [← hNN] at hg
              replace hNN := Lib.hid hNN
              clear EY KO S12 r12 gl2
              have M12 := M12.drop 2
              have M12 : Ms w wr Z hdF 4 2 (3 + 2 * y + 1) me (ew ++ eh) := M12
              go_wp2_with fail
              refine (ms_as M12 (by omega) (c := exC) (cok (by omega) (by omega) (by omega) (by omega) (by omega) (by omega)) 0 Rf.out).mono ?_
              rintro e wf ⟨Af, cf, rfl, _, M13⟩
              have M14 := M13.new #[.int .i64 0, .int .i64 0, .slice Af 0 cf] anT
              clear M12 M13 Rf
              go_wp2_with fail
              refine (ms_ctl M14 1 hs1.out).mono ?_
              rintro e wg ⟨rfl, M15, _⟩
              have M16 := M15.new #[.int .i64 1, .int .i64 0, .int .i64 (-1), .int .i64 1] 64
              clear M14 M15 hs1
              obtain ⟨g1, o1, rfl, _, q1⟩ := (M16.hold HH (fun x hx => by simp [hx])).sr.at 0 (by rw [LH]; omega)
              have q1 := q1 0 _ rfl
              rw [List.getElem?_eq_getElem (by rw [LH]; omega)] at hg
              injection hg with hg
              rw [show o1 + (0 * Fina.kU.m + 0) = o1 by simp, hg] at q1
              have y1 : (0 : Int) < (y : Int) := by omega
              clear hg
              go_wp2_with fail
              refine (ms_slots M16 NN hx hsl).mono ?_
              rintro e wq ⟨us, rfl, _, M17, _⟩
              obtain ⟨d0, d1, d2, d3⟩ := M17.cells4 0 rfl
              obtain ⟨a0, a1, a2⟩ := M17.cells3 1 rfl
              go_wp2
              go_ret
              exact ⟨rfl, M17.below⟩

set_option maxRecDepth 100000 in
theorem lifted (os : Os) (started : os.Started) (H : Type) (enc : TypeId × Value → H) :
    ReturnsInHanded {} Tryz.checked os 12 .any (Rows.modelHeldSpec.pre6 enc Tryz.prog Tryz.f12 Rows.modelHeldRow.domain false) (Rows.modelHeldSpec.post enc Tryz.prog Tryz.f12 false true false false) := by
  refine returnsInHanded_of_change (C := Tryz.checked) Args.own started (by kernel_rfl) Tryz.func12
    (ChangeSpec.witness6 (enc := enc) (C := Tryz.checked) false ⟨#[], #[.int .u8 0, .int .u8 0, .bool false], []⟩ 8 (by kernel_rfl) (by kernel_rfl) (by kernel_rfl) (by kernel_rfl)) ?_
  intro W base args ds gs before hval0 hW hcnd _
  have hval : ∀ (j : Nat) t v, Tryz.f12.params[j]? = some t → args[j]? = some v → Value.okWide Tryz.prog W .any base t v := hval0
  have hW' := hW
  obtain ⟨p, q, hA0, hV, rfl, hfz, hnd⟩ := hW
  have hA : DataW.TrodAll enc Tryz.prog W 0 (fun _ => true) true Tryz.f12.params.toList args.toList ds p := hA0
  rw [Tryz.params12] at hA hval
  obtain ⟨v0, vs0, d0, ds0, p0, q0, hargs, rfl, rfl, h0, r0⟩ := trodAll_cons hA
  obtain ⟨v1, vs1, d1, ds1, p1, q1, rfl, rfl, rfl, h1, r1⟩ := trodAll_cons r0
  obtain ⟨v2, vs2, d2, ds2, p2, q2, rfl, rfl, rfl, h2, r2⟩ := trodAll_cons r1
  obtain ⟨rfl, rfl, rfl⟩ := trodAll_nil r2
  obtain rfl : args = #[v0, v1, v2] := by cases args; simp_all
  obtain ⟨rfl, rfl⟩ := trodVars_none hV
  have lt0 := Args.trod_below h0
  obtain ⟨nn, rfl, rfl, rfl, wnn⟩ := open_int Tryz.underlying5 (hval 0 5 v0 rfl rfl) h0
  have lt1 := Args.trod_below h1
  obtain ⟨wh, rfl, rfl, rfl, wwh⟩ := open_int Tryz.underlying5 (hval 1 5 v1 rfl rfl) h1
  have lt2 := Args.trod_below h2
  obtain ⟨pt, rfl⟩ := okWide_bool Tryz.underlying4 (hval 2 4 v2 rfl rfl)
  clear hA0 hval0
  refine (walk nn wh pt W wnn wwh).mono fun e W' ⟨he, bel⟩ => ?_
  subst he
  exact ⟨_, rfl, _, _, _, [], _, [], hW', trodAll_mk1 (shut_bool Tryz.underlying4 _), trodAll_cons_mk (Below.trod Args.laidOut (by kernel_rfl) (of_decide_eq_true (by kernel_rfl)) h0 bel lt0) (trodAll_cons_mk (Below.trod Args.laidOut (by kernel_rfl) (of_decide_eq_true (by kernel_rfl)) h1 bel lt1) (trodAll_cons_mk (Below.trod Args.laidOut (by kernel_rfl) (of_decide_eq_true (by kernel_rfl)) h2 bel lt2) (trodAll_mk0))), rfl, bel.frame _, fun h => by cases h⟩

theorem over : Rows.modelHeldRow.holds Tryz.pinned (OpenSpec.ofChange Rows.modelHeldSpec) :=
  OpenClaim.holds_of_wide 12 Tryz.f12 rfl rfl rfl rfl rfl rfl rfl ⟨rfl, rfl, rfl, rfl, rfl⟩ rfl rfl rfl rfl rfl (by kernel_rfl) Tryz.func12 (by kernel_rfl)
    (of_decide_eq_true (by kernel_rfl)) (by unfold Func.isWrapper; rw [if_neg (of_decide_eq_false (by kernel_rfl))]; exact ⟨rfl, rfl⟩)
    (fun os started H enc _ => lifted os started H enc)

theorem proved : Rows.ModelHeldSaid :=
  over
end Go.Proofs.YtneggppfffekdaaGreat.modelHeld
