/-
  penfoldlaw12.ModelOwn returns true for all finalizers and every slice of calls, and changes nothing that was there; no condition.
-/
import Derived.Test.YtneggppfffekdaaGreatRows
import Derived.Test.YtneggppfffekdaaGreatBase
import Derived.Test.YtneggppfffekdaaGreatOwnl
import Derived.Test.YtneggppfffekdaaGreatArgn
import Derived.Test.YtneggppfffekdaaGreatNump
import Derived.StillTailTactics
import Derived.Deep.RegionHeld3
import Derived.Deep.DeepCutAuto
namespace Go.Proofs.YtneggppfffekdaaGreat.modelOwn
open Go.ChangeShapes Go.WideShapes Go.ChangeAt Go.RowKit
set_option linter.unusedVariables false

open Go.Proofs.YtneggppfffekdaaGreat.Mod Slic Sco

set_option maxRecDepth 100000 in
set_option maxHeartbeats 8000000 in
theorem walk (finsv : Value) (finsL : _) (lA : Option Addr) (ln lc : Nat) (lz : Nat → Nat → Int) (w : World) (hfins : Fina.Came w finsv finsL) (hl : Args.Recs (.i64 :: [.u8, .u8, .u8, .u8, .i64, .i64, .i64]) w lA ln lz) :
    Calls Tryz.prog 8 #[finsv, .slice lA ln lc] w fun e w' => e = .returned (.bool true) ∧ Below w.heap.size w w' := by
  obtain ⟨hfr, hok⟩ := hfins
  obtain ⟨fA, fc, rfl, _, _⟩ := hfr.form
  have hln := hl.len
  unfold maxLen at hln
  go_enter Tryz.func8, Tryz.ntmps8
  go_wp2_with fail
  refine (shown_any _).mono ?_
  rintro z w1 ⟨rfl, k1⟩
  go_wp2_with fail
  refine (some_any _).mono ?_
  rintro z w2 ⟨rfl, k2⟩
  have B2 := k1.trans (k2.mono k1.size)
  have b3 := B2.size
  have P3 := heap_alloc_new w2 (.cells #[.int .i64 4, .int .i64 2, .int .i64 128, .int .i64 512] 23)
  have B3 := B2.alloc B2.size (.cells #[.int .i64 4, .int .i64 2, .int .i64 128, .int .i64 512] 23)
  clear k1 k2
  go_wp2_with fail
  generalize hW3 : w2.alloc (.cells #[.int .i64 4, .int .i64 2, .int .i64 128, .int .i64 512] 23) = w3 at *
  clear hW3
  have l3 := (Array.getElem?_eq_some_iff.1 P3).1
  have hf3 := hfr.below B3
  have kc : ∀ W : World, Below w3.heap.size w3 W → W.cell? ⟨w2.heap.size, 0, none⟩ = some (.int .i64 4) ∧ W.cell? ⟨w2.heap.size, 1, none⟩ = some (.int .i64 2) ∧ W.cell? ⟨w2.heap.size, 2, none⟩ = some (.int .i64 128) ∧ W.cell? ⟨w2.heap.size, 3, none⟩ = some (.int .i64 512) := fun W k => by
    have := (k.block w2.heap.size l3).trans P3
    exact ⟨cell_of this 0 _ rfl, cell_of this 1 _ rfl, cell_of this 2 _ rfl, cell_of this 3 _ rfl⟩
  go_region_held3 (fun W => W.cell? ⟨w2.heap.size, 0, none⟩ = some (.int .i64 4) ∧ W.cell? ⟨w2.heap.size, 1, none⟩ = some (.int .i64 2) ∧ W.cell? ⟨w2.heap.size, 2, none⟩ = some (.int .i64 128) ∧ W.cell? ⟨w2.heap.size, 3, none⟩ = some (.int .i64 512))
    (first | exact kc _ (Below.refl _ _) | exact kc _ (Below.refl _ _).drew | exact kc _ kF | exact kc _ kM)
    (first
      | (go_at_call 15; refine (Fina.fit_any _ _ _ (hf3.below ?_) hok).mono ?_; exact (Below.refl _ _).drew; intro z w4 hz; obtain ⟨gA, gc, rfl, hr4, k4⟩ := fitted hz; have kF : Below w3.heap.size w3 w4 := (Below.refl w3.heap.size w3).drew.trans k4)
      | (go_at_call 16; refine (ms_new (w0 := w) (bx := []) (B3.trans (kF.mono B3.size)) (fun x hx => absurd hx List.not_mem_nil) List.nodup_nil 4 2 128 512 _ _ hr4 (fitL_ok hok).1 (by decide) (fitL_ok hok).2).mono ?_; rintro z w5 ⟨Z, rfl, M5, k5⟩; have kM : Below w3.heap.size w3 w5 := kF.trans (k5.mono kF.size)))
  obtain ⟨m0, hm0⟩ : ∃ m0, m0 = sh0 := ⟨_, rfl⟩
  have M5 : Ms w w5 Z (Fina.fitL finsL) 4 2 0 m0 [] := by rw [hm0]; exact M5
  obtain ⟨FF, hFF⟩ : ∃ FF, FF = Fina.fitL finsL := ⟨_, rfl⟩
  rw [← hFF] at M5
  clear hm0 kc hf3 k4 kF k5 hr4 hz kM
  go_wp2_with fail
  clear hFF
  go_loopw [9] (fun u wr => ∃ (k : Nat) (m : Mo), k ≤ ln ∧ k ≤ 60 ∧ u = .int .i64 (k : Int) ∧ Ms w wr Z FF 4 2 k m []) (fun u _ => 60 - (intOf u).toNat)
  case atStart => exact ⟨0, m0, by omega, by omega, rfl, M5⟩
  case round =>
    obtain ⟨k, m, hk1, hk2, rfl, SO⟩ := hrel
    by_cases hlt : k < ln ∧ k < 60
    · obtain ⟨hk3, hk4⟩ := hlt
      obtain ⟨b, o, rfl, hb, hcell⟩ := hl.at_ k hk3
      have e0 : wr.cell? ⟨b, o + k * 8, none⟩ = some (.int .i64 (lz k 0)) := (SO.below.cell (p := ⟨b, _, none⟩) hb).trans (hcell 0 (by decide))
      have e1 : wr.cell? ⟨b, o + k * 8 + 1, none⟩ = some (.int .u8 (lz k 1)) := (SO.below.cell (p := ⟨b, _, none⟩) hb).trans (hcell 1 (by decide))
      have ⟨v1, _⟩ := Held.bounds_u8 (hl.wf k 1)
      have ⟨v2, _⟩ := Held.bounds_u8 (hl.wf k 2)
      have ⟨v3, _⟩ := Held.bounds_u8 (hl.wf k 3)
      have ⟨v4, _⟩ := Held.bounds_u8 (hl.wf k 4)
      have ⟨v5, v5'⟩ := Held.bounds_i64 (hl.wf k 5)
      obtain ⟨T, hT⟩ : ∃ T : Nat, (T : Int) = lz k 0 % 2 := ⟨(lz k 0 % 2).toNat, by omega⟩
      have T1 : T ≤ 1 := by omega
      have m1 : bits .and .i64 (lz k 0) 1 = (T : Int) := by rw [hT]; simpa using Ctl.mask_i64 1 (by decide) (lz k 0)
      obtain ⟨U, hU⟩ : ∃ U : Nat, U = 1 - T := ⟨_, rfl⟩
      have U1 : U < 2 := by omega
      have UT : (U : Int) ≠ (T : Int) := by omega
      have wU : IntKind.i64.wrap (1 - (T : Int)) = (U : Int) := by rw [IntWalk.i64_in _ (by omega)]; omega
      clear hT hU
      obtain ⟨Cc, hC⟩ : ∃ Cc : Bool, Cc = calm ⟨lz k 1, lz k 2, lz k 3, lz k 4, lz k 5, lz k 6, lz k 7⟩ := ⟨_, rfl⟩
      replace hC := Lib.hid hC
      go_upto_region 11 with (fail)
      go_cut [12] (fun s wx => s = .bool Cc ∧ wr = wx)
      case first =>
        have hC' := hC.out
        unfold calm at hC'
        dsimp only at hC'
        clear hC
        by_cases q0 : lz k 1 = 0
        · have d0 : (lz k 1 == 0) = true := by simp [q0]
          have hC2 := Lib.hid (show Cc = true by rw [hC']; exact decide_eq_true (by omega))
          clear hC' q0
          as_aux_lemma =>
            go_wp2
            go_meet
            exact ⟨by rw [hC2.out], rfl⟩
        have d0 : (lz k 1 == 0) = false := by simp [q0]
        by_cases q1 : lz k 1 = 1
        · have d1 : (lz k 1 == 1) = true := by simp [q1]
          have hC2 := Lib.hid (show Cc = true by rw [hC']; exact decide_eq_true (by omega))
          clear hC' q0 q1
          as_aux_lemma =>
            go_wp2
            go_meet
            exact ⟨by rw [hC2.out], rfl⟩
        have d1 : (lz k 1 == 1) = false := by simp [q1]
        by_cases q2 : lz k 1 = 6
        · have d2 : (lz k 1 == 6) = true := by simp [q2]
          have hC2 := Lib.hid (show Cc = true by rw [hC']; exact decide_eq_true (by omega))
          clear hC' q0 q1 q2
          as_aux_lemma =>
            go_wp2
            go_meet
            exact ⟨by rw [hC2.out], rfl⟩
        have d2 : (lz k 1 == 6) = false := by simp [q2]
        by_cases q3 : lz k 1 = 8
        · have d3 : (lz k 1 == 8) = true := by simp [q3]
          have hC2 := Lib.hid (show Cc = true by rw [hC']; exact decide_eq_true (by omega))
          clear hC' q0 q1 q2 q3
          as_aux_lemma =>
            go_wp2
            go_meet
            exact ⟨by rw [hC2.out], rfl⟩
        have d3 : (lz k 1 == 8) = false := by simp [q3]
        have hC2 := Lib.hid (show Cc = (lz k 1 == 10) by rw [hC']; by_cases q4 : lz k 1 = 10; (rw [show (lz k 1 == 10) = true by simp [q4]]; exact decide_eq_true (by omega)); (rw [show (lz k 1 == 10) = false by simp [q4]]; exact decide_eq_false (by omega)))
        clear hC' q0 q1 q2 q3
        as_aux_lemma =>
          go_wp2
          go_meet
          exact ⟨by rw [hC2.out], rfl⟩
      case rest =>
        obtain ⟨rfl, rfl⟩ := hcut
        clear e0 e1 m1
        have S1 := SO.alloc (.cells #[] 50)
        go_wp2_with fail
        refine (ms_regs S1 U U1).mono ?_
        rintro e w1 ⟨g1, c1, rfl, O1, _, _, _, _, _, q1⟩
        have p1 : Below wr.heap.size wr w1 := (below_one wr _).trans (q1.mono (by simp))
        go_wp2_with (refine Slic.wpList_app (K := Fina.kU) (o := ⟨some 88, _, _, _, _, _⟩) rfl (.tmp 83) (.tmp 87) rfl rfl rfl rfl ((Slic.Own.empty wr wr.heap.size (Nat.le_refl _)).below q1) O1.sr (by show 0 + 4 ≤ _; omega) p1.size ?_; intro v6 w6 O6 g6 G6)
        have j6 := G6.below _ _ (Nat.le_refl _) p1
        obtain ⟨ex1, S6, H6⟩ := SO.keep O6 j6
        have HL6 := Lib.hid (show ([] ++ regL (m.th U) : List Int) = regL (m.th U) from List.nil_append _)
        rw [HL6.out] at H6
        clear O6 g6 G6 j6 O1 q1 p1 S1 HL6 SO
        have S7 := S6.alloc (.cells #[] 91)
        go_wp2_with fail
        refine (ms_ents S7 U U1).mono ?_
        rintro e w7 ⟨A7, c7, rfl, O7, _, q7⟩
        have p7 : Below w6.heap.size w6 w7 := (below_one w6 _).trans (q7.mono (by simp))
        have E7 := S7.iv.l6 (t := U) (by rw [S7.et]; exact U1)
        go_wp2_with (refine Slic.wpList_app (K := kE) (o := ⟨some 94, _, _, _, _, _⟩) rfl (.tmp 89) (.tmp 93) rfl rfl rfl rfl ((Slic.Own.empty w6 w6.heap.size (Nat.le_refl _)).below q7) O7.sr (by show 0 + _ ≤ _; omega) p7.size ?_; intro v8 w8 O8 g8 G8)
        have j8 := G8.below _ _ (Nat.le_refl _) p7
        obtain ⟨ex2, S8, H8⟩ := S6.keep O8 j8
        have HL8 := Lib.hid (show ([] ++ m.ents U : List Chain.E) = m.ents U from List.nil_append _)
        rw [HL8.out] at H8
        clear O8 g8 G8 j8 O7 q7 p7 S7 HL8 S6 E7
        have S9 := S8.new (wasA (wasW m) 0) 92
        obtain ⟨W, hW⟩ : ∃ W, W = wasW m := ⟨_, rfl⟩
        rw [← hW] at S9
        replace hW := Lib.hid hW
        go_wp2_with fail
        have S9 : Ms w (w8.alloc (.cells #[.int .u64 0, .int .u64 0, .int .u64 0, .int .u64 0, .int .u64 0, .int .u64 0, .int .u64 0, .int .u64 0, .int .u64 0, .int .u64 0, .int .u64 0, .int .u64 0] 92)) Z FF 4 2 k m ((w8.heap.size, .cells (wasA W 0) 92 (0, 0)) :: ([] ++ ex1 ++ ex2)) := S9
        clear S8
        generalize hVr : wr = Vr at *
        clear hVr
        go_loopw [16] (fun u wz => ∃ s : Nat, s ≤ 4 ∧ u = .int .i64 (s : Int) ∧ Ms w wz Z FF 4 2 k m ((w8.heap.size, .cells (wasA W s) 92 (0, 0)) :: ([] ++ ex1 ++ ex2))) (fun u _ => 4 - (intOf u).toNat)
        case atStart => exact ⟨0, by omega, rfl, S9⟩
        case round =>
          clear S9
          obtain ⟨s, hs, rfl, SW⟩ := hrel
          by_cases hs4 : s < 4
          · as_aux_lemma =>
              obtain ⟨st, sc, sp, se, hsee, hbd⟩ := SW.see hs4
              obtain ⟨us0, us1, gw⟩ := SW.use hs4
              obtain ⟨g, hg⟩ : ∃ g, (m.ar (s : Int)).g = g := ⟨_, rfl⟩
              obtain ⟨uu, hu⟩ : ∃ u, (m.ar (s : Int)).u = u := ⟨_, rfl⟩
              rw [hu] at us0 us1
              have wu : IntKind.u64.wrap uu = uu := Ctl.wraps_u64 _ us0 (by omega)
              obtain ⟨a1, a2, a3, a4, a5, a6, a7, y1, y2, y3, y4, y5, y6, y7, y8, yN⟩ := ctl_steps hbd
              have W1 := Lib.hid (show W s = g by rw [hW.out, was_w1 m hs4, hg])
              have W2 := Lib.hid (show W (4 + s) = uu by rw [hW.out, was_w2 m hs4, hu])
              have W3 := Lib.hid (show W (8 + s) = a7 by rw [hW.out, was_w3 m hs4, hsee, yN])
              obtain ⟨s4, hs4'⟩ : ∃ s4 : Nat, s4 = 4 + s := ⟨_, rfl⟩
              obtain ⟨s8, hs8'⟩ : ∃ s8 : Nat, s8 = 8 + s := ⟨_, rfl⟩
              have i4 : IntKind.i64.wrap (4 + (s : Int)) = (s4 : Int) := by rw [IntWalk.i64_in _ (by omega)]; omega
              have i8 : IntKind.i64.wrap (8 + (s : Int)) = (s8 : Int) := by rw [IntWalk.i64_in _ (by omega)]; omega
              have b0 : s < 12 := by omega
              have b4 : s4 < 12 := by omega
              have b8 : s8 < 12 := by omega
              obtain ⟨⟨x0, q0⟩, f0⟩ := SW.spot 0 rfl (j := s) (by show s < 12; omega)
              have SA := SW.put 0 rfl (by decide) s (.int .u64 g)
              obtain ⟨⟨x4, q4⟩, f4⟩ := SA.spot 0 rfl (j := s4) (by rw [Array.size_setIfInBounds]; show s4 < 12; omega)
              have SB := SA.put 0 rfl (by decide) s4 (.int .u64 uu)
              have PE := Lib.hid (show (((wasA W s).setIfInBounds s (.int .u64 g)).setIfInBounds s4 (.int .u64 uu)).setIfInBounds s8 (.int .u64 a7) = wasA W (s + 1) by rw [hs4', hs8', ← W1.out, ← W2.out, ← W3.out]; exact was_put W hs4)
              clear hs4' hs8' yN hbd
              go_wp2_with fail
              refine (ms_port SW (i := (s : Int)) (by omega) (by omega) hg).mono ?_
              rintro e wq ⟨rfl, rfl⟩
              go_wp2_with fail
              refine (ms_used SA (i := (s : Int)) (by omega) (by omega) hu).mono ?_
              rintro e wq ⟨rfl, rfl⟩
              go_wp2_with fail
              refine (ms_ctl SB (s : Int) hsee).mono ?_
              rintro e wb ⟨rfl, SC, _⟩
              have SD := SC.new #[.int .i64 st, .int .i64 sc, .int .i64 sp, .int .i64 se] 64
              obtain ⟨⟨x8, q8⟩, f8⟩ := SD.spot 1 rfl (j := s8) (by rw [Array.size_setIfInBounds, Array.size_setIfInBounds]; show s8 < 12; omega)
              have SE := SD.put 1 rfl (by decide) s8 (.int .u64 a7)
              obtain ⟨c0, c1, c2, c3⟩ := SD.cells4 0 rfl
              clear q0 f0 q4 f4 SA SB SW hsee hg hu us0 us1 gw SC
              go_wp2_with fail
              go_roundw
              case rel =>
                refine ⟨s + 1, by omega, by go_num, ?_⟩
                have SF := SE.drop 1
                have SG : Ms w _ Z FF 4 2 k m ((w8.heap.size, .cells ((((wasA W s).setIfInBounds s (.int .u64 g)).setIfInBounds s4 (.int .u64 uu)).setIfInBounds s8 (.int .u64 a7)) 92 (0, 0)) :: ([] ++ ex1 ++ ex2)) := SF
                rw [PE.out] at SG
                exact SG
              case measure => simp [intOf]; omega
          · as_aux_lemma =>
              obtain rfl : s = 4 := by omega
              obtain ⟨x5, y5, L5, m5, R5⟩ := exX FF m 2 (T : Int) ⟨lz k 1, lz k 2, lz k 3, lz k 4, lz k 5, lz k 6, lz k 7⟩ (show inN (T : Int) 2 = true from decide_eq_true (by omega))
              have TH := Lib.hid (doX_th R5 UT (by omega))
              have CM : Cc = true → m5.F = m.F ∧ m5.A = m.A := fun h => doX_calm R5 (by rw [← hC.out, h])
              replace CM := Lib.hid CM
              replace R5 := Lib.hid R5
              have e1 : wr.cell? ⟨b, o + k * 8 + 1, none⟩ = some (.int .u8 (lz k 1)) := (SW.below.cell (p := ⟨b, _, none⟩) hb).trans (hcell 1 (by decide))
              have e2 : wr.cell? ⟨b, o + k * 8 + 2, none⟩ = some (.int .u8 (lz k 2)) := (SW.below.cell (p := ⟨b, _, none⟩) hb).trans (hcell 2 (by decide))
              have e3 : wr.cell? ⟨b, o + k * 8 + 3, none⟩ = some (.int .u8 (lz k 3)) := (SW.below.cell (p := ⟨b, _, none⟩) hb).trans (hcell 3 (by decide))
              have e4 : wr.cell? ⟨b, o + k * 8 + 4, none⟩ = some (.int .u8 (lz k 4)) := (SW.below.cell (p := ⟨b, _, none⟩) hb).trans (hcell 4 (by decide))
              have e5 : wr.cell? ⟨b, o + k * 8 + 5, none⟩ = some (.int .i64 (lz k 5)) := (SW.below.cell (p := ⟨b, _, none⟩) hb).trans (hcell 5 (by decide))
              have e6 : wr.cell? ⟨b, o + k * 8 + 6, none⟩ = some (.int .i64 (lz k 6)) := (SW.below.cell (p := ⟨b, _, none⟩) hb).trans (hcell 6 (by decide))
              have e7 : wr.cell? ⟨b, o + k * 8 + 7, none⟩ = some (.int .i64 (lz k 7)) := (SW.below.cell (p := ⟨b, _, none⟩) hb).trans (hcell 7 (by decide))
              go_wp2_with fail
              refine (ms_as SW (by omega) (c := ⟨lz k 1, lz k 2, lz k 3, lz k 4, lz k 5, lz k 6, lz k 7⟩) (cok (by omega) (by omega) (by omega) (by omega) (by omega) (by omega)) (T : Int) R5.out).mono ?_
              rintro e w9 ⟨A9, c9, rfl, _, h9⟩
              clear e1 e2 e3 e4 e5 e6 e7 hcell R5 SW v1 v2 v3 v4 v5 v5' hC
              go_wp2_with fail
              refine (ms_regs h9 U U1).mono ?_
              rintro e wa ⟨ga, ca, rfl, Oa, _, _, _, _, ha, qa⟩
              go_wp2_with fail
              refine (Fina.words_any _ _ _ _ _ (ha.hold H6 (fun x hx => by simp [hx])).sr Oa.sr).mono ?_
              rintro e wb ⟨rfl, kb⟩
              have hb2 := ha.call kb
              rw [show Fina.sameB (regL (m.th U)) (regL (m5.th U)) = true by rw [TH.out]; exact Fina.same_self _]
              clear Oa ha qa kb H6
              go_wp2_with fail
              refine (ms_ents hb2 U U1).mono ?_
              rintro e wc ⟨Ac, cc, rfl, Oc, hc, qc⟩
              go_wp2_with fail
              refine (Chain.same_any _ _ _ _ _ (ent_own.2 (hc.hold H8 (fun x hx => by simp [hx]))).sr (ent_own.2 Oc).sr).mono ?_
              rintro e wd ⟨rfl, kd⟩
              have hd := hc.call kd
              rw [show Chain.sameB (m.ents U) (m5.ents U) = true by unfold Mo.ents; rw [TH.out]; exact Chain.same_refl _]
              clear Oc hc qc kd H8 hb2 TH h9
              go_wp2_with fail
              generalize hVq : wr = Vq at *
              clear hVq
              go_loopw [21] (fun u wz => ∃ s : Nat, s ≤ 4 ∧ u = .int .i64 (s : Int) ∧ Ms w wz Z FF 4 2 (k + 1) m5 ((w8.heap.size, .cells (wasA W 4) 92 (0, 0)) :: ([] ++ ex1 ++ ex2))) (fun u _ => 4 - (intOf u).toNat)
              case atStart => exact ⟨0, by omega, rfl, hd⟩
              case round =>
                clear hd
                obtain ⟨s, hs, rfl, SW⟩ := hrel
                by_cases hs4 : s < 4
                · cases Cc with
                  | false =>
                    as_aux_lemma =>
                      go_wp2
                      go_roundw
                      case rel => exact ⟨k + 1, m5, by omega, by omega, by go_num, SW.less (List.nil_sublist _)⟩
                      case measure => simp [intOf]; omega
                  | true =>
                    as_aux_lemma =>
                      obtain ⟨cF, cA⟩ := CM.out rfl
                      obtain ⟨st, sc, sp, se, hsee, hbd⟩ := SW.see hs4
                      obtain ⟨us0, us1, gw⟩ := SW.use hs4
                      obtain ⟨g, hg⟩ : ∃ g, (m5.ar (s : Int)).g = g := ⟨_, rfl⟩
                      obtain ⟨uu, hu⟩ : ∃ u, (m5.ar (s : Int)).u = u := ⟨_, rfl⟩
                      rw [hu] at us0 us1
                      have wu : IntKind.u64.wrap uu = uu := Ctl.wraps_u64 _ us0 (by omega)
                      obtain ⟨a1, a2, a3, a4, a5, a6, a7, y1, y2, y3, y4, y5, y6, y7, y8, yN⟩ := ctl_steps hbd
                      have W1 : W s = g := by rw [hW.out, ← was_same cF cA, was_w1 m5 hs4, hg]
                      have W2 : W (4 + s) = uu := by rw [hW.out, ← was_same cF cA, was_w2 m5 hs4, hu]
                      have W3 : W (8 + s) = a7 := by rw [hW.out, ← was_same cF cA, was_w3 m5 hs4, hsee, yN]
                      obtain ⟨s4, hs4'⟩ : ∃ s4 : Nat, s4 = 4 + s := ⟨_, rfl⟩
                      obtain ⟨s8, hs8'⟩ : ∃ s8 : Nat, s8 = 8 + s := ⟨_, rfl⟩
                      have i4 : IntKind.i64.wrap (4 + (s : Int)) = (s4 : Int) := by rw [IntWalk.i64_in _ (by omega)]; omega
                      have i8 : IntKind.i64.wrap (8 + (s : Int)) = (s8 : Int) := by rw [IntWalk.i64_in _ (by omega)]; omega
                      have b0 : s < 12 := by omega
                      have b4 : s4 < 12 := by omega
                      have b8 : s8 < 12 := by omega
                      have P1 : (wasA W 4)[s]? = some (.int .u64 g) := by rw [was_at W b0, W1]
                      have P2 : (wasA W 4)[s4]? = some (.int .u64 uu) := by rw [was_at W b4, hs4', W2]
                      have P3 : (wasA W 4)[s8]? = some (.int .u64 a7) := by rw [was_at W b8, hs8', W3]
                      clear hs4' hs8' W1 W2 W3 yN hbd cF cA
                      go_wp2_with fail
                      refine (ms_ctl SW (s : Int) hsee).mono ?_
                      rintro e wb ⟨rfl, SC, _⟩
                      have SD := SC.new #[.int .i64 st, .int .i64 sc, .int .i64 sp, .int .i64 se] 64
                      have SE := SD.drew
                      obtain ⟨c0, c1, c2, c3⟩ := SD.cells4 0 rfl
                      have q0 := (SD.cell 1 rfl).1 s _ P1
                      have q4 := (SD.cell 1 rfl).1 s4 _ P2
                      have q8 := (SD.cell 1 rfl).1 s8 _ P3
                      have d0 : (s : Int) < 12 := by omega
                      have d4 : (s4 : Int) < 12 := by omega
                      have d8 : (s8 : Int) < 12 := by omega
                      have n1 : (g != g) = false := by simp
                      have n2 : (uu != uu) = false := by simp
                      have n3 : (a7 != a7) = false := by simp
                      go_wp2_with fail
                      go_region_held3 (fun W' => W'.cell? ⟨w8.heap.size, s, none⟩ = some (.int .u64 g) ∧ W'.cell? ⟨w8.heap.size, s4, none⟩ = some (.int .u64 uu) ∧ W'.cell? ⟨w8.heap.size, s8, none⟩ = some (.int .u64 a7) ∧ W'.cell? ⟨wb.heap.size, 0, none⟩ = some (.int .i64 st) ∧ W'.cell? ⟨wb.heap.size, 1, none⟩ = some (.int .i64 sc) ∧ W'.cell? ⟨wb.heap.size, 2, none⟩ = some (.int .i64 sp) ∧ W'.cell? ⟨wb.heap.size, 3, none⟩ = some (.int .i64 se))
                        (exact ⟨q0, q4, q8, c0, c1, c2, c3⟩)
                        (first
                          | (go_at_call 27; refine (ms_port SE (i := (s : Int)) (by omega) (by omega) hg).mono ?_; rintro e wq ⟨rfl, rfl⟩)
                          | (go_at_call 28; refine (ms_used SE (i := (s : Int)) (by omega) (by omega) hu).mono ?_; rintro e wq ⟨rfl, rfl⟩))
                      go_wp2
                      go_roundw
                      case rel => exact ⟨s + 1, by omega, by go_num, SE.drop 1⟩
                      case measure => simp [intOf]; omega
                · as_aux_lemma =>
                    obtain rfl : s = 4 := by omega
                    go_wp2
                    go_roundw
                    case rel => exact ⟨k + 1, m5, by omega, by omega, by go_num, SW.less (List.nil_sublist _)⟩
                    case measure => simp [intOf]; omega
    · by_cases hk3 : k < ln
      · as_aux_lemma =>
          obtain rfl : k = 60 := by omega
          have i1 : decide ((60 : Int) < (ln : Int)) = true := decide_eq_true (by omega)
          go_wp2
          go_ret
          exact ⟨rfl, SO.below⟩
      · as_aux_lemma =>
          have i1 : decide ((k : Int) < (ln : Int)) = false := decide_eq_false (by omega)
          go_wp2
          go_ret
          exact ⟨rfl, SO.below⟩

set_option maxRecDepth 100000 in
theorem lifted (os : Os) (started : os.Started) (H : Type) (enc : TypeId × Value → H) :
    ReturnsInHanded {} Tryz.checked os 8 .any (Rows.modelOwnSpec.pre6 enc Tryz.prog Tryz.f8 Rows.modelOwnRow.domain false) (Rows.modelOwnSpec.post enc Tryz.prog Tryz.f8 false true false false) := by
  refine returnsInHanded_of_change (C := Tryz.checked) Args.own started (by kernel_rfl) Tryz.func8
    (ChangeSpec.witness6 (enc := enc) (C := Tryz.checked) false ⟨#[], #[.slice none 0 0, .slice none 0 0], []⟩ 8 (by kernel_rfl) (by kernel_rfl) (by kernel_rfl) (by kernel_rfl)) ?_
  intro W base args ds gs before hval0 hW hcnd _
  have hval : ∀ (j : Nat) t v, Tryz.f8.params[j]? = some t → args[j]? = some v → Value.okWide Tryz.prog W .any base t v := hval0
  have hW' := hW
  obtain ⟨p, q, hA0, hV, rfl, hfz, hnd⟩ := hW
  have hA : DataW.TrodAll enc Tryz.prog W 0 (fun _ => true) true Tryz.f8.params.toList args.toList ds p := hA0
  rw [Tryz.params8] at hA hval
  obtain ⟨v0, vs0, d0, ds0, p0, q0, hargs, rfl, rfl, h0, r0⟩ := trodAll_cons hA
  obtain ⟨v1, vs1, d1, ds1, p1, q1, rfl, rfl, rfl, h1, r1⟩ := trodAll_cons r0
  obtain ⟨rfl, rfl, rfl⟩ := trodAll_nil r1
  obtain rfl : args = #[v0, v1] := by cases args; simp_all
  obtain ⟨rfl, rfl⟩ := trodVars_none hV
  have lt0 := Args.trod_below h0
  obtain ⟨finsL, hfins⟩ := Fina.came_rows (hval 0 24 v0 rfl rfl) h0
  have lt1 := Args.trod_below h1
  obtain ⟨lA, ln, lc, lz, rfl, hl⟩ := Args.nest_in (k := .i64) (ks := [.u8, .u8, .u8, .u8, .i64, .i64, .i64]) (e := 39) (u := 37) (by kernel_rfl) Tryz.underlying39 (by kernel_rfl) (by kernel_rfl) (by kernel_rfl) (by kernel_rfl) (by kernel_rfl) Tryz.underlying37 (by kernel_rfl) (by kernel_rfl) (by kernel_rfl) (hval 1 25 v1 rfl rfl) h1
  clear hA0 hval0
  refine (walk v0 finsL lA ln lc lz W hfins hl).mono fun e W' ⟨he, bel⟩ => ?_
  subst he
  exact ⟨_, rfl, _, _, _, [], _, [], hW', trodAll_mk1 (shut_bool Tryz.underlying4 _), trodAll_cons_mk (Below.trod Args.laidOut (by kernel_rfl) (of_decide_eq_true (by kernel_rfl)) h0 bel lt0) (trodAll_cons_mk (Below.trod Args.laidOut (by kernel_rfl) (of_decide_eq_true (by kernel_rfl)) h1 bel lt1) (trodAll_mk0)), rfl, bel.frame _, fun h => by cases h⟩

theorem over : Rows.modelOwnRow.holds Tryz.pinned (OpenSpec.ofChange Rows.modelOwnSpec) :=
  OpenClaim.holds_of_wide 8 Tryz.f8 rfl rfl rfl rfl rfl rfl rfl ⟨rfl, rfl, rfl, rfl, rfl⟩ rfl rfl rfl rfl rfl (by kernel_rfl) Tryz.func8 (by kernel_rfl)
    (of_decide_eq_true (by kernel_rfl)) (by unfold Func.isWrapper; rw [if_neg (of_decide_eq_false (by kernel_rfl))]; exact ⟨rfl, rfl⟩)
    (fun os started H enc _ => lifted os started H enc)

theorem proved : Rows.ModelOwnSaid :=
  over
end Go.Proofs.YtneggppfffekdaaGreat.modelOwn
