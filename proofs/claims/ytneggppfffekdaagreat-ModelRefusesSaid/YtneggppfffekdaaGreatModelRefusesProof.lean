/-
  penfoldlaw12.ModelRefuses returns true for all finalizers and every slice of calls, and changes nothing that was there; no condition.
-/
import Derived.Test.YtneggppfffekdaaGreatRows
import Derived.Test.YtneggppfffekdaaGreatBase
import Derived.Test.YtneggppfffekdaaGreatRefu
import Derived.Test.YtneggppfffekdaaGreatArgn
import Derived.Test.YtneggppfffekdaaGreatNump
import Derived.StillTailTactics
import Derived.Deep.RegionHeld3
import Derived.Deep.DeepCutAuto
namespace Go.Proofs.YtneggppfffekdaaGreat.modelRefuses
open Go.ChangeShapes Go.WideShapes Go.ChangeAt Go.RowKit
set_option linter.unusedVariables false

open Go.Proofs.YtneggppfffekdaaGreat.Mod Slic Sco

set_option maxRecDepth 100000 in
set_option maxHeartbeats 8000000 in
theorem walk (finsv : Value) (finsL : _) (lA : Option Addr) (ln lc : Nat) (lz : Nat → Nat → Int) (w : World) (hfins : Fina.Came w finsv finsL) (hl : Args.Recs (.i64 :: [.u8, .u8, .u8, .u8, .i64, .i64, .i64]) w lA ln lz) :
    Calls Tryz.prog 4 #[finsv, .slice lA ln lc] w fun e w' => e = .returned (.bool true) ∧ Below w.heap.size w w' := by
  obtain ⟨hfr, hok⟩ := hfins
  obtain ⟨fA, fc, rfl, _, _⟩ := hfr.form
  have hln := hl.len
  unfold maxLen at hln
  go_enter Tryz.func4, Tryz.ntmps4
  go_wp2_with fail
  refine (shown_any _).mono ?_
  rintro z w1 ⟨rfl, k1⟩
  go_wp2_with fail
  refine (some_any _).mono ?_
  rintro z w2 ⟨rfl, k2⟩
  have B2 := k1.trans (k2.mono k1.size)
  have b3 := B2.size
  have P3 := heap_alloc_new w2 (.cells #[.int .i64 4, .int .i64 2, .int .i64 128, .int .i64 512] 23)
  have B3 := B2.alloc B2.size (.cells #[.int .i64 4, .int .i64 2, .int .i64 128, .int .i64 512] 23)
  clear k1 k2
  go_wp2_with fail
  generalize hW3 : w2.alloc (.cells #[.int .i64 4, .int .i64 2, .int .i64 128, .int .i64 512] 23) = w3 at *
  clear hW3
  have l3 := (Array.getElem?_eq_some_iff.1 P3).1
  have hf3 := hfr.below B3
  have kc : ∀ W : World, Below w3.heap.size w3 W → W.cell? ⟨w2.heap.size, 0, none⟩ = some (.int .i64 4) ∧ W.cell? ⟨w2.heap.size, 1, none⟩ = some (.int .i64 2) ∧ W.cell? ⟨w2.heap.size, 2, none⟩ = some (.int .i64 128) ∧ W.cell? ⟨w2.heap.size, 3, none⟩ = some (.int .i64 512) := fun W k => by
    have := (k.block w2.heap.size l3).trans P3
    exact ⟨cell_of this 0 _ rfl, cell_of this 1 _ rfl, cell_of this 2 _ rfl, cell_of this 3 _ rfl⟩
  go_region_held3 (fun W => W.cell? ⟨w2.heap.size, 0, none⟩ = some (.int .i64 4) ∧ W.cell? ⟨w2.heap.size, 1, none⟩ = some (.int .i64 2) ∧ W.cell? ⟨w2.heap.size, 2, none⟩ = some (.int .i64 128) ∧ W.cell? ⟨w2.heap.size, 3, none⟩ = some (.int .i64 512))
    (first | exact kc _ (Below.refl _ _) | exact kc _ (Below.refl _ _).drew | exact kc _ kF | exact kc _ kM)
    (first
      | (go_at_call 15; refine (Fina.fit_any _ _ _ (hf3.below ?_) hok).mono ?_; exact (Below.refl _ _).drew; intro z w4 hz; obtain ⟨gA, gc, rfl, hr4, k4⟩ := fitted hz; have kF : Below w3.heap.size w3 w4 := (Below.refl w3.heap.size w3).drew.trans k4)
      | (go_at_call 16; refine (ms_new (w0 := w) (bx := []) (B3.trans (kF.mono B3.size)) (fun x hx => absurd hx List.not_mem_nil) List.nodup_nil 4 2 128 512 _ _ hr4 (fitL_ok hok).1 (by decide) (fitL_ok hok).2).mono ?_; rintro z w5 ⟨Z, rfl, M5, k5⟩; have kM : Below w3.heap.size w3 w5 := kF.trans (k5.mono kF.size)))
  obtain ⟨m0, hm0⟩ : ∃ m0, m0 = sh0 := ⟨_, rfl⟩
  have M5 : Ms w w5 Z (Fina.fitL finsL) 4 2 0 m0 [] := by rw [hm0]; exact M5
  obtain ⟨FF, hFF⟩ : ∃ FF, FF = Fina.fitL finsL := ⟨_, rfl⟩
  rw [← hFF] at M5
  clear hm0 kc hf3 k4 kF k5 hr4 hz kM
  go_wp2_with fail
  clear hFF
  clear P3 B3 b3 l3 B2
  go_loopw [9] (fun u wr => ∃ (k : Nat) (m : Mo), k ≤ ln ∧ k ≤ 60 ∧ u = .int .i64 (k : Int) ∧ Ms w wr Z FF 4 2 k m []) (fun u _ => 60 - (intOf u).toNat)
  case atStart => exact ⟨0, m0, by omega, by omega, rfl, M5⟩
  case round =>
    clear M5
    obtain ⟨k, m, hk1, hk2, rfl, SO⟩ := hrel
    by_cases hlt : k < ln ∧ k < 60
    · obtain ⟨hk3, hk4⟩ := hlt
      obtain ⟨b, o, rfl, hb, hcell⟩ := hl.at_ k hk3
      have e0 : wr.cell? ⟨b, o + k * 8, none⟩ = some (.int .i64 (lz k 0)) := (SO.below.cell (p := ⟨b, _, none⟩) hb).trans (hcell 0 (by decide))
      have ⟨v1, _⟩ := Held.bounds_u8 (hl.wf k 1)
      have ⟨v2, _⟩ := Held.bounds_u8 (hl.wf k 2)
      have ⟨v3, _⟩ := Held.bounds_u8 (hl.wf k 3)
      have ⟨v4, _⟩ := Held.bounds_u8 (hl.wf k 4)
      have ⟨v5, v5'⟩ := Held.bounds_i64 (hl.wf k 5)
      obtain ⟨T, hT⟩ : ∃ T : Nat, (T : Int) = lz k 0 % 2 := ⟨(lz k 0 % 2).toNat, by omega⟩
      have T1 : T ≤ 1 := by omega
      have m1 : bits .and .i64 (lz k 0) 1 = (T : Int) := by rw [hT]; simpa using Ctl.mask_i64 1 (by decide) (lz k 0)
      clear hT
      have S1 := SO.alloc (.cells #[] 50)
      go_wp2_with fail
      refine (ms_regs S1 0 (by omega)).mono ?_
      rintro e w1 ⟨g1, c1, rfl, O1, _, _, _, _, _, q1⟩
      clear e0 m1
      have p1 : Below wr.heap.size wr w1 := (below_one wr _).trans (q1.mono (by simp))
      go_wp2_with (refine Slic.wpList_app (K := Fina.kU) (o := ⟨some 63, _, _, _, _, _⟩) rfl (.tmp 60) (.tmp 62) rfl rfl rfl rfl ((Slic.Own.empty wr wr.heap.size (Nat.le_refl _)).below q1) O1.sr (by show 0 + 4 ≤ _; omega) p1.size ?_; intro v2 w2 O2 g2 G2; rw [List.nil_append] at O2; obtain ⟨A2, c2, hv2, _⟩ := O2.sr; subst hv2; obtain ⟨ex1, S2, H2⟩ := SO.keep O2 (G2.below _ _ (Nat.le_refl _) p1); have S3 := S2.alloc (.cells #[] 50))
      refine (ms_regs S3 1 (by omega)).mono ?_
      rintro e w3 ⟨g3, c3, rfl, O3, _, _, _, _, _, q3⟩
      clear O1 q1 p1 S1 O2 g2 G2 S3 SO
      have p3 : Below w2.heap.size w2 w3 := (below_one w2 _).trans (q3.mono (by simp))
      go_wp2_with (refine Slic.wpList_app (K := Fina.kU) (o := ⟨some 67, _, _, _, _, _⟩) rfl (.tmp 64) (.tmp 66) rfl rfl rfl rfl ((Slic.Own.empty w2 w2.heap.size (Nat.le_refl _)).below q3) O3.sr (by show 0 + 4 ≤ _; omega) p3.size ?_; intro v4 w4 O4 g4 G4; rw [List.nil_append] at O4; obtain ⟨A4, c4, hv4, _⟩ := O4.sr; subst hv4; obtain ⟨ex2, S4, H4⟩ := S2.keep O4 (G4.below _ _ (Nat.le_refl _) p3); have S5 := S4.new #[.slice A2 (regL (m.th 0)).length c2, .slice A4 (regL (m.th 1)).length c4] 78; have S6 := S5.alloc (.cells #[] 91))
      obtain ⟨W5, hW5⟩ : ∃ W5, W5 = w4.alloc (.cells #[.slice A2 (regL (m.th 0)).length c2, .slice A4 (regL (m.th 1)).length c4] 78) := ⟨_, rfl⟩
      have hz : W5.heap.size = w4.heap.size + 1 := by rw [hW5, World.size_alloc]
      rw [← hW5] at S5 S6 ⊢
      refine (ms_ents S6 0 (by omega)).mono ?_
      rintro e w7 ⟨A7, c7, rfl, O7, _, q7⟩
      have E7 := S6.iv.l6 (t := 0) (by rw [S6.et]; omega)
      have E8 := S6.iv.l6 (t := 1) (by rw [S6.et]; omega)
      clear O3 q3 p3 O4 g4 G4 S4 S6 S2 hW5
      have p7 : Below W5.heap.size W5 w7 := (below_one W5 _).trans (q7.mono (by simp))
      have OE := (Slic.Own.empty (K := kE) W5 W5.heap.size (Nat.le_refl _)).below q7
      have pz := p7.size
      rw [hz] at OE pz
      go_wp2_with (refine Slic.wpList_app (K := kE) (o := ⟨some 72, _, _, _, _, _⟩) rfl (.tmp 69) (.tmp 71) rfl rfl rfl rfl OE O7.sr (by show 0 + _ ≤ _; omega) pz ?_; intro v8 w8 O8 g8 G8; rw [List.nil_append, ← hz] at O8; rw [← hz] at G8; obtain ⟨A8, c8, hv8, _⟩ := O8.sr; subst hv8; obtain ⟨ex3, S8, H8⟩ := S5.keep O8 (G8.below _ _ (Nat.le_refl _) p7); have S9 := S8.alloc (.cells #[] 91))
      refine (ms_ents S9 1 (by omega)).mono ?_
      rintro e w9 ⟨A9, c9, rfl, O9, _, q9⟩
      clear O7 q7 p7 O8 g8 G8 S9 S5
      have p9 : Below w8.heap.size w8 w9 := (below_one w8 _).trans (q9.mono (by simp))
      go_wp2_with (refine Slic.wpList_app (K := kE) (o := ⟨some 76, _, _, _, _, _⟩) rfl (.tmp 73) (.tmp 75) rfl rfl rfl rfl ((Slic.Own.empty w8 w8.heap.size (Nat.le_refl _)).below q9) O9.sr (by show 0 + _ ≤ _; omega) p9.size ?_; intro v10 w10 O10 g10 G10; rw [List.nil_append] at O10; obtain ⟨A10, c10, hv10, _⟩ := O10.sr; subst hv10; obtain ⟨ex4, S10, H10⟩ := S8.keep O10 (G10.below _ _ (Nat.le_refl _) p9))
      obtain ⟨CC, hCC⟩ : ∃ W, W = ctM m := ⟨_, rfl⟩
      obtain ⟨GG, hGG⟩ : ∃ W, W = gaM m := ⟨_, rfl⟩
      obtain ⟨UU, hUU⟩ : ∃ W, W = usM m := ⟨_, rfl⟩
      replace hCC := Lib.hid hCC
      replace hGG := Lib.hid hGG
      replace hUU := Lib.hid hUU
      have S11 := S10.new #[.slice A8 (m.ents 0).length c8, .slice A10 (m.ents 1).length c10] 79
      have S12 := S11.new (ctA CC 0) 80
      have S13 := S12.new (gaA GG 0) 51
      have S14 := S13.new (usA UU 0) 81
      clear O9 q9 p9 O10 g10 G10 S10 S11 S12 S13 E7 E8 S8
      simp only [World.size_alloc] at S14
      have S14 : Ms w ((((w10.alloc (.cells #[.slice A8 (m.ents 0).length c8, .slice A10 (m.ents 1).length c10] 79)).alloc (.cells #[.int .i64 0, .int .i64 0, .int .i64 0, .int .i64 0, .int .i64 0, .int .i64 0, .int .i64 0, .int .i64 0, .int .i64 0, .int .i64 0, .int .i64 0, .int .i64 0, .int .i64 0, .int .i64 0, .int .i64 0, .int .i64 0] 80)).alloc (.cells #[.int .u64 0, .int .u64 0, .int .u64 0, .int .u64 0] 51)).alloc (.cells #[.int .i64 0, .int .i64 0, .int .i64 0, .int .i64 0] 81)) Z FF 4 2 k m ((w10.heap.size + 1 + 1 + 1, .cells (usA UU 0) 81 (0, 0)) :: (w10.heap.size + 1 + 1, .cells (gaA GG 0) 51 (0, 0)) :: (w10.heap.size + 1, .cells (ctA CC 0) 80 (0, 0)) :: (w10.heap.size, .cells #[.slice A8 (m.ents 0).length c8, .slice A10 (m.ents 1).length c10] 79 (0, 0)) :: (((w4.heap.size, .cells #[.slice A2 (regL (m.th 0)).length c2, .slice A4 (regL (m.th 1)).length c4] 78 (0, 0)) :: ([] ++ ex1 ++ ex2)) ++ ex3 ++ ex4)) := S14
      go_wp2_with fail
      generalize hVr : wr = Vr at *
      clear hVr
      generalize hV14 : ((((w10.alloc (.cells #[.slice A8 (m.ents 0).length c8, .slice A10 (m.ents 1).length c10] 79)).alloc (.cells #[.int .i64 0, .int .i64 0, .int .i64 0, .int .i64 0, .int .i64 0, .int .i64 0, .int .i64 0, .int .i64 0, .int .i64 0, .int .i64 0, .int .i64 0, .int .i64 0, .int .i64 0, .int .i64 0, .int .i64 0, .int .i64 0] 80)).alloc (.cells #[.int .u64 0, .int .u64 0, .int .u64 0, .int .u64 0] 51)).alloc (.cells #[.int .i64 0, .int .i64 0, .int .i64 0, .int .i64 0] 81)) = V14 at *
      clear hV14
      go_loopw [16] (fun u wz => ∃ s : Nat, s ≤ 4 ∧ u = .int .i64 (s : Int) ∧ Ms w wz Z FF 4 2 k m ((w10.heap.size + 1 + 1 + 1, .cells (usA UU s) 81 (0, 0)) :: (w10.heap.size + 1 + 1, .cells (gaA GG s) 51 (0, 0)) :: (w10.heap.size + 1, .cells (ctA CC s) 80 (0, 0)) :: (w10.heap.size, .cells #[.slice A8 (m.ents 0).length c8, .slice A10 (m.ents 1).length c10] 79 (0, 0)) :: (((w4.heap.size, .cells #[.slice A2 (regL (m.th 0)).length c2, .slice A4 (regL (m.th 1)).length c4] 78 (0, 0)) :: ([] ++ ex1 ++ ex2)) ++ ex3 ++ ex4))) (fun u _ => 4 - (intOf u).toNat)
      case atStart => exact ⟨0, by omega, rfl, S14⟩
      case round =>
        clear S14
        obtain ⟨s, hs, rfl, SW⟩ := hrel
        by_cases hs4 : s < 4
        · as_aux_lemma =>
            obtain ⟨st, sc, sp, se, hsee, hbd⟩ := SW.see hs4
            obtain ⟨g, hg⟩ : ∃ g, (m.ar (s : Int)).g = g := ⟨_, rfl⟩
            obtain ⟨uu, hu⟩ : ∃ u, (m.ar (s : Int)).u = u := ⟨_, rfl⟩
            obtain ⟨t1, t2, t3, t4⟩ := ctM_at m s
            rw [← hCC.out, hsee] at t1 t2 t3 t4
            dsimp only at t1 t2 t3 t4
            have t5 : GG s = g := by rw [hGG.out]; exact hg
            have t6 : UU s = uu := by rw [hUU.out]; exact hu
            have PE := Lib.hid (show ((((ctA CC s).setIfInBounds (s * 4) (.int .i64 st)).setIfInBounds (s * 4 + 1) (.int .i64 sc)).setIfInBounds (s * 4 + 2) (.int .i64 sp)).setIfInBounds (s * 4 + 3) (.int .i64 se) = ctA CC (s + 1) by rw [← t1, ← t2, ← t3, ← t4]; exact ct_put CC hs4)
            have PG := Lib.hid (show (gaA GG s).setIfInBounds s (.int .u64 g) = gaA GG (s + 1) by rw [← t5]; exact ga_put GG hs4)
            have PU := Lib.hid (show (usA UU s).setIfInBounds s (.int .i64 uu) = usA UU (s + 1) by rw [← t6]; exact us_put UU hs4)
            clear t1 t2 t3 t4 t5 t6 hbd
            have d0 : (s : Int) < 4 := by omega
            go_wp2_with fail
            refine (ms_ctl SW (s : Int) hsee).mono ?_
            rintro e wb ⟨rfl, SC, _⟩
            obtain ⟨⟨x0, q0⟩, f0⟩ := SC.spot 2 rfl (j := s * 4) (by show s * 4 < 16; omega)
            obtain ⟨⟨x1, q1⟩, f1⟩ := SC.spot 2 rfl (j := s * 4 + 1) (by show s * 4 + 1 < 16; omega)
            obtain ⟨⟨x2, q2⟩, f2⟩ := SC.spot 2 rfl (j := s * 4 + 2) (by show s * 4 + 2 < 16; omega)
            obtain ⟨⟨x3, q3⟩, f3⟩ := SC.spot 2 rfl (j := s * 4 + 3) (by show s * 4 + 3 < 16; omega)
            have S1 := (((SC.put 2 rfl (by decide) (s * 4) (.int .i64 st)).put 2 rfl (by decide) (s * 4 + 1) (.int .i64 sc)).put 2 rfl (by decide) (s * 4 + 2) (.int .i64 sp)).put 2 rfl (by decide) (s * 4 + 3) (.int .i64 se)
            clear SC SW hsee
            go_wp2_with fail
            obtain ⟨⟨x5, q5⟩, f5⟩ := S1.spot 1 rfl (j := s) (by show s < 4; omega)
            have S2 := S1.put 1 rfl (by decide) s (.int .u64 g)
            obtain ⟨⟨x6, q6⟩, f6⟩ := S2.spot 0 rfl (j := s) (by show s < 4; omega)
            have S3 := S2.put 0 rfl (by decide) s (.int .i64 uu)
            refine (ms_port S1 (i := (s : Int)) (by omega) (by omega) hg).mono ?_
            rintro e wq ⟨rfl, rfl⟩
            go_wp2_with fail
            refine (ms_used S2 (i := (s : Int)) (by omega) (by omega) hu).mono ?_
            rintro e wq ⟨rfl, rfl⟩
            go_wp2_with fail
            go_roundw
            case rel =>
              refine ⟨s + 1, by omega, by go_num, ?_⟩
              have S4 : Ms w _ Z FF 4 2 k m ((w10.heap.size + 1 + 1 + 1, .cells ((usA UU s).setIfInBounds s (.int .i64 uu)) 81 (0, 0)) :: (w10.heap.size + 1 + 1, .cells ((gaA GG s).setIfInBounds s (.int .u64 g)) 51 (0, 0)) :: (w10.heap.size + 1, .cells (((((ctA CC s).setIfInBounds (s * 4) (.int .i64 st)).setIfInBounds (s * 4 + 1) (.int .i64 sc)).setIfInBounds (s * 4 + 2) (.int .i64 sp)).setIfInBounds (s * 4 + 3) (.int .i64 se)) 80 (0, 0)) :: (w10.heap.size, .cells #[.slice A8 (m.ents 0).length c8, .slice A10 (m.ents 1).length c10] 79 (0, 0)) :: (((w4.heap.size, .cells #[.slice A2 (regL (m.th 0)).length c2, .slice A4 (regL (m.th 1)).length c4] 78 (0, 0)) :: ([] ++ ex1 ++ ex2)) ++ ex3 ++ ex4)) := S3
              rw [PE.out, PG.out, PU.out] at S4
              exact S4
            case measure => simp [intOf]; omega
        · obtain rfl : s = 4 := by omega
          obtain ⟨x5, y5, L5, m5, R5⟩ := exX FF m 2 (T : Int) ⟨lz k 1, lz k 2, lz k 3, lz k 4, lz k 5, lz k 6, lz k 7⟩ (show inN (T : Int) 2 = true from decide_eq_true (by omega))
          have HR := Lib.hid (fun hx => SW.ref R5 hx)
          replace R5 := Lib.hid R5
          have e1 : wr.cell? ⟨b, o + k * 8 + 1, none⟩ = some (.int .u8 (lz k 1)) := (SW.below.cell (p := ⟨b, _, none⟩) hb).trans (hcell 1 (by decide))
          have e2 : wr.cell? ⟨b, o + k * 8 + 2, none⟩ = some (.int .u8 (lz k 2)) := (SW.below.cell (p := ⟨b, _, none⟩) hb).trans (hcell 2 (by decide))
          have e3 : wr.cell? ⟨b, o + k * 8 + 3, none⟩ = some (.int .u8 (lz k 3)) := (SW.below.cell (p := ⟨b, _, none⟩) hb).trans (hcell 3 (by decide))
          have e4 : wr.cell? ⟨b, o + k * 8 + 4, none⟩ = some (.int .u8 (lz k 4)) := (SW.below.cell (p := ⟨b, _, none⟩) hb).trans (hcell 4 (by decide))
          have e5 : wr.cell? ⟨b, o + k * 8 + 5, none⟩ = some (.int .i64 (lz k 5)) := (SW.below.cell (p := ⟨b, _, none⟩) hb).trans (hcell 5 (by decide))
          have e6 : wr.cell? ⟨b, o + k * 8 + 6, none⟩ = some (.int .i64 (lz k 6)) := (SW.below.cell (p := ⟨b, _, none⟩) hb).trans (hcell 6 (by decide))
          have e7 : wr.cell? ⟨b, o + k * 8 + 7, none⟩ = some (.int .i64 (lz k 7)) := (SW.below.cell (p := ⟨b, _, none⟩) hb).trans (hcell 7 (by decide))
          go_wp2_with fail
          refine (ms_as SW (by omega) (c := ⟨lz k 1, lz k 2, lz k 3, lz k 4, lz k 5, lz k 6, lz k 7⟩) (cok (by omega) (by omega) (by omega) (by omega) (by omega) (by omega)) (T : Int) R5.out).mono ?_
          rintro e w9' ⟨A9', c9', rfl, _, h9⟩
          have SA := h9.new #[.int .i64 x5, .int .i64 y5, .slice A9' L5.length c9'] anT
          clear e1 e2 e3 e4 e5 e6 e7 hcell R5 SW v1 v2 v3 v4 v5 v5' h9
          obtain ⟨a0, a1, a2⟩ := SA.cells3 0 rfl
          by_cases hx0 : x5 = 0
          · subst hx0
            as_aux_lemma =>
              go_wp2
              go_roundw
              case rel => exact ⟨k + 1, m5, by omega, by omega, by go_num, SA.less (List.nil_sublist _)⟩
              case measure => simp [intOf]; omega
          · have d0 : (x5 == 0) = false := by simp [hx0]
            obtain ⟨HQ, hF, hA, hTT⟩ := HR.out hx0
            have HQ := Lib.hid HQ
            have HTh := Lib.hid (show ∀ t, m5.th t = m.th t from fun t => by unfold Mo.th; rw [hTT])
            have HCC := Lib.hid (show CC = ctM m5 by rw [hCC.out]; unfold ctM; rw [hF])
            have HGG := Lib.hid (show GG = gaM m5 by rw [hGG.out]; unfold gaM Mo.ar; rw [hA])
            have HUU := Lib.hid (show UU = usM m5 by rw [hUU.out]; unfold usM Mo.ar; rw [hA])
            clear hF hA hTT HR hCC hGG hUU hx0
            generalize hVs : wr = Vs at *
            clear hVs
            go_upto_region 25 with (fail)
            go_cut [132] (fun s wx => s = .bool false ∧ w9'.alloc (.cells #[.int .i64 x5, .int .i64 y5, .slice A9' L5.length c9'] anT) = wx)
            case first =>
              by_cases h25 : x5 = 25
              · have d1 : (x5 != 25) = false := by simp [h25]
                clear h25
                as_aux_lemma =>
                  go_wp2
                  go_meet
                  exact ⟨rfl, rfl⟩
              · obtain ⟨rfl, rfl⟩ := HQ.out h25
                have d1 : (x5 != 25) = true := by simp [h25]
                clear h25 HQ
                as_aux_lemma =>
                  go_wp2
                  go_meet
                  exact ⟨rfl, rfl⟩
            case rest =>
            obtain ⟨rfl, rfl⟩ := hcut
            clear HQ d0 a0 a1 a2
            generalize hWA : w9'.alloc (.cells #[.int .i64 x5, .int .i64 y5, .slice A9' L5.length c9'] anT) = WA at *
            clear hWA
            have SA : Ms w WA Z FF 4 2 (k + 1) m5 ((w9'.heap.size, .cells #[.int .i64 x5, .int .i64 y5, .slice A9' L5.length c9'] anT (0, 0)) :: ((w10.heap.size + 1 + 1 + 1, .cells (usA UU 4) 81 (0, 0)) :: (w10.heap.size + 1 + 1, .cells (gaA GG 4) 51 (0, 0)) :: (w10.heap.size + 1, .cells (ctA CC 4) 80 (0, 0)) :: (w10.heap.size, .cells #[.slice A8 (m.ents 0).length c8, .slice A10 (m.ents 1).length c10] 79 (0, 0)) :: (((w4.heap.size, .cells #[.slice A2 (regL (m.th 0)).length c2, .slice A4 (regL (m.th 1)).length c4] 78 (0, 0)) :: ([] ++ ex1 ++ ex2)) ++ ex3 ++ ex4))) := SA
            go_wp2_with fail
            go_loopw [19] (fun u wz => ∃ y : Nat, y ≤ 2 ∧ u = .int .i64 (y : Int) ∧ Ms w wz Z FF 4 2 (k + 1) m5 ((w9'.heap.size, .cells #[.int .i64 x5, .int .i64 y5, .slice A9' L5.length c9'] anT (0, 0)) :: ((w10.heap.size + 1 + 1 + 1, .cells (usA UU 4) 81 (0, 0)) :: (w10.heap.size + 1 + 1, .cells (gaA GG 4) 51 (0, 0)) :: (w10.heap.size + 1, .cells (ctA CC 4) 80 (0, 0)) :: (w10.heap.size, .cells #[.slice A8 (m.ents 0).length c8, .slice A10 (m.ents 1).length c10] 79 (0, 0)) :: (((w4.heap.size, .cells #[.slice A2 (regL (m.th 0)).length c2, .slice A4 (regL (m.th 1)).length c4] 78 (0, 0)) :: ([] ++ ex1 ++ ex2)) ++ ex3 ++ ex4)))) (fun u _ => 2 - (intOf u).toNat)
            case atStart => exact ⟨0, by omega, rfl, SA⟩
            case round =>
              clear SA
              obtain ⟨y, hy, rfl, SL⟩ := hrel
              by_cases hy2 : y < 2
              · rcases (show y = 0 ∨ y = 1 by omega) with rfl | rfl
                · as_aux_lemma =>
                    have K0 := (SL.cell 5 rfl).1 0 _ rfl
                    have K9 := (SL.cell 4 rfl).1 0 _ rfl
                    have SD := SL.drew
                    go_wp2_with fail
                    go_region_held3 (fun W' => W'.cell? ⟨w4.heap.size, 0, none⟩ = some (.slice A2 (regL (m.th 0)).length c2))
                      (first | exact K0 | exact K1 | exact K2)
                      (first
                        | (go_at_call 23; refine (ms_regs SD 0 (by omega)).mono ?_; rintro e wa ⟨ga, ca, rfl, Oa, _, _, _, _, Da, qa⟩; have K1 := (Da.cell 5 rfl).1 0 _ rfl)
                        | (go_at_call 22; refine (Fina.words_any _ _ _ _ _ (Da.hold H2 (fun x hx => by simp [hx])).sr Oa.sr).mono ?_; rintro e wb ⟨rfl, kb⟩; have Db := Da.call kb; have K2 := (Db.cell 5 rfl).1 0 _ rfl; rw [show Fina.sameB (regL (m.th 0)) (regL (m5.th 0)) = true by rw [HTh.out]; exact Fina.same_self _]))
                    have SE := Db.drew
                    have K3 := (Db.cell 4 rfl).1 0 _ rfl
                    go_wp2_with fail
                    go_region_held3 (fun W' => W'.cell? ⟨w10.heap.size, 0, none⟩ = some (.slice A8 (m.ents 0).length c8))
                      (first | exact K3 | exact K4 | exact K5)
                      (first
                        | (go_at_call 25; refine (ms_ents SE 0 (by omega)).mono ?_; rintro e wc ⟨Ac, cc, rfl, Oc, Dc, qc⟩; have K4 := (Dc.cell 4 rfl).1 0 _ rfl)
                        | (go_at_call 24; refine (Chain.same_any _ _ _ _ _ (ent_own.2 (Dc.hold H8 (fun x hx => by simp [hx]))).sr (ent_own.2 Oc).sr).mono ?_; rintro e wd ⟨rfl, kd⟩; have Dd := Dc.call kd; have K5 := (Dd.cell 4 rfl).1 0 _ rfl; rw [show Chain.sameB (m.ents 0) (m5.ents 0) = true by unfold Mo.ents; rw [HTh.out]; exact Chain.same_refl _]))
                    go_wp2
                    go_roundw
                    case rel => exact ⟨1, by omega, rfl, Dd⟩
                    case measure => simp [intOf]
                · as_aux_lemma =>
                    have K0 := (SL.cell 5 rfl).1 1 _ rfl
                    have K9 := (SL.cell 4 rfl).1 1 _ rfl
                    have SD := SL.drew
                    go_wp2_with fail
                    go_region_held3 (fun W' => W'.cell? ⟨w4.heap.size, 1, none⟩ = some (.slice A4 (regL (m.th 1)).length c4))
                      (first | exact K0 | exact K1 | exact K2)
                      (first
                        | (go_at_call 23; refine (ms_regs SD 1 (by omega)).mono ?_; rintro e wa ⟨ga, ca, rfl, Oa, _, _, _, _, Da, qa⟩; have K1 := (Da.cell 5 rfl).1 1 _ rfl)
                        | (go_at_call 22; refine (Fina.words_any _ _ _ _ _ (Da.hold H4 (fun x hx => by simp [hx])).sr Oa.sr).mono ?_; rintro e wb ⟨rfl, kb⟩; have Db := Da.call kb; have K2 := (Db.cell 5 rfl).1 1 _ rfl; rw [show Fina.sameB (regL (m.th 1)) (regL (m5.th 1)) = true by rw [HTh.out]; exact Fina.same_self _]))
                    have SE := Db.drew
                    have K3 := (Db.cell 4 rfl).1 1 _ rfl
                    go_wp2_with fail
                    go_region_held3 (fun W' => W'.cell? ⟨w10.heap.size, 1, none⟩ = some (.slice A10 (m.ents 1).length c10))
                      (first | exact K3 | exact K4 | exact K5)
                      (first
                        | (go_at_call 25; refine (ms_ents SE 1 (by omega)).mono ?_; rintro e wc ⟨Ac, cc, rfl, Oc, Dc, qc⟩; have K4 := (Dc.cell 4 rfl).1 1 _ rfl)
                        | (go_at_call 24; refine (Chain.same_any _ _ _ _ _ (ent_own.2 (Dc.hold H10 (fun x hx => by simp [hx]))).sr (ent_own.2 Oc).sr).mono ?_; rintro e wd ⟨rfl, kd⟩; have Dd := Dc.call kd; have K5 := (Dd.cell 4 rfl).1 1 _ rfl; rw [show Chain.sameB (m.ents 1) (m5.ents 1) = true by unfold Mo.ents; rw [HTh.out]; exact Chain.same_refl _]))
                    go_wp2
                    go_roundw
                    case rel => exact ⟨2, by omega, rfl, Dd⟩
                    case measure => simp [intOf]
              · as_aux_lemma =>
                  generalize hVt : wr = Vt at *
                  clear hVt
                  go_wp2_with fail
                  go_loopw [22] (fun u wz => ∃ s : Nat, s ≤ 4 ∧ u = .int .i64 (s : Int) ∧ Ms w wz Z FF 4 2 (k + 1) m5 ((w9'.heap.size, .cells #[.int .i64 x5, .int .i64 y5, .slice A9' L5.length c9'] anT (0, 0)) :: ((w10.heap.size + 1 + 1 + 1, .cells (usA UU 4) 81 (0, 0)) :: (w10.heap.size + 1 + 1, .cells (gaA GG 4) 51 (0, 0)) :: (w10.heap.size + 1, .cells (ctA CC 4) 80 (0, 0)) :: (w10.heap.size, .cells #[.slice A8 (m.ents 0).length c8, .slice A10 (m.ents 1).length c10] 79 (0, 0)) :: (((w4.heap.size, .cells #[.slice A2 (regL (m.th 0)).length c2, .slice A4 (regL (m.th 1)).length c4] 78 (0, 0)) :: ([] ++ ex1 ++ ex2)) ++ ex3 ++ ex4)))) (fun u _ => 4 - (intOf u).toNat)
                  case atStart => exact ⟨0, by omega, rfl, SL⟩
                  case round =>
                    clear SL
                    obtain ⟨s, hs, rfl, SL⟩ := hrel
                    by_cases hs4 : s < 4
                    · as_aux_lemma =>
                        obtain ⟨st, sc, sp, se, hsee, hbd⟩ := SL.see hs4
                        obtain ⟨g, hg⟩ : ∃ g, (m5.ar (s : Int)).g = g := ⟨_, rfl⟩
                        obtain ⟨uu, hu⟩ : ∃ u, (m5.ar (s : Int)).u = u := ⟨_, rfl⟩
                        obtain ⟨t1, t2, t3, t4⟩ := ctM_at m5 s
                        rw [← HCC.out, hsee] at t1 t2 t3 t4
                        dsimp only at t1 t2 t3 t4
                        have t5 : GG s = g := by rw [HGG.out]; exact hg
                        have t6 : UU s = uu := by rw [HUU.out]; exact hu
                        have P1 : (ctA CC 4)[s * 4]? = some (.int .i64 st) := by rw [ct_at CC (by omega), t1]
                        have P2 : (ctA CC 4)[s * 4 + 1]? = some (.int .i64 sc) := by rw [ct_at CC (by omega), t2]
                        have P3 : (ctA CC 4)[s * 4 + 2]? = some (.int .i64 sp) := by rw [ct_at CC (by omega), t3]
                        have P4 : (ctA CC 4)[s * 4 + 3]? = some (.int .i64 se) := by rw [ct_at CC (by omega), t4]
                        have P5 : (gaA GG 4)[s]? = some (.int .u64 g) := by rw [ga_at GG hs4, t5]
                        have P6 : (usA UU 4)[s]? = some (.int .i64 uu) := by rw [us_at UU hs4, t6]
                        clear t1 t2 t3 t4 t5 t6 hbd
                        go_wp2_with fail
                        refine (ms_ctl SL (s : Int) hsee).mono ?_
                        rintro e wb ⟨rfl, SC, _⟩
                        have SD := SC.new #[.int .i64 st, .int .i64 sc, .int .i64 sp, .int .i64 se] 64
                        have SE := SD.drew
                        obtain ⟨c0, c1, c2', c3⟩ := SD.cells4 0 rfl
                        have q1 := (SD.cell 4 rfl).1 _ _ P1
                        have q2 := (SD.cell 4 rfl).1 _ _ P2
                        have q3 := (SD.cell 4 rfl).1 _ _ P3
                        have q4 := (SD.cell 4 rfl).1 _ _ P4
                        have q5 := (SD.cell 3 rfl).1 _ _ P5
                        have q6 := (SD.cell 2 rfl).1 _ _ P6
                        have n1 : (st != st) = false := by simp
                        have n2 : (sc != sc) = false := by simp
                        have n3 : (sp != sp) = false := by simp
                        have n4 : (se != se) = false := by simp
                        have n5 : (g != g) = false := by simp
                        have n6 : (uu != uu) = false := by simp
                        have i0 : (0 : Int) ≤ (s : Int) := by omega
                        have i4 : (s : Int) < 4 := by omega
                        go_upto_region 38 with (fail)
                        go_cut [189] (fun s189 wx => s189 = .bool false ∧ Ms w wx Z FF 4 2 (k + 1) m5 ((wb.heap.size, .cells #[.int .i64 st, .int .i64 sc, .int .i64 sp, .int .i64 se] 64 (0, 0)) :: ((w9'.heap.size, .cells #[.int .i64 x5, .int .i64 y5, .slice A9' L5.length c9'] anT (0, 0)) :: ((w10.heap.size + 1 + 1 + 1, .cells (usA UU 4) 81 (0, 0)) :: (w10.heap.size + 1 + 1, .cells (gaA GG 4) 51 (0, 0)) :: (w10.heap.size + 1, .cells (ctA CC 4) 80 (0, 0)) :: (w10.heap.size, .cells #[.slice A8 (m.ents 0).length c8, .slice A10 (m.ents 1).length c10] 79 (0, 0)) :: (((w4.heap.size, .cells #[.slice A2 (regL (m.th 0)).length c2, .slice A4 (regL (m.th 1)).length c4] 78 (0, 0)) :: ([] ++ ex1 ++ ex2)) ++ ex3 ++ ex4)))))
                        case first =>
                          as_aux_lemma =>
                            go_region_held3 (fun W' => W'.cell? ⟨wb.heap.size, 0, none⟩ = some (.int .i64 st) ∧ W'.cell? ⟨wb.heap.size, 1, none⟩ = some (.int .i64 sc) ∧ W'.cell? ⟨wb.heap.size, 2, none⟩ = some (.int .i64 sp) ∧ W'.cell? ⟨wb.heap.size, 3, none⟩ = some (.int .i64 se) ∧ W'.cell? ⟨w10.heap.size + 1, s * 4, none⟩ = some (.int .i64 st) ∧ W'.cell? ⟨w10.heap.size + 1, s * 4 + 1, none⟩ = some (.int .i64 sc) ∧ W'.cell? ⟨w10.heap.size + 1, s * 4 + 2, none⟩ = some (.int .i64 sp) ∧ W'.cell? ⟨w10.heap.size + 1, s * 4 + 3, none⟩ = some (.int .i64 se) ∧ W'.cell? ⟨w10.heap.size + 1 + 1, s, none⟩ = some (.int .u64 g) ∧ W'.cell? ⟨w10.heap.size + 1 + 1 + 1, s, none⟩ = some (.int .i64 uu))
                              (exact ⟨c0, c1, c2', c3, q1, q2, q3, q4, q5, q6⟩)
                              (first
                                | (go_at_call 27; refine (ms_port SE (i := (s : Int)) (by omega) (by omega) hg).mono ?_; rintro e wq ⟨rfl, rfl⟩)
                                | (go_at_call 28; refine (ms_used SE (i := (s : Int)) (by omega) (by omega) hu).mono ?_; rintro e wq ⟨rfl, rfl⟩))
                            go_wp2_with fail
                            go_meet
                            exact ⟨rfl, SE⟩
                        case rest =>
                          obtain ⟨rfl, SF⟩ := hcut
                          clear c0 c1 c2' c3 q1 q2 q3 q4 q5 q6 n1 n2 n3 n4 n5 n6 SD SE
                          as_aux_lemma =>
                            go_wp2
                            go_roundw
                            case rel => exact ⟨s + 1, by omega, by go_num, SF.drop 1⟩
                            case measure => simp [intOf]; omega
                    · as_aux_lemma =>
                        obtain rfl : s = 4 := by omega
                        go_wp2
                        go_roundw
                        case rel => exact ⟨k + 1, m5, by omega, by omega, by go_num, SL.less (List.nil_sublist _)⟩
                        case measure => simp [intOf]; omega
    · by_cases hk3 : k < ln
      · obtain rfl : k = 60 := by omega
        have i1 : decide ((60 : Int) < (ln : Int)) = true := decide_eq_true (by omega)
        as_aux_lemma =>
          go_wp2
          go_ret
          exact ⟨rfl, SO.below⟩
      · have i1 : decide ((k : Int) < (ln : Int)) = false := decide_eq_false (by omega)
        as_aux_lemma =>
          go_wp2
          go_ret
          exact ⟨rfl, SO.below⟩

set_option maxRecDepth 100000 in
theorem lifted (os : Os) (started : os.Started) (H : Type) (enc : TypeId × Value → H) :
    ReturnsInHanded {} Tryz.checked os 4 .any (Rows.modelRefusesSpec.pre6 enc Tryz.prog Tryz.f4 Rows.modelRefusesRow.domain false) (Rows.modelRefusesSpec.post enc Tryz.prog Tryz.f4 false true false false) := by
  refine returnsInHanded_of_change (C := Tryz.checked) Args.own started (by kernel_rfl) Tryz.func4
    (ChangeSpec.witness6 (enc := enc) (C := Tryz.checked) false ⟨#[], #[.slice none 0 0, .slice none 0 0], []⟩ 8 (by kernel_rfl) (by kernel_rfl) (by kernel_rfl) (by kernel_rfl)) ?_
  intro W base args ds gs before hval0 hW hcnd _
  have hval : ∀ (j : Nat) t v, Tryz.f4.params[j]? = some t → args[j]? = some v → Value.okWide Tryz.prog W .any base t v := hval0
  have hW' := hW
  obtain ⟨p, q, hA0, hV, rfl, hfz, hnd⟩ := hW
  have hA : DataW.TrodAll enc Tryz.prog W 0 (fun _ => true) true Tryz.f4.params.toList args.toList ds p := hA0
  rw [Tryz.params4] at hA hval
  obtain ⟨v0, vs0, d0, ds0, p0, q0, hargs, rfl, rfl, h0, r0⟩ := trodAll_cons hA
  obtain ⟨v1, vs1, d1, ds1, p1, q1, rfl, rfl, rfl, h1, r1⟩ := trodAll_cons r0
  obtain ⟨rfl, rfl, rfl⟩ := trodAll_nil r1
  obtain rfl : args = #[v0, v1] := by cases args; simp_all
  obtain ⟨rfl, rfl⟩ := trodVars_none hV
  have lt0 := Args.trod_below h0
  obtain ⟨finsL, hfins⟩ := Fina.came_rows (hval 0 24 v0 rfl rfl) h0
  have lt1 := Args.trod_below h1
  obtain ⟨lA, ln, lc, lz, rfl, hl⟩ := Args.nest_in (k := .i64) (ks := [.u8, .u8, .u8, .u8, .i64, .i64, .i64]) (e := 39) (u := 37) (by kernel_rfl) Tryz.underlying39 (by kernel_rfl) (by kernel_rfl) (by kernel_rfl) (by kernel_rfl) (by kernel_rfl) Tryz.underlying37 (by kernel_rfl) (by kernel_rfl) (by kernel_rfl) (hval 1 25 v1 rfl rfl) h1
  clear hA0 hval0
  refine (walk v0 finsL lA ln lc lz W hfins hl).mono fun e W' ⟨he, bel⟩ => ?_
  subst he
  exact ⟨_, rfl, _, _, _, [], _, [], hW', trodAll_mk1 (shut_bool Tryz.underlying4 _), trodAll_cons_mk (Below.trod Args.laidOut (by kernel_rfl) (of_decide_eq_true (by kernel_rfl)) h0 bel lt0) (trodAll_cons_mk (Below.trod Args.laidOut (by kernel_rfl) (of_decide_eq_true (by kernel_rfl)) h1 bel lt1) (trodAll_mk0)), rfl, bel.frame _, fun h => by cases h⟩

theorem over : Rows.modelRefusesRow.holds Tryz.pinned (OpenSpec.ofChange Rows.modelRefusesSpec) :=
  OpenClaim.holds_of_wide 4 Tryz.f4 rfl rfl rfl rfl rfl rfl rfl ⟨rfl, rfl, rfl, rfl, rfl⟩ rfl rfl rfl rfl rfl (by kernel_rfl) Tryz.func4 (by kernel_rfl)
    (of_decide_eq_true (by kernel_rfl)) (by unfold Func.isWrapper; rw [if_neg (of_decide_eq_false (by kernel_rfl))]; exact ⟨rfl, rfl⟩)
    (fun os started H enc _ => lifted os started H enc)

theorem proved : Rows.ModelRefusesSaid :=
  over
end Go.Proofs.YtneggppfffekdaaGreat.modelRefuses
