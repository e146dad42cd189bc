/-
  penfoldlaw13.BeginStarts returns true for every plan, every four registers and every Case, and changes nothing that was there; no condition.
-/
import Derived.Test.YtkghpdmliffkdaaRows
import Derived.Test.YtkghpdmliffkdaaBase
import Derived.Test.YtkghpdmliffkdaaBegM
namespace Go.Proofs.Ytkghpdmliffkdaa.beginStarts
open Go.ChangeShapes Go.WideShapes Go.ChangeAt Go.RowKit
set_option linter.unusedVariables false

open Go.Proofs.Ytkghpdmliffkdaa.Beg Go.Proofs.Ytkghpdmliffkdaa.Mod Slic
attribute [local go_sem ↓] Go.wp_at_zero Go.wp_at_succ

set_option maxRecDepth 100000 in
set_option maxHeartbeats 8000000 in
theorem walk (q0 q1 q2 q3 : Int) (g0 g1 g2 g3 : Int) (cv : Value) (cL : _) (w : World) (wq0 : (Lit.int .i64 q0).wf = true) (wq1 : (Lit.int .i64 q1).wf = true) (wq2 : (Lit.int .i64 q2).wf = true) (wq3 : (Lit.int .i64 q3).wf = true) (wg0 : (Lit.int .u64 g0).wf = true) (wg1 : (Lit.int .u64 g1).wf = true) (wg2 : (Lit.int .u64 g2).wf = true) (wg3 : (Lit.int .u64 g3).wf = true) (hc : Beg.CameC w cv cL) :
    Calls Try.prog 6 #[.agg #[.int .i64 q0, .int .i64 q1, .int .i64 q2, .int .i64 q3], .agg #[.int .u64 g0, .int .u64 g1, .int .u64 g2, .int .u64 g3], cv] w fun e w' => e = .returned (.bool true) ∧ Below w.heap.size w w' := by
  obtain ⟨n, t', i, hp, ⟨b1, b2, b3, b4, b5, b6, b7, b8, b9, b10⟩, FT⟩ := Plan.fit_all q0 q1 q2 q3
  obtain ⟨⟨ch, L, ⟨op, r, h, y, a, b, d⟩, code, m⟩, hv, hL, ⟨h0, h1⟩, ⟨y0, y1⟩⟩ := show ∃ x, Beg.CameC w cv x from ⟨cL, hc⟩
  dsimp only at hv hL h0 h1 y0 y1
  subst hv
  have gb0 := Held.bounds_u64 wg0
  have gb1 := Held.bounds_u64 wg1
  have gb2 := Held.bounds_u64 wg2
  have gb3 := Held.bounds_u64 wg3
  clear wq0 wq1 wq2 wq3 wg0 wg1 wg2 wg3 hc
  obtain ⟨A1, c1, rfl, _⟩ := id hL
  obtain ⟨h, rfl⟩ : ∃ k : Nat, h = (k : Int) := ⟨h.toNat, by omega⟩
  obtain ⟨y, rfl⟩ : ∃ k : Nat, y = (k : Int) := ⟨y.toNat, by omega⟩
  obtain ⟨LL, FITL, LN⟩ : ∃ LL, (∀ w v, Chain.Sr w v L → Calls Try.prog 9 #[v] w (Chain.Row w LL)) ∧ Hid (LL.length ≤ 100000) := ⟨_, fun w v h => Chain.fit_any w v L h, Lib.hid (fit_len L)⟩
  have S0 := (((Held.St.start w).new [.int .i64 q0, .int .i64 q1, .int .i64 q2, .int .i64 q3] 23).new [.int .u64 g0, .int .u64 g1, .int .u64 g2, .int .u64 g3] 25).new [.slice A1 L.length c1, .int .u8 op, .int .u8 r, .int .u8 h, .int .u8 y, .int .i64 a, .int .i64 b, .int .i64 d, .int .i64 code, .int .i64 m] 31
  simp only [World.size_alloc] at S0
  have hL0 := hL.below S0.below
  obtain ⟨W, hW⟩ : ∃ W : World, W = ((w.alloc (.cells [.int .i64 q0, .int .i64 q1, .int .i64 q2, .int .i64 q3].toArray 23)).alloc (.cells [.int .u64 g0, .int .u64 g1, .int .u64 g2, .int .u64 g3].toArray 25)).alloc (.cells [.slice A1 L.length c1, .int .u8 op, .int .u8 r, .int .u8 h, .int .u8 y, .int .i64 a, .int .i64 b, .int .i64 d, .int .i64 code, .int .i64 m].toArray 31) := ⟨_, rfl⟩
  rw [← hW] at S0 hL0
  go_enter Try.func6, Try.ntmps6
  go_upto_region 1 with (fail)
  rw [show ((w.alloc (.cells #[.int .i64 q0, .int .i64 q1, .int .i64 q2, .int .i64 q3] 23)).alloc (.cells #[.int .u64 g0, .int .u64 g1, .int .u64 g2, .int .u64 g3] 25)).alloc (.cells #[.slice A1 L.length c1, .int .u8 op, .int .u8 r, .int .u8 h, .int .u8 y, .int .i64 a, .int .i64 b, .int .i64 d, .int .i64 code, .int .i64 m] 31) = W from hW.symm]
  clear hW
  go_wp2_with fail
  refine (Beg.shown13_any _).mono ?_
  rintro z w1 ⟨rfl, k1⟩
  have S1 := S0.call k1
  obtain ⟨_, c0, c1', c2, c3⟩ := S1.get4 2 rfl
  go_wp2_with fail
  refine (FT _).mono ?_
  rintro z w2 ⟨rfl, k2⟩
  have S2 := (S1.call k2).new [.int .i64 n, .int .i64 t', .int .i64 i, .int .i64 hp] 23
  have e0 := (S2.get 1 rfl).cell 0 _ rfl
  clear c0 c1' c2 c3 S1 S0
  go_wp2_with fail
  refine (FITL _ _ (hL.below S2.below)).mono ?_
  rintro z w3 ⟨lv, rfl, O3, k3⟩
  have S3 := S2.call k3
  obtain ⟨A3, c3, rfl, _⟩ := id O3
  obtain ⟨pB, hpB⟩ : ∃ pB : Nat, pB = w2.heap.size := ⟨_, rfl⟩
  rw [← hpB] at S3
  clear e0
  have e1 := (S3.get 1 rfl).cell 0 _ rfl
  clear S2
  go_wp2_with fail
  rw [← hpB]
  refine (FITL _ _ (hL.below S3.below)).mono ?_
  rintro z w4 ⟨lw, rfl, O4, k4⟩
  have S4 := S3.call k4
  obtain ⟨A4, c4, rfl, _⟩ := id O4
  have O3b := O3.below k4
  clear e1 S3 O3 hpB
  have GW := Lib.hid (show ∀ x ∈ [g0, g1, g2, g3], wf64 x from fun x hx => by
    simp only [List.mem_cons, List.not_mem_nil, or_false] at hx
    rcases hx with rfl | rfl | rfl | rfl
    · exact gb0
    · exact gb1
    · exact gb2
    · exact gb3)
  obtain ⟨ha, hha⟩ : ∃ z, regA [g0, g1, g2, g3] h = z := ⟨_, rfl⟩
  obtain ⟨va, hva⟩ : ∃ z, regA [g0, g1, g2, g3] y = z := ⟨_, rfl⟩
  obtain ⟨be, hbe⟩ : ∃ z, begV n LL ⟨op, r, h, y, a, b, d⟩ ha va = z := ⟨_, rfl⟩
  obtain ⟨ar, har⟩ : ∃ z, Chain.areaV LL = z := ⟨_, rfl⟩
  have OFE := Lib.hid (show ∀ ch, ofR ⟨op, r, h, y, a, b, d⟩ (begV n LL ⟨op, r, h, y, a, b, d⟩ (regA [g0, g1, g2, g3] h) (regA [g0, g1, g2, g3] y)) (Chain.areaV LL) (regA [g0, g1, g2, g3] h) (regA [g0, g1, g2, g3] y) ch = ofR ⟨op, r, h, y, a, b, d⟩ be ar ha va ch from fun ch => by rw [hha, hva, hbe, har])
  have PC := Lib.hid (show be.pc = 0 ∨ be.code = 0 from by
    rw [← hbe]
    unfold begV
    dsimp only
    by_cases e : firE (wayV n LL ⟨op, r, h, y, a, b, d⟩ ha va).cs = 0
    · exact .inr e
    · rw [if_neg e]
      exact .inl rfl)
  have HA := Lib.hid hha
  have VA := Lib.hid hva
  have AR := Lib.hid har
  clear hha hva hbe har
  obtain ⟨m1, hm1⟩ : ∃ M : List (Nat × List Value), M = (pB, [.int .i64 n, .int .i64 t', .int .i64 i, .int .i64 hp]) :: (w.heap.size + 1 + 1, [.slice A1 L.length c1, .int .u8 op, .int .u8 r, .int .u8 h, .int .u8 y, .int .i64 a, .int .i64 b, .int .i64 d, .int .i64 code, .int .i64 m]) :: (w.heap.size + 1, [.int .u64 g0, .int .u64 g1, .int .u64 g2, .int .u64 g3]) :: (w.heap.size, [.int .i64 q0, .int .i64 q1, .int .i64 q2, .int .i64 q3]) :: [] := ⟨_, rfl⟩
  go_upto_region 5 with (fail)
  go_cut [11] (fun s wx => RunB w w4 m1 (ofR ⟨op, r, h, y, a, b, d⟩ be ar ha va) LL s wx)
  case first =>
    as_aux_lemma =>
     subst hm1
     refine wp_region_held_drew (S := (fun W' => ((W'.cell? ⟨pB, 0, none⟩ = some (.int .i64 n) ∧ W'.cell? ⟨pB, 1, none⟩ = some (.int .i64 t') ∧ W'.cell? ⟨pB, 2, none⟩ = some (.int .i64 i) ∧ W'.cell? ⟨pB, 3, none⟩ = some (.int .i64 hp)) ∧ W'.cell? ⟨w.heap.size + 2, 1, none⟩ = some (.int .u8 op) ∧ W'.cell? ⟨w.heap.size + 2, 2, none⟩ = some (.int .u8 r) ∧ W'.cell? ⟨w.heap.size + 2, 3, none⟩ = some (.int .u8 h) ∧ W'.cell? ⟨w.heap.size + 2, 4, none⟩ = some (.int .u8 y) ∧ W'.cell? ⟨w.heap.size + 2, 5, none⟩ = some (.int .i64 a) ∧ W'.cell? ⟨w.heap.size + 2, 6, none⟩ = some (.int .i64 b) ∧ W'.cell? ⟨w.heap.size + 2, 7, none⟩ = some (.int .i64 d)))) (by kernel_rfl) ?_ (fun hHeld => ?_)
     · exact keep11 (S4.drew.get 0 rfl) (S4.drew.get 1 rfl)
     refine wpAnyH_take (i := 0) (oi := ⟨some 30, _, _, _, _, _⟩) (v := ?_) rfl (by kernel_rfl) (by kernel_rfl) (by kernel_rfl) (fun _ _ _ h => h) (Or.inl ⟨by kernel_rfl, ?_⟩) (by assumption) ?_
     rotate_left
     · intro w hSw
       try dsimp only at hSw
       first | (go_simp; done) | (go_simp; with_reducible rfl) | with_reducible rfl
     simp only [Act.put, List.setIfInBounds_toArray, List.set_cons_zero, List.set_cons_succ]
     refine wpAnyH_take (i := 1) (oi := ⟨some 31, _, _, _, _, _⟩) (v := ?_) rfl (by kernel_rfl) (by kernel_rfl) (by kernel_rfl) (fun _ _ _ h => h) (Or.inl ⟨by kernel_rfl, ?_⟩) (by assumption) ?_
     rotate_left
     · intro w hSw
       try dsimp only at hSw
       first | (go_simp; done) | (go_simp; with_reducible rfl) | with_reducible rfl
     simp only [Act.put, List.setIfInBounds_toArray, List.set_cons_zero, List.set_cons_succ]
     refine wpAnyH_take (i := 2) (oi := ⟨some 32, _, _, _, _, _⟩) (v := ?_) rfl (by kernel_rfl) (by kernel_rfl) (by kernel_rfl) (fun _ _ _ h => h) (Or.inl ⟨by kernel_rfl, ?_⟩) (by assumption) ?_
     rotate_left
     · intro w hSw
       try dsimp only at hSw
       first | (go_simp; done) | (go_simp; with_reducible rfl) | with_reducible rfl
     simp only [Act.put, List.setIfInBounds_toArray, List.set_cons_zero, List.set_cons_succ]
     refine wpAnyH_take (i := 3) (oi := ⟨some 33, _, _, _, _, _⟩) (v := ?_) rfl (by kernel_rfl) (by kernel_rfl) (by kernel_rfl) (fun _ _ _ h => h) (Or.inl ⟨by kernel_rfl, ?_⟩) (by assumption) ?_
     rotate_left
     · intro w hSw
       try dsimp only at hSw
       first | (go_simp; done) | (go_simp; with_reducible rfl) | with_reducible rfl
     simp only [Act.put, List.setIfInBounds_toArray, List.set_cons_zero, List.set_cons_succ]
     refine wpAnyH_take (i := 4) (oi := ⟨some 34, _, _, _, _, _⟩) (v := ?_) rfl (by kernel_rfl) (by kernel_rfl) (by kernel_rfl) (fun _ _ _ h => h) (Or.inl ⟨by kernel_rfl, ?_⟩) (by assumption) ?_
     rotate_left
     · intro w hSw
       try dsimp only at hSw
       first | (go_simp; done) | (go_simp; with_reducible rfl) | with_reducible rfl
     simp only [Act.put, List.setIfInBounds_toArray, List.set_cons_zero, List.set_cons_succ]
     refine wpAnyH_ready (rs := [5, 6]) (by kernel_rfl) (by simp) ?_
     refine AllReadyH.cons (o := ⟨some 35, _, _, _, _, _⟩) rfl (fun K hK => ?_) (AllReadyH.cons (o := ⟨some 11, _, _, _, _, _⟩) rfl (fun K hK => ?_) AllReadyH.nil)
     · skip
       have RZ := rows4 (S4.drew.get 2 rfl)
       have OZ := O3b.drew
       go_simp
       refine (of_any _ _ LL [g0, g1, g2, g3] n t' i hp op r h y a b d _ b1 b2 RZ rfl GW.out OZ LN.out h0 h1 y0 y1).mono ?_
       rintro e wq ⟨ch, rfl, O, OB, k⟩
       obtain ⟨Au, cu, rfl, _, _⟩ := O.form
       rw [OFE.out]
       refine hK.out _ _ ?_ (fun hHeld => ?_)
       · exact keep11 ((S4.drew.call k).get 0 rfl) ((S4.drew.call k).get 1 rfl)
       clear hK K
       refine wpAnyH_ready (rs := [6]) (by kernel_rfl) (by simp) ?_
       refine AllReadyH.cons (o := ⟨some 11, _, _, _, _, _⟩) rfl (fun K hK => ?_) AllReadyH.nil
       go_simp
       refine hK.out _ _ ?_ (fun hHeld => ?_)
       · exact keep11 (((S4.drew.call k).new zR 39).get 1 rfl) (((S4.drew.call k).new zR 39).get 2 rfl)
       clear hK K
       refine wpAnyH_ready (rs := [7]) (by kernel_rfl) (by simp) ?_
       refine AllReadyH.cons (o := ⟨none, _, _, _, _, _⟩) rfl (fun K hK => ?_) AllReadyH.nil
       have AA := ((S4.drew.call k).new zR 39)
       have AF := St.fill AA (ofR ⟨op, r, h, y, a, b, d⟩ be ar ha va (.slice Au LL.length cu)).cells rfl
       have TT : World.there _ _ 0 26 := there_of AA
       rw [if_pos (by rfl)]
       refine wp_store_mid _ _ _ rfl _ 0 (ofR ⟨op, r, h, y, a, b, d⟩ be ar ha va (.slice Au LL.length cu)).cells.toArray rfl rfl TT info_run (all_oneCell_toArray of_one) ?_
       simp only [Act.put]
       refine hK.out _ _ ?_ (fun hHeld => ?_)
       · exact keep11 (AF.get 1 rfl) (AF.get 2 rfl)
       clear hK K
       refine wpAnyH_done (by kernel_rfl) ?_ _
       go_wp2_with fail
       go_meet
       exact ⟨_, .slice Au LL.length cu, rfl, AF, late_sr O, late_below k⟩
     · skip
       go_simp
       refine hK.out _ _ ?_ (fun hHeld => ?_)
       · exact keep11 ((S4.drew.new zR 39).get 1 rfl) ((S4.drew.new zR 39).get 2 rfl)
       clear hK K
       refine wpAnyH_ready (rs := [5]) (by kernel_rfl) (by simp) ?_
       refine AllReadyH.cons (o := ⟨some 35, _, _, _, _, _⟩) rfl (fun K hK => ?_) AllReadyH.nil
       have RZ := rows4 ((S4.drew.new zR 39).get 3 rfl)
       have OZ := O3b.drew.alloc (.cells zR.toArray 39)
       go_simp
       refine (of_any _ _ LL [g0, g1, g2, g3] n t' i hp op r h y a b d _ b1 b2 RZ rfl GW.out OZ LN.out h0 h1 y0 y1).mono ?_
       rintro e wq ⟨ch, rfl, O, OB, k⟩
       obtain ⟨Au, cu, rfl, _, _⟩ := O.form
       rw [OFE.out]
       refine hK.out _ _ ?_ (fun hHeld => ?_)
       · exact keep11 (((S4.drew.new zR 39).call k).get 1 rfl) (((S4.drew.new zR 39).call k).get 2 rfl)
       clear hK K
       refine wpAnyH_ready (rs := [7]) (by kernel_rfl) (by simp) ?_
       refine AllReadyH.cons (o := ⟨none, _, _, _, _, _⟩) rfl (fun K hK => ?_) AllReadyH.nil
       have AA := (((S4.drew.new zR 39).call k))
       have AF := St.fill AA (ofR ⟨op, r, h, y, a, b, d⟩ be ar ha va (.slice Au LL.length cu)).cells rfl
       have TT : World.there _ _ 0 26 := there_of AA
       rw [if_pos (by rfl)]
       refine wp_store_mid _ _ _ rfl _ 0 (ofR ⟨op, r, h, y, a, b, d⟩ be ar ha va (.slice Au LL.length cu)).cells.toArray rfl rfl TT info_run (all_oneCell_toArray of_one) ?_
       simp only [Act.put]
       refine hK.out _ _ ?_ (fun hHeld => ?_)
       · exact keep11 (AF.get 1 rfl) (AF.get 2 rfl)
       clear hK K
       refine wpAnyH_done (by kernel_rfl) ?_ _
       go_wp2_with fail
       go_meet
       exact ⟨_, .slice Au LL.length cu, rfl, AF, early_sr O OB, early_below k⟩
  case rest =>
  obtain ⟨gA, cA, rfl, SA, OA, KA⟩ := hcut
  subst hm1
  have O3c := O3b.below KA
  have O4c := O4.below KA
  obtain ⟨aA, dA, rfl, _, _⟩ := OA.form
  have R0 := range_of SA
  have x8 := (SA.get 2 rfl).cell 8 _ rfl
  have x9 := (SA.get 2 rfl).cell 9 _ rfl
  as_aux_lemma =>
   go_upto_region 6 with (fail)
   go_wp2_with (refine wpList_load_mid rfl _ _ rfl gA 0 rfl (ofR ⟨op, r, h, y, a, b, d⟩ be ar ha va (.slice aA LL.length dA)).cells _ R0 Try.underlying39 rfl info_run ?_)
   refine (tellR_any (ofR ⟨op, r, h, y, a, b, d⟩ be ar ha va (.slice aA LL.length dA)) LL [] [] code m _ OA (Sr.nil _) (Sr.nil _) rfl LN.out (by decide) (by decide)).mono ?_
   rintro z w6 ⟨chT, liT, saT, asT, rfl, OT, I_T, Q_T, T_T, kT⟩
   rw [tell_ofR]
   obtain ⟨B1T, d1T, rfl, _, _⟩ := OT.form
   obtain ⟨B2T, d2T, rfl, _, _⟩ := I_T.form
   obtain ⟨B3T, d3T, rfl, _, _⟩ := Q_T.form
   obtain ⟨B4T, d4T, rfl, _, _⟩ := T_T.form
   rw [show ([] : List Int).length = 0 from rfl] at *
   obtain ⟨CST, hCST⟩ : ∃ CS : List Value, (ofT ⟨op, r, h, y, a, b, d⟩ be ar ha va code m (.slice B1T LL.length d1T) (.slice B2T 0 d2T) (.slice B3T 0 d3T) (.slice B4T 0 d4T)).cells = CS := ⟨_, rfl⟩
   have CE : runV (ofT ⟨op, r, h, y, a, b, d⟩ be ar ha va code m (.slice B1T LL.length d1T) (.slice B2T 0 d2T) (.slice B3T 0 d3T) (.slice B4T 0 d4T)) = .agg CST.toArray := by rw [← hCST]; rfl
   rw [CE]
   have L26 : CST.length = 26 := by rw [← hCST]; rfl
   have ONE : ∀ u ∈ CST, u.oneCell' = true := by rw [← hCST]; exact cells_one rfl rfl rfl rfl
   have SN := (SA.call kT).new zR 39
   have TT : World.there (w6.alloc (.cells zR.toArray 39)) w6.heap.size 0 CST.toArray.size := by rw [show CST.toArray.size = 26 from L26]; exact there_of SN
   have IR : (Try.prog.info? 39).map (·.size) = some CST.toArray.size := by rw [show CST.toArray.size = 26 from L26]; exact info_run
   have ST := St.fill SN CST L26
   have PT := late_sr (o := .cells zR.toArray 39) (us := CST) OT
   have HL := Lib.hid L26
   have HO := Lib.hid ONE
   have HCT := Lib.hid hCST
   clear CE hCST L26 ONE SN
   have OAb := OA.below (kT.trans ((below_fill (Nat.le_refl _) CST 0 (below_one w6 (.cells zR.toArray 39))).mono kT.size))
   have O4d := O4c.below (kT.trans ((below_fill (Nat.le_refl _) CST 0 (below_one w6 (.cells zR.toArray 39))).mono kT.size))
   have O3d := O3c.below (kT.trans ((below_fill (Nat.le_refl _) CST 0 (below_one w6 (.cells zR.toArray 39))).mono kT.size))
   have y11 := (ST.get 1 rfl).cell 11 (.slice aA LL.length dA) rfl
   have SC := Lib.hid (Chain.same_refl LL)
   clear x8 x9
   go_wp2_with (refine wpList_store_mid rfl _ _ _ rfl w6.heap.size 0 CST.toArray rfl rfl TT IR (all_oneCell_toArray HO.out) ?_)
   as_aux_lemma =>
    refine (Chain.same_any _ _ _ LL LL (ent_sr OAb) O4d).mono ?_
    rintro z w7 ⟨rfl, k7⟩
    rw [SC.out]
    have S7 := ST.call k7
    have O4e := O4d.below k7
    clear y11
    go_wp2_with fail
    refine (Chain.same_any _ _ _ LL LL (O3d.below k7) O4e).mono ?_
    rintro z w8 ⟨rfl, k8⟩
    rw [SC.out]
    have S8 := S7.call k8
    have z11 := (S8.get 0 rfl).cell 11 (.slice B1T LL.length d1T) (by rw [← HCT.out]; rfl)
    go_wp2_with fail
    as_aux_lemma =>
     refine (Chain.same_any _ _ _ LL LL (ent_sr ((PT.below k7).below k8)) (O4e.below k8)).mono ?_
     rintro z w9 ⟨rfl, k9⟩
     rw [SC.out]
     have S9 := S8.call k9
     have O4f := (O4e.below k8).below k9
     have BB := S9.below
     have X := S9.get 1 rfl
     have Y := S9.get 0 rfl
     have C := S9.get 3 rfl
     have G := S9.get 4 rfl
     have q0' := X.cell 0 (.int .u8 op) rfl
     have q1' := X.cell 1 (.int .u8 r) rfl
     have q2' := X.cell 2 (.int .u8 (h : Int)) rfl
     have q3' := X.cell 3 (.int .u8 (y : Int)) rfl
     have q4' := X.cell 4 (.int .i64 a) rfl
     have q5' := X.cell 5 (.int .i64 b) rfl
     have q6' := X.cell 6 (.int .i64 d) rfl
     have q7' := X.cell 7 (.int .i64 be.pc) rfl
     have q8' := X.cell 8 (.int .i64 ar) rfl
     have q9' := X.cell 9 (.int .u64 ha) rfl
     have q10' := X.cell 10 (.int .u64 va) rfl
     have q12' := X.cell 12 (.int .u64 0) rfl
     have q13' := X.cell 13 (.int .u64 0) rfl
     have q14' := X.cell 14 (.int .i64 0) rfl
     have q15' := X.cell 15 (.int .i64 0) rfl
     have q16' := X.cell 16 (.slice none 0 0) rfl
     have q17' := X.cell 17 (.int .i64 0) rfl
     have q18' := X.cell 18 (.slice none 0 0) rfl
     have q19' := X.cell 19 (.int .i64 0) rfl
     have q20' := X.cell 20 (.bool false) rfl
     have q21' := X.cell 21 (.bool false) rfl
     have q22' := X.cell 22 (.bool false) rfl
     have q23' := X.cell 23 (.int .i64 be.code) rfl
     have q24' := X.cell 24 (.int .i64 0) rfl
     have q25' := X.cell 25 (.slice none 0 0) rfl
     have c1'' := C.cell 1 (.int .u8 op) rfl
     have c2'' := C.cell 2 (.int .u8 r) rfl
     have c3'' := C.cell 3 (.int .u8 (h : Int)) rfl
     have c4'' := C.cell 4 (.int .u8 (y : Int)) rfl
     have c5'' := C.cell 5 (.int .i64 a) rfl
     have c6'' := C.cell 6 (.int .i64 b) rfl
     have c7'' := C.cell 7 (.int .i64 d) rfl
     have c8'' := C.cell 8 (.int .i64 code) rfl
     have c9'' := C.cell 9 (.int .i64 m) rfl
     clear z11 S7 S8
     as_aux_lemma =>
      go_upto_region 11 with (fail)
      clear q12' q13' q14' q15' q16' q17' q18' q19' q20' q21' q22'
      have i0 : (0 : Int) ≤ (h : Int) := by omega
      have j0 : (0 : Int) ≤ (y : Int) := by omega
      go_upto_if 111 with (fail)
      go_cut [17] (fun s wx => s = .int .u64 ha ∧ wx = w9)
      case first =>
        by_cases h4 : h < 4
        · have i4 : (h : Int) < 4 := by omega
          as_aux_lemma =>
           have z4 : decide ((h : Int) < 4) = true := decide_eq_true i4
           have cr := G.cell h (.int .u64 ha) (by rw [← HA.out]; exact reg_cell h4)
           go_wp2
           go_meet
           exact ⟨rfl, rfl⟩
        · have i4 : ¬ (h : Int) < 4 := by omega
          have z4 : decide ((h : Int) < 4) = false := decide_eq_false i4
          as_aux_lemma =>
           have E0 := Lib.hid (show (0 : Int) = ha from (reg_none h4).symm.trans HA.out)
           go_wp2
           go_meet
           exact ⟨by rw [← E0.out], rfl⟩
      case rest =>
      obtain ⟨hs, hw⟩ := hcut
      subst hs
      obtain rfl : w9 = wc := hw.symm
      clear hw
      as_aux_lemma =>
       go_upto_if 120 with (fail)
       go_cut [18] (fun s wx => s = .int .u64 va ∧ wx = w9)
       case first =>
         by_cases h4 : y < 4
         · have i4 : (y : Int) < 4 := by omega
           as_aux_lemma =>
            have z4 : decide ((y : Int) < 4) = true := decide_eq_true i4
            have cr := G.cell y (.int .u64 va) (by rw [← VA.out]; exact reg_cell h4)
            go_wp2
            go_meet
            exact ⟨rfl, rfl⟩
         · have i4 : ¬ (y : Int) < 4 := by omega
           have z4 : decide ((y : Int) < 4) = false := decide_eq_false i4
           as_aux_lemma =>
            have E0 := Lib.hid (show (0 : Int) = va from (reg_none h4).symm.trans VA.out)
            go_wp2
            go_meet
            exact ⟨by rw [← E0.out], rfl⟩
       case rest =>
       obtain ⟨hs, hw⟩ := hcut
       subst hs
       obtain rfl : w9 = wc := hw.symm
       clear hw
       as_aux_lemma =>
        go_upto_region 17 with (fail)
        have t0 := Y.cell 0 (.int .u8 op) (by rw [← HCT.out]; rfl)
        have t1 := Y.cell 1 (.int .u8 r) (by rw [← HCT.out]; rfl)
        have t2 := Y.cell 2 (.int .u8 (h : Int)) (by rw [← HCT.out]; rfl)
        have t3 := Y.cell 3 (.int .u8 (y : Int)) (by rw [← HCT.out]; rfl)
        have t4 := Y.cell 4 (.int .i64 a) (by rw [← HCT.out]; rfl)
        have t5 := Y.cell 5 (.int .i64 b) (by rw [← HCT.out]; rfl)
        have t6 := Y.cell 6 (.int .i64 d) (by rw [← HCT.out]; rfl)
        have t7 := Y.cell 7 (.int .i64 be.pc) (by rw [← HCT.out]; rfl)
        have t8 := Y.cell 8 (.int .i64 ar) (by rw [← HCT.out]; rfl)
        have t9 := Y.cell 9 (.int .u64 ha) (by rw [← HCT.out]; rfl)
        have t10 := Y.cell 10 (.int .u64 va) (by rw [← HCT.out]; rfl)
        have t21 := Y.cell 21 (.bool true) (by rw [← HCT.out]; rfl)
        have t22 := Y.cell 22 (.bool true) (by rw [← HCT.out]; rfl)
        have t23 := Y.cell 23 (.int .i64 code) (by rw [← HCT.out]; rfl)
        have t24 := Y.cell 24 (.int .i64 m) (by rw [← HCT.out]; rfl)
        have t25 := Y.cell 25 (.slice B4T 0 d4T) (by rw [← HCT.out]; rfl)
        have rq := run_call ⟨op, r, h, y, a, b, d⟩
        clear X Y C G ST HCT HO HL TT IR
        obtain ⟨P, hP⟩ : ∃ P, be.pc = P := ⟨_, rfl⟩
        obtain ⟨E, hE⟩ : ∃ P, be.code = P := ⟨_, rfl⟩
        have PQ := PC.out
        rw [hP, hE] at PQ
        rw [hP] at q7' t7
        rw [hE] at q23'
        clear hP hE PC
        have KQ := fun n => area_q (n := n) O4f AR.out
        by_cases p0 : P = 0
        · have z0 : (P == 0) = true := by simpa using p0
          clear PQ p0
          as_aux_lemma =>
            go_quiet ((go_at_call 20; exact Calls.quiet_of_same (KQ _)))
            as_aux_lemma =>
              go_wp2
              go_ret
              exact ⟨rfl, Held.below_drewN BB _⟩
        · have z0 : (P == 0) = false := by simpa using p0
          obtain rfl : 0 = E := (PQ.resolve_left p0).symm
          clear PQ p0
          as_aux_lemma =>
            go_quiet ((go_at_call 20; exact Calls.quiet_of_same (KQ _)))
            as_aux_lemma =>
              go_wp2
              go_ret
              exact ⟨rfl, Held.below_drewN BB _⟩

set_option maxRecDepth 100000 in
theorem lifted (os : Os) (started : os.Started) (H : Type) (enc : TypeId × Value → H) :
    ReturnsInHanded {} Try.checked os 6 .any (Rows.beginStartsSpec.pre6 enc Try.prog Try.f6 Rows.beginStartsRow.domain false) (Rows.beginStartsSpec.post enc Try.prog Try.f6 false true false false) := by
  refine returnsInHanded_of_change (C := Try.checked) Args.own started (by kernel_rfl) Try.func6
    (ChangeSpec.witness6 (enc := enc) (C := Try.checked) false ⟨#[], #[.agg #[.int .i64 0, .int .i64 0, .int .i64 0, .int .i64 0], .agg #[.int .u64 0, .int .u64 0, .int .u64 0, .int .u64 0], .agg #[.slice none 0 0, .int .u8 0, .int .u8 0, .int .u8 0, .int .u8 0, .int .i64 0, .int .i64 0, .int .i64 0, .int .i64 0, .int .i64 0]], []⟩ 8 (by kernel_rfl) (by kernel_rfl) (by kernel_rfl) (by kernel_rfl)) ?_
  intro W base args ds gs before hval0 hW hcnd _
  have hval : ∀ (j : Nat) t v, Try.f6.params[j]? = some t → args[j]? = some v → Value.okWide Try.prog W .any base t v := hval0
  have hW' := hW
  obtain ⟨p, q, hA0, hV, rfl, hfz, hnd⟩ := hW
  have hA : DataW.TrodAll enc Try.prog W 0 (fun _ => true) true Try.f6.params.toList args.toList ds p := hA0
  rw [Try.params6] at hA hval
  obtain ⟨v0, vs0, d0, ds0, p0, q0, hargs, rfl, rfl, h0, r0⟩ := trodAll_cons hA
  obtain ⟨v1, vs1, d1, ds1, p1, q1, rfl, rfl, rfl, h1, r1⟩ := trodAll_cons r0
  obtain ⟨v2, vs2, d2, ds2, p2, q2, rfl, rfl, rfl, h2, r2⟩ := trodAll_cons r1
  obtain ⟨rfl, rfl, rfl⟩ := trodAll_nil r2
  obtain rfl : args = #[v0, v1, v2] := by cases args; simp_all
  obtain ⟨rfl, rfl⟩ := trodVars_none hV
  have lt0 := Args.trod_below h0
  obtain ⟨qz, hv0, hq⟩ := Args.rec_in (ks := [.i64, .i64, .i64, .i64]) Try.underlying23 (by kernel_rfl) (by kernel_rfl) (hval 0 23 v0 rfl rfl) h0
  obtain rfl : v0 = .agg #[.int .i64 (qz 0), .int .i64 (qz 1), .int .i64 (qz 2), .int .i64 (qz 3)] := hv0
  have lt1 := Args.trod_below h1
  obtain ⟨gz, hv1, hg⟩ := Args.arr_in (m := 4) (k := .u64) (e := 24) (by kernel_rfl) (by kernel_rfl) (by kernel_rfl) (by kernel_rfl) (hval 1 25 v1 rfl rfl) h1
  obtain rfl : v1 = .agg #[.int .u64 (gz 0), .int .u64 (gz 1), .int .u64 (gz 2), .int .u64 (gz 3)] := hv1.trans (by kernel_rfl)
  have lt2 := Args.trod_below h2
  obtain ⟨cL, hc⟩ := Beg.came_case (hval 2 31 v2 rfl rfl) h2
  clear hA0 hval0
  refine (walk (qz 0) (qz 1) (qz 2) (qz 3) (gz 0) (gz 1) (gz 2) (gz 3) v2 cL W (hq 0) (hq 1) (hq 2) (hq 3) (hg 0) (hg 1) (hg 2) (hg 3) hc).mono fun e W' ⟨he, bel⟩ => ?_
  subst he
  exact ⟨_, rfl, _, _, _, [], _, [], hW', trodAll_mk1 (shut_bool Try.underlying4 _), trodAll_cons_mk (Below.trod Args.laidOut (by kernel_rfl) (of_decide_eq_true (by kernel_rfl)) h0 bel lt0) (trodAll_cons_mk (Below.trod Args.laidOut (by kernel_rfl) (of_decide_eq_true (by kernel_rfl)) h1 bel lt1) (trodAll_cons_mk (Below.trod Args.laidOut (by kernel_rfl) (of_decide_eq_true (by kernel_rfl)) h2 bel lt2) (trodAll_mk0))), rfl, bel.frame _, fun h => by cases h⟩

theorem over : Rows.beginStartsRow.holds Try.pinned (OpenSpec.ofChange Rows.beginStartsSpec) :=
  OpenClaim.holds_of_wide 6 Try.f6 rfl rfl rfl rfl rfl rfl rfl ⟨rfl, rfl, rfl, rfl, rfl⟩ rfl rfl rfl rfl rfl (by kernel_rfl) Try.func6 (by kernel_rfl)
    (of_decide_eq_true (by kernel_rfl)) (by unfold Func.isWrapper; rw [if_neg (of_decide_eq_false (by kernel_rfl))]; exact ⟨rfl, rfl⟩)
    (fun os started H enc _ => lifted os started H enc)

theorem proved : Rows.BeginStartsSaid :=
  over
end Go.Proofs.Ytkghpdmliffkdaa.beginStarts
