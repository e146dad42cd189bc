/-
  penfoldlaw13.BeginAll returns true for every plan, every four registers and every Case, and changes nothing that was there; no condition.
-/
import Derived.Test.YtkghpdmliffkdaaRows
import Derived.Test.YtkghpdmliffkdaaBase
import Derived.Test.YtkghpdmliffkdaaBegM
namespace Go.Proofs.Ytkghpdmliffkdaa.beginAll
open Go.ChangeShapes Go.WideShapes Go.ChangeAt Go.RowKit
set_option linter.unusedVariables false

open Go.Proofs.Ytkghpdmliffkdaa.Beg Go.Proofs.Ytkghpdmliffkdaa.Mod Slic
attribute [local go_sem ↓] Go.wp_at_zero Go.wp_at_succ

set_option maxRecDepth 100000 in
set_option maxHeartbeats 8000000 in
theorem walk (q0 q1 q2 q3 : Int) (g0 g1 g2 g3 : Int) (cv : Value) (cL : _) (w : World) (wq0 : (Lit.int .i64 q0).wf = true) (wq1 : (Lit.int .i64 q1).wf = true) (wq2 : (Lit.int .i64 q2).wf = true) (wq3 : (Lit.int .i64 q3).wf = true) (wg0 : (Lit.int .u64 g0).wf = true) (wg1 : (Lit.int .u64 g1).wf = true) (wg2 : (Lit.int .u64 g2).wf = true) (wg3 : (Lit.int .u64 g3).wf = true) (hc : Beg.CameC w cv cL) :
    Calls Try.prog 3 #[.agg #[.int .i64 q0, .int .i64 q1, .int .i64 q2, .int .i64 q3], .agg #[.int .u64 g0, .int .u64 g1, .int .u64 g2, .int .u64 g3], cv] w fun e w' => e = .returned (.bool true) ∧ Below w.heap.size w w' := by
  obtain ⟨n, t', i, hp, ⟨b1, b2, b3, b4, b5, b6, b7, b8, b9, b10⟩, FT⟩ := Plan.fit_all q0 q1 q2 q3
  obtain ⟨⟨ch, L, ⟨op, r, h, y, a, b, d⟩, code, m⟩, hv, hL, ⟨h0, h1⟩, ⟨y0, y1⟩⟩ := show ∃ x, Beg.CameC w cv x from ⟨cL, hc⟩
  dsimp only at hv hL h0 h1 y0 y1
  subst hv
  have gb0 := Held.bounds_u64 wg0
  have gb1 := Held.bounds_u64 wg1
  have gb2 := Held.bounds_u64 wg2
  have gb3 := Held.bounds_u64 wg3
  clear wq0 wq1 wq2 wq3 wg0 wg1 wg2 wg3 hc
  obtain ⟨A1, c1, rfl, _⟩ := id hL
  obtain ⟨LL, FITL, LN⟩ : ∃ LL, (∀ w v, Chain.Sr w v L → Calls Try.prog 9 #[v] w (Chain.Row w LL)) ∧ Hid (LL.length ≤ 100000) := ⟨_, fun w v h => Chain.fit_any w v L h, Lib.hid (fit_len L)⟩
  have S0 := (((Held.St.start w).new [.int .i64 q0, .int .i64 q1, .int .i64 q2, .int .i64 q3] 23).new [.int .u64 g0, .int .u64 g1, .int .u64 g2, .int .u64 g3] 25).new [.slice A1 L.length c1, .int .u8 op, .int .u8 r, .int .u8 h, .int .u8 y, .int .i64 a, .int .i64 b, .int .i64 d, .int .i64 code, .int .i64 m] 31
  simp only [World.size_alloc] at S0
  have hL0 := hL.below S0.below
  obtain ⟨W, hW⟩ : ∃ W : World, W = ((w.alloc (.cells [.int .i64 q0, .int .i64 q1, .int .i64 q2, .int .i64 q3].toArray 23)).alloc (.cells [.int .u64 g0, .int .u64 g1, .int .u64 g2, .int .u64 g3].toArray 25)).alloc (.cells [.slice A1 L.length c1, .int .u8 op, .int .u8 r, .int .u8 h, .int .u8 y, .int .i64 a, .int .i64 b, .int .i64 d, .int .i64 code, .int .i64 m].toArray 31) := ⟨_, rfl⟩
  rw [← hW] at S0 hL0
  go_enter Try.func3, Try.ntmps3
  go_upto_region 1 with (fail)
  rw [show ((w.alloc (.cells #[.int .i64 q0, .int .i64 q1, .int .i64 q2, .int .i64 q3] 23)).alloc (.cells #[.int .u64 g0, .int .u64 g1, .int .u64 g2, .int .u64 g3] 25)).alloc (.cells #[.slice A1 L.length c1, .int .u8 op, .int .u8 r, .int .u8 h, .int .u8 y, .int .i64 a, .int .i64 b, .int .i64 d, .int .i64 code, .int .i64 m] 31) = W from hW.symm]
  clear hW
  go_wp2_with fail
  refine (Beg.shown13_any _).mono ?_
  rintro z w1 ⟨rfl, k1⟩
  have S1 := S0.call k1
  obtain ⟨_, c0, c1', c2, c3⟩ := S1.get4 2 rfl
  go_wp2_with fail
  refine (FT _).mono ?_
  rintro z w2 ⟨rfl, k2⟩
  have S2 := (S1.call k2).new [.int .i64 n, .int .i64 t', .int .i64 i, .int .i64 hp] 23
  have e0 := (S2.get 1 rfl).cell 0 _ rfl
  clear c0 c1' c2 c3 S1 S0
  go_wp2_with fail
  refine (FITL _ _ (hL.below S2.below)).mono ?_
  rintro z w3 ⟨lv, rfl, O3, k3⟩
  have S3 := S2.call k3
  obtain ⟨A3, c3, rfl, _⟩ := id O3
  obtain ⟨pB, hpB⟩ : ∃ pB : Nat, pB = w2.heap.size := ⟨_, rfl⟩
  rw [← hpB] at S3
  clear e0
  clear S2
  obtain ⟨_, p0, p1, p2, p3⟩ := S3.get4 0 rfl
  have GW := Lib.hid (show ∀ x ∈ [g0, g1, g2, g3], wf64 x from fun x hx => by
    simp only [List.mem_cons, List.not_mem_nil, or_false] at hx
    rcases hx with rfl | rfl | rfl | rfl
    · exact gb0
    · exact gb1
    · exact gb2
    · exact gb3)
  obtain ⟨ha, hha⟩ : ∃ z, regA [g0, g1, g2, g3] h = z := ⟨_, rfl⟩
  obtain ⟨va, hva⟩ : ∃ z, regA [g0, g1, g2, g3] y = z := ⟨_, rfl⟩
  obtain ⟨be, hbe⟩ : ∃ z, begV n LL ⟨op, r, h, y, a, b, d⟩ ha va = z := ⟨_, rfl⟩
  obtain ⟨ar, har⟩ : ∃ z, Chain.areaV LL = z := ⟨_, rfl⟩
  have OFE := Lib.hid (show ∀ ch, ofR ⟨op, r, h, y, a, b, d⟩ (begV n LL ⟨op, r, h, y, a, b, d⟩ (regA [g0, g1, g2, g3] h) (regA [g0, g1, g2, g3] y)) (Chain.areaV LL) (regA [g0, g1, g2, g3] h) (regA [g0, g1, g2, g3] y) ch = ofR ⟨op, r, h, y, a, b, d⟩ be ar ha va ch from fun ch => by rw [hha, hva, hbe, har])
  clear hha hva hbe har p0 p1 p2 p3
  obtain ⟨m1, hm1⟩ : ∃ M : List (Nat × List Value), M = (pB, [.int .i64 n, .int .i64 t', .int .i64 i, .int .i64 hp]) :: (w.heap.size + 1 + 1, [.slice A1 L.length c1, .int .u8 op, .int .u8 r, .int .u8 h, .int .u8 y, .int .i64 a, .int .i64 b, .int .i64 d, .int .i64 code, .int .i64 m]) :: (w.heap.size + 1, [.int .u64 g0, .int .u64 g1, .int .u64 g2, .int .u64 g3]) :: (w.heap.size, [.int .i64 q0, .int .i64 q1, .int .i64 q2, .int .i64 q3]) :: [] := ⟨_, rfl⟩
  go_upto_region 4 with (fail)
  rw [← hpB]
  clear hpB
  go_cut [10] (fun s wx => RunB w w3 m1 (ofR ⟨op, r, h, y, a, b, d⟩ be ar ha va) LL s wx)
  case first =>
    subst hm1
    refine wp_region_held_drew (S := (fun W' => ((W'.cell? ⟨pB, 0, none⟩ = some (.int .i64 n) ∧ W'.cell? ⟨pB, 1, none⟩ = some (.int .i64 t') ∧ W'.cell? ⟨pB, 2, none⟩ = some (.int .i64 i) ∧ W'.cell? ⟨pB, 3, none⟩ = some (.int .i64 hp)) ∧ W'.cell? ⟨w.heap.size + 2, 1, none⟩ = some (.int .u8 op) ∧ W'.cell? ⟨w.heap.size + 2, 2, none⟩ = some (.int .u8 r) ∧ W'.cell? ⟨w.heap.size + 2, 3, none⟩ = some (.int .u8 h) ∧ W'.cell? ⟨w.heap.size + 2, 4, none⟩ = some (.int .u8 y) ∧ W'.cell? ⟨w.heap.size + 2, 5, none⟩ = some (.int .i64 a) ∧ W'.cell? ⟨w.heap.size + 2, 6, none⟩ = some (.int .i64 b) ∧ W'.cell? ⟨w.heap.size + 2, 7, none⟩ = some (.int .i64 d)))) (by kernel_rfl) ?_ (fun hHeld => ?_)
    · exact keep11 (S3.drew.get 0 rfl) (S3.drew.get 1 rfl)
    refine wpAnyH_take (i := 0) (oi := ⟨some 26, _, _, _, _, _⟩) (v := ?_) rfl (by kernel_rfl) (by kernel_rfl) (by kernel_rfl) (fun _ _ _ h => h) (Or.inl ⟨by kernel_rfl, ?_⟩) (by assumption) ?_
    rotate_left
    · intro w hSw
      try dsimp only at hSw
      first | (go_simp; done) | (go_simp; with_reducible rfl) | with_reducible rfl
    simp only [Act.put, List.setIfInBounds_toArray, List.set_cons_zero, List.set_cons_succ]
    refine wpAnyH_take (i := 1) (oi := ⟨some 27, _, _, _, _, _⟩) (v := ?_) rfl (by kernel_rfl) (by kernel_rfl) (by kernel_rfl) (fun _ _ _ h => h) (Or.inl ⟨by kernel_rfl, ?_⟩) (by assumption) ?_
    rotate_left
    · intro w hSw
      try dsimp only at hSw
      first | (go_simp; done) | (go_simp; with_reducible rfl) | with_reducible rfl
    simp only [Act.put, List.setIfInBounds_toArray, List.set_cons_zero, List.set_cons_succ]
    refine wpAnyH_take (i := 2) (oi := ⟨some 28, _, _, _, _, _⟩) (v := ?_) rfl (by kernel_rfl) (by kernel_rfl) (by kernel_rfl) (fun _ _ _ h => h) (Or.inl ⟨by kernel_rfl, ?_⟩) (by assumption) ?_
    rotate_left
    · intro w hSw
      try dsimp only at hSw
      first | (go_simp; done) | (go_simp; with_reducible rfl) | with_reducible rfl
    simp only [Act.put, List.setIfInBounds_toArray, List.set_cons_zero, List.set_cons_succ]
    refine wpAnyH_take (i := 3) (oi := ⟨some 29, _, _, _, _, _⟩) (v := ?_) rfl (by kernel_rfl) (by kernel_rfl) (by kernel_rfl) (fun _ _ _ h => h) (Or.inl ⟨by kernel_rfl, ?_⟩) (by assumption) ?_
    rotate_left
    · intro w hSw
      try dsimp only at hSw
      first | (go_simp; done) | (go_simp; with_reducible rfl) | with_reducible rfl
    simp only [Act.put, List.setIfInBounds_toArray, List.set_cons_zero, List.set_cons_succ]
    refine wpAnyH_take (i := 4) (oi := ⟨some 30, _, _, _, _, _⟩) (v := ?_) rfl (by kernel_rfl) (by kernel_rfl) (by kernel_rfl) (fun _ _ _ h => h) (Or.inl ⟨by kernel_rfl, ?_⟩) (by assumption) ?_
    rotate_left
    · intro w hSw
      try dsimp only at hSw
      first | (go_simp; done) | (go_simp; with_reducible rfl) | with_reducible rfl
    simp only [Act.put, List.setIfInBounds_toArray, List.set_cons_zero, List.set_cons_succ]
    refine wpAnyH_ready (rs := [5, 6]) (by kernel_rfl) (by simp) ?_
    refine AllReadyH.cons (o := ⟨some 31, _, _, _, _, _⟩) rfl (fun K hK => ?_) (AllReadyH.cons (o := ⟨some 10, _, _, _, _, _⟩) rfl (fun K hK => ?_) AllReadyH.nil)
    · skip
      have RZ := rows4 (S3.drew.get 2 rfl)
      have OZ := O3.drew
      go_simp
      refine (of_any _ _ LL [g0, g1, g2, g3] n t' i hp op r h y a b d _ b1 b2 RZ rfl GW.out OZ LN.out h0 h1 y0 y1).mono ?_
      rintro e wq ⟨ch, rfl, O, OB, k⟩
      obtain ⟨Au, cu, rfl, _, _⟩ := O.form
      rw [OFE.out]
      refine hK.out _ _ ?_ (fun hHeld => ?_)
      · exact keep11 ((S3.drew.call k).get 0 rfl) ((S3.drew.call k).get 1 rfl)
      clear hK K
      refine wpAnyH_ready (rs := [6]) (by kernel_rfl) (by simp) ?_
      refine AllReadyH.cons (o := ⟨some 10, _, _, _, _, _⟩) rfl (fun K hK => ?_) AllReadyH.nil
      go_simp
      refine hK.out _ _ ?_ (fun hHeld => ?_)
      · exact keep11 (((S3.drew.call k).new zR 39).get 1 rfl) (((S3.drew.call k).new zR 39).get 2 rfl)
      clear hK K
      refine wpAnyH_ready (rs := [7]) (by kernel_rfl) (by simp) ?_
      refine AllReadyH.cons (o := ⟨none, _, _, _, _, _⟩) rfl (fun K hK => ?_) AllReadyH.nil
      have AA := ((S3.drew.call k).new zR 39)
      have AF := St.fill AA (ofR ⟨op, r, h, y, a, b, d⟩ be ar ha va (.slice Au LL.length cu)).cells rfl
      have TT : World.there _ _ 0 26 := there_of AA
      rw [if_pos (by rfl)]
      refine wp_store_mid _ _ _ rfl _ 0 (ofR ⟨op, r, h, y, a, b, d⟩ be ar ha va (.slice Au LL.length cu)).cells.toArray rfl rfl TT info_run (all_oneCell_toArray of_one) ?_
      simp only [Act.put]
      refine hK.out _ _ ?_ (fun hHeld => ?_)
      · exact keep11 (AF.get 1 rfl) (AF.get 2 rfl)
      clear hK K
      refine wpAnyH_done (by kernel_rfl) ?_ _
      go_wp2_with fail
      go_meet
      exact ⟨_, .slice Au LL.length cu, rfl, AF, late_sr O, late_below k⟩
    · skip
      go_simp
      refine hK.out _ _ ?_ (fun hHeld => ?_)
      · exact keep11 ((S3.drew.new zR 39).get 1 rfl) ((S3.drew.new zR 39).get 2 rfl)
      clear hK K
      refine wpAnyH_ready (rs := [5]) (by kernel_rfl) (by simp) ?_
      refine AllReadyH.cons (o := ⟨some 31, _, _, _, _, _⟩) rfl (fun K hK => ?_) AllReadyH.nil
      have RZ := rows4 ((S3.drew.new zR 39).get 3 rfl)
      have OZ := O3.drew.alloc (.cells zR.toArray 39)
      go_simp
      refine (of_any _ _ LL [g0, g1, g2, g3] n t' i hp op r h y a b d _ b1 b2 RZ rfl GW.out OZ LN.out h0 h1 y0 y1).mono ?_
      rintro e wq ⟨ch, rfl, O, OB, k⟩
      obtain ⟨Au, cu, rfl, _, _⟩ := O.form
      rw [OFE.out]
      refine hK.out _ _ ?_ (fun hHeld => ?_)
      · exact keep11 (((S3.drew.new zR 39).call k).get 1 rfl) (((S3.drew.new zR 39).call k).get 2 rfl)
      clear hK K
      refine wpAnyH_ready (rs := [7]) (by kernel_rfl) (by simp) ?_
      refine AllReadyH.cons (o := ⟨none, _, _, _, _, _⟩) rfl (fun K hK => ?_) AllReadyH.nil
      have AA := (((S3.drew.new zR 39).call k))
      have AF := St.fill AA (ofR ⟨op, r, h, y, a, b, d⟩ be ar ha va (.slice Au LL.length cu)).cells rfl
      have TT : World.there _ _ 0 26 := there_of AA
      rw [if_pos (by rfl)]
      refine wp_store_mid _ _ _ rfl _ 0 (ofR ⟨op, r, h, y, a, b, d⟩ be ar ha va (.slice Au LL.length cu)).cells.toArray rfl rfl TT info_run (all_oneCell_toArray of_one) ?_
      simp only [Act.put]
      refine hK.out _ _ ?_ (fun hHeld => ?_)
      · exact keep11 (AF.get 1 rfl) (AF.get 2 rfl)
      clear hK K
      refine wpAnyH_done (by kernel_rfl) ?_ _
      go_wp2_with fail
      go_meet
      exact ⟨_, .slice Au LL.length cu, rfl, AF, early_sr O OB, early_below k⟩
  case rest =>
  obtain ⟨gA, cA, rfl, SA, OA, KA⟩ := hcut
  subst hm1
  have O3b := O3.below KA
  obtain ⟨m1, hm1⟩ : ∃ M : List (Nat × List Value), M = (gA, (ofR ⟨op, r, h, y, a, b, d⟩ be ar ha va cA).cells) :: (pB, [.int .i64 n, .int .i64 t', .int .i64 i, .int .i64 hp]) :: (w.heap.size + 1 + 1, [.slice A1 L.length c1, .int .u8 op, .int .u8 r, .int .u8 h, .int .u8 y, .int .i64 a, .int .i64 b, .int .i64 d, .int .i64 code, .int .i64 m]) :: (w.heap.size + 1, [.int .u64 g0, .int .u64 g1, .int .u64 g2, .int .u64 g3]) :: (w.heap.size, [.int .i64 q0, .int .i64 q1, .int .i64 q2, .int .i64 q3]) :: [] := ⟨_, rfl⟩
  go_upto_region 5 with (fail)
  go_cut [11] (fun s wy => RunB w wc m1 (ofR ⟨op, r, h, y, a, b, d⟩ be ar ha va) LL s wy)
  case first =>
    subst hm1
    refine wp_region_held_drew (S := (fun W' => ((W'.cell? ⟨pB, 0, none⟩ = some (.int .i64 n) ∧ W'.cell? ⟨pB, 1, none⟩ = some (.int .i64 t') ∧ W'.cell? ⟨pB, 2, none⟩ = some (.int .i64 i) ∧ W'.cell? ⟨pB, 3, none⟩ = some (.int .i64 hp)) ∧ W'.cell? ⟨w.heap.size + 2, 1, none⟩ = some (.int .u8 op) ∧ W'.cell? ⟨w.heap.size + 2, 2, none⟩ = some (.int .u8 r) ∧ W'.cell? ⟨w.heap.size + 2, 3, none⟩ = some (.int .u8 h) ∧ W'.cell? ⟨w.heap.size + 2, 4, none⟩ = some (.int .u8 y) ∧ W'.cell? ⟨w.heap.size + 2, 5, none⟩ = some (.int .i64 a) ∧ W'.cell? ⟨w.heap.size + 2, 6, none⟩ = some (.int .i64 b) ∧ W'.cell? ⟨w.heap.size + 2, 7, none⟩ = some (.int .i64 d)))) (by kernel_rfl) ?_ (fun hHeld => ?_)
    · exact keep11 (SA.drew.get 1 rfl) (SA.drew.get 2 rfl)
    refine wpAnyH_take (i := 0) (oi := ⟨some 32, _, _, _, _, _⟩) (v := ?_) rfl (by kernel_rfl) (by kernel_rfl) (by kernel_rfl) (fun _ _ _ h => h) (Or.inl ⟨by kernel_rfl, ?_⟩) (by assumption) ?_
    rotate_left
    · intro w hSw
      try dsimp only at hSw
      first | (go_simp; done) | (go_simp; with_reducible rfl) | with_reducible rfl
    simp only [Act.put, List.setIfInBounds_toArray, List.set_cons_zero, List.set_cons_succ]
    refine wpAnyH_take (i := 1) (oi := ⟨some 33, _, _, _, _, _⟩) (v := ?_) rfl (by kernel_rfl) (by kernel_rfl) (by kernel_rfl) (fun _ _ _ h => h) (Or.inl ⟨by kernel_rfl, ?_⟩) (by assumption) ?_
    rotate_left
    · intro w hSw
      try dsimp only at hSw
      first | (go_simp; done) | (go_simp; with_reducible rfl) | with_reducible rfl
    simp only [Act.put, List.setIfInBounds_toArray, List.set_cons_zero, List.set_cons_succ]
    refine wpAnyH_take (i := 2) (oi := ⟨some 34, _, _, _, _, _⟩) (v := ?_) rfl (by kernel_rfl) (by kernel_rfl) (by kernel_rfl) (fun _ _ _ h => h) (Or.inl ⟨by kernel_rfl, ?_⟩) (by assumption) ?_
    rotate_left
    · intro w hSw
      try dsimp only at hSw
      first | (go_simp; done) | (go_simp; with_reducible rfl) | with_reducible rfl
    simp only [Act.put, List.setIfInBounds_toArray, List.set_cons_zero, List.set_cons_succ]
    refine wpAnyH_take (i := 3) (oi := ⟨some 35, _, _, _, _, _⟩) (v := ?_) rfl (by kernel_rfl) (by kernel_rfl) (by kernel_rfl) (fun _ _ _ h => h) (Or.inl ⟨by kernel_rfl, ?_⟩) (by assumption) ?_
    rotate_left
    · intro w hSw
      try dsimp only at hSw
      first | (go_simp; done) | (go_simp; with_reducible rfl) | with_reducible rfl
    simp only [Act.put, List.setIfInBounds_toArray, List.set_cons_zero, List.set_cons_succ]
    refine wpAnyH_take (i := 4) (oi := ⟨some 36, _, _, _, _, _⟩) (v := ?_) rfl (by kernel_rfl) (by kernel_rfl) (by kernel_rfl) (fun _ _ _ h => h) (Or.inl ⟨by kernel_rfl, ?_⟩) (by assumption) ?_
    rotate_left
    · intro w hSw
      try dsimp only at hSw
      first | (go_simp; done) | (go_simp; with_reducible rfl) | with_reducible rfl
    simp only [Act.put, List.setIfInBounds_toArray, List.set_cons_zero, List.set_cons_succ]
    refine wpAnyH_ready (rs := [5, 6]) (by kernel_rfl) (by simp) ?_
    refine AllReadyH.cons (o := ⟨some 37, _, _, _, _, _⟩) rfl (fun K hK => ?_) (AllReadyH.cons (o := ⟨some 11, _, _, _, _, _⟩) rfl (fun K hK => ?_) AllReadyH.nil)
    · skip
      have RZ := rows4 (SA.drew.get 3 rfl)
      have OZ := O3b.drew
      go_simp
      refine (refof_any _ _ LL [g0, g1, g2, g3] n t' i hp op r h y a b d _ b1 b2 RZ rfl GW.out OZ LN.out h0 h1 y0 y1).mono ?_
      rintro e wq ⟨ch, rfl, O, OB, k⟩
      obtain ⟨Au, cu, rfl, _, _⟩ := O.form
      rw [OFE.out]
      refine hK.out _ _ ?_ (fun hHeld => ?_)
      · exact keep11 ((SA.drew.call k).get 1 rfl) ((SA.drew.call k).get 2 rfl)
      clear hK K
      refine wpAnyH_ready (rs := [6]) (by kernel_rfl) (by simp) ?_
      refine AllReadyH.cons (o := ⟨some 11, _, _, _, _, _⟩) rfl (fun K hK => ?_) AllReadyH.nil
      go_simp
      refine hK.out _ _ ?_ (fun hHeld => ?_)
      · exact keep11 (((SA.drew.call k).new zR 39).get 2 rfl) (((SA.drew.call k).new zR 39).get 3 rfl)
      clear hK K
      refine wpAnyH_ready (rs := [7]) (by kernel_rfl) (by simp) ?_
      refine AllReadyH.cons (o := ⟨none, _, _, _, _, _⟩) rfl (fun K hK => ?_) AllReadyH.nil
      have AA := ((SA.drew.call k).new zR 39)
      have AF := St.fill AA (ofR ⟨op, r, h, y, a, b, d⟩ be ar ha va (.slice Au LL.length cu)).cells rfl
      have TT : World.there _ _ 0 26 := there_of AA
      rw [if_pos (by rfl)]
      refine wp_store_mid _ _ _ rfl _ 0 (ofR ⟨op, r, h, y, a, b, d⟩ be ar ha va (.slice Au LL.length cu)).cells.toArray rfl rfl TT info_run (all_oneCell_toArray of_one) ?_
      simp only [Act.put]
      refine hK.out _ _ ?_ (fun hHeld => ?_)
      · exact keep11 (AF.get 2 rfl) (AF.get 3 rfl)
      clear hK K
      refine wpAnyH_done (by kernel_rfl) ?_ _
      go_wp2_with fail
      go_meet
      exact ⟨_, .slice Au LL.length cu, rfl, AF, late_sr O, late_below k⟩
    · skip
      go_simp
      refine hK.out _ _ ?_ (fun hHeld => ?_)
      · exact keep11 ((SA.drew.new zR 39).get 2 rfl) ((SA.drew.new zR 39).get 3 rfl)
      clear hK K
      refine wpAnyH_ready (rs := [5]) (by kernel_rfl) (by simp) ?_
      refine AllReadyH.cons (o := ⟨some 37, _, _, _, _, _⟩) rfl (fun K hK => ?_) AllReadyH.nil
      have RZ := rows4 ((SA.drew.new zR 39).get 4 rfl)
      have OZ := O3b.drew.alloc (.cells zR.toArray 39)
      go_simp
      refine (refof_any _ _ LL [g0, g1, g2, g3] n t' i hp op r h y a b d _ b1 b2 RZ rfl GW.out OZ LN.out h0 h1 y0 y1).mono ?_
      rintro e wq ⟨ch, rfl, O, OB, k⟩
      obtain ⟨Au, cu, rfl, _, _⟩ := O.form
      rw [OFE.out]
      refine hK.out _ _ ?_ (fun hHeld => ?_)
      · exact keep11 (((SA.drew.new zR 39).call k).get 2 rfl) (((SA.drew.new zR 39).call k).get 3 rfl)
      clear hK K
      refine wpAnyH_ready (rs := [7]) (by kernel_rfl) (by simp) ?_
      refine AllReadyH.cons (o := ⟨none, _, _, _, _, _⟩) rfl (fun K hK => ?_) AllReadyH.nil
      have AA := (((SA.drew.new zR 39).call k))
      have AF := St.fill AA (ofR ⟨op, r, h, y, a, b, d⟩ be ar ha va (.slice Au LL.length cu)).cells rfl
      have TT : World.there _ _ 0 26 := there_of AA
      rw [if_pos (by rfl)]
      refine wp_store_mid _ _ _ rfl _ 0 (ofR ⟨op, r, h, y, a, b, d⟩ be ar ha va (.slice Au LL.length cu)).cells.toArray rfl rfl TT info_run (all_oneCell_toArray of_one) ?_
      simp only [Act.put]
      refine hK.out _ _ ?_ (fun hHeld => ?_)
      · exact keep11 (AF.get 2 rfl) (AF.get 3 rfl)
      clear hK K
      refine wpAnyH_done (by kernel_rfl) ?_ _
      go_wp2_with fail
      go_meet
      exact ⟨_, .slice Au LL.length cu, rfl, AF, early_sr O OB, early_below k⟩
  case rest =>
  obtain ⟨gB, cB, rfl, SB, OB, KB⟩ := hcut
  subst hm1
  have OA2 := OA.below KB
  have O3c := O3b.below KB
  obtain ⟨aA, dA, rfl, _, _⟩ := OA2.form
  obtain ⟨aB, dB, rfl, _, _⟩ := OB.form
  have R0 := range_of SB
  have R1 := range_of (St.swap SB)
  go_upto_region 6 with (fail)
  go_wp2_with (first | (refine wpList_load_mid rfl _ _ rfl gA 0 rfl (ofR ⟨op, r, h, y, a, b, d⟩ be ar ha va (.slice aA LL.length dA)).cells _ R1 Try.underlying39 rfl info_run ?_) | (refine wpList_load_mid rfl _ _ rfl gB 0 rfl (ofR ⟨op, r, h, y, a, b, d⟩ be ar ha va (.slice aB LL.length dB)).cells _ R0 Try.underlying39 rfl info_run ?_))
  refine (sameR_any (ofR ⟨op, r, h, y, a, b, d⟩ be ar ha va (.slice aA LL.length dA)) (.slice aB LL.length dB) (.slice none 0 0) (.slice none 0 0) (.slice none 0 0) LL [] [] [] _ OA2 (Sr.nil _) (Sr.nil _) (Sr.nil _) OB (Sr.nil _) (Sr.nil _) (Sr.nil _)).mono ?_
  rintro z w6 ⟨rfl, k6⟩
  have S6 := SB.call k6
  obtain ⟨_, p0, p1, p2, p3⟩ := S6.get4 2 rfl
  obtain ⟨_, r0, _, _, _⟩ := S6.get4 4 rfl
  clear R0 R1
  obtain ⟨⟨rs, re, ra⟩, hcr⟩ : ∃ x, ckR n LL g0 = x := ⟨_, rfl⟩
  obtain ⟨cc, hcc⟩ : ∃ x, ckV n LL g0 = x := ⟨_, rfl⟩
  have CK := Lib.hid (show ckEnd (ckR n LL g0) (ckV n LL g0) = ckEnd ⟨rs, re, ra⟩ cc by rw [hcr, hcc])
  clear hcr hcc
  go_upto_region 7 with (fail)
  go_wp2_with fail
  refine (check_any _ LL n t' i hp g0 _ (O3c.below k6) gb0.1 gb0.2).mono ?_
  rintro z w7 ⟨rfl, k7⟩
  rw [CK.out]
  unfold ckEnd
  have S7 := (S6.call k7).new [.int .i64 rs, .int .i64 re, .int .i64 ra] 44
  have O3d := (((O3c.below k6).below k7).below (below_one w7 (.cells [.int .i64 rs, .int .i64 re, .int .i64 ra].toArray 44)))
  clear p0 p1 p2 p3 r0
  obtain ⟨_, p0, p1, p2, p3⟩ := S7.get4 3 rfl
  obtain ⟨_, r0, _, _, _⟩ := S7.get4 5 rfl
  go_wp2_with fail
  refine (refcheck3_any _ LL n t' i hp g0 _ O3d gb0.1 gb0.2).mono ?_
  rintro z w8 ⟨rfl, k8⟩
  rw [CK.out]
  unfold ckEnd
  have S8 := (S7.call k8).new [.int .i64 rs, .int .i64 re, .int .i64 ra] 44
  clear p0 p1 p2 p3 r0
  have R0 := range_get (S8.get 3 rfl)
  have x8 := (S8.get 5 rfl).cell 8 _ rfl
  have x9 := (S8.get 5 rfl).cell 9 _ rfl
  have KO := (((k6.trans (k7.mono k6.size)).trans ((below_one w7 (.cells [.int .i64 rs, .int .i64 re, .int .i64 ra].toArray 44)).mono (Nat.le_trans k6.size k7.size))).trans (k8.mono (by rw [World.size_alloc]; exact Nat.le_succ_of_le (Nat.le_trans k6.size k7.size)))).trans ((below_one w8 (.cells [.int .i64 rs, .int .i64 re, .int .i64 ra].toArray 44)).mono (Nat.le_trans (Nat.le_trans k6.size k7.size) (by have := k8.size; rw [World.size_alloc] at this; omega)))
  have OA3 := OA2.below KO
  have OB3 := OB.below KO
  go_upto_region 9 with (fail)
  go_wp2_with (refine wpList_load_mid rfl _ _ rfl gA 0 rfl (ofR ⟨op, r, h, y, a, b, d⟩ be ar ha va (.slice aA LL.length dA)).cells _ R0 Try.underlying39 rfl info_run ?_)
  refine (tellR_any (ofR ⟨op, r, h, y, a, b, d⟩ be ar ha va (.slice aA LL.length dA)) LL [] [] code m _ OA3 (Sr.nil _) (Sr.nil _) rfl LN.out (by decide) (by decide)).mono ?_
  rintro z w9 ⟨chT, liT, saT, asT, rfl, OT, I_T, Q_T, T_T, kT⟩
  rw [tell_ofR]
  obtain ⟨B1T, d1T, rfl, _, _⟩ := OT.form
  obtain ⟨B2T, d2T, rfl, _, _⟩ := I_T.form
  obtain ⟨B3T, d3T, rfl, _, _⟩ := Q_T.form
  obtain ⟨B4T, d4T, rfl, _, _⟩ := T_T.form
  rw [show ([] : List Int).length = 0 from rfl] at *
  obtain ⟨CST, hCST⟩ : ∃ CS : List Value, (ofT ⟨op, r, h, y, a, b, d⟩ be ar ha va code m (.slice B1T LL.length d1T) (.slice B2T 0 d2T) (.slice B3T 0 d3T) (.slice B4T 0 d4T)).cells = CS := ⟨_, rfl⟩
  have CE : runV (ofT ⟨op, r, h, y, a, b, d⟩ be ar ha va code m (.slice B1T LL.length d1T) (.slice B2T 0 d2T) (.slice B3T 0 d3T) (.slice B4T 0 d4T)) = .agg CST.toArray := by rw [← hCST]; rfl
  rw [CE]
  have L26 : CST.length = 26 := by rw [← hCST]; rfl
  have ONE : ∀ u ∈ CST, u.oneCell' = true := by rw [← hCST]; exact cells_one rfl rfl rfl rfl
  have SN := (S8.call kT).new zR 39
  have TT : World.there (w9.alloc (.cells zR.toArray 39)) w9.heap.size 0 CST.toArray.size := by rw [show CST.toArray.size = 26 from L26]; exact there_of SN
  have IR : (Try.prog.info? 39).map (·.size) = some CST.toArray.size := by rw [show CST.toArray.size = 26 from L26]; exact info_run
  have ST := St.fill SN CST L26
  have PT := late_sr (o := .cells zR.toArray 39) (us := CST) OT
  have HL := Lib.hid L26
  have HO := Lib.hid ONE
  have HCT := Lib.hid hCST
  clear CE hCST L26 ONE SN
  have KT1 := below_fill (Nat.le_refl _) CST 0 (below_one w9 (.cells zR.toArray 39))
  have KT := kT.trans ((below_fill (Nat.le_refl _) CST 0 (below_one w9 (.cells zR.toArray 39))).mono kT.size)
  have OB4 := OB3.below KT
  have R0 := range_get (ST.get 3 rfl)
  clear x8 x9
  have x8 := (ST.get 6 rfl).cell 8 _ rfl
  have x9 := (ST.get 6 rfl).cell 9 _ rfl
  go_wp2_with (first | (refine wpList_store_mid rfl _ _ _ rfl w9.heap.size 0 CST.toArray rfl rfl TT IR (all_oneCell_toArray HO.out) ?_) | (refine wpList_load_mid rfl _ _ rfl gB 0 rfl (ofR ⟨op, r, h, y, a, b, d⟩ be ar ha va (.slice aB LL.length dB)).cells _ R0 Try.underlying39 rfl info_run ?_))
  refine (reftellR_any (ofR ⟨op, r, h, y, a, b, d⟩ be ar ha va (.slice aB LL.length dB)) LL [] [] code m _ OB4 (Sr.nil _) (Sr.nil _) rfl).mono ?_
  rintro z w10 ⟨chU, liU, saU, asU, rfl, OU, I_U, Q_U, T_U, kU⟩
  rw [tell_ofR]
  obtain ⟨B1U, d1U, rfl, _, _⟩ := OU.form
  obtain ⟨B2U, d2U, rfl, _, _⟩ := I_U.form
  obtain ⟨B3U, d3U, rfl, _, _⟩ := Q_U.form
  obtain ⟨B4U, d4U, rfl, _, _⟩ := T_U.form
  rw [show ([] : List Int).length = 0 from rfl] at *
  obtain ⟨CSU, hCSU⟩ : ∃ CS : List Value, (ofT ⟨op, r, h, y, a, b, d⟩ be ar ha va code m (.slice B1U LL.length d1U) (.slice B2U 0 d2U) (.slice B3U 0 d3U) (.slice B4U 0 d4U)).cells = CS := ⟨_, rfl⟩
  have CE : runV (ofT ⟨op, r, h, y, a, b, d⟩ be ar ha va code m (.slice B1U LL.length d1U) (.slice B2U 0 d2U) (.slice B3U 0 d3U) (.slice B4U 0 d4U)) = .agg CSU.toArray := by rw [← hCSU]; rfl
  rw [CE]
  have L26 : CSU.length = 26 := by rw [← hCSU]; rfl
  have ONE : ∀ u ∈ CSU, u.oneCell' = true := by rw [← hCSU]; exact cells_one rfl rfl rfl rfl
  have SN := (ST.call kU).new zR 39
  have TT : World.there (w10.alloc (.cells zR.toArray 39)) w10.heap.size 0 CSU.toArray.size := by rw [show CSU.toArray.size = 26 from L26]; exact there_of SN
  have IR : (Try.prog.info? 39).map (·.size) = some CSU.toArray.size := by rw [show CSU.toArray.size = 26 from L26]; exact info_run
  have SU := St.fill SN CSU L26
  have PU := late_sr (o := .cells zR.toArray 39) (us := CSU) OU
  have HL := Lib.hid L26
  have HO := Lib.hid ONE
  have HCU := Lib.hid hCSU
  clear CE hCSU L26 ONE SN
  have KU1 := below_fill (Nat.le_refl _) CSU 0 (below_one w10 (.cells zR.toArray 39))
  have KU := kU.trans ((below_fill (Nat.le_refl _) CSU 0 (below_one w10 (.cells zR.toArray 39))).mono kU.size)
  clear x8 x9
  have TE := Lib.hid (show Value.agg CST.toArray = runV (ofT ⟨op, r, h, y, a, b, d⟩ be ar ha va code m (.slice B1T LL.length d1T) (.slice B2T 0 d2T) (.slice B3T 0 d3T) (.slice B4T 0 d4T)) by rw [← HCT.out]; rfl)
  have UE := Lib.hid (show Value.agg CSU.toArray = runV (ofT ⟨op, r, h, y, a, b, d⟩ be ar ha va code m (.slice B1U LL.length d1U) (.slice B2U 0 d2U) (.slice B3U 0 d3U) (.slice B4U 0 d4U)) by rw [← HCU.out]; rfl)
  have QT2 := (Q_T.below KT1).below KU
  have TT2 := (T_T.below KT1).below KU
  have IU2 := I_U.below KU1
  have QU2 := Q_U.below KU1
  have TU2 := T_U.below KU1
  have R0 := range_of SU
  have R1 := range_get (SU.get 1 rfl)
  have LT := show CST.length = 26 by rw [← HCT.out]; rfl
  have LU := show CSU.length = 26 by rw [← HCU.out]; rfl
  have IT : (Try.prog.info? 39).map (·.size) = some CST.length := by rw [LT]; exact info_run
  have IU : (Try.prog.info? 39).map (·.size) = some CSU.length := by rw [LU]; exact info_run
  have PT2 := PT.below KU
  have IT2 := (I_T.below KT1).below KU
  clear LT LU
  go_wp2_with (first | (refine wpList_store_mid rfl _ _ _ rfl w10.heap.size 0 CSU.toArray rfl rfl TT IR (all_oneCell_toArray HO.out) ?_) | (refine wpList_load_mid rfl _ _ rfl w9.heap.size 0 rfl CST _ R1 Try.underlying39 rfl IT ?_) | (refine wpList_load_mid rfl _ _ rfl w10.heap.size 0 rfl CSU _ R0 Try.underlying39 rfl IU ?_))
  rw [TE.out, UE.out]
  refine (sameR_any (ofT ⟨op, r, h, y, a, b, d⟩ be ar ha va code m (.slice B1T LL.length d1T) (.slice B2T 0 d2T) (.slice B3T 0 d3T) (.slice B4T 0 d4T)) (.slice B1U LL.length d1U) (.slice B2U 0 d2U) (.slice B3U 0 d3U) (.slice B4U 0 d4U) LL [] [] [] _ PT2 IT2 QT2 TT2 PU IU2 QU2 TU2).mono ?_
  rintro z w11 ⟨rfl, k11⟩
  have S11 := SU.call k11
  obtain ⟨_, x0, x1, x2⟩ := S11.get3 2 rfl
  obtain ⟨_, y0, y1, y2⟩ := S11.get3 3 rfl
  have RQ := run_ref rs re ra
  have BB := S11.below
  clear R0 R1 IT IU SU S11
  go_wp2
  go_ret
  exact ⟨rfl, BB⟩

set_option maxRecDepth 100000 in
theorem lifted (os : Os) (started : os.Started) (H : Type) (enc : TypeId × Value → H) :
    ReturnsInHanded {} Try.checked os 3 .any (Rows.beginAllSpec.pre6 enc Try.prog Try.f3 Rows.beginAllRow.domain false) (Rows.beginAllSpec.post enc Try.prog Try.f3 false true false false) := by
  refine returnsInHanded_of_change (C := Try.checked) Args.own started (by kernel_rfl) Try.func3
    (ChangeSpec.witness6 (enc := enc) (C := Try.checked) false ⟨#[], #[.agg #[.int .i64 0, .int .i64 0, .int .i64 0, .int .i64 0], .agg #[.int .u64 0, .int .u64 0, .int .u64 0, .int .u64 0], .agg #[.slice none 0 0, .int .u8 0, .int .u8 0, .int .u8 0, .int .u8 0, .int .i64 0, .int .i64 0, .int .i64 0, .int .i64 0, .int .i64 0]], []⟩ 8 (by kernel_rfl) (by kernel_rfl) (by kernel_rfl) (by kernel_rfl)) ?_
  intro W base args ds gs before hval0 hW hcnd _
  have hval : ∀ (j : Nat) t v, Try.f3.params[j]? = some t → args[j]? = some v → Value.okWide Try.prog W .any base t v := hval0
  have hW' := hW
  obtain ⟨p, q, hA0, hV, rfl, hfz, hnd⟩ := hW
  have hA : DataW.TrodAll enc Try.prog W 0 (fun _ => true) true Try.f3.params.toList args.toList ds p := hA0
  rw [Try.params3] at hA hval
  obtain ⟨v0, vs0, d0, ds0, p0, q0, hargs, rfl, rfl, h0, r0⟩ := trodAll_cons hA
  obtain ⟨v1, vs1, d1, ds1, p1, q1, rfl, rfl, rfl, h1, r1⟩ := trodAll_cons r0
  obtain ⟨v2, vs2, d2, ds2, p2, q2, rfl, rfl, rfl, h2, r2⟩ := trodAll_cons r1
  obtain ⟨rfl, rfl, rfl⟩ := trodAll_nil r2
  obtain rfl : args = #[v0, v1, v2] := by cases args; simp_all
  obtain ⟨rfl, rfl⟩ := trodVars_none hV
  have lt0 := Args.trod_below h0
  obtain ⟨qz, hv0, hq⟩ := Args.rec_in (ks := [.i64, .i64, .i64, .i64]) Try.underlying23 (by kernel_rfl) (by kernel_rfl) (hval 0 23 v0 rfl rfl) h0
  obtain rfl : v0 = .agg #[.int .i64 (qz 0), .int .i64 (qz 1), .int .i64 (qz 2), .int .i64 (qz 3)] := hv0
  have lt1 := Args.trod_below h1
  obtain ⟨gz, hv1, hg⟩ := Args.arr_in (m := 4) (k := .u64) (e := 24) (by kernel_rfl) (by kernel_rfl) (by kernel_rfl) (by kernel_rfl) (hval 1 25 v1 rfl rfl) h1
  obtain rfl : v1 = .agg #[.int .u64 (gz 0), .int .u64 (gz 1), .int .u64 (gz 2), .int .u64 (gz 3)] := hv1.trans (by kernel_rfl)
  have lt2 := Args.trod_below h2
  obtain ⟨cL, hc⟩ := Beg.came_case (hval 2 31 v2 rfl rfl) h2
  clear hA0 hval0
  refine (walk (qz 0) (qz 1) (qz 2) (qz 3) (gz 0) (gz 1) (gz 2) (gz 3) v2 cL W (hq 0) (hq 1) (hq 2) (hq 3) (hg 0) (hg 1) (hg 2) (hg 3) hc).mono fun e W' ⟨he, bel⟩ => ?_
  subst he
  exact ⟨_, rfl, _, _, _, [], _, [], hW', trodAll_mk1 (shut_bool Try.underlying4 _), trodAll_cons_mk (Below.trod Args.laidOut (by kernel_rfl) (of_decide_eq_true (by kernel_rfl)) h0 bel lt0) (trodAll_cons_mk (Below.trod Args.laidOut (by kernel_rfl) (of_decide_eq_true (by kernel_rfl)) h1 bel lt1) (trodAll_cons_mk (Below.trod Args.laidOut (by kernel_rfl) (of_decide_eq_true (by kernel_rfl)) h2 bel lt2) (trodAll_mk0))), rfl, bel.frame _, fun h => by cases h⟩

theorem over : Rows.beginAllRow.holds Try.pinned (OpenSpec.ofChange Rows.beginAllSpec) :=
  OpenClaim.holds_of_wide 3 Try.f3 rfl rfl rfl rfl rfl rfl rfl ⟨rfl, rfl, rfl, rfl, rfl⟩ rfl rfl rfl rfl rfl (by kernel_rfl) Try.func3 (by kernel_rfl)
    (of_decide_eq_true (by kernel_rfl)) (by unfold Func.isWrapper; rw [if_neg (of_decide_eq_false (by kernel_rfl))]; exact ⟨rfl, rfl⟩)
    (fun os started H enc _ => lifted os started H enc)

theorem proved : Rows.BeginAllSaid :=
  over
end Go.Proofs.Ytkghpdmliffkdaa.beginAll
