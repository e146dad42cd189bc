/-
  BegI
-/
import Derived.Test.YteakglkagmghpaaGreatBegF
import Derived.Test.YteakglkagmghpaaGreatBegG
namespace Go.Proofs.YteakglkagmghpaaGreat.Beg
open Go.ChangeShapes Go.WideShapes Go.ChangeAt Go.RowKit
open Go.Proofs.YteakglkagmghpaaGreat.Mod Slic
set_option linter.unusedVariables false
set_option linter.unusedSimpArgs false
set_option maxRecDepth 100000
attribute [local go_sem ↓] Go.wp_at_zero Go.wp_at_succ

theorem regA_at {R : List Int} {k : Nat} (h : k < 4) (hk : k < R.length) : regA R (k : Int) = R[k] := by
  unfold regA
  rw [if_pos (by omega), Int.toNat_natCast, List.getD_eq_getElem?_getD, List.getElem?_eq_getElem hk]
  rfl
theorem St.grown {w0 w w' : World} {L : List (Nat × List Value)} {b : Nat} (S : Held.St w0 w L) (g : w.grownBy w' (some b)) (hb : w0.heap.size ≤ b) (hn : ∀ x ∈ L, x.1 ≠ b) : Held.St w0 w' L :=
  ⟨S.below.grown g S.below.size (fun j ej => by injection ej with ej; omega), fun x hx => by
    have A := S.at_ x hx
    have hne : some x.1 ≠ some b := fun e => hn x hx (Option.some.inj e)
    exact ⟨A.own, Nat.lt_of_lt_of_le A.lt g.size, fun k v e => (cell_only g A.lt hne k).trans (A.cell k v e), fun o => (frozen_only g A.lt hne o).trans (A.fz o)⟩, S.nd⟩
/-- append, as a step of a region that draws its order, and where the row lies then. -/
theorem step_own2 {α : Type} {K : Kd α} {ops : Array Oper} {o : Oper} {a : Act} {w : World} {J : Act → World → Prop} {Q : Exit → Act → World → Prop} {F : Prop}
    (hg : o.guard = none) (s x : Operand) (hop : o.op = Op.call { callee := Callee.builtin Builtin.append, args := #[s, x], argTypes := #[K.X, K.X] }) (hty : o.type = K.X)
    {v y : Value} {L M : List α} {base : Nat} (hs : a.eval s = v) (hx : a.eval x = y) (h : Slic.Own K w base v L) (hy : Sr K w y M) (hl : L.length + M.length ≤ 1000000) (hb : base ≤ w.heap.size)
    (hK : ∀ v' w', Slic.Own K w' base v' (L ++ M) → w.grownBy w' v.ownBlock → (v'.ownBlock = v.ownBlock ∨ v'.ownBlock = some w.heap.size) → J (a.put o.dst v') w') :
    if Region.wanted o (yielded ops a.tmps) = true then Oper.wp Tryz.prog o a w J Q else F := by
  have hw : Region.wanted o (yielded ops a.tmps) = true := by simp [Region.wanted, hg]
  rw [if_pos hw]
  obtain ⟨v', w', hrun, r1, r2, r3⟩ := app_own w h hy hl hb
  unfold Oper.wp
  simp [execOp, hop, resolve, invoke, builtin, hs, hx, hty, hrun, Result.andThen]
  exact hK v' w' r1 r2 r3
set_option maxHeartbeats 40000000 in
theorem refof_any (u v : Value) (L : List Chain.E) (R : List Int) (n t i j op r h y a b c : Int) (w : World) (n1 : 1 ≤ n) (n8 : n ≤ 8) (hR : Sr Fina.kU w u R) (h4 : R.length = 4) (hw : ∀ x ∈ R, wf64 x) (hL : Chain.Sr w v L) (hl : L.length ≤ 100000) (h0 : 0 ≤ h) (h1 : h ≤ 255) (y0 : 0 ≤ y) (y1 : y ≤ 255) :
    Calls Tryz.prog 76 #[planV n t i j, u, v, callV ⟨op, r, h, y, a, b, c⟩] w (OfD w n L R ⟨op, r, h, y, a, b, c⟩) := by
  have S0 := (((Held.St.start w).new [.int .i64 n, .int .i64 t, .int .i64 i, .int .i64 j] 23).new [.int .u8 op, .int .u8 r, .int .u8 h, .int .u8 y, .int .i64 a, .int .i64 b, .int .i64 c] 37).new zR 87
  simp only [World.size_alloc] at S0
  have w1 := regA_wf hw h
  have w2 := regA_wf hw y
  have hE := sr_ent hL
  obtain ⟨Ac, cc, rfl, lc1, lc2, _⟩ := id hL
  obtain ⟨Ar, cr, rfl, _⟩ := id hR
  have HW := Lib.hid hw
  have H4 := Lib.hid h4
  clear hw h4
  obtain ⟨W, hW⟩ : ∃ W : World, W = ((w.alloc (.cells #[.int .i64 n, .int .i64 t, .int .i64 i, .int .i64 j] 23)).alloc (.cells #[.int .u8 op, .int .u8 r, .int .u8 h, .int .u8 y, .int .i64 a, .int .i64 b, .int .i64 c] 37)).alloc (.cells zR.toArray 87) := ⟨_, rfl⟩
  rw [← hW] at S0
  have S1 := S0.drew
  go_enter Tryz.func76, Tryz.ntmps76
  go_wp2_with fail
  go_upto_region 1 with (fail)
  go_cut [9] (fun s wx => OfC w w.heap.size n t i j op r h y a b c 0 0 L s wx)
  case first =>
    rw [← hW]
    clear hW
    refine wp_region_held_drew (S := (fun W' => W'.cell? ⟨w.heap.size + 1, 0, none⟩ = some (.int .u8 op) ∧ W'.cell? ⟨w.heap.size + 1, 1, none⟩ = some (.int .u8 r) ∧ W'.cell? ⟨w.heap.size + 1, 2, none⟩ = some (.int .u8 h) ∧ W'.cell? ⟨w.heap.size + 1, 3, none⟩ = some (.int .u8 y) ∧ W'.cell? ⟨w.heap.size + 1, 4, none⟩ = some (.int .i64 a) ∧ W'.cell? ⟨w.heap.size + 1, 5, none⟩ = some (.int .i64 b) ∧ W'.cell? ⟨w.heap.size + 1, 6, none⟩ = some (.int .i64 c))) (by kernel_rfl) ?_ (fun hHeld => ?_)
    · exact St.call7 S1
    refine wpAnyH_take (i := 0) (oi := ⟨some 10, _, _, _, _, _⟩) (v := ?_) rfl (by kernel_rfl) (by kernel_rfl) (by kernel_rfl) (fun _ _ _ h => h) (Or.inl ⟨by kernel_rfl, ?_⟩) (by assumption) ?_
    rotate_left
    · intro w hSw
      try dsimp only at hSw
      first | (go_simp; done) | (go_simp; with_reducible rfl) | with_reducible rfl
    simp only [Act.put, List.setIfInBounds_toArray, List.set_cons_zero, List.set_cons_succ]
    refine wpAnyH_take (i := 1) (oi := ⟨some 11, _, _, _, _, _⟩) (v := ?_) rfl (by kernel_rfl) (by kernel_rfl) (by kernel_rfl) (fun _ _ _ h => h) (Or.inl ⟨by kernel_rfl, ?_⟩) (by assumption) ?_
    rotate_left
    · intro w hSw
      try dsimp only at hSw
      first | (go_simp; done) | (go_simp; with_reducible rfl) | with_reducible rfl
    simp only [Act.put, List.setIfInBounds_toArray, List.set_cons_zero, List.set_cons_succ]
    refine wpAnyH_take (i := 4) (oi := ⟨some 14, _, _, _, _, _⟩) (v := ?_) rfl (by kernel_rfl) (by kernel_rfl) (by kernel_rfl) (fun _ _ _ h => h) (Or.inl ⟨by kernel_rfl, ?_⟩) (by assumption) ?_
    rotate_left
    · intro w hSw
      try dsimp only at hSw
      first | (go_simp; done) | (go_simp; with_reducible rfl) | with_reducible rfl
    simp only [Act.put, List.setIfInBounds_toArray, List.set_cons_zero, List.set_cons_succ]
    refine wpAnyH_ready (rs := [2, 3, 7]) (by kernel_rfl) (by simp) ?_
    refine AllReadyH.cons (o := ⟨some 12, _, _, _, _, _⟩) rfl (fun K hK => ?_) (AllReadyH.cons (o := ⟨some 13, _, _, _, _, _⟩) rfl (fun K hK => ?_) (AllReadyH.cons (o := ⟨some 9, _, _, _, _, _⟩) rfl (fun K hK => ?_) AllReadyH.nil))
    · skip
      go_simp
      go_wp2_with (go_at_call 108; refine (Chain.refarea_any _ _ L (hL.below S1.below)).mono ?_; rintro e wq ⟨rfl, rfl⟩)
      refine hK.out _ _ ?_ (fun hHeld => ?_)
      · exact St.call7 S1
      clear hK K
      refine wpAnyH_ready (rs := [3, 7]) (by kernel_rfl) (by simp) ?_
      refine AllReadyH.cons (o := ⟨some 13, _, _, _, _, _⟩) rfl (fun K hK => ?_) (AllReadyH.cons (o := ⟨some 9, _, _, _, _, _⟩) rfl (fun K hK => ?_) AllReadyH.nil)
      · skip
        go_simp
        refine hK.out _ _ ?_ (fun hHeld => ?_)
        · exact St.call7 (S1.alloc (.cells #[] 143))
        clear hK K
        refine wpAnyH_ready (rs := [5, 7]) (by kernel_rfl) (by simp) ?_
        refine AllReadyH.cons (o := ⟨some 15, _, _, _, _, _⟩) rfl (fun K hK => ?_) (AllReadyH.cons (o := ⟨some 9, _, _, _, _, _⟩) rfl (fun K hK => ?_) AllReadyH.nil)
        · skip
          have OW := Slic.Own.empty (K := kE) W.drew W.heap.size (Nat.le_refl _)
          refine step_own2 (K := kE) rfl (.tmp 13) (.tmp 14) rfl rfl rfl rfl OW (hE.below (S1.alloc (.cells #[] 143)).below) (by simp; omega) ((below_one W.drew (.cells #[] 143)).size) ?_
          intro v5 w5 O g5 loc
          rw [List.nil_append] at O
          obtain ⟨Au, cu, rfl, lu1, lu2⟩ := O.sr.form
          have g6 : World.grownBy _ w5 (some (W.heap.size)) := g5
          have l0 := (S0.get 0 rfl).lt
          have lb := S0.below.size
          have hz := World.size_alloc W (.cells zR.toArray 87)
          have S5 := St.grown (S1.alloc (.cells #[] 143)) g6 (by omega) (fun x hx => by simp only [List.mem_cons, List.not_mem_nil, or_false] at hx; rcases hx with rfl | rfl | rfl <;> (dsimp only; (try simp only [World.size_alloc]); (try simp only [World.drew]); omega))
          refine hK.out _ _ ?_ (fun hHeld => ?_)
          · exact St.call7 S5
          clear hK K
          refine wpAnyH_take (i := 6) (oi := ⟨some 16, _, _, _, _, _⟩) (v := ?_) rfl (by kernel_rfl) (by kernel_rfl) (by kernel_rfl) (fun _ _ _ h => h) (Or.inl ⟨by kernel_rfl, ?_⟩) (by assumption) ?_
          rotate_left
          · intro w hSw
            try dsimp only at hSw
            first | (go_simp; done) | (go_simp; with_reducible rfl) | with_reducible rfl
          simp only [Act.put, List.setIfInBounds_toArray, List.set_cons_zero, List.set_cons_succ]
          refine wpAnyH_ready (rs := [7]) (by kernel_rfl) (by simp) ?_
          refine AllReadyH.cons (o := ⟨some 9, _, _, _, _, _⟩) rfl (fun K hK => ?_) AllReadyH.nil
          go_simp
          refine hK.out _ _ ?_ (fun hHeld => ?_)
          · exact St.call7b (S5.new zR 87)
          clear hK K
          refine wpAnyH_ready (rs := [8]) (by kernel_rfl) (by simp) ?_
          refine AllReadyH.cons (o := ⟨none, _, _, _, _, _⟩) rfl (fun K hK => ?_) AllReadyH.nil
          have AA := (S5.new zR 87)
          have AF := St.fill AA (runL op r h y a b c (Chain.areaV L) 0 0 (.slice Au L.length cu)) rfl
          have TT : World.there _ (w5.heap.size) 0 26 := there_of AA
          rw [if_pos (by rfl)]
          refine wp_store_mid _ _ _ rfl (w5.heap.size) 0 (runL op r h y a b c (Chain.areaV L) 0 0 (.slice Au L.length cu)).toArray rfl rfl TT info_run (all_oneCell_toArray (runL_one rfl)) ?_
          simp only [Act.put]
          refine hK.out _ _ ?_ (fun hHeld => ?_)
          · exact St.call7b AF
          clear hK K
          refine wpAnyH_done (by kernel_rfl) ?_ _
          go_wp2_with fail
          go_meet
          have l0 := (S0.get 0 rfl).lt
          exact ⟨w5.heap.size, .slice Au L.length cu, rfl, AF, sr_fill (O.sr.below (below_one _ _)) _ (fun e => by have l := O.lt _ e; omega), (fun e => by have l := O.lt _ e; omega), (fun e => by have l := O.lt _ e; have l2 := World.size_alloc W (.cells zR.toArray 87); (try simp only [World.size_alloc] at l); (try simp only [World.drew] at l); omega), (fun e he => by have l := (O.lt _ he).1; have l3 := S0.below.size; omega)⟩
        · skip
          go_simp
          refine hK.out _ _ ?_ (fun hHeld => ?_)
          · exact St.call7b ((S1.alloc (.cells #[] 143)).new zR 87)
          clear hK K
          refine wpAnyH_ready (rs := [5]) (by kernel_rfl) (by simp) ?_
          refine AllReadyH.cons (o := ⟨some 15, _, _, _, _, _⟩) rfl (fun K hK => ?_) AllReadyH.nil
          have OW := (Slic.Own.empty (K := kE) W.drew W.heap.size (Nat.le_refl _)).below (below_one _ (.cells zR.toArray 87))
          refine step_own2 (K := kE) rfl (.tmp 13) (.tmp 14) rfl rfl rfl rfl OW (hE.below ((S1.alloc (.cells #[] 143)).new zR 87).below) (by simp; omega) (Nat.le_trans (below_one W.drew (.cells #[] 143)).size (below_one _ (.cells zR.toArray 87)).size) ?_
          intro v5 w5 O g5 loc
          rw [List.nil_append] at O
          obtain ⟨Au, cu, rfl, lu1, lu2⟩ := O.sr.form
          have g6 : World.grownBy _ w5 (some (W.heap.size)) := g5
          have l0 := (S0.get 0 rfl).lt
          have lb := S0.below.size
          have hz := World.size_alloc W (.cells zR.toArray 87)
          have S5 := St.grown ((S1.alloc (.cells #[] 143)).new zR 87) g6 (by omega) (fun x hx => by simp only [List.mem_cons, List.not_mem_nil, or_false] at hx; rcases hx with rfl | rfl | rfl | rfl <;> (dsimp only; (try simp only [World.size_alloc]); (try simp only [World.drew]); omega))
          refine hK.out _ _ ?_ (fun hHeld => ?_)
          · exact St.call7b S5
          clear hK K
          refine wpAnyH_take (i := 6) (oi := ⟨some 16, _, _, _, _, _⟩) (v := ?_) rfl (by kernel_rfl) (by kernel_rfl) (by kernel_rfl) (fun _ _ _ h => h) (Or.inl ⟨by kernel_rfl, ?_⟩) (by assumption) ?_
          rotate_left
          · intro w hSw
            try dsimp only at hSw
            first | (go_simp; done) | (go_simp; with_reducible rfl) | with_reducible rfl
          simp only [Act.put, List.setIfInBounds_toArray, List.set_cons_zero, List.set_cons_succ]
          refine wpAnyH_ready (rs := [8]) (by kernel_rfl) (by simp) ?_
          refine AllReadyH.cons (o := ⟨none, _, _, _, _, _⟩) rfl (fun K hK => ?_) AllReadyH.nil
          have AA := S5
          simp only [World.size_alloc] at AA
          have AF := St.fill AA (runL op r h y a b c (Chain.areaV L) 0 0 (.slice Au L.length cu)) rfl
          have TT : World.there _ (W.heap.size + 1) 0 26 := there_of AA
          rw [if_pos (by rfl)]
          refine wp_store_mid _ _ _ rfl (W.heap.size + 1) 0 (runL op r h y a b c (Chain.areaV L) 0 0 (.slice Au L.length cu)).toArray rfl rfl TT info_run (all_oneCell_toArray (runL_one rfl)) ?_
          simp only [Act.put]
          refine hK.out _ _ ?_ (fun hHeld => ?_)
          · exact St.call7b AF
          clear hK K
          refine wpAnyH_done (by kernel_rfl) ?_ _
          go_wp2_with fail
          go_meet
          have l0 := (S0.get 0 rfl).lt
          exact ⟨W.heap.size + 1, .slice Au L.length cu, rfl, AF, sr_fill O.sr _ (fun e => by rcases loc with q | q; (have q2 : some (W.heap.size + 1) = some W.heap.size := e.symm.trans q; injection q2 with q2; omega); (have q2 := e.symm.trans q; injection q2 with q2; have q3 : W.heap.size + 1 = ((W.alloc (.cells #[] 143)).alloc (.cells zR.toArray 87)).heap.size := q2; rw [World.size_alloc, World.size_alloc] at q3; omega)), (fun e => by rcases loc with q | q; (have q2 : some (W.heap.size + 1) = some W.heap.size := e.symm.trans q; injection q2 with q2; omega); (have q2 := e.symm.trans q; injection q2 with q2; have q3 : W.heap.size + 1 = ((W.alloc (.cells #[] 143)).alloc (.cells zR.toArray 87)).heap.size := q2; rw [World.size_alloc, World.size_alloc] at q3; omega)), (fun e => by have l := O.lt _ e; have l2 := World.size_alloc W (.cells zR.toArray 87); (try simp only [World.size_alloc] at l); (try simp only [World.drew] at l); omega), (fun e he => by have l := (O.lt _ he).1; have l3 := S0.below.size; omega)⟩
      · skip
        go_simp
        refine hK.out _ _ ?_ (fun hHeld => ?_)
        · exact St.call7b (S1.new zR 87)
        clear hK K
        refine wpAnyH_ready (rs := [3]) (by kernel_rfl) (by simp) ?_
        refine AllReadyH.cons (o := ⟨some 13, _, _, _, _, _⟩) rfl (fun K hK => ?_) AllReadyH.nil
        go_simp
        refine hK.out _ _ ?_ (fun hHeld => ?_)
        · exact St.call7b ((S1.new zR 87).alloc (.cells #[] 143))
        clear hK K
        refine wpAnyH_ready (rs := [5]) (by kernel_rfl) (by simp) ?_
        refine AllReadyH.cons (o := ⟨some 15, _, _, _, _, _⟩) rfl (fun K hK => ?_) AllReadyH.nil
        have OW := (show Slic.Own kE _ (W.heap.size + 1) (.slice (some ⟨W.heap.size + 1, 0, none⟩) 0 0) [] from by have hz := World.size_alloc W (.cells zR.toArray 87); have := Own.empty (K := kE) (W.drew.alloc (.cells zR.toArray 87)) (W.heap.size + 1) (by simp only [World.size_alloc, World.drew]; omega); simp only [World.size_alloc, World.drew] at this; exact this)
        refine step_own2 (K := kE) rfl (.tmp 13) (.tmp 14) rfl rfl rfl rfl OW (hE.below ((S1.new zR 87).alloc (.cells #[] 143)).below) (by simp; omega) (Nat.le_trans (Nat.le_of_eq (World.size_alloc W.drew (.cells zR.toArray 87)).symm) (below_one _ (.cells #[] 143)).size) ?_
        intro v5 w5 O g5 loc
        rw [List.nil_append] at O
        obtain ⟨Au, cu, rfl, lu1, lu2⟩ := O.sr.form
        have g6 : World.grownBy _ w5 (some (W.heap.size + 1)) := g5
        have l0 := (S0.get 0 rfl).lt
        have lb := S0.below.size
        have hz := World.size_alloc W (.cells zR.toArray 87)
        have S5 := St.grown ((S1.new zR 87).alloc (.cells #[] 143)) g6 (by omega) (fun x hx => by simp only [List.mem_cons, List.not_mem_nil, or_false] at hx; rcases hx with rfl | rfl | rfl | rfl <;> (dsimp only; (try simp only [World.size_alloc]); (try simp only [World.drew]); omega))
        refine hK.out _ _ ?_ (fun hHeld => ?_)
        · exact St.call7b S5
        clear hK K
        refine wpAnyH_take (i := 6) (oi := ⟨some 16, _, _, _, _, _⟩) (v := ?_) rfl (by kernel_rfl) (by kernel_rfl) (by kernel_rfl) (fun _ _ _ h => h) (Or.inl ⟨by kernel_rfl, ?_⟩) (by assumption) ?_
        rotate_left
        · intro w hSw
          try dsimp only at hSw
          first | (go_simp; done) | (go_simp; with_reducible rfl) | with_reducible rfl
        simp only [Act.put, List.setIfInBounds_toArray, List.set_cons_zero, List.set_cons_succ]
        refine wpAnyH_ready (rs := [8]) (by kernel_rfl) (by simp) ?_
        refine AllReadyH.cons (o := ⟨none, _, _, _, _, _⟩) rfl (fun K hK => ?_) AllReadyH.nil
        have AA := S5
        have AF := St.fill AA (runL op r h y a b c (Chain.areaV L) 0 0 (.slice Au L.length cu)) rfl
        have TT : World.there _ (W.heap.size) 0 26 := there_of AA
        rw [if_pos (by rfl)]
        refine wp_store_mid _ _ _ rfl (W.heap.size) 0 (runL op r h y a b c (Chain.areaV L) 0 0 (.slice Au L.length cu)).toArray rfl rfl TT info_run (all_oneCell_toArray (runL_one rfl)) ?_
        simp only [Act.put]
        refine hK.out _ _ ?_ (fun hHeld => ?_)
        · exact St.call7b AF
        clear hK K
        refine wpAnyH_done (by kernel_rfl) ?_ _
        go_wp2_with fail
        go_meet
        have l0 := (S0.get 0 rfl).lt
        exact ⟨W.heap.size, .slice Au L.length cu, rfl, AF, sr_fill O.sr _ (fun e => by have l := O.lt _ e; omega), (fun e => by have l := O.lt _ e; omega), (fun e => by have l := O.lt _ e; have l2 := World.size_alloc W (.cells zR.toArray 87); (try simp only [World.size_alloc] at l); (try simp only [World.drew] at l); omega), (fun e he => by have l := (O.lt _ he).1; have l3 := S0.below.size; omega)⟩
    · skip
      go_simp
      refine hK.out _ _ ?_ (fun hHeld => ?_)
      · exact St.call7 (S1.alloc (.cells #[] 143))
      clear hK K
      refine wpAnyH_ready (rs := [2, 7]) (by kernel_rfl) (by simp) ?_
      refine AllReadyH.cons (o := ⟨some 12, _, _, _, _, _⟩) rfl (fun K hK => ?_) (AllReadyH.cons (o := ⟨some 9, _, _, _, _, _⟩) rfl (fun K hK => ?_) AllReadyH.nil)
      · skip
        go_simp
        go_wp2_with (go_at_call 108; refine (Chain.refarea_any _ _ L (hL.below (S1.alloc (.cells #[] 143)).below)).mono ?_; rintro e wq ⟨rfl, rfl⟩)
        refine hK.out _ _ ?_ (fun hHeld => ?_)
        · exact St.call7 (S1.alloc (.cells #[] 143))
        clear hK K
        refine wpAnyH_ready (rs := [5, 7]) (by kernel_rfl) (by simp) ?_
        refine AllReadyH.cons (o := ⟨some 15, _, _, _, _, _⟩) rfl (fun K hK => ?_) (AllReadyH.cons (o := ⟨some 9, _, _, _, _, _⟩) rfl (fun K hK => ?_) AllReadyH.nil)
        · skip
          have OW := Slic.Own.empty (K := kE) W.drew W.heap.size (Nat.le_refl _)
          refine step_own2 (K := kE) rfl (.tmp 13) (.tmp 14) rfl rfl rfl rfl OW (hE.below (S1.alloc (.cells #[] 143)).below) (by simp; omega) ((below_one W.drew (.cells #[] 143)).size) ?_
          intro v5 w5 O g5 loc
          rw [List.nil_append] at O
          obtain ⟨Au, cu, rfl, lu1, lu2⟩ := O.sr.form
          have g6 : World.grownBy _ w5 (some (W.heap.size)) := g5
          have l0 := (S0.get 0 rfl).lt
          have lb := S0.below.size
          have hz := World.size_alloc W (.cells zR.toArray 87)
          have S5 := St.grown (S1.alloc (.cells #[] 143)) g6 (by omega) (fun x hx => by simp only [List.mem_cons, List.not_mem_nil, or_false] at hx; rcases hx with rfl | rfl | rfl <;> (dsimp only; (try simp only [World.size_alloc]); (try simp only [World.drew]); omega))
          refine hK.out _ _ ?_ (fun hHeld => ?_)
          · exact St.call7 S5
          clear hK K
          refine wpAnyH_take (i := 6) (oi := ⟨some 16, _, _, _, _, _⟩) (v := ?_) rfl (by kernel_rfl) (by kernel_rfl) (by kernel_rfl) (fun _ _ _ h => h) (Or.inl ⟨by kernel_rfl, ?_⟩) (by assumption) ?_
          rotate_left
          · intro w hSw
            try dsimp only at hSw
            first | (go_simp; done) | (go_simp; with_reducible rfl) | with_reducible rfl
          simp only [Act.put, List.setIfInBounds_toArray, List.set_cons_zero, List.set_cons_succ]
          refine wpAnyH_ready (rs := [7]) (by kernel_rfl) (by simp) ?_
          refine AllReadyH.cons (o := ⟨some 9, _, _, _, _, _⟩) rfl (fun K hK => ?_) AllReadyH.nil
          go_simp
          refine hK.out _ _ ?_ (fun hHeld => ?_)
          · exact St.call7b (S5.new zR 87)
          clear hK K
          refine wpAnyH_ready (rs := [8]) (by kernel_rfl) (by simp) ?_
          refine AllReadyH.cons (o := ⟨none, _, _, _, _, _⟩) rfl (fun K hK => ?_) AllReadyH.nil
          have AA := (S5.new zR 87)
          have AF := St.fill AA (runL op r h y a b c (Chain.areaV L) 0 0 (.slice Au L.length cu)) rfl
          have TT : World.there _ (w5.heap.size) 0 26 := there_of AA
          rw [if_pos (by rfl)]
          refine wp_store_mid _ _ _ rfl (w5.heap.size) 0 (runL op r h y a b c (Chain.areaV L) 0 0 (.slice Au L.length cu)).toArray rfl rfl TT info_run (all_oneCell_toArray (runL_one rfl)) ?_
          simp only [Act.put]
          refine hK.out _ _ ?_ (fun hHeld => ?_)
          · exact St.call7b AF
          clear hK K
          refine wpAnyH_done (by kernel_rfl) ?_ _
          go_wp2_with fail
          go_meet
          have l0 := (S0.get 0 rfl).lt
          exact ⟨w5.heap.size, .slice Au L.length cu, rfl, AF, sr_fill (O.sr.below (below_one _ _)) _ (fun e => by have l := O.lt _ e; omega), (fun e => by have l := O.lt _ e; omega), (fun e => by have l := O.lt _ e; have l2 := World.size_alloc W (.cells zR.toArray 87); (try simp only [World.size_alloc] at l); (try simp only [World.drew] at l); omega), (fun e he => by have l := (O.lt _ he).1; have l3 := S0.below.size; omega)⟩
        · skip
          go_simp
          refine hK.out _ _ ?_ (fun hHeld => ?_)
          · exact St.call7b ((S1.alloc (.cells #[] 143)).new zR 87)
          clear hK K
          refine wpAnyH_ready (rs := [5]) (by kernel_rfl) (by simp) ?_
          refine AllReadyH.cons (o := ⟨some 15, _, _, _, _, _⟩) rfl (fun K hK => ?_) AllReadyH.nil
          have OW := (Slic.Own.empty (K := kE) W.drew W.heap.size (Nat.le_refl _)).below (below_one _ (.cells zR.toArray 87))
          refine step_own2 (K := kE) rfl (.tmp 13) (.tmp 14) rfl rfl rfl rfl OW (hE.below ((S1.alloc (.cells #[] 143)).new zR 87).below) (by simp; omega) (Nat.le_trans (below_one W.drew (.cells #[] 143)).size (below_one _ (.cells zR.toArray 87)).size) ?_
          intro v5 w5 O g5 loc
          rw [List.nil_append] at O
          obtain ⟨Au, cu, rfl, lu1, lu2⟩ := O.sr.form
          have g6 : World.grownBy _ w5 (some (W.heap.size)) := g5
          have l0 := (S0.get 0 rfl).lt
          have lb := S0.below.size
          have hz := World.size_alloc W (.cells zR.toArray 87)
          have S5 := St.grown ((S1.alloc (.cells #[] 143)).new zR 87) g6 (by omega) (fun x hx => by simp only [List.mem_cons, List.not_mem_nil, or_false] at hx; rcases hx with rfl | rfl | rfl | rfl <;> (dsimp only; (try simp only [World.size_alloc]); (try simp only [World.drew]); omega))
          refine hK.out _ _ ?_ (fun hHeld => ?_)
          · exact St.call7b S5
          clear hK K
          refine wpAnyH_take (i := 6) (oi := ⟨some 16, _, _, _, _, _⟩) (v := ?_) rfl (by kernel_rfl) (by kernel_rfl) (by kernel_rfl) (fun _ _ _ h => h) (Or.inl ⟨by kernel_rfl, ?_⟩) (by assumption) ?_
          rotate_left
          · intro w hSw
            try dsimp only at hSw
            first | (go_simp; done) | (go_simp; with_reducible rfl) | with_reducible rfl
          simp only [Act.put, List.setIfInBounds_toArray, List.set_cons_zero, List.set_cons_succ]
          refine wpAnyH_ready (rs := [8]) (by kernel_rfl) (by simp) ?_
          refine AllReadyH.cons (o := ⟨none, _, _, _, _, _⟩) rfl (fun K hK => ?_) AllReadyH.nil
          have AA := S5
          simp only [World.size_alloc] at AA
          have AF := St.fill AA (runL op r h y a b c (Chain.areaV L) 0 0 (.slice Au L.length cu)) rfl
          have TT : World.there _ (W.heap.size + 1) 0 26 := there_of AA
          rw [if_pos (by rfl)]
          refine wp_store_mid _ _ _ rfl (W.heap.size + 1) 0 (runL op r h y a b c (Chain.areaV L) 0 0 (.slice Au L.length cu)).toArray rfl rfl TT info_run (all_oneCell_toArray (runL_one rfl)) ?_
          simp only [Act.put]
          refine hK.out _ _ ?_ (fun hHeld => ?_)
          · exact St.call7b AF
          clear hK K
          refine wpAnyH_done (by kernel_rfl) ?_ _
          go_wp2_with fail
          go_meet
          have l0 := (S0.get 0 rfl).lt
          exact ⟨W.heap.size + 1, .slice Au L.length cu, rfl, AF, sr_fill O.sr _ (fun e => by rcases loc with q | q; (have q2 : some (W.heap.size + 1) = some W.heap.size := e.symm.trans q; injection q2 with q2; omega); (have q2 := e.symm.trans q; injection q2 with q2; have q3 : W.heap.size + 1 = ((W.alloc (.cells #[] 143)).alloc (.cells zR.toArray 87)).heap.size := q2; rw [World.size_alloc, World.size_alloc] at q3; omega)), (fun e => by rcases loc with q | q; (have q2 : some (W.heap.size + 1) = some W.heap.size := e.symm.trans q; injection q2 with q2; omega); (have q2 := e.symm.trans q; injection q2 with q2; have q3 : W.heap.size + 1 = ((W.alloc (.cells #[] 143)).alloc (.cells zR.toArray 87)).heap.size := q2; rw [World.size_alloc, World.size_alloc] at q3; omega)), (fun e => by have l := O.lt _ e; have l2 := World.size_alloc W (.cells zR.toArray 87); (try simp only [World.size_alloc] at l); (try simp only [World.drew] at l); omega), (fun e he => by have l := (O.lt _ he).1; have l3 := S0.below.size; omega)⟩
      · skip
        go_simp
        refine hK.out _ _ ?_ (fun hHeld => ?_)
        · exact St.call7b ((S1.alloc (.cells #[] 143)).new zR 87)
        clear hK K
        refine wpAnyH_ready (rs := [2]) (by kernel_rfl) (by simp) ?_
        refine AllReadyH.cons (o := ⟨some 12, _, _, _, _, _⟩) rfl (fun K hK => ?_) AllReadyH.nil
        go_simp
        go_wp2_with (go_at_call 108; refine (Chain.refarea_any _ _ L (hL.below ((S1.alloc (.cells #[] 143)).new zR 87).below)).mono ?_; rintro e wq ⟨rfl, rfl⟩)
        refine hK.out _ _ ?_ (fun hHeld => ?_)
        · exact St.call7b ((S1.alloc (.cells #[] 143)).new zR 87)
        clear hK K
        refine wpAnyH_ready (rs := [5]) (by kernel_rfl) (by simp) ?_
        refine AllReadyH.cons (o := ⟨some 15, _, _, _, _, _⟩) rfl (fun K hK => ?_) AllReadyH.nil
        have OW := (Slic.Own.empty (K := kE) W.drew W.heap.size (Nat.le_refl _)).below (below_one _ (.cells zR.toArray 87))
        refine step_own2 (K := kE) rfl (.tmp 13) (.tmp 14) rfl rfl rfl rfl OW (hE.below ((S1.alloc (.cells #[] 143)).new zR 87).below) (by simp; omega) (Nat.le_trans (below_one W.drew (.cells #[] 143)).size (below_one _ (.cells zR.toArray 87)).size) ?_
        intro v5 w5 O g5 loc
        rw [List.nil_append] at O
        obtain ⟨Au, cu, rfl, lu1, lu2⟩ := O.sr.form
        have g6 : World.grownBy _ w5 (some (W.heap.size)) := g5
        have l0 := (S0.get 0 rfl).lt
        have lb := S0.below.size
        have hz := World.size_alloc W (.cells zR.toArray 87)
        have S5 := St.grown ((S1.alloc (.cells #[] 143)).new zR 87) g6 (by omega) (fun x hx => by simp only [List.mem_cons, List.not_mem_nil, or_false] at hx; rcases hx with rfl | rfl | rfl | rfl <;> (dsimp only; (try simp only [World.size_alloc]); (try simp only [World.drew]); omega))
        refine hK.out _ _ ?_ (fun hHeld => ?_)
        · exact St.call7b S5
        clear hK K
        refine wpAnyH_take (i := 6) (oi := ⟨some 16, _, _, _, _, _⟩) (v := ?_) rfl (by kernel_rfl) (by kernel_rfl) (by kernel_rfl) (fun _ _ _ h => h) (Or.inl ⟨by kernel_rfl, ?_⟩) (by assumption) ?_
        rotate_left
        · intro w hSw
          try dsimp only at hSw
          first | (go_simp; done) | (go_simp; with_reducible rfl) | with_reducible rfl
        simp only [Act.put, List.setIfInBounds_toArray, List.set_cons_zero, List.set_cons_succ]
        refine wpAnyH_ready (rs := [8]) (by kernel_rfl) (by simp) ?_
        refine AllReadyH.cons (o := ⟨none, _, _, _, _, _⟩) rfl (fun K hK => ?_) AllReadyH.nil
        have AA := S5
        simp only [World.size_alloc] at AA
        have AF := St.fill AA (runL op r h y a b c (Chain.areaV L) 0 0 (.slice Au L.length cu)) rfl
        have TT : World.there _ (W.heap.size + 1) 0 26 := there_of AA
        rw [if_pos (by rfl)]
        refine wp_store_mid _ _ _ rfl (W.heap.size + 1) 0 (runL op r h y a b c (Chain.areaV L) 0 0 (.slice Au L.length cu)).toArray rfl rfl TT info_run (all_oneCell_toArray (runL_one rfl)) ?_
        simp only [Act.put]
        refine hK.out _ _ ?_ (fun hHeld => ?_)
        · exact St.call7b AF
        clear hK K
        refine wpAnyH_done (by kernel_rfl) ?_ _
        go_wp2_with fail
        go_meet
        have l0 := (S0.get 0 rfl).lt
        exact ⟨W.heap.size + 1, .slice Au L.length cu, rfl, AF, sr_fill O.sr _ (fun e => by rcases loc with q | q; (have q2 : some (W.heap.size + 1) = some W.heap.size := e.symm.trans q; injection q2 with q2; omega); (have q2 := e.symm.trans q; injection q2 with q2; have q3 : W.heap.size + 1 = ((W.alloc (.cells #[] 143)).alloc (.cells zR.toArray 87)).heap.size := q2; rw [World.size_alloc, World.size_alloc] at q3; omega)), (fun e => by rcases loc with q | q; (have q2 : some (W.heap.size + 1) = some W.heap.size := e.symm.trans q; injection q2 with q2; omega); (have q2 := e.symm.trans q; injection q2 with q2; have q3 : W.heap.size + 1 = ((W.alloc (.cells #[] 143)).alloc (.cells zR.toArray 87)).heap.size := q2; rw [World.size_alloc, World.size_alloc] at q3; omega)), (fun e => by have l := O.lt _ e; have l2 := World.size_alloc W (.cells zR.toArray 87); (try simp only [World.size_alloc] at l); (try simp only [World.drew] at l); omega), (fun e he => by have l := (O.lt _ he).1; have l3 := S0.below.size; omega)⟩
    · skip
      go_simp
      refine hK.out _ _ ?_ (fun hHeld => ?_)
      · exact St.call7b (S1.new zR 87)
      clear hK K
      refine wpAnyH_ready (rs := [2, 3]) (by kernel_rfl) (by simp) ?_
      refine AllReadyH.cons (o := ⟨some 12, _, _, _, _, _⟩) rfl (fun K hK => ?_) (AllReadyH.cons (o := ⟨some 13, _, _, _, _, _⟩) rfl (fun K hK => ?_) AllReadyH.nil)
      · skip
        go_simp
        go_wp2_with (go_at_call 108; refine (Chain.refarea_any _ _ L (hL.below (S1.new zR 87).below)).mono ?_; rintro e wq ⟨rfl, rfl⟩)
        refine hK.out _ _ ?_ (fun hHeld => ?_)
        · exact St.call7b (S1.new zR 87)
        clear hK K
        refine wpAnyH_ready (rs := [3]) (by kernel_rfl) (by simp) ?_
        refine AllReadyH.cons (o := ⟨some 13, _, _, _, _, _⟩) rfl (fun K hK => ?_) AllReadyH.nil
        go_simp
        refine hK.out _ _ ?_ (fun hHeld => ?_)
        · exact St.call7b ((S1.new zR 87).alloc (.cells #[] 143))
        clear hK K
        refine wpAnyH_ready (rs := [5]) (by kernel_rfl) (by simp) ?_
        refine AllReadyH.cons (o := ⟨some 15, _, _, _, _, _⟩) rfl (fun K hK => ?_) AllReadyH.nil
        have OW := (show Slic.Own kE _ (W.heap.size + 1) (.slice (some ⟨W.heap.size + 1, 0, none⟩) 0 0) [] from by have hz := World.size_alloc W (.cells zR.toArray 87); have := Own.empty (K := kE) (W.drew.alloc (.cells zR.toArray 87)) (W.heap.size + 1) (by simp only [World.size_alloc, World.drew]; omega); simp only [World.size_alloc, World.drew] at this; exact this)
        refine step_own2 (K := kE) rfl (.tmp 13) (.tmp 14) rfl rfl rfl rfl OW (hE.below ((S1.new zR 87).alloc (.cells #[] 143)).below) (by simp; omega) (Nat.le_trans (Nat.le_of_eq (World.size_alloc W.drew (.cells zR.toArray 87)).symm) (below_one _ (.cells #[] 143)).size) ?_
        intro v5 w5 O g5 loc
        rw [List.nil_append] at O
        obtain ⟨Au, cu, rfl, lu1, lu2⟩ := O.sr.form
        have g6 : World.grownBy _ w5 (some (W.heap.size + 1)) := g5
        have l0 := (S0.get 0 rfl).lt
        have lb := S0.below.size
        have hz := World.size_alloc W (.cells zR.toArray 87)
        have S5 := St.grown ((S1.new zR 87).alloc (.cells #[] 143)) g6 (by omega) (fun x hx => by simp only [List.mem_cons, List.not_mem_nil, or_false] at hx; rcases hx with rfl | rfl | rfl | rfl <;> (dsimp only; (try simp only [World.size_alloc]); (try simp only [World.drew]); omega))
        refine hK.out _ _ ?_ (fun hHeld => ?_)
        · exact St.call7b S5
        clear hK K
        refine wpAnyH_take (i := 6) (oi := ⟨some 16, _, _, _, _, _⟩) (v := ?_) rfl (by kernel_rfl) (by kernel_rfl) (by kernel_rfl) (fun _ _ _ h => h) (Or.inl ⟨by kernel_rfl, ?_⟩) (by assumption) ?_
        rotate_left
        · intro w hSw
          try dsimp only at hSw
          first | (go_simp; done) | (go_simp; with_reducible rfl) | with_reducible rfl
        simp only [Act.put, List.setIfInBounds_toArray, List.set_cons_zero, List.set_cons_succ]
        refine wpAnyH_ready (rs := [8]) (by kernel_rfl) (by simp) ?_
        refine AllReadyH.cons (o := ⟨none, _, _, _, _, _⟩) rfl (fun K hK => ?_) AllReadyH.nil
        have AA := S5
        have AF := St.fill AA (runL op r h y a b c (Chain.areaV L) 0 0 (.slice Au L.length cu)) rfl
        have TT : World.there _ (W.heap.size) 0 26 := there_of AA
        rw [if_pos (by rfl)]
        refine wp_store_mid _ _ _ rfl (W.heap.size) 0 (runL op r h y a b c (Chain.areaV L) 0 0 (.slice Au L.length cu)).toArray rfl rfl TT info_run (all_oneCell_toArray (runL_one rfl)) ?_
        simp only [Act.put]
        refine hK.out _ _ ?_ (fun hHeld => ?_)
        · exact St.call7b AF
        clear hK K
        refine wpAnyH_done (by kernel_rfl) ?_ _
        go_wp2_with fail
        go_meet
        have l0 := (S0.get 0 rfl).lt
        exact ⟨W.heap.size, .slice Au L.length cu, rfl, AF, sr_fill O.sr _ (fun e => by have l := O.lt _ e; omega), (fun e => by have l := O.lt _ e; omega), (fun e => by have l := O.lt _ e; have l2 := World.size_alloc W (.cells zR.toArray 87); (try simp only [World.size_alloc] at l); (try simp only [World.drew] at l); omega), (fun e he => by have l := (O.lt _ he).1; have l3 := S0.below.size; omega)⟩
      · skip
        go_simp
        refine hK.out _ _ ?_ (fun hHeld => ?_)
        · exact St.call7b ((S1.new zR 87).alloc (.cells #[] 143))
        clear hK K
        refine wpAnyH_ready (rs := [2]) (by kernel_rfl) (by simp) ?_
        refine AllReadyH.cons (o := ⟨some 12, _, _, _, _, _⟩) rfl (fun K hK => ?_) AllReadyH.nil
        go_simp
        go_wp2_with (go_at_call 108; refine (Chain.refarea_any _ _ L (hL.below ((S1.new zR 87).alloc (.cells #[] 143)).below)).mono ?_; rintro e wq ⟨rfl, rfl⟩)
        refine hK.out _ _ ?_ (fun hHeld => ?_)
        · exact St.call7b ((S1.new zR 87).alloc (.cells #[] 143))
        clear hK K
        refine wpAnyH_ready (rs := [5]) (by kernel_rfl) (by simp) ?_
        refine AllReadyH.cons (o := ⟨some 15, _, _, _, _, _⟩) rfl (fun K hK => ?_) AllReadyH.nil
        have OW := (show Slic.Own kE _ (W.heap.size + 1) (.slice (some ⟨W.heap.size + 1, 0, none⟩) 0 0) [] from by have hz := World.size_alloc W (.cells zR.toArray 87); have := Own.empty (K := kE) (W.drew.alloc (.cells zR.toArray 87)) (W.heap.size + 1) (by simp only [World.size_alloc, World.drew]; omega); simp only [World.size_alloc, World.drew] at this; exact this)
        refine step_own2 (K := kE) rfl (.tmp 13) (.tmp 14) rfl rfl rfl rfl OW (hE.below ((S1.new zR 87).alloc (.cells #[] 143)).below) (by simp; omega) (Nat.le_trans (Nat.le_of_eq (World.size_alloc W.drew (.cells zR.toArray 87)).symm) (below_one _ (.cells #[] 143)).size) ?_
        intro v5 w5 O g5 loc
        rw [List.nil_append] at O
        obtain ⟨Au, cu, rfl, lu1, lu2⟩ := O.sr.form
        have g6 : World.grownBy _ w5 (some (W.heap.size + 1)) := g5
        have l0 := (S0.get 0 rfl).lt
        have lb := S0.below.size
        have hz := World.size_alloc W (.cells zR.toArray 87)
        have S5 := St.grown ((S1.new zR 87).alloc (.cells #[] 143)) g6 (by omega) (fun x hx => by simp only [List.mem_cons, List.not_mem_nil, or_false] at hx; rcases hx with rfl | rfl | rfl | rfl <;> (dsimp only; (try simp only [World.size_alloc]); (try simp only [World.drew]); omega))
        refine hK.out _ _ ?_ (fun hHeld => ?_)
        · exact St.call7b S5
        clear hK K
        refine wpAnyH_take (i := 6) (oi := ⟨some 16, _, _, _, _, _⟩) (v := ?_) rfl (by kernel_rfl) (by kernel_rfl) (by kernel_rfl) (fun _ _ _ h => h) (Or.inl ⟨by kernel_rfl, ?_⟩) (by assumption) ?_
        rotate_left
        · intro w hSw
          try dsimp only at hSw
          first | (go_simp; done) | (go_simp; with_reducible rfl) | with_reducible rfl
        simp only [Act.put, List.setIfInBounds_toArray, List.set_cons_zero, List.set_cons_succ]
        refine wpAnyH_ready (rs := [8]) (by kernel_rfl) (by simp) ?_
        refine AllReadyH.cons (o := ⟨none, _, _, _, _, _⟩) rfl (fun K hK => ?_) AllReadyH.nil
        have AA := S5
        have AF := St.fill AA (runL op r h y a b c (Chain.areaV L) 0 0 (.slice Au L.length cu)) rfl
        have TT : World.there _ (W.heap.size) 0 26 := there_of AA
        rw [if_pos (by rfl)]
        refine wp_store_mid _ _ _ rfl (W.heap.size) 0 (runL op r h y a b c (Chain.areaV L) 0 0 (.slice Au L.length cu)).toArray rfl rfl TT info_run (all_oneCell_toArray (runL_one rfl)) ?_
        simp only [Act.put]
        refine hK.out _ _ ?_ (fun hHeld => ?_)
        · exact St.call7b AF
        clear hK K
        refine wpAnyH_done (by kernel_rfl) ?_ _
        go_wp2_with fail
        go_meet
        have l0 := (S0.get 0 rfl).lt
        exact ⟨W.heap.size, .slice Au L.length cu, rfl, AF, sr_fill O.sr _ (fun e => by have l := O.lt _ e; omega), (fun e => by have l := O.lt _ e; omega), (fun e => by have l := O.lt _ e; have l2 := World.size_alloc W (.cells zR.toArray 87); (try simp only [World.size_alloc] at l); (try simp only [World.drew] at l); omega), (fun e he => by have l := (O.lt _ he).1; have l3 := S0.below.size; omega)⟩
  case rest =>
    obtain ⟨g, ch, rfl, S, O, OG, OQ, OB⟩ := hcut
    obtain ⟨Ac', cc', rfl, _⟩ := O.form
    generalize hA : regA R h = ra at *
    generalize hB : regA R y = rb at *
    generalize hG : Chain.areaV L = ga at *
    obtain ⟨hk, rfl⟩ := Int.eq_ofNat_of_zero_le h0
    obtain ⟨yk, rfl⟩ := Int.eq_ofNat_of_zero_le y0
    obtain ⟨⟨bc, bp⟩, hBE⟩ : ∃ B : Be, begV n L ⟨op, r, (hk : Int), (yk : Int), a, b, c⟩ ra rb = B := ⟨_, rfl⟩
    have E0 := Lib.hid (show ∀ ch, ofR ⟨op, r, (hk : Int), (yk : Int), a, b, c⟩ (begV n L ⟨op, r, (hk : Int), (yk : Int), a, b, c⟩ (regA R (hk : Int)) (regA R (yk : Int))) (Chain.areaV L) (regA R (hk : Int)) (regA R (yk : Int)) ch = ⟨⟨op, r, (hk : Int), (yk : Int), a, b, c⟩, bp, ga, ra, rb, ch, 0, 0, 0, 0, .slice none 0 0, 0, .slice none 0 0, 0, false, false, false, bc, 0, .slice none 0 0⟩ from fun ch => by
      rw [hA, hB, hG, hBE]
      rfl)
    have HA := Lib.hid hA
    have HB := Lib.hid hB
    have HG := Lib.hid hG
    have HBE := Lib.hid hBE
    have HE := Lib.hid hE
    clear hA hB hG hBE hE
    rw [H4.out] at hR ⊢
    by_cases hh4 : hk < 4
    · skip
      have hhr : hk < R.length := by rw [H4.out]; exact hh4
      obtain ⟨gh, oh, eh, _, hch⟩ := ((hR.below S.below).at hk hhr)
      subst eh
      have ch_ := hch 0 _ rfl
      rw [show oh + (hk * Fina.kU.m + 0) = oh + hk from by simp [Fina.kU]] at ch_
      have rae : ra = R[hk] := by rw [← HA.out, regA_at hh4 hhr]
      rw [← rae] at ch_
      have d2 := (S.get 2 rfl).cell 2 _ rfl
      have x9 := (S.get 0 rfl).cell 9 _ rfl
      have fz0 := (S.get 0 rfl).fz
      have hi : (hk : Int) < ((4 : Nat) : Int) := by omega
      have hi2 : (hk : Int) < 4 := by omega
      clear hch rae
      go_upto_region 4 with (fail)
      have S1 := S.put 0 9 rfl (.int .u64 ra) (show 9 < 26 by decide)
      have O1 := sr_cell O 9 (.int .u64 ra) OG
      clear ch_ d2 x9 fz0
      generalize World.setCell _ ⟨g, 9, none⟩ (.int .u64 ra) = X1 at *
      by_cases hy4 : yk < 4
      · skip
        have hyr : yk < R.length := by rw [H4.out]; exact hy4
        obtain ⟨gy, oy, ey, _, hcy⟩ := ((hR.below S1.below).at yk hyr)
        obtain ⟨rfl, rfl⟩ : gh = gy ∧ oh = oy := by
          injection ey with e
          injection e with e1 e2
          exact ⟨e1, e2⟩
        have cy := hcy 0 _ rfl
        rw [show oh + (yk * Fina.kU.m + 0) = oh + yk from by simp [Fina.kU]] at cy
        have rbe : rb = R[yk] := by rw [← HB.out, regA_at hy4 hyr]
        rw [← rbe] at cy
        have d3 := (S1.get 2 rfl).cell 3 _ rfl
        have x10 := (S1.get 0 rfl).cell 10 _ rfl
        have fz1 := (S1.get 0 rfl).fz
        have yi : (yk : Int) < ((4 : Nat) : Int) := by omega
        have yi2 : (yk : Int) < 4 := by omega
        clear hcy rbe
        go_upto_region 6 with (fail)
        have S2 := S1.put 0 10 rfl (.int .u64 rb) (show 10 < 26 by decide)
        have O2 := sr_cell O1 10 (.int .u64 rb) OG
        clear cy d3 x10 fz1
        generalize World.setCell _ ⟨g, 10, none⟩ (.int .u64 rb) = X2 at *
        have P := S2.get 3 rfl
        have C := S2.get 2 rfl
        have G := S2.get 0 rfl
        have p0 := P.cell 0 _ rfl
        have p1 := P.cell 1 _ rfl
        have p2 := P.cell 2 _ rfl
        have p3 := P.cell 3 _ rfl
        have c0 := C.cell 0 _ rfl
        have c1 := C.cell 1 _ rfl
        have c2 := C.cell 2 _ rfl
        have c3 := C.cell 3 _ rfl
        have c4 := C.cell 4 _ rfl
        have c5 := C.cell 5 _ rfl
        have c6 := C.cell 6 _ rfl
        have x9 := G.cell 9 _ rfl
        have x10 := G.cell 10 _ rfl
        go_wp2_with fail
        refine (refpc_any _ L ra rb n t i j ⟨op, r, (hk : Int), (yk : Int), a, b, c⟩ _ n1 (hL.below S2.below) w1.1 w1.2 w2.1 w2.2).mono ?_
        rintro z w4 ⟨rfl, k4⟩
        rw [HBE.out]
        have S3 := S2.call k4
        have O3 := O2.below k4
        have x23 := (S3.get 0 rfl).cell 23 _ rfl
        have x7 := (S3.get 0 rfl).cell 7 _ rfl
        have fz := (S3.get 0 rfl).fz
        have S4 := ((S3.put 0 23 rfl (.int .i64 bc) (show 23 < 26 by decide)).put 0 7 rfl (.int .i64 bp) (show 7 < 26 by decide))
        have R4 := range_of S4
        have T4 := there_of (St.swap S4)
        have TT : World.there _ (w.heap.size + 2) 0 26 := T4
        have S5 := St.fill (St.swap S4) [.int .u8 op, .int .u8 r, .int .u8 (hk : Int), .int .u8 (yk : Int), .int .i64 a, .int .i64 b, .int .i64 c, .int .i64 bp, .int .i64 ga, .int .u64 ra, .int .u64 rb, .slice Ac' L.length cc', .int .u64 0, .int .u64 0, .int .i64 0, .int .i64 0, .slice none 0 0, .int .i64 0, .slice none 0 0, .int .i64 0, .bool false, .bool false, .bool false, .int .i64 bc, .int .i64 0, .slice none 0 0] rfl
        have R5 := range_of S5
        have O5 := sr_fill (w := (w4.setCell ⟨g, 23, none⟩ (.int .i64 bc)).setCell ⟨g, 7, none⟩ (.int .i64 bp)) (b := w.heap.size + 2) (v := .slice Ac' L.length cc') (L := L) (sr_cell (sr_cell O3 23 _ OG) 7 _ OG) [.int .u8 op, .int .u8 r, .int .u8 (hk : Int), .int .u8 (yk : Int), .int .i64 a, .int .i64 b, .int .i64 c, .int .i64 bp, .int .i64 ga, .int .u64 ra, .int .u64 rb, .slice Ac' L.length cc', .int .u64 0, .int .u64 0, .int .i64 0, .int .i64 0, .slice none 0 0, .int .i64 0, .slice none 0 0, .int .i64 0, .bool false, .bool false, .bool false, .int .i64 bc, .int .i64 0, .slice none 0 0] OQ
        go_wp2_with (first
          | refine wpList_load_mid rfl _ _ rfl g 0 rfl [.int .u8 op, .int .u8 r, .int .u8 (hk : Int), .int .u8 (yk : Int), .int .i64 a, .int .i64 b, .int .i64 c, .int .i64 bp, .int .i64 ga, .int .u64 ra, .int .u64 rb, .slice Ac' L.length cc', .int .u64 0, .int .u64 0, .int .i64 0, .int .i64 0, .slice none 0 0, .int .i64 0, .slice none 0 0, .int .i64 0, .bool false, .bool false, .bool false, .int .i64 bc, .int .i64 0, .slice none 0 0] _ R4 Tryz.underlying87 rfl info_run ?_
          | refine wpList_store_mid rfl _ _ _ rfl (w.heap.size + 2) 0 ([.int .u8 op, .int .u8 r, .int .u8 (hk : Int), .int .u8 (yk : Int), .int .i64 a, .int .i64 b, .int .i64 c, .int .i64 bp, .int .i64 ga, .int .u64 ra, .int .u64 rb, .slice Ac' L.length cc', .int .u64 0, .int .u64 0, .int .i64 0, .int .i64 0, .slice none 0 0, .int .i64 0, .slice none 0 0, .int .i64 0, .bool false, .bool false, .bool false, .int .i64 bc, .int .i64 0, .slice none 0 0]).toArray rfl rfl TT info_run (all_oneCell_toArray (runL2_one rfl)) ?_)
        refine bodyPost_ret (v := runV ⟨⟨op, r, (hk : Int), (yk : Int), a, b, c⟩, bp, ga, ra, rb, .slice Ac' L.length cc', 0, 0, 0, 0, .slice none 0 0, 0, .slice none 0 0, 0, false, false, false, bc, 0, .slice none 0 0⟩) (results_cell_mid rfl _ _ (w.heap.size + 2) [.int .u8 op, .int .u8 r, .int .u8 (hk : Int), .int .u8 (yk : Int), .int .i64 a, .int .i64 b, .int .i64 c, .int .i64 bp, .int .i64 ga, .int .u64 ra, .int .u64 rb, .slice Ac' L.length cc', .int .u64 0, .int .u64 0, .int .i64 0, .int .i64 0, .slice none 0 0, .int .i64 0, .slice none 0 0, .int .i64 0, .bool false, .bool false, .bool false, .int .i64 bc, .int .i64 0, .slice none 0 0] _ rfl R5 Tryz.underlying87 rfl info_run) rfl ?_
        exact ⟨.slice Ac' L.length cc', by show _ = Ending.returned (runV (ofR _ _ _ _ _ _)); rw [E0.out], O5, OB, S5.below⟩
      · skip
        have rbe : rb = 0 := by rw [← HB.out]; unfold regA; rw [if_neg (by omega)]
        subst rbe
        have d3 := (S1.get 2 rfl).cell 3 _ rfl
        have yn : ¬ ((yk : Int) < 4) := by omega
        go_upto_region 6 with (fail)
        have S2 := S1
        have O2 := O1
        clear d3
        have P := S2.get 3 rfl
        have C := S2.get 2 rfl
        have G := S2.get 0 rfl
        have p0 := P.cell 0 _ rfl
        have p1 := P.cell 1 _ rfl
        have p2 := P.cell 2 _ rfl
        have p3 := P.cell 3 _ rfl
        have c0 := C.cell 0 _ rfl
        have c1 := C.cell 1 _ rfl
        have c2 := C.cell 2 _ rfl
        have c3 := C.cell 3 _ rfl
        have c4 := C.cell 4 _ rfl
        have c5 := C.cell 5 _ rfl
        have c6 := C.cell 6 _ rfl
        have x9 := G.cell 9 _ rfl
        have x10 := G.cell 10 _ rfl
        go_wp2_with fail
        refine (refpc_any _ L ra 0 n t i j ⟨op, r, (hk : Int), (yk : Int), a, b, c⟩ _ n1 (hL.below S2.below) w1.1 w1.2 w2.1 w2.2).mono ?_
        rintro z w4 ⟨rfl, k4⟩
        rw [HBE.out]
        have S3 := S2.call k4
        have O3 := O2.below k4
        have x23 := (S3.get 0 rfl).cell 23 _ rfl
        have x7 := (S3.get 0 rfl).cell 7 _ rfl
        have fz := (S3.get 0 rfl).fz
        have S4 := ((S3.put 0 23 rfl (.int .i64 bc) (show 23 < 26 by decide)).put 0 7 rfl (.int .i64 bp) (show 7 < 26 by decide))
        have R4 := range_of S4
        have T4 := there_of (St.swap S4)
        have TT : World.there _ (w.heap.size + 2) 0 26 := T4
        have S5 := St.fill (St.swap S4) [.int .u8 op, .int .u8 r, .int .u8 (hk : Int), .int .u8 (yk : Int), .int .i64 a, .int .i64 b, .int .i64 c, .int .i64 bp, .int .i64 ga, .int .u64 ra, .int .u64 0, .slice Ac' L.length cc', .int .u64 0, .int .u64 0, .int .i64 0, .int .i64 0, .slice none 0 0, .int .i64 0, .slice none 0 0, .int .i64 0, .bool false, .bool false, .bool false, .int .i64 bc, .int .i64 0, .slice none 0 0] rfl
        have R5 := range_of S5
        have O5 := sr_fill (w := (w4.setCell ⟨g, 23, none⟩ (.int .i64 bc)).setCell ⟨g, 7, none⟩ (.int .i64 bp)) (b := w.heap.size + 2) (v := .slice Ac' L.length cc') (L := L) (sr_cell (sr_cell O3 23 _ OG) 7 _ OG) [.int .u8 op, .int .u8 r, .int .u8 (hk : Int), .int .u8 (yk : Int), .int .i64 a, .int .i64 b, .int .i64 c, .int .i64 bp, .int .i64 ga, .int .u64 ra, .int .u64 0, .slice Ac' L.length cc', .int .u64 0, .int .u64 0, .int .i64 0, .int .i64 0, .slice none 0 0, .int .i64 0, .slice none 0 0, .int .i64 0, .bool false, .bool false, .bool false, .int .i64 bc, .int .i64 0, .slice none 0 0] OQ
        go_wp2_with (first
          | refine wpList_load_mid rfl _ _ rfl g 0 rfl [.int .u8 op, .int .u8 r, .int .u8 (hk : Int), .int .u8 (yk : Int), .int .i64 a, .int .i64 b, .int .i64 c, .int .i64 bp, .int .i64 ga, .int .u64 ra, .int .u64 0, .slice Ac' L.length cc', .int .u64 0, .int .u64 0, .int .i64 0, .int .i64 0, .slice none 0 0, .int .i64 0, .slice none 0 0, .int .i64 0, .bool false, .bool false, .bool false, .int .i64 bc, .int .i64 0, .slice none 0 0] _ R4 Tryz.underlying87 rfl info_run ?_
          | refine wpList_store_mid rfl _ _ _ rfl (w.heap.size + 2) 0 ([.int .u8 op, .int .u8 r, .int .u8 (hk : Int), .int .u8 (yk : Int), .int .i64 a, .int .i64 b, .int .i64 c, .int .i64 bp, .int .i64 ga, .int .u64 ra, .int .u64 0, .slice Ac' L.length cc', .int .u64 0, .int .u64 0, .int .i64 0, .int .i64 0, .slice none 0 0, .int .i64 0, .slice none 0 0, .int .i64 0, .bool false, .bool false, .bool false, .int .i64 bc, .int .i64 0, .slice none 0 0]).toArray rfl rfl TT info_run (all_oneCell_toArray (runL2_one rfl)) ?_)
        refine bodyPost_ret (v := runV ⟨⟨op, r, (hk : Int), (yk : Int), a, b, c⟩, bp, ga, ra, 0, .slice Ac' L.length cc', 0, 0, 0, 0, .slice none 0 0, 0, .slice none 0 0, 0, false, false, false, bc, 0, .slice none 0 0⟩) (results_cell_mid rfl _ _ (w.heap.size + 2) [.int .u8 op, .int .u8 r, .int .u8 (hk : Int), .int .u8 (yk : Int), .int .i64 a, .int .i64 b, .int .i64 c, .int .i64 bp, .int .i64 ga, .int .u64 ra, .int .u64 0, .slice Ac' L.length cc', .int .u64 0, .int .u64 0, .int .i64 0, .int .i64 0, .slice none 0 0, .int .i64 0, .slice none 0 0, .int .i64 0, .bool false, .bool false, .bool false, .int .i64 bc, .int .i64 0, .slice none 0 0] _ rfl R5 Tryz.underlying87 rfl info_run) rfl ?_
        exact ⟨.slice Ac' L.length cc', by show _ = Ending.returned (runV (ofR _ _ _ _ _ _)); rw [E0.out], O5, OB, S5.below⟩
    · skip
      have rae : ra = 0 := by rw [← HA.out]; unfold regA; rw [if_neg (by omega)]
      subst rae
      have d2 := (S.get 2 rfl).cell 2 _ rfl
      have hn : ¬ ((hk : Int) < 4) := by omega
      go_upto_region 4 with (fail)
      have S1 := S
      have O1 := O
      clear d2
      by_cases hy4 : yk < 4
      · skip
        have hyr : yk < R.length := by rw [H4.out]; exact hy4
        obtain ⟨gy, oy, ey, _, hcy⟩ := ((hR.below S1.below).at yk hyr)
        subst ey
        have cy := hcy 0 _ rfl
        rw [show oy + (yk * Fina.kU.m + 0) = oy + yk from by simp [Fina.kU]] at cy
        have rbe : rb = R[yk] := by rw [← HB.out, regA_at hy4 hyr]
        rw [← rbe] at cy
        have d3 := (S1.get 2 rfl).cell 3 _ rfl
        have x10 := (S1.get 0 rfl).cell 10 _ rfl
        have fz1 := (S1.get 0 rfl).fz
        have yi : (yk : Int) < ((4 : Nat) : Int) := by omega
        have yi2 : (yk : Int) < 4 := by omega
        clear hcy rbe
        go_upto_region 6 with (fail)
        have S2 := S1.put 0 10 rfl (.int .u64 rb) (show 10 < 26 by decide)
        have O2 := sr_cell O1 10 (.int .u64 rb) OG
        clear cy d3 x10 fz1
        generalize World.setCell _ ⟨g, 10, none⟩ (.int .u64 rb) = X2 at *
        have P := S2.get 3 rfl
        have C := S2.get 2 rfl
        have G := S2.get 0 rfl
        have p0 := P.cell 0 _ rfl
        have p1 := P.cell 1 _ rfl
        have p2 := P.cell 2 _ rfl
        have p3 := P.cell 3 _ rfl
        have c0 := C.cell 0 _ rfl
        have c1 := C.cell 1 _ rfl
        have c2 := C.cell 2 _ rfl
        have c3 := C.cell 3 _ rfl
        have c4 := C.cell 4 _ rfl
        have c5 := C.cell 5 _ rfl
        have c6 := C.cell 6 _ rfl
        have x9 := G.cell 9 _ rfl
        have x10 := G.cell 10 _ rfl
        go_wp2_with fail
        refine (refpc_any _ L 0 rb n t i j ⟨op, r, (hk : Int), (yk : Int), a, b, c⟩ _ n1 (hL.below S2.below) w1.1 w1.2 w2.1 w2.2).mono ?_
        rintro z w4 ⟨rfl, k4⟩
        rw [HBE.out]
        have S3 := S2.call k4
        have O3 := O2.below k4
        have x23 := (S3.get 0 rfl).cell 23 _ rfl
        have x7 := (S3.get 0 rfl).cell 7 _ rfl
        have fz := (S3.get 0 rfl).fz
        have S4 := ((S3.put 0 23 rfl (.int .i64 bc) (show 23 < 26 by decide)).put 0 7 rfl (.int .i64 bp) (show 7 < 26 by decide))
        have R4 := range_of S4
        have T4 := there_of (St.swap S4)
        have TT : World.there _ (w.heap.size + 2) 0 26 := T4
        have S5 := St.fill (St.swap S4) [.int .u8 op, .int .u8 r, .int .u8 (hk : Int), .int .u8 (yk : Int), .int .i64 a, .int .i64 b, .int .i64 c, .int .i64 bp, .int .i64 ga, .int .u64 0, .int .u64 rb, .slice Ac' L.length cc', .int .u64 0, .int .u64 0, .int .i64 0, .int .i64 0, .slice none 0 0, .int .i64 0, .slice none 0 0, .int .i64 0, .bool false, .bool false, .bool false, .int .i64 bc, .int .i64 0, .slice none 0 0] rfl
        have R5 := range_of S5
        have O5 := sr_fill (w := (w4.setCell ⟨g, 23, none⟩ (.int .i64 bc)).setCell ⟨g, 7, none⟩ (.int .i64 bp)) (b := w.heap.size + 2) (v := .slice Ac' L.length cc') (L := L) (sr_cell (sr_cell O3 23 _ OG) 7 _ OG) [.int .u8 op, .int .u8 r, .int .u8 (hk : Int), .int .u8 (yk : Int), .int .i64 a, .int .i64 b, .int .i64 c, .int .i64 bp, .int .i64 ga, .int .u64 0, .int .u64 rb, .slice Ac' L.length cc', .int .u64 0, .int .u64 0, .int .i64 0, .int .i64 0, .slice none 0 0, .int .i64 0, .slice none 0 0, .int .i64 0, .bool false, .bool false, .bool false, .int .i64 bc, .int .i64 0, .slice none 0 0] OQ
        go_wp2_with (first
          | refine wpList_load_mid rfl _ _ rfl g 0 rfl [.int .u8 op, .int .u8 r, .int .u8 (hk : Int), .int .u8 (yk : Int), .int .i64 a, .int .i64 b, .int .i64 c, .int .i64 bp, .int .i64 ga, .int .u64 0, .int .u64 rb, .slice Ac' L.length cc', .int .u64 0, .int .u64 0, .int .i64 0, .int .i64 0, .slice none 0 0, .int .i64 0, .slice none 0 0, .int .i64 0, .bool false, .bool false, .bool false, .int .i64 bc, .int .i64 0, .slice none 0 0] _ R4 Tryz.underlying87 rfl info_run ?_
          | refine wpList_store_mid rfl _ _ _ rfl (w.heap.size + 2) 0 ([.int .u8 op, .int .u8 r, .int .u8 (hk : Int), .int .u8 (yk : Int), .int .i64 a, .int .i64 b, .int .i64 c, .int .i64 bp, .int .i64 ga, .int .u64 0, .int .u64 rb, .slice Ac' L.length cc', .int .u64 0, .int .u64 0, .int .i64 0, .int .i64 0, .slice none 0 0, .int .i64 0, .slice none 0 0, .int .i64 0, .bool false, .bool false, .bool false, .int .i64 bc, .int .i64 0, .slice none 0 0]).toArray rfl rfl TT info_run (all_oneCell_toArray (runL2_one rfl)) ?_)
        refine bodyPost_ret (v := runV ⟨⟨op, r, (hk : Int), (yk : Int), a, b, c⟩, bp, ga, 0, rb, .slice Ac' L.length cc', 0, 0, 0, 0, .slice none 0 0, 0, .slice none 0 0, 0, false, false, false, bc, 0, .slice none 0 0⟩) (results_cell_mid rfl _ _ (w.heap.size + 2) [.int .u8 op, .int .u8 r, .int .u8 (hk : Int), .int .u8 (yk : Int), .int .i64 a, .int .i64 b, .int .i64 c, .int .i64 bp, .int .i64 ga, .int .u64 0, .int .u64 rb, .slice Ac' L.length cc', .int .u64 0, .int .u64 0, .int .i64 0, .int .i64 0, .slice none 0 0, .int .i64 0, .slice none 0 0, .int .i64 0, .bool false, .bool false, .bool false, .int .i64 bc, .int .i64 0, .slice none 0 0] _ rfl R5 Tryz.underlying87 rfl info_run) rfl ?_
        exact ⟨.slice Ac' L.length cc', by show _ = Ending.returned (runV (ofR _ _ _ _ _ _)); rw [E0.out], O5, OB, S5.below⟩
      · skip
        have rbe : rb = 0 := by rw [← HB.out]; unfold regA; rw [if_neg (by omega)]
        subst rbe
        have d3 := (S1.get 2 rfl).cell 3 _ rfl
        have yn : ¬ ((yk : Int) < 4) := by omega
        go_upto_region 6 with (fail)
        have S2 := S1
        have O2 := O1
        clear d3
        have P := S2.get 3 rfl
        have C := S2.get 2 rfl
        have G := S2.get 0 rfl
        have p0 := P.cell 0 _ rfl
        have p1 := P.cell 1 _ rfl
        have p2 := P.cell 2 _ rfl
        have p3 := P.cell 3 _ rfl
        have c0 := C.cell 0 _ rfl
        have c1 := C.cell 1 _ rfl
        have c2 := C.cell 2 _ rfl
        have c3 := C.cell 3 _ rfl
        have c4 := C.cell 4 _ rfl
        have c5 := C.cell 5 _ rfl
        have c6 := C.cell 6 _ rfl
        have x9 := G.cell 9 _ rfl
        have x10 := G.cell 10 _ rfl
        go_wp2_with fail
        refine (refpc_any _ L 0 0 n t i j ⟨op, r, (hk : Int), (yk : Int), a, b, c⟩ _ n1 (hL.below S2.below) w1.1 w1.2 w2.1 w2.2).mono ?_
        rintro z w4 ⟨rfl, k4⟩
        rw [HBE.out]
        have S3 := S2.call k4
        have O3 := O2.below k4
        have x23 := (S3.get 0 rfl).cell 23 _ rfl
        have x7 := (S3.get 0 rfl).cell 7 _ rfl
        have fz := (S3.get 0 rfl).fz
        have S4 := ((S3.put 0 23 rfl (.int .i64 bc) (show 23 < 26 by decide)).put 0 7 rfl (.int .i64 bp) (show 7 < 26 by decide))
        have R4 := range_of S4
        have T4 := there_of (St.swap S4)
        have TT : World.there _ (w.heap.size + 2) 0 26 := T4
        have S5 := St.fill (St.swap S4) [.int .u8 op, .int .u8 r, .int .u8 (hk : Int), .int .u8 (yk : Int), .int .i64 a, .int .i64 b, .int .i64 c, .int .i64 bp, .int .i64 ga, .int .u64 0, .int .u64 0, .slice Ac' L.length cc', .int .u64 0, .int .u64 0, .int .i64 0, .int .i64 0, .slice none 0 0, .int .i64 0, .slice none 0 0, .int .i64 0, .bool false, .bool false, .bool false, .int .i64 bc, .int .i64 0, .slice none 0 0] rfl
        have R5 := range_of S5
        have O5 := sr_fill (w := (w4.setCell ⟨g, 23, none⟩ (.int .i64 bc)).setCell ⟨g, 7, none⟩ (.int .i64 bp)) (b := w.heap.size + 2) (v := .slice Ac' L.length cc') (L := L) (sr_cell (sr_cell O3 23 _ OG) 7 _ OG) [.int .u8 op, .int .u8 r, .int .u8 (hk : Int), .int .u8 (yk : Int), .int .i64 a, .int .i64 b, .int .i64 c, .int .i64 bp, .int .i64 ga, .int .u64 0, .int .u64 0, .slice Ac' L.length cc', .int .u64 0, .int .u64 0, .int .i64 0, .int .i64 0, .slice none 0 0, .int .i64 0, .slice none 0 0, .int .i64 0, .bool false, .bool false, .bool false, .int .i64 bc, .int .i64 0, .slice none 0 0] OQ
        go_wp2_with (first
          | refine wpList_load_mid rfl _ _ rfl g 0 rfl [.int .u8 op, .int .u8 r, .int .u8 (hk : Int), .int .u8 (yk : Int), .int .i64 a, .int .i64 b, .int .i64 c, .int .i64 bp, .int .i64 ga, .int .u64 0, .int .u64 0, .slice Ac' L.length cc', .int .u64 0, .int .u64 0, .int .i64 0, .int .i64 0, .slice none 0 0, .int .i64 0, .slice none 0 0, .int .i64 0, .bool false, .bool false, .bool false, .int .i64 bc, .int .i64 0, .slice none 0 0] _ R4 Tryz.underlying87 rfl info_run ?_
          | refine wpList_store_mid rfl _ _ _ rfl (w.heap.size + 2) 0 ([.int .u8 op, .int .u8 r, .int .u8 (hk : Int), .int .u8 (yk : Int), .int .i64 a, .int .i64 b, .int .i64 c, .int .i64 bp, .int .i64 ga, .int .u64 0, .int .u64 0, .slice Ac' L.length cc', .int .u64 0, .int .u64 0, .int .i64 0, .int .i64 0, .slice none 0 0, .int .i64 0, .slice none 0 0, .int .i64 0, .bool false, .bool false, .bool false, .int .i64 bc, .int .i64 0, .slice none 0 0]).toArray rfl rfl TT info_run (all_oneCell_toArray (runL2_one rfl)) ?_)
        refine bodyPost_ret (v := runV ⟨⟨op, r, (hk : Int), (yk : Int), a, b, c⟩, bp, ga, 0, 0, .slice Ac' L.length cc', 0, 0, 0, 0, .slice none 0 0, 0, .slice none 0 0, 0, false, false, false, bc, 0, .slice none 0 0⟩) (results_cell_mid rfl _ _ (w.heap.size + 2) [.int .u8 op, .int .u8 r, .int .u8 (hk : Int), .int .u8 (yk : Int), .int .i64 a, .int .i64 b, .int .i64 c, .int .i64 bp, .int .i64 ga, .int .u64 0, .int .u64 0, .slice Ac' L.length cc', .int .u64 0, .int .u64 0, .int .i64 0, .int .i64 0, .slice none 0 0, .int .i64 0, .slice none 0 0, .int .i64 0, .bool false, .bool false, .bool false, .int .i64 bc, .int .i64 0, .slice none 0 0] _ rfl R5 Tryz.underlying87 rfl info_run) rfl ?_
        exact ⟨.slice Ac' L.length cc', by show _ = Ending.returned (runV (ofR _ _ _ _ _ _)); rw [E0.out], O5, OB, S5.below⟩
end Go.Proofs.YteakglkagmghpaaGreat.Beg
