/-
  BegL
-/
import Derived.Test.YtbpmnjmegffllaaBegH
import Derived.Test.YtbpmnjmegffllaaBegJ
import Derived.Test.YtbpmnjmegffllaaBegK
import Derived.Test.YtbpmnjmegffllaaBegI
namespace Go.Proofs.Ytbpmnjmegffllaa.Beg
open Go.ChangeShapes Go.WideShapes Go.ChangeAt Go.RowKit
open Go.Proofs.Ytbpmnjmegffllaa.Mod Slic
set_option linter.unusedVariables false
set_option linter.unusedSimpArgs false
set_option maxRecDepth 100000
attribute [local go_sem ↓] Go.wp_at_zero Go.wp_at_succ

theorem wpList_load_want {ops : Array Oper} {rest : List Oper} {op : Oper} {a : Act} {w : World} {Q : Exit → Act → World → Prop} (hw : Region.wanted op (yielded ops a.tmps) = true) (ty : TypeId) (x : Operand) (ho : op.op = .load ty x)
    (b o : Nat) (hx : a.eval x = .pointer (some ⟨b, o, none⟩)) (cs : List Value) (d : TypeDesc) (hc : w.rangeAt b o cs)
    (hu : Try.prog.underlying ty = some d) (hd : d.isRow = true) (hi : (Try.prog.info? ty).map (·.size) = some cs.length)
    (h : wpList Try.prog ops Q rest (a.put op.dst (.agg cs.toArray)) w) : wpList Try.prog ops Q (op :: rest) a w :=
  wpList_step fun K hK => by
    rw [if_pos hw]
    exact wp_load_mid ty x ho b o hx cs d hc hu hd hi (hK _ _ h)
/-- A Run that was told, in a block of one's own. -/
def RunC (w : World) (M : List (Nat × List Value)) (R : Value → Ru) (L : List Chain.E) (s : Value) (wx : World) : Prop := ∃ g ch, s = ptr g ∧ Held.St w wx ((g, (R ch).cells) :: M) ∧ Sr kE wx ch L
theorem cells_one {R : Ru} (h1 : R.ch.oneCell' = true) (h2 : R.li.oneCell' = true) (h3 : R.said.oneCell' = true) (h4 : R.as_.oneCell' = true) : ∀ u ∈ R.cells, u.oneCell' = true := by
  intro u hu
  simp only [Ru.cells, List.mem_cons, List.not_mem_nil, or_false] at hu
  rcases hu with rfl | rfl | rfl | rfl | rfl | rfl | rfl | rfl | rfl | rfl | rfl | rfl | rfl | rfl | rfl | rfl | rfl | rfl | rfl | rfl | rfl | rfl | rfl | rfl | rfl | rfl
  all_goals first | rfl | exact h1 | exact h2 | exact h3 | exact h4
theorem plan4 {w0 W : World} {b : Nat} {n t i j : Int} (A : Held.At w0 W b [.int .i64 n, .int .i64 t, .int .i64 i, .int .i64 j]) : W.cell? ⟨b, 0, none⟩ = some (.int .i64 n) ∧ W.cell? ⟨b, 1, none⟩ = some (.int .i64 t) ∧ W.cell? ⟨b, 2, none⟩ = some (.int .i64 i) ∧ W.cell? ⟨b, 3, none⟩ = some (.int .i64 j) :=
  ⟨A.cell 0 _ rfl, A.cell 1 _ rfl, A.cell 2 _ rfl, A.cell 3 _ rfl⟩
/-- Fewer blocks. -/
theorem St.sub {w0 W : World} {L M : List (Nat × List Value)} (S : Held.St w0 W L) (h : M.Sublist L) : Held.St w0 W M := ⟨S.below, fun x hx => S.at_ x (h.subset hx), (h.map _).nodup S.nd⟩
theorem St.one {w0 W : World} {x y : Nat × List Value} {M : List (Nat × List Value)} (S : Held.St w0 W (x :: y :: M)) : Held.St w0 W (x :: M) := St.sub S ((List.sublist_cons_self y M).cons_cons x)
theorem rows4 {w0 W : World} {b : Nat} {x0 x1 x2 x3 : Int} (A : Held.At w0 W b [.int .u64 x0, .int .u64 x1, .int .u64 x2, .int .u64 x3]) : Sr Fina.kU W (.slice (some ⟨b, 0, none⟩) 4 4) [x0, x1, x2, x3] := by
  refine ⟨_, 4, rfl, Nat.le_refl _, by show 4 ≤ maxLen; decide, fun e => (by cases e), fun _ => ⟨b, 0, rfl, A.lt, fun i j u hi hu => ?_⟩⟩
  have hj : j = 0 := by
    rcases Nat.lt_or_ge j 1 with k | k
    · omega
    · rw [List.getElem?_eq_none (by simpa [Fina.kU] using k)] at hu; cases hu
  subst hj
  have hi : i < 4 := hi
  have : i = 0 ∨ i = 1 ∨ i = 2 ∨ i = 3 := by omega
  rcases this with rfl | rfl | rfl | rfl
  · simp [Fina.kU] at hu ⊢
    subst hu
    exact A.cell 0 _ rfl
  · simp [Fina.kU] at hu ⊢
    subst hu
    exact A.cell 1 _ rfl
  · simp [Fina.kU] at hu ⊢
    subst hu
    exact A.cell 2 _ rfl
  · simp [Fina.kU] at hu ⊢
    subst hu
    exact A.cell 3 _ rfl
theorem tellR_any (R : Ru) (L : List Chain.E) (LI SA : List Int) (code n : Int) (w : World) (hC : Sr kE w R.ch L) (hI : Sr Fina.kI w R.li LI) (hS : Sr Fina.kI w R.said SA) (hA : R.as_.oneCell' = true) (lL : L.length ≤ 100000) (lI : LI.length ≤ 100000) (lS : SA.length ≤ 100000) :
    Calls Try.prog 34 #[runV R, .int .i64 code, .int .i64 n] w (TellD w R L LI SA code n) := by
  obtain ⟨⟨op, r, h, y, a, b, c⟩, pc, area, hand, val, ch, word, next, at_, top, li, o, said, m, he, d, p, cd, an, as_⟩ := R
  exact tell_any op r h y a b c pc area hand val ch word next at_ top li o said m he d p cd an as_ L LI SA code n w hC hI hS hA lL lI lS
theorem sr_set {w : World} {v : Value} {L : List Chain.E} (h : Sr kE w v L) {b : Nat} (us : List Value) (hne : ∀ g, v.ownBlock = some g → g ≠ b) : Sr kE (w.setCells b 0 us) v L := sr_fill h us fun e => hne b e rfl
theorem sr_lt {α : Type} {K : Kd α} {w : World} {v : Value} {L : List α} (h : Slic.Own K w 0 v L) : ∀ g, v.ownBlock = some g → g < w.heap.size := fun g e => (h.lt g e).2

def shR (ch : Value) : Ru := ⟨⟨5, 0, 0, 0, 0, 0, 0⟩, 0, 0, 0, 0, ch, 0, 0, 0, 0, .slice none 0 0, 0, .slice none 0 0, 0, false, false, false, 23, 0, .slice none 0 0⟩
def shT (ch li sa as_ : Value) : Ru := ⟨⟨5, 0, 0, 0, 0, 0, 0⟩, 0, 0, 0, 0, ch, 0, 0, 0, 0, li, 0, sa, 0, false, true, true, 23, 0, as_⟩
theorem tell_sh (c0 ch li sa as_ : Value) : runV ⟨(shR c0).c, (shR c0).pc, (shR c0).area, (shR c0).hand, (shR c0).val, ch, (shR c0).word, (shR c0).next, (shR c0).at_, (shR c0).top, li, (shR c0).op, sa, (shR c0).n, (shR c0).held, true, true, 23, 0, as_⟩ = runV (shT ch li sa as_) := rfl
theorem shown_of (ch : Value) : ofR ⟨5, 0, 0, 0, 0, 0, 0⟩ (begV 2 [] ⟨5, 0, 0, 0, 0, 0, 0⟩ (regA [0, 0, 0, 0] 0) (regA [0, 0, 0, 0] 0)) (Chain.areaV []) (regA [0, 0, 0, 0] 0) (regA [0, 0, 0, 0] 0) ch = shR ch := by rfl

theorem sr_nil0 {w w' : World} {A : Option Addr} {c : Nat} (h : Sr kE w (.slice A 0 c) []) : Sr kE w' (.slice A 0 c) [] := by
  obtain ⟨A', c', e, h1, h2, h3, _⟩ := h
  injection e with e1 e2 e3
  subst e1 e3
  exact ⟨_, _, rfl, h1, h2, h3, fun hp => absurd hp (Nat.lt_irrefl 0)⟩
theorem zeros_wf : ∀ x ∈ [(0 : Int), 0, 0, 0], wf64 x := fun x hx => by
  simp at hx
  subst hx
  unfold wf64
  omega
theorem mk4 (W : World) : (Instr.makeSlice 42 (.int .i64 4) (.int .i64 4)).run Try.prog W = .ok (.slice (some ⟨W.heap.size, 0, none⟩) 4 4) (W.alloc (.cells #[.int .u64 0, .int .u64 0, .int .u64 0, .int .u64 0] 33)) := by
  obtain ⟨i0, hi, hz0, hz1, hz2⟩ := info_parts Fina.kU.info
  have e : madeCells #[Value.int .u64 0] 4 = #[.int .u64 0, .int .u64 0, .int .u64 0, .int .u64 0] := by kernel_rfl
  have := run_make_row 42 33 i0 (.int .u64 0) Fina.kU.under hi hz0 hz1 rfl .i64 .i64 4 (by rw [hz2]; show 8 * 4 ≤ _; omega) (by omega) W
  rw [e] at this
  exact this
set_option maxHeartbeats 3000000 in
theorem shown13_any (w : World) : Calls Try.prog 21 #[] w fun e w' => e = .returned (.bool true) ∧ Below w.heap.size w w' := by
  have S0 := (Held.St.start w).new [.int .i64 2, .int .i64 1, .int .i64 0, .int .i64 0] 23
  go_enter Try.func21, Try.ntmps21
  have mk := mk4
  obtain ⟨W, hW⟩ : ∃ W : World, W = w.alloc (.cells [.int .i64 2, .int .i64 1, .int .i64 0, .int .i64 0].toArray 23) := ⟨_, rfl⟩
  rw [← hW] at S0
  go_upto_region 2 with (fail)
  rw [show w.alloc (.cells #[.int .i64 2, .int .i64 1, .int .i64 0, .int .i64 0] 23) = W from hW.symm]
  clear hW
  go_cut [2] (fun s wx => RunC w [(w.heap.size, [.int .i64 2, .int .i64 1, .int .i64 0, .int .i64 0])] shR [] s wx)
  case first =>
    refine wp_region_held_drew (S := (fun W' => W'.cell? ⟨w.heap.size, 0, none⟩ = some (.int .i64 2) ∧ W'.cell? ⟨w.heap.size, 1, none⟩ = some (.int .i64 1) ∧ W'.cell? ⟨w.heap.size, 2, none⟩ = some (.int .i64 0) ∧ W'.cell? ⟨w.heap.size, 3, none⟩ = some (.int .i64 0))) (by kernel_rfl) ?_ (fun hHeld => ?_)
    · exact plan4 (S0.drew.get 0 rfl)
    refine wpAnyH_take (i := 0) (oi := ⟨some 5, _, _, _, _, _⟩) (v := ?_) rfl (by kernel_rfl) (by kernel_rfl) (by kernel_rfl) (fun _ _ _ h => h) (Or.inl ⟨by kernel_rfl, ?_⟩) (by assumption) ?_
    rotate_left
    · intro w hSw
      try dsimp only at hSw
      first | (go_simp; done) | (go_simp; with_reducible rfl) | with_reducible rfl
    simp only [Act.put, List.setIfInBounds_toArray, List.set_cons_zero, List.set_cons_succ]
    refine wpAnyH_take (i := 2) (oi := ⟨some 7, _, _, _, _, _⟩) (v := ?_) rfl (by kernel_rfl) (by kernel_rfl) (by kernel_rfl) (fun _ _ _ h => h) (Or.inl ⟨by kernel_rfl, ?_⟩) (by assumption) ?_
    rotate_left
    · intro w hSw
      try dsimp only at hSw
      first | (go_simp; done) | (go_simp; with_reducible rfl) | with_reducible rfl
    simp only [Act.put, List.setIfInBounds_toArray, List.set_cons_zero, List.set_cons_succ]
    refine wpAnyH_ready (rs := [1, 4]) (by kernel_rfl) (by simp) ?_
    refine AllReadyH.cons (o := ⟨some 6, _, _, _, _, _⟩) rfl (fun K hK => ?_) (AllReadyH.cons (o := ⟨some 2, _, _, _, _, _⟩) rfl (fun K hK => ?_) AllReadyH.nil)
    · skip
      go_simp
      refine hK.out _ _ ?_ (fun hHeld => ?_)
      · exact plan4 ((S0.drew.new [.int .u64 0, .int .u64 0, .int .u64 0, .int .u64 0] 33).get 1 rfl)
      clear hK K
      refine wpAnyH_ready (rs := [3, 4]) (by kernel_rfl) (by simp) ?_
      refine AllReadyH.cons (o := ⟨some 8, _, _, _, _, _⟩) rfl (fun K hK => ?_) (AllReadyH.cons (o := ⟨some 2, _, _, _, _, _⟩) rfl (fun K hK => ?_) AllReadyH.nil)
      · skip
        have RZ := rows4 ((S0.drew.new [.int .u64 0, .int .u64 0, .int .u64 0, .int .u64 0] 33).get 0 rfl)
        try simp only [World.size_alloc] at RZ
        go_simp
        refine (of_any _ _ [] [0, 0, 0, 0] 2 1 0 0 5 0 0 0 0 0 0 _ (by decide) (by decide) RZ rfl zeros_wf (Chain.Sr.nil _) (by decide) (by decide) (by decide) (by decide) (by decide)).mono ?_
        rintro e wq ⟨ch, rfl, O, OB, k⟩
        rw [shown_of ch]
        obtain ⟨Au, cu, rfl, _, _⟩ := O.form
        refine hK.out _ _ ?_ (fun hHeld => ?_)
        · exact plan4 (((S0.drew.new [.int .u64 0, .int .u64 0, .int .u64 0, .int .u64 0] 33).call k).get 1 rfl)
        clear hK K
        refine wpAnyH_ready (rs := [4]) (by kernel_rfl) (by simp) ?_
        refine AllReadyH.cons (o := ⟨some 2, _, _, _, _, _⟩) rfl (fun K hK => ?_) AllReadyH.nil
        go_simp
        refine hK.out _ _ ?_ (fun hHeld => ?_)
        · exact plan4 ((((S0.drew.new [.int .u64 0, .int .u64 0, .int .u64 0, .int .u64 0] 33).call k).new zR 53).get 2 rfl)
        clear hK K
        refine wpAnyH_ready (rs := [5]) (by kernel_rfl) (by simp) ?_
        refine AllReadyH.cons (o := ⟨none, _, _, _, _, _⟩) rfl (fun K hK => ?_) AllReadyH.nil
        have AA := (((S0.drew.new [.int .u64 0, .int .u64 0, .int .u64 0, .int .u64 0] 33).call k).new zR 53)
        try simp only [World.size_alloc] at AA
        have AF := St.fill AA (shR (.slice Au 0 cu)).cells rfl
        have TT : World.there _ _ 0 26 := there_of AA
        rw [if_pos (by rfl)]
        refine wp_store_mid _ _ _ rfl _ 0 (shR (.slice Au 0 cu)).cells.toArray rfl rfl TT info_run (all_oneCell_toArray (cells_one rfl rfl rfl rfl)) ?_
        simp only [Act.put]
        refine hK.out _ _ ?_ (fun hHeld => ?_)
        · exact plan4 (AF.get 2 rfl)
        clear hK K
        refine wpAnyH_done (by kernel_rfl) ?_ _
        go_wp2_with fail
        go_meet
        exact ⟨_, .slice Au 0 cu, rfl, St.one AF, sr_nil0 O⟩
      · skip
        go_simp
        refine hK.out _ _ ?_ (fun hHeld => ?_)
        · exact plan4 (((S0.drew.new [.int .u64 0, .int .u64 0, .int .u64 0, .int .u64 0] 33).new zR 53).get 2 rfl)
        clear hK K
        refine wpAnyH_ready (rs := [3]) (by kernel_rfl) (by simp) ?_
        refine AllReadyH.cons (o := ⟨some 8, _, _, _, _, _⟩) rfl (fun K hK => ?_) AllReadyH.nil
        have RZ := rows4 (((S0.drew.new [.int .u64 0, .int .u64 0, .int .u64 0, .int .u64 0] 33).new zR 53).get 1 rfl)
        try simp only [World.size_alloc] at RZ
        go_simp
        refine (of_any _ _ [] [0, 0, 0, 0] 2 1 0 0 5 0 0 0 0 0 0 _ (by decide) (by decide) RZ rfl zeros_wf (Chain.Sr.nil _) (by decide) (by decide) (by decide) (by decide) (by decide)).mono ?_
        rintro e wq ⟨ch, rfl, O, OB, k⟩
        rw [shown_of ch]
        obtain ⟨Au, cu, rfl, _, _⟩ := O.form
        refine hK.out _ _ ?_ (fun hHeld => ?_)
        · exact plan4 ((((S0.drew.new [.int .u64 0, .int .u64 0, .int .u64 0, .int .u64 0] 33).new zR 53).call k).get 2 rfl)
        clear hK K
        refine wpAnyH_ready (rs := [5]) (by kernel_rfl) (by simp) ?_
        refine AllReadyH.cons (o := ⟨none, _, _, _, _, _⟩) rfl (fun K hK => ?_) AllReadyH.nil
        have AA := (((S0.drew.new [.int .u64 0, .int .u64 0, .int .u64 0, .int .u64 0] 33).new zR 53).call k)
        try simp only [World.size_alloc] at AA
        have AF := St.fill AA (shR (.slice Au 0 cu)).cells rfl
        have TT : World.there _ _ 0 26 := there_of AA
        rw [if_pos (by rfl)]
        refine wp_store_mid _ _ _ rfl _ 0 (shR (.slice Au 0 cu)).cells.toArray rfl rfl TT info_run (all_oneCell_toArray (cells_one rfl rfl rfl rfl)) ?_
        simp only [Act.put]
        refine hK.out _ _ ?_ (fun hHeld => ?_)
        · exact plan4 (AF.get 2 rfl)
        clear hK K
        refine wpAnyH_done (by kernel_rfl) ?_ _
        go_wp2_with fail
        go_meet
        exact ⟨_, .slice Au 0 cu, rfl, St.one AF, sr_nil0 O⟩
    · skip
      go_simp
      refine hK.out _ _ ?_ (fun hHeld => ?_)
      · exact plan4 ((S0.drew.new zR 53).get 1 rfl)
      clear hK K
      refine wpAnyH_ready (rs := [1]) (by kernel_rfl) (by simp) ?_
      refine AllReadyH.cons (o := ⟨some 6, _, _, _, _, _⟩) rfl (fun K hK => ?_) AllReadyH.nil
      go_simp
      refine hK.out _ _ ?_ (fun hHeld => ?_)
      · exact plan4 (((S0.drew.new zR 53).new [.int .u64 0, .int .u64 0, .int .u64 0, .int .u64 0] 33).get 2 rfl)
      clear hK K
      refine wpAnyH_ready (rs := [3]) (by kernel_rfl) (by simp) ?_
      refine AllReadyH.cons (o := ⟨some 8, _, _, _, _, _⟩) rfl (fun K hK => ?_) AllReadyH.nil
      have RZ := rows4 (((S0.drew.new zR 53).new [.int .u64 0, .int .u64 0, .int .u64 0, .int .u64 0] 33).get 0 rfl)
      try simp only [World.size_alloc] at RZ
      go_simp
      refine (of_any _ _ [] [0, 0, 0, 0] 2 1 0 0 5 0 0 0 0 0 0 _ (by decide) (by decide) RZ rfl zeros_wf (Chain.Sr.nil _) (by decide) (by decide) (by decide) (by decide) (by decide)).mono ?_
      rintro e wq ⟨ch, rfl, O, OB, k⟩
      rw [shown_of ch]
      obtain ⟨Au, cu, rfl, _, _⟩ := O.form
      refine hK.out _ _ ?_ (fun hHeld => ?_)
      · exact plan4 ((((S0.drew.new zR 53).new [.int .u64 0, .int .u64 0, .int .u64 0, .int .u64 0] 33).call k).get 2 rfl)
      clear hK K
      refine wpAnyH_ready (rs := [5]) (by kernel_rfl) (by simp) ?_
      refine AllReadyH.cons (o := ⟨none, _, _, _, _, _⟩) rfl (fun K hK => ?_) AllReadyH.nil
      have AA := (St.swap (((S0.drew.new zR 53).new [.int .u64 0, .int .u64 0, .int .u64 0, .int .u64 0] 33).call k))
      try simp only [World.size_alloc] at AA
      have AF := St.fill AA (shR (.slice Au 0 cu)).cells rfl
      have TT : World.there _ _ 0 26 := there_of AA
      rw [if_pos (by rfl)]
      refine wp_store_mid _ _ _ rfl _ 0 (shR (.slice Au 0 cu)).cells.toArray rfl rfl TT info_run (all_oneCell_toArray (cells_one rfl rfl rfl rfl)) ?_
      simp only [Act.put]
      refine hK.out _ _ ?_ (fun hHeld => ?_)
      · exact plan4 (AF.get 2 rfl)
      clear hK K
      refine wpAnyH_done (by kernel_rfl) ?_ _
      go_wp2_with fail
      go_meet
      exact ⟨_, .slice Au 0 cu, rfl, St.one AF, sr_nil0 O⟩
  case rest =>
    obtain ⟨g, ch, rfl, S, O⟩ := hcut
    obtain ⟨A1, c1, rfl, _, _⟩ := O.form
    have R0 := range_of S
    go_upto_region 3 with (fail)
    go_wp2_with (refine wpList_load_mid rfl _ _ rfl g 0 rfl (shR (.slice A1 0 c1)).cells _ R0 Try.underlying53 rfl info_run ?_)
    refine (tellR_any (shR (.slice A1 0 c1)) [] [] [] 23 0 _ O (Sr.nil _) (Sr.nil _) rfl (by decide) (by decide) (by decide)).mono ?_
    rintro z w2 ⟨ch2, li2, sa2, as2, rfl, O2, I2, S2, T2, k2⟩
    rw [tell_sh]
    obtain ⟨B1, d1, rfl, _, _⟩ := O2.form
    obtain ⟨B2, d2, rfl, _, _⟩ := I2.form
    obtain ⟨B3, d3, rfl, _, _⟩ := S2.form
    obtain ⟨B4, d4, rfl, _, _⟩ := T2.form
    dsimp only [List.length_nil] at *
    obtain ⟨CS, hCS⟩ : ∃ CS : List Value, (shT (.slice B1 0 d1) (.slice B2 0 d2) (.slice B3 0 d3) (.slice B4 0 d4)).cells = CS := ⟨_, rfl⟩
    have CE : runV (shT (.slice B1 0 d1) (.slice B2 0 d2) (.slice B3 0 d3) (.slice B4 0 d4)) = .agg CS.toArray := by rw [← hCS]; rfl
    rw [CE]
    have L26 : CS.length = 26 := by rw [← hCS]; rfl
    have ONE : ∀ u ∈ CS, u.oneCell' = true := by rw [← hCS]; exact cells_one rfl rfl rfl rfl
    have SN := (S.call k2).new zR 53
    have TT : World.there (w2.alloc (.cells zR.toArray 53)) w2.heap.size 0 CS.toArray.size := by rw [show CS.toArray.size = 26 from L26]; exact there_of SN
    have IR : (Try.prog.info? 53).map (·.size) = some CS.toArray.size := by rw [show CS.toArray.size = 26 from L26]; exact info_run
    have SF := St.fill SN CS L26
    have x7 := (SF.get 1 rfl).cell 7 _ rfl
    have x23 := (SF.get 1 rfl).cell 23 _ rfl
    have y21 := (SF.get 0 rfl).cell 21 (.bool true) (by rw [← hCS]; rfl)
    have y22 := (SF.get 0 rfl).cell 22 (.bool true) (by rw [← hCS]; rfl)
    have HL := Lib.hid L26
    have HO := Lib.hid ONE
    clear CE hCS L26 ONE
    go_wp2_with (refine wpList_store_mid rfl _ _ _ rfl w2.heap.size 0 CS.toArray rfl rfl TT IR (all_oneCell_toArray HO.out) ?_)
    go_ret
    exact ⟨rfl, SF.below⟩
end Go.Proofs.Ytbpmnjmegffllaa.Beg
