/-
  penfoldlaw14.FoundPlays returns true for every four integers (a plan) and every row of Ops, and changes nothing that was there; no condition.
-/
import Derived.Test.YteakglkagmghpaaGreatRows
import Derived.Test.YteakglkagmghpaaGreatBase
import Derived.Test.YteakglkagmghpaaGreatFoy
import Derived.Deep.DeepCutAuto
namespace Go.Proofs.YteakglkagmghpaaGreat.foundPlays
open Go.ChangeShapes Go.WideShapes Go.ChangeAt Go.RowKit
set_option linter.unusedVariables false

open Go.Proofs.YteakglkagmghpaaGreat.Fou Sco Amem Go.Proofs.YteakglkagmghpaaGreat.Beg Go.Proofs.YteakglkagmghpaaGreat.Mod Gm
attribute [local go_sem ↓] Go.wp_at_zero Go.wp_at_succ
theorem there_len {w0 W : World} {b m : Nat} {vs : List Value} (A : Held.At w0 W b vs) (h : vs.length = m) : W.there b 0 m := h ▸ at_there A
theorem keepS {w0 W : World} {L : List (Nat × List Value)} {bP b o : Nat} {n t i j v : Int} {mk : Bool} (S : Held.St w0 W L) (A : Held.At w0 W bP [.int .i64 n, .int .i64 t, .int .i64 i, .int .i64 j]) (hb : b < w0.heap.size) (x0 : w0.cell? ⟨b, o, none⟩ = some (.bool mk)) (x1 : w0.cell? ⟨b, o + 1, none⟩ = some (.int .i64 v)) :
    (W.cell? ⟨bP, 0, none⟩ = some (.int .i64 n) ∧ W.cell? ⟨bP, 1, none⟩ = some (.int .i64 t) ∧ W.cell? ⟨bP, 2, none⟩ = some (.int .i64 i) ∧ W.cell? ⟨bP, 3, none⟩ = some (.int .i64 j)) ∧ W.cell? ⟨b, o, none⟩ = some (.bool mk) ∧ W.cell? ⟨b, o + 1, none⟩ = some (.int .i64 v) :=
  ⟨plan4 A, (S.below.cell (p := ⟨b, o, none⟩) hb).trans x0, (S.below.cell (p := ⟨b, o + 1, none⟩) hb).trans x1⟩
theorem runs_all' {A : Int} {n : Nat} (hn : 0 < n) : runs A (fun _ => true) n = [(A, 8 * (n : Int))] := by
  symm
  refine eq_runs (lo := A) ⟨Int.le_refl _, by show 0 < 8 * (n : Int); omega, trivial⟩ fun p => ?_
  rw [mem_cons]
  constructor
  · rintro (m | m)
    · exact ⟨m.1, m.2, rfl⟩
    · exact absurd m (mem_nil p)
  · rintro ⟨m1, m2, _⟩
    exact .inl ⟨m1, m2⟩
theorem start_runs' (n N : Nat) (A I J : Int) : (Sco.start n A (8 * (N : Int)) I J).L = runs A (fun _ => true) N := by
  unfold Sco.start
  by_cases h : N = 0
  · subst h
    rfl
  · rw [runs_all' (by omega)]
    simp only [show 0 < 8 * (N : Int) by omega, if_true]
/-- Behind 'r := begun(..)'. -/
def StP (w0 : World) (L : List (Nat × List Value)) (P : Pn) (G : Nat) (f : Nat → Int) (F : Fo) (Q : Ql) (c : Ca) (be : Be) (s : Value) (wx : World) : Prop :=
  ∃ gB CS A d, s = .pointer (some ⟨gB, 0, none⟩) ∧ Wp w0 wx ((gB, CS) :: L) P G f F Q f F ∧ CS = (ofR c be 0 0 0 (.slice A 0 d)).cells ∧ Slic.Sr kE wx (.slice A 0 d) [] ∧ ∀ b, (Value.slice A 0 d).ownBlock = some b → b ∉ [P.g, G]

set_option maxRecDepth 100000 in
set_option maxHeartbeats 8000000 in
theorem walk (q0 q1 q2 q3 : Int) (lA : Option Addr) (ln lc : Nat) (lz : Nat → Nat → Int) (w : World) (wq0 : (Lit.int .i64 q0).wf = true) (wq1 : (Lit.int .i64 q1).wf = true) (wq2 : (Lit.int .i64 q2).wf = true) (wq3 : (Lit.int .i64 q3).wf = true) (hl : Args.PRecs [none, some .i64] w lA ln lz) :
    Calls Tryz.prog 5 #[.agg #[.int .i64 q0, .int .i64 q1, .int .i64 q2, .int .i64 q3], .slice lA ln lc] w fun e w' => e = .returned (.bool true) ∧ Below w.heap.size w w' := by
  obtain ⟨n, t, i, hp, ⟨b1, b2, b3, b4, b5, b6, b7, b8, b9, b10⟩, FT⟩ := Plan.fit_all q0 q1 q2 q3
  have hr : Plan.rightB n t i hp = true := decide_eq_true (by omega)
  obtain ⟨n, rfl⟩ := Int.eq_ofNat_of_zero_le (show 0 ≤ n by omega)
  obtain ⟨M, hM⟩ : ∃ M : Nat, hp = 8 * (M : Int) := ⟨(hp / 8).toNat, by omega⟩
  clear wq0 wq1 wq2 wq3
  have S0 := (Held.St.start w).new [.int .i64 q0, .int .i64 q1, .int .i64 q2, .int .i64 q3] 23
  have HR := Lib.hid hr
  have HM := Lib.hid hM
  clear hr hM
  go_enter Tryz.func5, Tryz.ntmps5
  go_wp2_with fail
  refine (shown14_any _).mono ?_
  rintro z w1 ⟨rfl, k1⟩
  have S1 := S0.call k1
  obtain ⟨_, c0, c1, c2, c3⟩ := S1.get4 0 rfl
  go_wp2_with fail
  refine (FT _).mono ?_
  rintro z w2 ⟨rfl, k2⟩
  have S2 := (S1.call k2).new [.int .i64 (n : Int), .int .i64 t, .int .i64 i, .int .i64 hp] 23
  clear c0 c1 c2 c3
  obtain ⟨_, c0, c1, c2, c3⟩ := S2.get4 0 rfl
  go_wp2_with fail
  refine (new_ok _ n t i hp HR.out).mono ?_
  rintro z w3 ⟨B, g, G, rfl, h3, k3, l1, l2, l3⟩
  have S3 := Wk.start S2 k3 h3 l2 l3
  have R := newpr HR.out B g g
  clear c0 c1 c2 c3
  obtain ⟨_, c0, c1, c2, c3⟩ := S3.st.get4 0 rfl
  go_wp2_with fail
  refine (anew_ok (P := ⟨n, t, i, hp, B, g, sizeN n i hp, g⟩) _ R M HM.out).mono ?_
  rintro z w4 ⟨Q, rfl, hQM, al, k4, ow⟩
  have lg := S3.fd.ar.body.lt
  have lG := S3.fd.gr.lt
  have lw3 := S3.st.below.size
  have SB : Wp w w4 [(w2.heap.size, [.int .i64 (n : Int), .int .i64 t, .int .i64 i, .int .i64 hp]), (w.heap.size, [.int .i64 q0, .int .i64 q1, .int .i64 q2, .int .i64 q3])] ⟨n, t, i, hp, B, g, sizeN n i hp, g⟩ G (Go.Proofs.YteakglkagmghpaaGreat.Fou.newW n i) (Sco.start n (64 * (n : Int) + i) hp (64 * (n : Int)) i) Q (Go.Proofs.YteakglkagmghpaaGreat.Fou.newW n i) (Sco.start n (64 * (n : Int) + i) hp (64 * (n : Int)) i) :=
    ⟨S3.call k4, ⟨_, al, by rw [hQM, HM.out]; exact start_runs' n M (64 * (n : Int) + i) (64 * (n : Int)) i⟩, ⟨Nat.le_trans lw3 (ow Q.g (by simp)), Nat.le_trans lw3 (ow Q.gw (by simp))⟩, fun y hy => by
      have g1 := ow Q.g (by simp)
      have g2 := ow Q.gw (by simp)
      have := (S3.st.at_ y hy).lt
      exact ⟨by omega, by omega⟩⟩
  have HQM := Lib.hid hQM
  obtain ⟨N, hNN⟩ : ∃ N, sizeN n i hp = N := ⟨_, rfl⟩
  obtain ⟨f0, hf⟩ : ∃ f0, Go.Proofs.YteakglkagmghpaaGreat.Fou.newW n i = f0 := ⟨_, rfl⟩
  obtain ⟨F0, hF⟩ : ∃ F0, Sco.start n (64 * (n : Int) + i) hp (64 * (n : Int)) i = F0 := ⟨_, rfl⟩
  have nGg : ∀ b, w4.heap.size ≤ b → b ∈ [g, G] → False := fun b hb hm => by
    have l9 := k4.size
    rcases List.mem_cons.1 hm with rfl | hm
    · dsimp only at lg; omega
    · rw [List.mem_singleton.1 hm] at hb; omega
  have N8 : N ≤ 8191 := by have := R.hN; rw [hNN] at this; dsimp only at this; omega
  have HP8 : 8 * n ≤ N := by have := R.b.2.2.1; rw [hNN] at this; exact this
  rw [hNN] at R SB
  rw [hf, hF] at SB
  have HN8 := Lib.hid N8
  have HGG := Lib.hid nGg
  have HMP : Hid (∀ P : Pn, P.j = hp → P.j = 8 * (Q.M : Int)) := Lib.hid (fun P h => by rw [h, HM.out, HQM.out])
  obtain ⟨bP, hbP⟩ : ∃ bP : Nat, bP = w2.heap.size := ⟨_, rfl⟩
  rw [← hbP] at SB
  clear hNN hf hF h3 S3 al lg lG lw3 nGg c0 c1 c2 c3 l1 l2 l3 hQM ow N8
  go_wp2_with fail
  rw [← hbP]
  clear hbP
  go_loopw [11] (fun t' wr => ∃ (k : Nat) (f : Nat → Int) (F : Fo), k ≤ 40 ∧ k ≤ ln ∧ t' = .int .i64 (k : Int) ∧ Wp w wr [(bP, [.int .i64 (n : Int), .int .i64 t, .int .i64 i, .int .i64 hp]), (w.heap.size, [.int .i64 q0, .int .i64 q1, .int .i64 q2, .int .i64 q3])] ⟨n, t, i, hp, B, g, N, g⟩ G f F Q f F ∧ w4.heap.size ≤ wr.heap.size) (fun t' _ => 40 - (intOf t').toNat)
  case atStart => exact ⟨0, f0, F0, by omega, by omega, rfl, SB, Nat.le_refl _⟩
  case round =>
    clear SB
    obtain ⟨k, f, F, hk, hkl, rfl, S5, l5⟩ := hrel
    by_cases hln : k < ln
    · by_cases h40 : k < 40
      · obtain ⟨b, o, mk, rfl, hb, x0, x1, z1, z2⟩ := op_at hl k hln
        obtain ⟨v, hv⟩ : ∃ v, lz k 1 = v := ⟨_, rfl⟩
        rw [hv] at x1 z1 z2
        rw [show o + (k * 2 + 1) = o + k * 2 + 1 from rfl] at x1
        clear hv
        obtain ⟨be, hbe⟩ : ∃ be : Be, (if opB n mk v = true then ⟨0, 1⟩ else ⟨11, 0⟩ : Be) = be := ⟨_, rfl⟩
        have BE := Lib.hid hbe
        have nGg : ∀ b, wr.heap.size ≤ b → b ∈ [g, G] → False := fun b hb hm => HGG.out b (Nat.le_trans l5 hb) hm
        obtain ⟨W5, hW5⟩ : ∃ W : World, W = wr := ⟨_, rfl⟩
        rw [← hW5] at S5 l5 nGg
        have i0 : (0 : Int) ≤ (k : Int) := by omega
        have i1 : (k : Int) < (ln : Int) := by omega
        clear hbe
        go_upto_region 10 with (fail)
        rw [← hW5]
        clear hW5
        go_cut [12] (fun s wx => StP w [(bP, [.int .i64 (n : Int), .int .i64 t, .int .i64 i, .int .i64 hp]), (w.heap.size, [.int .i64 q0, .int .i64 q1, .int .i64 q2, .int .i64 q3])] ⟨n, t, i, hp, B, g, N, g⟩ G f F Q (opC mk v) be s wx ∧ W5.heap.size ≤ wx.heap.size)
        case first =>
          refine wp_region_held_drew (S := (fun W' => ((W'.cell? ⟨bP, 0, none⟩ = some (.int .i64 (n : Int)) ∧ W'.cell? ⟨bP, 1, none⟩ = some (.int .i64 t) ∧ W'.cell? ⟨bP, 2, none⟩ = some (.int .i64 i) ∧ W'.cell? ⟨bP, 3, none⟩ = some (.int .i64 hp)) ∧ W'.cell? ⟨b, o + k * 2, none⟩ = some (.bool mk) ∧ W'.cell? ⟨b, o + k * 2 + 1, none⟩ = some (.int .i64 v)))) (by kernel_rfl) ?_ (fun hHeld => ?_)
          · exact keepS S5.drew.wk.st (S5.drew.wk.st.get 0 rfl) hb x0 x1
          refine wpAnyH_take (i := 0) (oi := ⟨some 67, _, _, _, _, _⟩) (v := ?_) rfl (by kernel_rfl) (by kernel_rfl) (by kernel_rfl) (fun _ _ _ h => h) (Or.inl ⟨by kernel_rfl, ?_⟩) (by assumption) ?_
          rotate_left
          · intro w hSw
            try dsimp only at hSw
            first | (go_simp; done) | (go_simp; with_reducible rfl) | with_reducible rfl
          simp only [Act.put, List.setIfInBounds_toArray, List.set_cons_zero, List.set_cons_succ]
          refine wpAnyH_take (i := 1) (oi := ⟨some 68, _, _, _, _, _⟩) (v := ?_) rfl (by kernel_rfl) (by kernel_rfl) (by kernel_rfl) (fun _ _ _ h => h) (Or.inl ⟨by kernel_rfl, ?_⟩) (by assumption) ?_
          rotate_left
          · intro w hSw
            try dsimp only at hSw
            first | (go_simp; done) | (go_simp; with_reducible rfl) | with_reducible rfl
          simp only [Act.put, List.setIfInBounds_toArray, List.set_cons_zero, List.set_cons_succ]
          refine wpAnyH_take (i := 2) (oi := ⟨some 69, _, _, _, _, _⟩) (v := ?_) rfl (by kernel_rfl) (by kernel_rfl) (by kernel_rfl) (fun _ _ _ h => h) (Or.inl ⟨by kernel_rfl, ?_⟩) (by assumption) ?_
          rotate_left
          · intro w hSw
            try dsimp only at hSw
            first | (go_simp; done) | (go_simp; with_reducible rfl) | with_reducible rfl
          simp only [Act.put, List.setIfInBounds_toArray, List.set_cons_zero, List.set_cons_succ]
          refine wpAnyH_take (i := 3) (oi := ⟨some 70, _, _, _, _, _⟩) (v := ?_) rfl (by kernel_rfl) (by kernel_rfl) (by kernel_rfl) (fun _ _ _ h => h) (Or.inl ⟨by kernel_rfl, ?_⟩) (by assumption) ?_
          rotate_left
          · intro w hSw
            try dsimp only at hSw
            first | (go_simp; done) | (go_simp; with_reducible rfl) | with_reducible rfl
          simp only [Act.put, List.setIfInBounds_toArray, List.set_cons_zero, List.set_cons_succ]
          refine wpAnyH_take (i := 4) (oi := ⟨some 71, _, _, _, _, _⟩) (v := ?_) rfl (by kernel_rfl) (by kernel_rfl) (by kernel_rfl) (fun _ _ _ h => h) (Or.inl ⟨by kernel_rfl, ?_⟩) (by assumption) ?_
          rotate_left
          · intro w hSw
            try dsimp only at hSw
            first | (go_simp; done) | (go_simp; with_reducible rfl) | with_reducible rfl
          simp only [Act.put, List.setIfInBounds_toArray, List.set_cons_zero, List.set_cons_succ]
          refine wpAnyH_take (i := 5) (oi := ⟨some 72, _, _, _, _, _⟩) (v := ?_) rfl (by kernel_rfl) (by kernel_rfl) (by kernel_rfl) (fun _ _ _ h => h) (Or.inl ⟨by kernel_rfl, ?_⟩) (by assumption) ?_
          rotate_left
          · intro w hSw
            try dsimp only at hSw
            first | (go_simp; done) | (go_simp; with_reducible rfl) | with_reducible rfl
          simp only [Act.put, List.setIfInBounds_toArray, List.set_cons_zero, List.set_cons_succ]
          refine wpAnyH_take (i := 6) (oi := ⟨some 73, _, _, _, _, _⟩) (v := ?_) rfl (by kernel_rfl) (by kernel_rfl) (by kernel_rfl) (fun _ _ _ h => h) (Or.inl ⟨by kernel_rfl, ?_⟩) (by assumption) ?_
          rotate_left
          · intro w hSw
            try dsimp only at hSw
            first | (go_simp; done) | (go_simp; with_reducible rfl) | with_reducible rfl
          simp only [Act.put, List.setIfInBounds_toArray, List.set_cons_zero, List.set_cons_succ]
          refine wpAnyH_take (i := 7) (oi := ⟨some 74, _, _, _, _, _⟩) (v := ?_) rfl (by kernel_rfl) (by kernel_rfl) (by kernel_rfl) (fun _ _ _ h => h) (Or.inl ⟨by kernel_rfl, ?_⟩) (by assumption) ?_
          rotate_left
          · intro w hSw
            try dsimp only at hSw
            first | (go_simp; done) | (go_simp; with_reducible rfl) | with_reducible rfl
          simp only [Act.put, List.setIfInBounds_toArray, List.set_cons_zero, List.set_cons_succ]
          refine wpAnyH_take (i := 8) (oi := ⟨some 75, _, _, _, _, _⟩) (v := ?_) rfl (by kernel_rfl) (by kernel_rfl) (by kernel_rfl) (fun _ _ _ h => h) (Or.inl ⟨by kernel_rfl, ?_⟩) (by assumption) ?_
          rotate_left
          · intro w hSw
            try dsimp only at hSw
            first | (go_simp; done) | (go_simp; with_reducible rfl) | with_reducible rfl
          simp only [Act.put, List.setIfInBounds_toArray, List.set_cons_zero, List.set_cons_succ]
          refine wpAnyH_take (i := 9) (oi := ⟨some 76, _, _, _, _, _⟩) (v := ?_) rfl (by kernel_rfl) (by kernel_rfl) (by kernel_rfl) (fun _ _ _ h => h) (Or.inl ⟨by kernel_rfl, ?_⟩) (by assumption) ?_
          rotate_left
          · intro w hSw
            try dsimp only at hSw
            first | (go_simp; done) | (go_simp; with_reducible rfl) | with_reducible rfl
          simp only [Act.put, List.setIfInBounds_toArray, List.set_cons_zero, List.set_cons_succ]
          refine wpAnyH_take (i := 10) (oi := ⟨some 77, _, _, _, _, _⟩) (v := ?_) rfl (by kernel_rfl) (by kernel_rfl) (by kernel_rfl) (fun _ _ _ h => h) (Or.inl ⟨by kernel_rfl, ?_⟩) (by assumption) ?_
          rotate_left
          · intro w hSw
            try dsimp only at hSw
            first | (go_simp; done) | (go_simp; with_reducible rfl) | with_reducible rfl
          simp only [Act.put, List.setIfInBounds_toArray, List.set_cons_zero, List.set_cons_succ]
          refine wpAnyH_ready (rs := [11, 12]) (by kernel_rfl) (by simp) ?_
          refine AllReadyH.cons (o := ⟨some 78, _, _, _, _, _⟩) rfl (fun K hK => ?_) (AllReadyH.cons (o := ⟨some 12, _, _, _, _, _⟩) rfl (fun K hK => ?_) AllReadyH.nil)
          · skip
            go_simp
            refine (begun_any _ n t i hp mk v (by omega) (by omega)).mono ?_
            rintro z w6 ⟨A6, c6, rfl, O6, OB6, k6⟩
            rw [BE.out]
            obtain ⟨CS, hCS⟩ : ∃ CS : List Value, (ofR (opC mk v) be 0 0 0 (.slice A6 0 c6)).cells = CS := ⟨_, rfl⟩
            have CE : runV (ofR (opC mk v) be 0 0 0 (.slice A6 0 c6)) = .agg CS.toArray := by rw [← hCS]; rfl
            have ON : ∀ u ∈ CS, u.oneCell' = true := by rw [← hCS]; exact cells_one rfl rfl rfl rfl
            have LC : CS.length = 26 := by rw [← hCS]; rfl
            have HG : ∀ b, (Value.slice A6 0 c6).ownBlock = some b → b ∉ [g, G] := fun b e hm => nGg b (Nat.le_trans (Nat.le_refl _) (OB6 b e)) hm
            rw [CE]
            refine hK.out _ _ ?_ (fun hHeld => ?_)
            · exact keepS (S5.drew.call k6).wk.st ((S5.drew.call k6).wk.st.get 0 rfl) hb x0 x1
            clear hK K
            refine wpAnyH_ready (rs := [12]) (by kernel_rfl) (by simp) ?_
            refine AllReadyH.cons (o := ⟨some 12, _, _, _, _, _⟩) rfl (fun K hK => ?_) AllReadyH.nil
            go_simp
            refine hK.out _ _ ?_ (fun hHeld => ?_)
            · exact keepS ((S5.drew.call k6).new zR 87).wk.st (((S5.drew.call k6).new zR 87).wk.st.get 1 rfl) hb x0 x1
            clear hK K
            refine wpAnyH_ready (rs := [13]) (by kernel_rfl) (by simp) ?_
            refine AllReadyH.cons (o := ⟨none, _, _, _, _, _⟩) rfl (fun K hK => ?_) AllReadyH.nil
            have AA := ((S5.drew.call k6).new zR 87)
            have TB := typ_new w6 zR.toArray 87
            have AF := Wp.fill AA TB CS LC
            have TT := there_len (AA.wk.st.get 0 rfl) (show zR.length = CS.toArray.size from LC.symm)
            have IR : (Tryz.prog.info? 87).map (·.size) = some CS.toArray.size := by rw [show CS.toArray.size = 26 from LC]; exact info_run
            rw [if_pos (by rfl)]
            refine wp_store_mid _ _ _ rfl _ 0 CS.toArray rfl rfl TT IR (all_oneCell_toArray ON) ?_
            simp only [Act.put]
            refine hK.out _ _ ?_ (fun hHeld => ?_)
            · exact keepS AF.wk.st (AF.wk.st.get 1 rfl) hb x0 x1
            clear hK K
            refine wpAnyH_done (by kernel_rfl) ?_ _
            go_wp2_with fail
            go_meet
            exact ⟨⟨_, CS, A6, c6, rfl, AF, hCS.symm, sr_nilK O6, HG⟩, (fill_only _ _ _).size |> Nat.le_trans (Nat.le_trans k6.size (by simp))⟩
          · skip
            go_simp
            refine hK.out _ _ ?_ (fun hHeld => ?_)
            · exact keepS (S5.drew.new zR 87).wk.st ((S5.drew.new zR 87).wk.st.get 1 rfl) hb x0 x1
            clear hK K
            refine wpAnyH_ready (rs := [11]) (by kernel_rfl) (by simp) ?_
            refine AllReadyH.cons (o := ⟨some 78, _, _, _, _, _⟩) rfl (fun K hK => ?_) AllReadyH.nil
            go_simp
            refine (begun_any _ n t i hp mk v (by omega) (by omega)).mono ?_
            rintro z w6 ⟨A6, c6, rfl, O6, OB6, k6⟩
            rw [BE.out]
            obtain ⟨CS, hCS⟩ : ∃ CS : List Value, (ofR (opC mk v) be 0 0 0 (.slice A6 0 c6)).cells = CS := ⟨_, rfl⟩
            have CE : runV (ofR (opC mk v) be 0 0 0 (.slice A6 0 c6)) = .agg CS.toArray := by rw [← hCS]; rfl
            have ON : ∀ u ∈ CS, u.oneCell' = true := by rw [← hCS]; exact cells_one rfl rfl rfl rfl
            have LC : CS.length = 26 := by rw [← hCS]; rfl
            have HG : ∀ b, (Value.slice A6 0 c6).ownBlock = some b → b ∉ [g, G] := fun b e hm => nGg b (Nat.le_trans (by simp) (OB6 b e)) hm
            rw [CE]
            refine hK.out _ _ ?_ (fun hHeld => ?_)
            · exact keepS ((S5.drew.new zR 87).call k6).wk.st (((S5.drew.new zR 87).call k6).wk.st.get 1 rfl) hb x0 x1
            clear hK K
            refine wpAnyH_ready (rs := [13]) (by kernel_rfl) (by simp) ?_
            refine AllReadyH.cons (o := ⟨none, _, _, _, _, _⟩) rfl (fun K hK => ?_) AllReadyH.nil
            have AA := ((S5.drew.new zR 87).call k6)
            have TB := typ_go (X := []) (typ_new W5.drew zR.toArray 87) (Only.below k6) (by simp)
            have AF := Wp.fill AA TB CS LC
            have TT := there_len (AA.wk.st.get 0 rfl) (show zR.length = CS.toArray.size from LC.symm)
            have IR : (Tryz.prog.info? 87).map (·.size) = some CS.toArray.size := by rw [show CS.toArray.size = 26 from LC]; exact info_run
            rw [if_pos (by rfl)]
            refine wp_store_mid _ _ _ rfl _ 0 CS.toArray rfl rfl TT IR (all_oneCell_toArray ON) ?_
            simp only [Act.put]
            refine hK.out _ _ ?_ (fun hHeld => ?_)
            · exact keepS AF.wk.st (AF.wk.st.get 1 rfl) hb x0 x1
            clear hK K
            refine wpAnyH_done (by kernel_rfl) ?_ _
            go_wp2_with fail
            go_meet
            exact ⟨⟨_, CS, A6, c6, rfl, AF, hCS.symm, sr_nilK O6, HG⟩, (fill_only _ _ _).size |> Nat.le_trans (Nat.le_trans (by simp) k6.size)⟩
        case rest =>
          obtain ⟨⟨gB, CS, A6, c6, rfl, S6, hCS, O6, HG⟩, l6⟩ := hcut
          have lS6 : w4.heap.size ≤ wc.heap.size := Nat.le_trans l5 l6
          have HWF := Lib.hid S6.wk.fd.wf
          have HIV := Lib.hid S6.wk.fd.iv
          have x7 := (S6.wk.st.get 0 rfl).cell 7 (.int .i64 be.pc) (by rw [hCS]; rfl)
          have HLS := Lib.hid (show CS.length = 26 by rw [hCS]; rfl)
          clear S5 x0 x1 hb l5 l6
          cases hb' : opB n mk v with
          | false =>
            have hbe : be = ⟨11, 0⟩ := by rw [← BE.out, hb']; rfl
            have CE : runV (ofR (opC mk v) ⟨11, 0⟩ 0 0 0 (.slice A6 0 c6)) = .agg CS.toArray := by rw [hCS, hbe]; rfl
            rw [hbe] at x7
            clear hbe hCS
            go_upto_region 12 with (fail)
            have P1 := S6.wk.st.get 1 rfl
            have p0 := P1.cell 0 _ rfl
            have p1 := P1.cell 1 _ rfl
            have p2 := P1.cell 2 _ rfl
            have p3 := P1.cell 3 _ rfl
            clear P1
            have RR := at_range (S6.wk.st.get 0 rfl)
            go_wp2_with (refine wpList_load_mid rfl _ _ rfl gB 0 rfl CS _ RR Tryz.underlying87 rfl (by rw [HLS.out]; exact info_run) ?_)
            rw [← CE]
            refine (step_no _ (n : Int) t i hp _ _ (ofR (opC mk v) ⟨11, 0⟩ 0 0 0 (.slice A6 0 c6)) (.inr ⟨rfl, rfl⟩)).mono ?_
            rintro z w9 ⟨CZ, rfl, LZ, OZ, k9⟩
            have HLZ := Lib.hid LZ
            have HOZ := Lib.hid OZ
            have S9 := S6.call k9
            have lS9 : w4.heap.size ≤ w9.heap.size := Nat.le_trans lS6 k9.size
            clear LZ OZ p0 p1 p2 p3 RR CE x7
            have TT := there_len ((S9.new zR 87).wk.st.get 0 rfl) (show zR.length = CZ.toArray.size from HLZ.out.symm)
            have IR : (Tryz.prog.info? 87).map (·.size) = some CZ.toArray.size := by rw [show CZ.toArray.size = 26 from HLZ.out]; exact info_run
            have SN := Wp.fill (S9.new zR 87) (typ_new w9 zR.toArray 87) CZ HLZ.out
            have lSN : w4.heap.size ≤ ((w9.alloc (.cells zR.toArray 87)).setCells w9.heap.size 0 CZ).heap.size := Nat.le_trans lS9 (Nat.le_trans (by simp) (fill_only _ _ _).size)
            go_upto_region 13 with (refine wpList_store_mid rfl _ _ _ rfl w9.heap.size 0 CZ.toArray rfl rfl TT IR (all_oneCell_toArray HOZ.out) ?_)
            obtain ⟨W9, hW9⟩ : ∃ W : World, W = (w9.alloc (.cells [.int .u8 0, .int .u8 0, .int .u8 0, .int .u8 0, .int .i64 0, .int .i64 0, .int .i64 0, .int .i64 0, .int .i64 0, .int .u64 0, .int .u64 0, .slice none 0 0, .int .u64 0, .int .u64 0, .int .i64 0, .int .i64 0, .slice none 0 0, .int .i64 0, .slice none 0 0, .int .i64 0, .bool false, .bool false, .bool false, .int .i64 0, .int .i64 0, .slice none 0 0].toArray 87)).setCells w9.heap.size 0 CZ := ⟨_, rfl⟩
            rw [← hW9] at SN lSN
            rw [show (w9.alloc (.cells [.int .u8 0, .int .u8 0, .int .u8 0, .int .u8 0, .int .i64 0, .int .i64 0, .int .i64 0, .int .i64 0, .int .i64 0, .int .u64 0, .int .u64 0, .slice none 0 0, .int .u64 0, .int .u64 0, .int .i64 0, .int .i64 0, .slice none 0 0, .int .i64 0, .slice none 0 0, .int .i64 0, .bool false, .bool false, .bool false, .int .i64 0, .int .i64 0, .slice none 0 0].toArray 87)).setCells w9.heap.size 0 CZ.toArray.toList = W9 from hW9.symm]
            clear hW9 TT IR
            have SE := Wp.sub (Wp.sub SN)
            clear S6 S9 SN
            go_wp2_with fail
            go_roundw
            case rel => exact ⟨k + 1, f, F, by omega, by omega, by go_num, SE, lSN⟩
            case measure => simp [intOf]; omega
          | true =>
            have hbe : be = ⟨0, 1⟩ := by rw [← BE.out, hb']; rfl
            have CE := Lib.hid (show runV (ofR (opC mk v) ⟨0, 1⟩ 0 0 0 (.slice A6 0 c6)) = .agg CS.toArray by rw [hCS, hbe]; rfl)
            rw [hbe] at x7
            have HB' := Lib.hid hb'
            clear hbe hCS hb'
            go_upto_region 15 with (fail)
            clear x7
            have P1 := S6.wk.st.get 1 rfl
            have p0 := P1.cell 0 _ rfl
            have p1 := P1.cell 1 _ rfl
            have p2 := P1.cell 2 _ rfl
            have p3 := P1.cell 3 _ rfl
            clear P1
            have RR := at_range (S6.wk.st.get 0 rfl)
            go_wp2_with (refine wpList_load_mid rfl _ _ rfl gB 0 rfl CS _ RR Tryz.underlying87 rfl (by rw [HLS.out]; exact info_run) ?_)
            rw [← CE.out]
            refine (step_op _ R S6.wk.fd mk v _ (sr_nilK O6) HG).mono ?_
            rintro z w9 ⟨ch9, li9, sa9, as9, rfl, O9, I9, T9, V9, h9, k9⟩
            have S9 := S6.step h9 k9
            have lS9 : w4.heap.size ≤ w9.heap.size := Nat.le_trans lS6 k9.size
            clear h9 k9 p0 p1 p2 p3 RR S6
            obtain ⟨aA9, an9, rfl, _, _⟩ := O9.form
            obtain ⟨bA9, bn9, rfl, _, _⟩ := I9.form
            obtain ⟨cA9, cn9, rfl, _, _⟩ := T9.form
            obtain ⟨dA9, dn9, rfl, _, _⟩ := V9.form
            dsimp only [List.length_nil] at *
            obtain ⟨CN9, hCN9⟩ : ∃ CN : List Value, (ofT (opC mk v) ⟨0, 1⟩ 0 0 0 (opR F mk v).x (opR F mk v).v (.slice aA9 0 an9) (.slice bA9 0 bn9) (.slice cA9 0 cn9) (.slice dA9 0 dn9)).cells = CN := ⟨_, rfl⟩
            have CE9 : runV (ofT (opC mk v) ⟨0, 1⟩ 0 0 0 (opR F mk v).x (opR F mk v).v (.slice aA9 0 an9) (.slice bA9 0 bn9) (.slice cA9 0 cn9) (.slice dA9 0 dn9)) = .agg CN9.toArray := by rw [← hCN9]; rfl
            have HO9 := Lib.hid (show ∀ u ∈ CN9, u.oneCell' = true by rw [← hCN9]; exact cells_one rfl rfl rfl rfl)
            have HL9 := Lib.hid (show CN9.length = 26 by rw [← hCN9]; rfl)
            have HE9 := Lib.hid CE9
            rw [CE9]
            clear CE9 hCN9
            have TT := there_len ((S9.new zR 87).wk.st.get 0 rfl) (show zR.length = CN9.toArray.size from HL9.out.symm)
            have IR : (Tryz.prog.info? 87).map (·.size) = some CN9.toArray.size := by rw [show CN9.toArray.size = 26 from HL9.out]; exact info_run
            have SM := Wp.fill (S9.new zR 87) (typ_new w9 zR.toArray 87) CN9 HL9.out
            have lSM : w4.heap.size ≤ ((w9.alloc (.cells zR.toArray 87)).setCells w9.heap.size 0 CN9).heap.size := Nat.le_trans lS9 (Nat.le_trans (by simp) (fill_only _ _ _).size)
            go_upto_region 16 with (refine wpList_store_mid rfl _ _ _ rfl w9.heap.size 0 CN9.toArray rfl rfl TT IR (all_oneCell_toArray HO9.out) ?_)
            obtain ⟨W9, hW9⟩ : ∃ W : World, W = (w9.alloc (.cells [.int .u8 0, .int .u8 0, .int .u8 0, .int .u8 0, .int .i64 0, .int .i64 0, .int .i64 0, .int .i64 0, .int .i64 0, .int .u64 0, .int .u64 0, .slice none 0 0, .int .u64 0, .int .u64 0, .int .i64 0, .int .i64 0, .slice none 0 0, .int .i64 0, .slice none 0 0, .int .i64 0, .bool false, .bool false, .bool false, .int .i64 0, .int .i64 0, .slice none 0 0].toArray 87)).setCells w9.heap.size 0 CN9 := ⟨_, rfl⟩
            rw [← hW9] at SM lSM
            rw [show (w9.alloc (.cells [.int .u8 0, .int .u8 0, .int .u8 0, .int .u8 0, .int .i64 0, .int .i64 0, .int .i64 0, .int .i64 0, .int .i64 0, .int .u64 0, .int .u64 0, .slice none 0 0, .int .u64 0, .int .u64 0, .int .i64 0, .int .i64 0, .slice none 0 0, .int .i64 0, .slice none 0 0, .int .i64 0, .bool false, .bool false, .bool false, .int .i64 0, .int .i64 0, .slice none 0 0].toArray 87)).setCells w9.heap.size 0 CN9.toArray.toList = W9 from hW9.symm]
            clear hW9 TT IR
            clear S9 lS9
            have RR := at_range (SM.wk.st.get 1 rfl)
            go_wp2_with (refine wpList_load_mid rfl _ _ rfl gB 0 rfl CS _ RR Tryz.underlying87 rfl (by rw [HLS.out]; exact info_run) ?_)
            rw [← CE.out]
            obtain ⟨Y9, al9, hL9⟩ := SM.al
            refine (mkop_any _ R al9 HWF.out HIV.out hL9 (HMP.out _ rfl) mk v HB'.out _ (sr_nilK O6)).mono ?_
            rintro z w10 ⟨ch10, li10, sa10, as10, Y10, rfl, O10, I10, T10, V10, al10, hL10, k10⟩
            have S10 := SM.doc al10 hL10 k10
            have lS10 : w4.heap.size ≤ w10.heap.size := Nat.le_trans lSM k10.size
            clear al9 hL9 al10 hL10 k10 RR SM lSM
            obtain ⟨aA10, an10, rfl, _, _⟩ := O10.form
            obtain ⟨bA10, bn10, rfl, _, _⟩ := I10.form
            obtain ⟨cA10, cn10, rfl, _, _⟩ := T10.form
            obtain ⟨dA10, dn10, rfl, _, _⟩ := V10.form
            dsimp only [List.length_nil] at *
            obtain ⟨CN10, hCN10⟩ : ∃ CN : List Value, (ofT (opC mk v) ⟨0, 1⟩ 0 0 0 (opR F mk v).x (opR F mk v).v (.slice aA10 0 an10) (.slice bA10 0 bn10) (.slice cA10 0 cn10) (.slice dA10 0 dn10)).cells = CN := ⟨_, rfl⟩
            have CE10 : runV (ofT (opC mk v) ⟨0, 1⟩ 0 0 0 (opR F mk v).x (opR F mk v).v (.slice aA10 0 an10) (.slice bA10 0 bn10) (.slice cA10 0 cn10) (.slice dA10 0 dn10)) = .agg CN10.toArray := by rw [← hCN10]; rfl
            have HO10 := Lib.hid (show ∀ u ∈ CN10, u.oneCell' = true by rw [← hCN10]; exact cells_one rfl rfl rfl rfl)
            have HL10 := Lib.hid (show CN10.length = 26 by rw [← hCN10]; rfl)
            have HE10 := Lib.hid CE10
            rw [CE10]
            clear CE10 hCN10
            have TT := there_len ((S10.new zR 87).wk.st.get 0 rfl) (show zR.length = CN10.toArray.size from HL10.out.symm)
            have IR : (Tryz.prog.info? 87).map (·.size) = some CN10.toArray.size := by rw [show CN10.toArray.size = 26 from HL10.out]; exact info_run
            have SD := Wp.fill (S10.new zR 87) (typ_new w10 zR.toArray 87) CN10 HL10.out
            have lSD : w4.heap.size ≤ ((w10.alloc (.cells zR.toArray 87)).setCells w10.heap.size 0 CN10).heap.size := Nat.le_trans lS10 (Nat.le_trans (by simp) (fill_only _ _ _).size)
            go_upto_region 17 with (refine wpList_store_mid rfl _ _ _ rfl w10.heap.size 0 CN10.toArray rfl rfl TT IR (all_oneCell_toArray HO10.out) ?_)
            obtain ⟨W10, hW10⟩ : ∃ W : World, W = (w10.alloc (.cells [.int .u8 0, .int .u8 0, .int .u8 0, .int .u8 0, .int .i64 0, .int .i64 0, .int .i64 0, .int .i64 0, .int .i64 0, .int .u64 0, .int .u64 0, .slice none 0 0, .int .u64 0, .int .u64 0, .int .i64 0, .int .i64 0, .slice none 0 0, .int .i64 0, .slice none 0 0, .int .i64 0, .bool false, .bool false, .bool false, .int .i64 0, .int .i64 0, .slice none 0 0].toArray 87)).setCells w10.heap.size 0 CN10 := ⟨_, rfl⟩
            rw [← hW10] at SD lSD
            rw [show (w10.alloc (.cells [.int .u8 0, .int .u8 0, .int .u8 0, .int .u8 0, .int .i64 0, .int .i64 0, .int .i64 0, .int .i64 0, .int .i64 0, .int .u64 0, .int .u64 0, .slice none 0 0, .int .u64 0, .int .u64 0, .int .i64 0, .int .i64 0, .slice none 0 0, .int .i64 0, .slice none 0 0, .int .i64 0, .bool false, .bool false, .bool false, .int .i64 0, .int .i64 0, .slice none 0 0].toArray 87)).setCells w10.heap.size 0 CN10.toArray.toList = W10 from hW10.symm]
            clear hW10 TT IR
            clear S10 lS10
            have RN := at_range (SD.wk.st.get 1 rfl)
            have RD := at_range (SD.wk.st.get 0 rfl)
            go_wp2_with (first | (refine wpList_load_mid rfl _ _ rfl w9.heap.size 0 rfl CN9 _ RN Tryz.underlying87 rfl (by rw [HL9.out]; exact info_run) ?_) | (refine wpList_load_mid rfl _ _ rfl w10.heap.size 0 rfl CN10 _ RD Tryz.underlying87 rfl (by rw [HL10.out]; exact info_run) ?_))
            rw [← HE9.out, ← HE10.out]
            refine (sameR_any (ofT (opC mk v) ⟨0, 1⟩ 0 0 0 (opR F mk v).x (opR F mk v).v (.slice aA9 0 an9) (.slice bA9 0 bn9) (.slice cA9 0 cn9) (.slice dA9 0 dn9)) _ _ _ _ [] [] [] [] _ (sr_nilK O9) (sr_nilK I9) (sr_nilK T9) (sr_nilK V9) (sr_nilK O10) (sr_nilK I10) (sr_nilK T10) (sr_nilK V10)).mono ?_
            rintro z w11 ⟨rfl, k11⟩
            have S11 := SD.call k11
            have lS11 : w4.heap.size ≤ w11.heap.size := Nat.le_trans lSD k11.size
            clear RN RD SD lSD
            have P3 := S11.wk.st.get 3 rfl
            have p0 := P3.cell 0 _ rfl
            have p1 := P3.cell 1 _ rfl
            have p2 := P3.cell 2 _ rfl
            have p3 := P3.cell 3 _ rfl
            clear P3
            have RR := at_range (S11.wk.st.get 1 rfl)
            go_upto_region 18 with (fail)
            go_wp2_with (refine wpList_load_mid rfl _ _ rfl w9.heap.size 0 rfl CN9 _ RR Tryz.underlying87 rfl (by rw [HL9.out]; exact info_run) ?_)
            rw [← HE9.out]
            refine (step_no _ (n : Int) t i hp _ _ (ofT (opC mk v) ⟨0, 1⟩ 0 0 0 (opR F mk v).x (opR F mk v).v (.slice aA9 0 an9) (.slice bA9 0 bn9) (.slice cA9 0 cn9) (.slice dA9 0 dn9)) (.inl rfl)).mono ?_
            rintro z w12 ⟨CZ, rfl, LZ, OZ, k12⟩
            have HLZ := Lib.hid LZ
            have HOZ := Lib.hid OZ
            have S12 := S11.call k12
            have lS12 : w4.heap.size ≤ w12.heap.size := Nat.le_trans lS11 k12.size
            clear LZ OZ p0 p1 p2 p3 RR S11 lS11
            have TT := there_len ((S12.new zR 87).wk.st.get 0 rfl) (show zR.length = CZ.toArray.size from HLZ.out.symm)
            have IR : (Tryz.prog.info? 87).map (·.size) = some CZ.toArray.size := by rw [show CZ.toArray.size = 26 from HLZ.out]; exact info_run
            have SZ := Wp.fill (S12.new zR 87) (typ_new w12 zR.toArray 87) CZ HLZ.out
            have lSZ : w4.heap.size ≤ ((w12.alloc (.cells zR.toArray 87)).setCells w12.heap.size 0 CZ).heap.size := Nat.le_trans lS12 (Nat.le_trans (by simp) (fill_only _ _ _).size)
            go_upto_region 19 with (refine wpList_store_mid rfl _ _ _ rfl w12.heap.size 0 CZ.toArray rfl rfl TT IR (all_oneCell_toArray HOZ.out) ?_)
            obtain ⟨W12, hW12⟩ : ∃ W : World, W = (w12.alloc (.cells [.int .u8 0, .int .u8 0, .int .u8 0, .int .u8 0, .int .i64 0, .int .i64 0, .int .i64 0, .int .i64 0, .int .i64 0, .int .u64 0, .int .u64 0, .slice none 0 0, .int .u64 0, .int .u64 0, .int .i64 0, .int .i64 0, .slice none 0 0, .int .i64 0, .slice none 0 0, .int .i64 0, .bool false, .bool false, .bool false, .int .i64 0, .int .i64 0, .slice none 0 0].toArray 87)).setCells w12.heap.size 0 CZ := ⟨_, rfl⟩
            rw [← hW12] at SZ lSZ
            rw [show (w12.alloc (.cells [.int .u8 0, .int .u8 0, .int .u8 0, .int .u8 0, .int .i64 0, .int .i64 0, .int .i64 0, .int .i64 0, .int .i64 0, .int .u64 0, .int .u64 0, .slice none 0 0, .int .u64 0, .int .u64 0, .int .i64 0, .int .i64 0, .slice none 0 0, .int .i64 0, .slice none 0 0, .int .i64 0, .bool false, .bool false, .bool false, .int .i64 0, .int .i64 0, .slice none 0 0].toArray 87)).setCells w12.heap.size 0 CZ.toArray.toList = W12 from hW12.symm]
            clear hW12 TT IR
            clear S12 lS12
            have S13 := Wp.sub (Wp.sub (Wp.sub (Wp.sub SZ)))
            obtain ⟨f1, hf1⟩ : ∃ z, opW f F mk v = z := ⟨_, rfl⟩
            obtain ⟨F1, hF1⟩ : ∃ z, (opR F mk v).F = z := ⟨_, rfl⟩
            rw [hf1, hF1] at S13
            clear SZ hf1 hF1 O9 I9 T9 V9 O10 I10 T10 V10 HE9 HE10 HO9 HO10 HL9 HL10 HLZ HOZ CE HLS HWF HIV HB' BE HG O6
            have LEN : F1.L.length ≤ 200000 := Nat.le_trans S13.wk.fd.iv.ok.len (by omega)
            have hMl : Q.M ≤ 8192 := by have := HM.out; have := HQM.out; omega
            have pA0 : (0 : Int) ≤ Pn.A ⟨n, t, i, hp, B, g, N, g⟩ := by unfold Pn.A; show (0 : Int) ≤ 64 * (n : Int) + i; omega
            have pA1 : Pn.A ⟨n, t, i, hp, B, g, N, g⟩ ≤ 65536 := by unfold Pn.A; show 64 * (n : Int) + i ≤ 65536; omega
            have Sd := S13.drew
            obtain ⟨Yd, ald, hLd⟩ := Sd.al
            obtain ⟨Ye, ale, hLe⟩ := S13.al
            have c6 := ale.c6
            have cd6 := ald.c6
            have HLd := Lib.hid hLd
            clear ale hLe hLd
            refine wp_region_held_drew (S := (fun W' => W'.cell? ⟨Q.D, 6, none⟩ = some (.pointer (some ⟨Q.C, 0, none⟩)))) (by kernel_rfl) ?_ (fun hHeld => ?_)
            · exact cd6
            refine wpAnyH_take (i := 0) (oi := ⟨some 114, _, _, _, _, _⟩) (v := ?_) rfl (by kernel_rfl) (by kernel_rfl) (by kernel_rfl) (fun _ _ _ h => h) (Or.inl ⟨by kernel_rfl, ?_⟩) (by assumption) ?_
            rotate_left
            · intro w hSw
              try dsimp only at hSw
              first | (go_simp; done) | (go_simp; with_reducible rfl) | with_reducible rfl
            simp only [Act.put, List.setIfInBounds_toArray, List.set_cons_zero, List.set_cons_succ]
            refine wpAnyH_take (i := 2) (oi := ⟨some 116, _, _, _, _, _⟩) (v := ?_) rfl (by kernel_rfl) (by kernel_rfl) (by kernel_rfl) (fun _ _ _ h => h) (Or.inl ⟨by kernel_rfl, ?_⟩) (by assumption) ?_
            rotate_left
            · intro w hSw
              try dsimp only at hSw
              first | (go_simp; done) | (go_simp; with_reducible rfl) | with_reducible rfl
            simp only [Act.put, List.setIfInBounds_toArray, List.set_cons_zero, List.set_cons_succ]
            refine wpAnyH_take (i := 3) (oi := ⟨some 117, _, _, _, _, _⟩) (v := ?_) rfl (by kernel_rfl) (by kernel_rfl) (by kernel_rfl) (fun _ _ _ h => h) (Or.inl ⟨by kernel_rfl, ?_⟩) (by assumption) ?_
            rotate_left
            · intro w hSw
              try dsimp only at hSw
              first | (go_simp; done) | (go_simp; with_reducible rfl) | with_reducible rfl
            simp only [Act.put, List.setIfInBounds_toArray, List.set_cons_zero, List.set_cons_succ]
            refine wpAnyH_take (i := 4) (oi := ⟨some 118, _, _, _, _, _⟩) (v := ?_) rfl (by kernel_rfl) (by kernel_rfl) (by kernel_rfl) (fun _ _ _ h => h) (Or.inl ⟨by kernel_rfl, ?_⟩) (by assumption) ?_
            rotate_left
            · intro w hSw
              try dsimp only at hSw
              first | (go_simp; done) | (go_simp; with_reducible rfl) | with_reducible rfl
            simp only [Act.put, List.setIfInBounds_toArray, List.set_cons_zero, List.set_cons_succ]
            refine wpAnyH_take (i := 5) (oi := ⟨some 119, _, _, _, _, _⟩) (v := ?_) rfl (by kernel_rfl) (by kernel_rfl) (by kernel_rfl) (fun _ _ _ h => h) (Or.inl ⟨by kernel_rfl, ?_⟩) (by assumption) ?_
            rotate_left
            · intro w hSw
              try dsimp only at hSw
              first | (go_simp; done) | (go_simp; with_reducible rfl) | with_reducible rfl
            simp only [Act.put, List.setIfInBounds_toArray, List.set_cons_zero, List.set_cons_succ]
            refine wpAnyH_ready (rs := [1]) (by kernel_rfl) (by simp) ?_
            refine AllReadyH.cons (o := ⟨some 115, _, _, _, _, _⟩) rfl (fun K hK => ?_) AllReadyH.nil
            go_simp
            refine (Gr.free_any _ Gr.y0 G g _ _ F1.L Sd.wk.fd.gr LEN).mono ?_
            rintro z w7 ⟨V7, c7', rfl, E7, OF7, k7⟩
            have S7 := Sd.call k7
            have a7 := ald.keep k7
            have c67 := a7.c6
            refine hK.out _ _ ?_ (fun hHeld => ?_)
            · exact c67
            clear hK K
            refine wpAnyH_ready (rs := [6]) (by kernel_rfl) (by simp) ?_
            refine AllReadyH.cons (o := ⟨some 120, _, _, _, _, _⟩) rfl (fun K hK => ?_) AllReadyH.nil
            go_simp
            have X8 := Ref.extents_any w7 Q.C Q.gw Q.M _ Yd a7.gr pA0 pA1 hMl
            rw [← HLd.out] at X8
            refine X8.mono ?_
            rintro z w8 ⟨V8, c8', rfl, E8, OF8, k8⟩
            have S8 := S7.call k8
            have a8 := a7.keep k8
            have c68 := a8.c6
            refine hK.out _ _ ?_ (fun hHeld => ?_)
            · exact c68
            clear hK K
            refine wpAnyH_ready (rs := [7]) (by kernel_rfl) (by simp) ?_
            refine AllReadyH.cons (o := ⟨some 121, _, _, _, _, _⟩) rfl (fun K hK => ?_) AllReadyH.nil
            go_simp
            refine (Gr.same_yes _ V7 V8 c7' c8' F1.L (E7.below k8) E8 LEN).mono ?_
            rintro z w9' ⟨rfl, k9'⟩
            have S9' := S8.call k9'
            have a9 := a8.keep k9'
            have c69 := a9.c6
            refine hK.out _ _ ?_ (fun hHeld => ?_)
            · exact c69
            clear hK K
            refine wpAnyH_ready (rs := [8]) (by kernel_rfl) (by simp) ?_
            refine AllReadyH.cons (o := ⟨some 21, _, _, _, _, _⟩) rfl (fun K hK => ?_) AllReadyH.nil
            go_simp
            refine hK.out _ _ ?_ (fun hHeld => ?_)
            · exact c69
            clear hK K
            refine wpAnyH_done (by kernel_rfl) ?_ _
            have lS9' : w4.heap.size ≤ w9'.heap.size := Nat.le_trans lSZ (Nat.le_trans k7.size (Nat.le_trans k8.size k9'.size))
            clear S13 Sd S7 S8 a7 a8 a9 ald c6 cd6 c67 c68 c69 E7 E8 OF7 OF8 k7 k8 k9' lSZ HLd
            go_wp2_with fail
            generalize w9' = WA at *
            go_loopw [22] (fun u wx => ∃ s : Nat, s ≤ n ∧ u = .int .i64 (s : Int) ∧ Wp w wx [(bP, [.int .i64 (n : Int), .int .i64 t, .int .i64 i, .int .i64 hp]), (w.heap.size, [.int .i64 q0, .int .i64 q1, .int .i64 q2, .int .i64 q3])] ⟨n, t, i, hp, B, g, N, g⟩ G f1 F1 Q f1 F1 ∧ w4.heap.size ≤ wx.heap.size) (fun u _ => n - (intOf u).toNat)
            case atStart => exact ⟨0, by omega, rfl, S9', lS9'⟩
            case round =>
              clear S9' lS9'
              obtain ⟨s, hs, rfl, SA, lA⟩ := hrel
              have PA := SA.wk.st.get 0 rfl
              have p0 := PA.cell 0 _ rfl
              have p1 := PA.cell 1 _ rfl
              have p2 := PA.cell 2 _ rfl
              have p3 := PA.cell 3 _ rfl
              clear PA
              by_cases hsn : s < n
              · obtain ⟨x, hx⟩ : ∃ x, F1.R[s]? = some x := ⟨_, List.getElem?_eq_getElem (by have : F1.R.length = n := SA.wk.fd.iv.len; omega)⟩
                have HS := Lib.hid (SA.wk.fd.see hx)
                have HS2 := Lib.hid (wf_see SA.wk.fd.wf SA.wk.fd.iv.right hx)
                clear hx
                obtain ⟨xs, xc, xp, xe, xa, xz⟩ := x
                dsimp only at HS HS2
                go_wp2_with fail
                refine (ctl_ok _ R SA.wk.fd.ar s hsn).mono ?_
                rintro z w13 ⟨rfl, k13⟩
                rw [HS.out]
                have SB := (SA.call k13).new [.int .i64 xs, .int .i64 xc, .int .i64 xp, .int .i64 xe] 64
                have lB : w4.heap.size ≤ (w13.alloc (.cells [.int .i64 xs, .int .i64 xc, .int .i64 xp, .int .i64 xe].toArray 64)).heap.size := Nat.le_trans lA (Nat.le_trans k13.size (by simp))
                have Sd := SB.drew
                have d0 := SB.wk.st.get4 0 rfl
                obtain ⟨_, y0, y1, y2, y3⟩ := id d0
                have T1 := And.intro y0 (And.intro y1 (And.intro y2 y3))
                have Td := (Sd.wk.st.get4 0 rfl).2
                obtain ⟨Yd, ald, hLd⟩ := Sd.al
                clear hLd
                have RC := run_ctl xs xc xp xe
                clear p0 p1 p2 p3 SA lA d0
                go_wp2_with fail
                go_region_held3 (fun W' => W'.cell? ⟨w13.heap.size, 0, none⟩ = some (.int .i64 xs) ∧ W'.cell? ⟨w13.heap.size, 1, none⟩ = some (.int .i64 xc) ∧ W'.cell? ⟨w13.heap.size, 2, none⟩ = some (.int .i64 xp) ∧ W'.cell? ⟨w13.heap.size, 3, none⟩ = some (.int .i64 xe))
                  (first | with_reducible exact T1 | with_reducible exact Td | with_reducible exact Te | exact Td)
                  ((go_at_call 38; refine (actl_ok _ R ald s hsn).mono ?_; rintro z w14 ⟨rfl, k14⟩; rw [HS2.out]; have Se := Sd.call k14; have Te := (Se.wk.st.get4 0 rfl).2))
                all_goals
                  have SF := Wp.sub Se
                  have lF : w4.heap.size ≤ w14.heap.size := Nat.le_trans lB k14.size
                  clear T1 Td Te y0 y1 y2 y3 SB Sd Se ald
                  go_wp2_with fail
                  go_roundw
                  case rel => exact ⟨s + 1, by omega, by go_num, SF, lF⟩
                  case measure => simp [intOf]; omega
              · obtain rfl : n = s := by omega
                go_wp2_with fail
                go_roundw
                case rel => exact ⟨k + 1, f1, F1, by omega, by omega, by go_num, SA, lA⟩
                case measure => simp [intOf]; omega
      · obtain rfl : k = 40 := by omega
        have q2 : decide ((40 : Int) < (ln : Int)) = true := decide_eq_true (by omega)
        obtain ⟨Ye, ale, hLe⟩ := S5.al
        have c5 := ale.c5
        have cB := ale.ar.cell
        have hNl := ale.ar.len
        have AB := Lib.hid ale.ar.body
        have AR := S5.wk.fd.ar
        clear ale hLe
        go_wp2_with fail
        go_loop [25] (fun u => ∃ j : Nat, j ≤ N ∧ u = .int .i64 (j : Int)) (fun u => N - (intOf u).toNat)
        case atStart => exact ⟨0, by omega, rfl⟩
        case round =>
          obtain ⟨j, hj, rfl⟩ := hrel
          by_cases hjN : j < N
          · have y := AB.out.cell hjN
            have wj : IntKind.i64.wrap (8 * (j : Int)) = 8 * (j : Int) := IntWalk.i64_in _ (by have := HN8.out; omega)
            go_wp2_with fail
            refine (Arena.word_ok _ B g N j f _ AR hjN rfl).mono ?_
            rintro z wq ⟨rfl, rfl⟩
            go_wp2_with fail
            go_round
            case rel => exact ⟨j + 1, by omega, by go_num⟩
            case measure => simp [intOf]; omega
          · obtain rfl : j = N := by omega
            have PA := S5.wk.st.get 0 rfl
            have p0 := PA.cell 0 _ rfl
            have p1 := PA.cell 1 _ rfl
            have p2 := PA.cell 2 _ rfl
            have p3 := PA.cell 3 _ rfl
            clear PA
            go_wp2_with fail
            refine (ctl_no _ R AR (n : Int) (.inr (Int.le_refl _))).mono ?_
            rintro z w13 ⟨rfl, k13⟩
            have SB := (S5.call k13).alloc (.cells #[.int .i64 (Ctl.no 11).s, .int .i64 (Ctl.no 11).c, .int .i64 (Ctl.no 11).p, .int .i64 (Ctl.no 11).e] 64)
            have PB := SB.wk.st.get 0 rfl
            clear p0 p1 p2 p3
            have p0 := PB.cell 0 _ rfl
            have p1 := PB.cell 1 _ rfl
            have p2 := PB.cell 2 _ rfl
            have p3 := PB.cell 3 _ rfl
            clear PB
            go_wp2_with fail
            refine (ctl_no _ R SB.wk.fd.ar (-1) (.inl (by omega))).mono ?_
            rintro z w14 ⟨rfl, k14⟩
            have SC := (SB.call k14).alloc (.cells #[.int .i64 (Ctl.no 11).s, .int .i64 (Ctl.no 11).c, .int .i64 (Ctl.no 11).p, .int .i64 (Ctl.no 11).e] 64)
            have cx : (Ctl.no 11).x = 11 := rfl
            have Sd := SC.drew
            obtain ⟨Yc, alc, hLc⟩ := SC.al
            obtain ⟨Yd, ald, hLd⟩ := Sd.al
            clear hLc hLd
            have TC := And.intro alc.c5 alc.ar.cell
            have TD := And.intro ald.c5 ald.ar.cell
            have ARd := Sd.wk.fd.ar
            have wN : IntKind.i64.wrap (8 * (j : Int)) = 8 * (j : Int) := IntWalk.i64_in _ (by have := HN8.out; omega)
            clear p0 p1 p2 p3 alc ald
            go_wp2_with fail
            go_region_held3 (fun W' => W'.cell? ⟨Q.D, 5, none⟩ = some (.pointer (some ⟨Q.B, 0, none⟩)) ∧ W'.cell? ⟨Q.B, 0, none⟩ = some (.slice (some ⟨Q.g, 0, none⟩) j j))
              (first | with_reducible exact TC | with_reducible exact TD | exact TD)
              ((go_at_call 40; refine (Arena.len_any _ B g j f ARd).mono ?_; rintro z wl ⟨rfl, rfl⟩))
            all_goals
              go_wp2_with fail
              go_ret
              exact ⟨rfl, Sd.wk.st.below⟩
    · obtain rfl : k = ln := by omega
      have q1 : decide ((k : Int) < (k : Int)) = false := by simp
      obtain ⟨Ye, ale, hLe⟩ := S5.al
      have c5 := ale.c5
      have cB := ale.ar.cell
      have hNl := ale.ar.len
      have AB := Lib.hid ale.ar.body
      have AR := S5.wk.fd.ar
      clear ale hLe
      go_wp2_with fail
      go_loop [25] (fun u => ∃ j : Nat, j ≤ N ∧ u = .int .i64 (j : Int)) (fun u => N - (intOf u).toNat)
      case atStart => exact ⟨0, by omega, rfl⟩
      case round =>
        obtain ⟨j, hj, rfl⟩ := hrel
        by_cases hjN : j < N
        · have y := AB.out.cell hjN
          have wj : IntKind.i64.wrap (8 * (j : Int)) = 8 * (j : Int) := IntWalk.i64_in _ (by have := HN8.out; omega)
          go_wp2_with fail
          refine (Arena.word_ok _ B g N j f _ AR hjN rfl).mono ?_
          rintro z wq ⟨rfl, rfl⟩
          go_wp2_with fail
          go_round
          case rel => exact ⟨j + 1, by omega, by go_num⟩
          case measure => simp [intOf]; omega
        · obtain rfl : j = N := by omega
          have PA := S5.wk.st.get 0 rfl
          have p0 := PA.cell 0 _ rfl
          have p1 := PA.cell 1 _ rfl
          have p2 := PA.cell 2 _ rfl
          have p3 := PA.cell 3 _ rfl
          clear PA
          go_wp2_with fail
          refine (ctl_no _ R AR (n : Int) (.inr (Int.le_refl _))).mono ?_
          rintro z w13 ⟨rfl, k13⟩
          have SB := (S5.call k13).alloc (.cells #[.int .i64 (Ctl.no 11).s, .int .i64 (Ctl.no 11).c, .int .i64 (Ctl.no 11).p, .int .i64 (Ctl.no 11).e] 64)
          have PB := SB.wk.st.get 0 rfl
          clear p0 p1 p2 p3
          have p0 := PB.cell 0 _ rfl
          have p1 := PB.cell 1 _ rfl
          have p2 := PB.cell 2 _ rfl
          have p3 := PB.cell 3 _ rfl
          clear PB
          go_wp2_with fail
          refine (ctl_no _ R SB.wk.fd.ar (-1) (.inl (by omega))).mono ?_
          rintro z w14 ⟨rfl, k14⟩
          have SC := (SB.call k14).alloc (.cells #[.int .i64 (Ctl.no 11).s, .int .i64 (Ctl.no 11).c, .int .i64 (Ctl.no 11).p, .int .i64 (Ctl.no 11).e] 64)
          have cx : (Ctl.no 11).x = 11 := rfl
          have Sd := SC.drew
          obtain ⟨Yc, alc, hLc⟩ := SC.al
          obtain ⟨Yd, ald, hLd⟩ := Sd.al
          clear hLc hLd
          have TC := And.intro alc.c5 alc.ar.cell
          have TD := And.intro ald.c5 ald.ar.cell
          have ARd := Sd.wk.fd.ar
          have wN : IntKind.i64.wrap (8 * (j : Int)) = 8 * (j : Int) := IntWalk.i64_in _ (by have := HN8.out; omega)
          clear p0 p1 p2 p3 alc ald
          go_wp2_with fail
          go_region_held3 (fun W' => W'.cell? ⟨Q.D, 5, none⟩ = some (.pointer (some ⟨Q.B, 0, none⟩)) ∧ W'.cell? ⟨Q.B, 0, none⟩ = some (.slice (some ⟨Q.g, 0, none⟩) j j))
            (first | with_reducible exact TC | with_reducible exact TD | exact TD)
            ((go_at_call 40; refine (Arena.len_any _ B g j f ARd).mono ?_; rintro z wl ⟨rfl, rfl⟩))
          all_goals
            go_wp2_with fail
            go_ret
            exact ⟨rfl, Sd.wk.st.below⟩

set_option maxRecDepth 100000 in
theorem lifted (os : Os) (started : os.Started) (H : Type) (enc : TypeId × Value → H) :
    ReturnsInHanded {} Tryz.checked os 5 .any (Rows.foundPlaysSpec.pre6 enc Tryz.prog Tryz.f5 Rows.foundPlaysRow.domain false) (Rows.foundPlaysSpec.post enc Tryz.prog Tryz.f5 false true false false) := by
  refine returnsInHanded_of_change (C := Tryz.checked) Args.own started (by kernel_rfl) Tryz.func5
    (ChangeSpec.witness6 (enc := enc) (C := Tryz.checked) false ⟨#[], #[.agg #[.int .i64 0, .int .i64 0, .int .i64 0, .int .i64 0], .slice none 0 0], []⟩ 8 (by kernel_rfl) (by kernel_rfl) (by kernel_rfl) (by kernel_rfl)) ?_
  intro W base args ds gs before hval0 hW hcnd _
  have hval : ∀ (j : Nat) t v, Tryz.f5.params[j]? = some t → args[j]? = some v → Value.okWide Tryz.prog W .any base t v := hval0
  have hW' := hW
  obtain ⟨p, q, hA0, hV, rfl, hfz, hnd⟩ := hW
  have hA : DataW.TrodAll enc Tryz.prog W 0 (fun _ => true) true Tryz.f5.params.toList args.toList ds p := hA0
  rw [Tryz.params5] at hA hval
  obtain ⟨v0, vs0, d0, ds0, p0, q0, hargs, rfl, rfl, h0, r0⟩ := trodAll_cons hA
  obtain ⟨v1, vs1, d1, ds1, p1, q1, rfl, rfl, rfl, h1, r1⟩ := trodAll_cons r0
  obtain ⟨rfl, rfl, rfl⟩ := trodAll_nil r1
  obtain rfl : args = #[v0, v1] := by cases args; simp_all
  obtain ⟨rfl, rfl⟩ := trodVars_none hV
  have lt0 := Args.trod_below h0
  obtain ⟨qz, hv0, hq⟩ := Args.rec_in (ks := [.i64, .i64, .i64, .i64]) Tryz.underlying23 (by kernel_rfl) (by kernel_rfl) (hval 0 23 v0 rfl rfl) h0
  obtain rfl : v0 = .agg #[.int .i64 (qz 0), .int .i64 (qz 1), .int .i64 (qz 2), .int .i64 (qz 3)] := hv0
  have lt1 := Args.trod_below h1
  obtain ⟨lA, ln, lc, lz, rfl, hl⟩ := Args.precs_in (ks := [none, some .i64]) (e := 90) (by kernel_rfl) Tryz.underlying90 (by kernel_rfl) (by kernel_rfl) (by decide) (hval 1 79 v1 rfl rfl) h1
  clear hA0 hval0
  refine (walk (qz 0) (qz 1) (qz 2) (qz 3) lA ln lc lz W (hq 0) (hq 1) (hq 2) (hq 3) hl).mono fun e W' ⟨he, bel⟩ => ?_
  subst he
  exact ⟨_, rfl, _, _, _, [], _, [], hW', trodAll_mk1 (shut_bool Tryz.underlying4 _), trodAll_cons_mk (Below.trod Args.laidOut (by kernel_rfl) (of_decide_eq_true (by kernel_rfl)) h0 bel lt0) (trodAll_cons_mk (Below.trod Args.laidOut (by kernel_rfl) (of_decide_eq_true (by kernel_rfl)) h1 bel lt1) (trodAll_mk0)), rfl, bel.frame _, fun h => by cases h⟩

theorem over : Rows.foundPlaysRow.holds Tryz.pinned (OpenSpec.ofChange Rows.foundPlaysSpec) :=
  OpenClaim.holds_of_wide 5 Tryz.f5 rfl rfl rfl rfl rfl rfl rfl ⟨rfl, rfl, rfl, rfl, rfl⟩ rfl rfl rfl rfl rfl (by kernel_rfl) Tryz.func5 (by kernel_rfl)
    (of_decide_eq_true (by kernel_rfl)) (by unfold Func.isWrapper; rw [if_neg (of_decide_eq_false (by kernel_rfl))]; exact ⟨rfl, rfl⟩)
    (fun os started H enc _ => lifted os started H enc)

theorem proved : Rows.FoundPlaysSaid :=
  over
end Go.Proofs.YteakglkagmghpaaGreat.foundPlays
