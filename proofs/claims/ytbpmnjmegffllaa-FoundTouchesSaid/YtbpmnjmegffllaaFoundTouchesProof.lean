/-
  penfoldlaw14.FoundTouches returns true for every four integers (a plan) and every row of Ops, and changes nothing that was there; no condition.
-/
import Derived.Test.YtbpmnjmegffllaaRows
import Derived.Test.YtbpmnjmegffllaaBase
import Derived.Test.YtbpmnjmegffllaaFouM
import Derived.Deep.DeepCutAuto
namespace Go.Proofs.Ytbpmnjmegffllaa.foundTouches
open Go.ChangeShapes Go.WideShapes Go.ChangeAt Go.RowKit
set_option linter.unusedVariables false

open Go.Proofs.Ytbpmnjmegffllaa.Fou Sco Amem Go.Proofs.Ytbpmnjmegffllaa.Beg Go.Proofs.Ytbpmnjmegffllaa.Mod
attribute [local go_sem ↓] Go.wp_at_zero Go.wp_at_succ
theorem own_sr {w w' : World} {v : Value} {base : Nat} {L : List Int} {X : List Nat} (h : Slic.Own Fina.kU w base v L) (k : Only X w w') (hx : ∀ x ∈ X, x < base) : Slic.Sr Fina.kU w' v L :=
  sr_only h.sr k fun g e hm => by
    have h1 := (h.lt g e).1
    have h2 := hx g hm
    omega
theorem sr_word {w : World} {A : Option Addr} {N c : Nat} {L : List Int} {f : Nat → Int} (h : Slic.Sr Fina.kU w (.slice A N c) L) (hL : L = (List.range N).map f) {k : Nat} (hk : k < N) : ∃ g o, A = some ⟨g, o, none⟩ ∧ w.cell? ⟨g, o + k, none⟩ = some (.int .u64 (f k)) := by
  have hl : k < L.length := by rw [hL]; simpa using hk
  obtain ⟨g, o, rfl, _, hc⟩ := h.at k hl
  have := hc 0 (.int .u64 L[k]) rfl
  rw [show o + (k * Fina.kU.m + 0) = o + k by show o + (k * 1 + 0) = o + k; omega] at this
  refine ⟨g, o, rfl, this.trans ?_⟩
  subst hL
  simp

set_option maxRecDepth 100000 in
set_option maxHeartbeats 8000000 in
theorem walk (q0 q1 q2 q3 : Int) (lA : Option Addr) (ln lc : Nat) (lz : Nat → Nat → Int) (w : World) (wq0 : (Lit.int .i64 q0).wf = true) (wq1 : (Lit.int .i64 q1).wf = true) (wq2 : (Lit.int .i64 q2).wf = true) (wq3 : (Lit.int .i64 q3).wf = true) (hl : Args.PRecs [none, some .i64] w lA ln lz) :
    Calls Try.prog 4 #[.agg #[.int .i64 q0, .int .i64 q1, .int .i64 q2, .int .i64 q3], .slice lA ln lc] w fun e w' => e = .returned (.bool true) ∧ Below w.heap.size w w' := by
  obtain ⟨n, t, i, hp, ⟨b1, b2, b3, b4, b5, b6, b7, b8, b9, b10⟩, FT⟩ := Plan.fit_all q0 q1 q2 q3
  have hr : Plan.rightB n t i hp = true := decide_eq_true (by omega)
  obtain ⟨n, rfl⟩ := Int.eq_ofNat_of_zero_le (show 0 ≤ n by omega)
  clear wq0 wq1 wq2 wq3
  have S0 := (Held.St.start w).new [.int .i64 q0, .int .i64 q1, .int .i64 q2, .int .i64 q3] 23
  have HR := Lib.hid hr
  clear hr
  go_enter Try.func4, Try.ntmps4
  go_wp2_with fail
  refine (shown14_any _).mono ?_
  rintro z w1 ⟨rfl, k1⟩
  have S1 := S0.call k1
  obtain ⟨_, c0, c1, c2, c3⟩ := S1.get4 0 rfl
  go_wp2_with fail
  refine (FT _).mono ?_
  rintro z w2 ⟨rfl, k2⟩
  have S2 := (S1.call k2).new [.int .i64 (n : Int), .int .i64 t, .int .i64 i, .int .i64 hp] 23
  clear c0 c1 c2 c3
  obtain ⟨_, c0, c1, c2, c3⟩ := S2.get4 0 rfl
  go_wp2_with fail
  refine (new_ok _ n t i hp HR.out).mono ?_
  rintro z w3 ⟨B, g, G, rfl, h3, k3, l1, l2, l3⟩
  have S4 := Wk.start S2 k3 h3 l2 l3
  have R := newpr HR.out B g
  obtain ⟨N, hNN⟩ : ∃ N, sizeN n i hp = N := ⟨_, rfl⟩
  have N8 : N ≤ 8191 := by have := R.hN; rw [hNN] at this; dsimp only at this; omega
  have HN8 := Lib.hid N8
  obtain ⟨f0, hf⟩ : ∃ f0, Go.Proofs.Ytbpmnjmegffllaa.Fou.newW n i = f0 := ⟨_, rfl⟩
  obtain ⟨F0, hF⟩ : ∃ F0, Sco.start n (64 * (n : Int) + i) hp (64 * (n : Int)) i = F0 := ⟨_, rfl⟩
  rw [hNN] at R S4
  rw [hf] at S4
  rw [hF] at S4
  clear hNN hf hF h3 c0 c1 c2 c3 N8
  go_wp2_with fail
  obtain ⟨bP, hbP⟩ : ∃ bP : Nat, bP = w2.heap.size := ⟨_, rfl⟩
  rw [← hbP] at S4
  rw [← hbP]
  clear hbP
  go_loopw [10] (fun t' wr => ∃ (k : Nat) (f : Nat → Int) (F : Fo), k ≤ 40 ∧ k ≤ ln ∧ t' = .int .i64 (k : Int) ∧ Wk w wr [(bP, [.int .i64 (n : Int), .int .i64 t, .int .i64 i, .int .i64 hp]), (w.heap.size, [.int .i64 q0, .int .i64 q1, .int .i64 q2, .int .i64 q3])] ⟨n, t, i, hp, B, g, N⟩ G f F) (fun t' _ => 40 - (intOf t').toNat)
  case atStart => exact ⟨0, f0, F0, by omega, by omega, rfl, S4⟩
  case round =>
    clear S4
    obtain ⟨k, f, F, hk, hkl, rfl, SA⟩ := hrel
    by_cases h40 : k < 40
    · by_cases hln : k < ln
      · obtain ⟨b, o, mk, rfl, hb, x0, x1, z1, z2⟩ := op_at hl k hln
        obtain ⟨v, hv⟩ : ∃ v, lz k 1 = v := ⟨_, rfl⟩
        rw [hv] at x1 z1 z2
        rw [show o + (k * 2 + 1) = o + k * 2 + 1 from rfl] at x1
        clear hv
        have i0 : (0 : Int) ≤ (k : Int) := by omega
        have i1 : (k : Int) < (ln : Int) := by omega
        go_wp2_with fail
        refine (words_any _ SA.fd.ar HN8.out).mono ?_
        rintro z wa ⟨v1, rfl, O1, ka⟩
        have SB := SA.call ka
        have lg := SA.fd.ar.body.lt
        have lG := SA.fd.gr.lt
        go_wp2_with fail
        refine (Gr.free_any _ Gr.y0 G g _ _ F.L SB.fd.gr (Nat.le_trans SB.fd.iv.ok.len (by omega))).mono ?_
        rintro z W5 ⟨V5, c5, rfl, E5, OF5, k5⟩
        have S5 := SB.call k5
        have O5 := O1.below k5
        have c0 := (S5.st.get 0 rfl).cell 0 _ rfl
        go_upto_region 11 with (fail)
        clear c0
        go_cut [13, 14] (fun s dv wx => StR w W5 [(bP, [.int .i64 (n : Int), .int .i64 t, .int .i64 i, .int .i64 hp]), (w.heap.size, [.int .i64 q0, .int .i64 q1, .int .i64 q2, .int .i64 q3])] ⟨n, t, i, hp, B, g, N⟩ G f F mk v s dv wx)
        case first =>
          refine wp_region_held_drew (S := (fun W' => ((W'.cell? ⟨bP, 0, none⟩ = some (.int .i64 (n : Int)) ∧ W'.cell? ⟨bP, 1, none⟩ = some (.int .i64 t) ∧ W'.cell? ⟨bP, 2, none⟩ = some (.int .i64 i) ∧ W'.cell? ⟨bP, 3, none⟩ = some (.int .i64 hp)) ∧ W'.cell? ⟨b, o + k * 2, none⟩ = some (.bool mk) ∧ W'.cell? ⟨b, o + k * 2 + 1, none⟩ = some (.int .i64 v)))) (by kernel_rfl) ?_ (fun hHeld => ?_)
          · exact keepS S5.drew.st (S5.drew.st.get 0 rfl) hb x0 x1
          refine wpAnyH_take (i := 0) (oi := ⟨some 57, _, _, _, _, _⟩) (v := ?_) rfl (by kernel_rfl) (by kernel_rfl) (by kernel_rfl) (fun _ _ _ h => h) (Or.inl ⟨by kernel_rfl, ?_⟩) (by assumption) ?_
          rotate_left
          · intro w hSw
            try dsimp only at hSw
            first | (go_simp; done) | (go_simp; with_reducible rfl) | with_reducible rfl
          simp only [Act.put, List.setIfInBounds_toArray, List.set_cons_zero, List.set_cons_succ]
          refine wpAnyH_take (i := 1) (oi := ⟨some 58, _, _, _, _, _⟩) (v := ?_) rfl (by kernel_rfl) (by kernel_rfl) (by kernel_rfl) (fun _ _ _ h => h) (Or.inl ⟨by kernel_rfl, ?_⟩) (by assumption) ?_
          rotate_left
          · intro w hSw
            try dsimp only at hSw
            first | (go_simp; done) | (go_simp; with_reducible rfl) | with_reducible rfl
          simp only [Act.put, List.setIfInBounds_toArray, List.set_cons_zero, List.set_cons_succ]
          refine wpAnyH_take (i := 2) (oi := ⟨some 59, _, _, _, _, _⟩) (v := ?_) rfl (by kernel_rfl) (by kernel_rfl) (by kernel_rfl) (fun _ _ _ h => h) (Or.inl ⟨by kernel_rfl, ?_⟩) (by assumption) ?_
          rotate_left
          · intro w hSw
            try dsimp only at hSw
            first | (go_simp; done) | (go_simp; with_reducible rfl) | with_reducible rfl
          simp only [Act.put, List.setIfInBounds_toArray, List.set_cons_zero, List.set_cons_succ]
          refine wpAnyH_take (i := 3) (oi := ⟨some 60, _, _, _, _, _⟩) (v := ?_) rfl (by kernel_rfl) (by kernel_rfl) (by kernel_rfl) (fun _ _ _ h => h) (Or.inl ⟨by kernel_rfl, ?_⟩) (by assumption) ?_
          rotate_left
          · intro w hSw
            try dsimp only at hSw
            first | (go_simp; done) | (go_simp; with_reducible rfl) | with_reducible rfl
          simp only [Act.put, List.setIfInBounds_toArray, List.set_cons_zero, List.set_cons_succ]
          refine wpAnyH_take (i := 4) (oi := ⟨some 61, _, _, _, _, _⟩) (v := ?_) rfl (by kernel_rfl) (by kernel_rfl) (by kernel_rfl) (fun _ _ _ h => h) (Or.inl ⟨by kernel_rfl, ?_⟩) (by assumption) ?_
          rotate_left
          · intro w hSw
            try dsimp only at hSw
            first | (go_simp; done) | (go_simp; with_reducible rfl) | with_reducible rfl
          simp only [Act.put, List.setIfInBounds_toArray, List.set_cons_zero, List.set_cons_succ]
          refine wpAnyH_take (i := 5) (oi := ⟨some 62, _, _, _, _, _⟩) (v := ?_) rfl (by kernel_rfl) (by kernel_rfl) (by kernel_rfl) (fun _ _ _ h => h) (Or.inl ⟨by kernel_rfl, ?_⟩) (by assumption) ?_
          rotate_left
          · intro w hSw
            try dsimp only at hSw
            first | (go_simp; done) | (go_simp; with_reducible rfl) | with_reducible rfl
          simp only [Act.put, List.setIfInBounds_toArray, List.set_cons_zero, List.set_cons_succ]
          refine wpAnyH_take (i := 6) (oi := ⟨some 63, _, _, _, _, _⟩) (v := ?_) rfl (by kernel_rfl) (by kernel_rfl) (by kernel_rfl) (fun _ _ _ h => h) (Or.inl ⟨by kernel_rfl, ?_⟩) (by assumption) ?_
          rotate_left
          · intro w hSw
            try dsimp only at hSw
            first | (go_simp; done) | (go_simp; with_reducible rfl) | with_reducible rfl
          simp only [Act.put, List.setIfInBounds_toArray, List.set_cons_zero, List.set_cons_succ]
          refine wpAnyH_ready (rs := [7, 11]) (by kernel_rfl) (by simp) ?_
          refine AllReadyH.cons (o := ⟨some 64, _, _, _, _, _⟩) rfl (fun K hK => ?_) (AllReadyH.cons (o := ⟨some 13, _, _, _, _, _⟩) rfl (fun K hK => ?_) AllReadyH.nil)
          · skip
            have E7 := S5.drew
            go_simp
            refine (steps_agg _ R E7.fd mk v z1 z2).mono ?_
            rintro z w6 ⟨CS, d, f6, F6, rfl, LN, ON, h6, k6, SF⟩
            refine hK.out _ _ ?_ (fun hHeld => ?_)
            · exact keepS (S5.drew.step h6 k6).st ((S5.drew.step h6 k6).st.get 0 rfl) hb x0 x1
            clear hK K
            refine wpAnyH_take (i := 8) (oi := ⟨some 56, _, _, _, _, _⟩) (v := ?_) rfl (by kernel_rfl) (by kernel_rfl) (by kernel_rfl) (fun _ _ _ h => h) (Or.inl ⟨by kernel_rfl, ?_⟩) (by assumption) ?_
            rotate_left
            · intro w hSw
              try dsimp only at hSw
              first | (go_simp; done) | (go_simp; with_reducible rfl) | with_reducible rfl
            simp only [Act.put, List.setIfInBounds_toArray, List.set_cons_zero, List.set_cons_succ]
            refine wpAnyH_take (i := 9) (oi := ⟨some 65, _, _, _, _, _⟩) (v := ?_) rfl (by kernel_rfl) (by kernel_rfl) (by kernel_rfl) (fun _ _ _ h => h) (Or.inl ⟨by kernel_rfl, ?_⟩) (by assumption) ?_
            rotate_left
            · intro w hSw
              try dsimp only at hSw
              first | (go_simp; done) | (go_simp; with_reducible rfl) | with_reducible rfl
            simp only [Act.put, List.setIfInBounds_toArray, List.set_cons_zero, List.set_cons_succ]
            refine wpAnyH_take (i := 10) (oi := ⟨some 66, _, _, _, _, _⟩) (v := ?_) rfl (by kernel_rfl) (by kernel_rfl) (by kernel_rfl) (fun _ _ _ h => h) (Or.inl ⟨by kernel_rfl, ?_⟩) (by assumption) ?_
            rotate_left
            · intro w hSw
              try dsimp only at hSw
              first | (go_simp; done) | (go_simp; with_reducible rfl) | with_reducible rfl
            simp only [Act.put, List.setIfInBounds_toArray, List.set_cons_zero, List.set_cons_succ]
            refine wpAnyH_ready (rs := [11]) (by kernel_rfl) (by simp) ?_
            refine AllReadyH.cons (o := ⟨some 13, _, _, _, _, _⟩) rfl (fun K hK => ?_) AllReadyH.nil
            go_simp
            refine hK.out _ _ ?_ (fun hHeld => ?_)
            · exact keepS ((S5.drew.step h6 k6).new zR 53).st (((S5.drew.step h6 k6).new zR 53).st.get 1 rfl) hb x0 x1
            clear hK K
            refine wpAnyH_ready (rs := [12]) (by kernel_rfl) (by simp) ?_
            refine AllReadyH.cons (o := ⟨none, _, _, _, _, _⟩) rfl (fun K hK => ?_) AllReadyH.nil
            have AA := ((S5.drew.step h6 k6).new zR 53)
            have TB := typ_new w6 zR.toArray 53
            have AF := Wk.fill AA TB CS LN
            have TT := there_len (AA.st.get 0 rfl) (show zR.length = CS.toArray.size from LN.symm)
            have IR : (Try.prog.info? 53).map (·.size) = some CS.toArray.size := by rw [show CS.toArray.size = 26 from LN]; exact info_run
            rw [if_pos (by rfl)]
            refine wp_store_mid _ _ _ rfl _ 0 CS.toArray rfl rfl TT IR (all_oneCell_toArray ON) ?_
            simp only [Act.put]
            refine hK.out _ _ ?_ (fun hHeld => ?_)
            · exact keepS AF.st (AF.st.get 1 rfl) hb x0 x1
            clear hK K
            refine wpAnyH_ready (rs := [13]) (by kernel_rfl) (by simp) ?_
            refine AllReadyH.cons (o := ⟨some 14, _, _, _, _, _⟩) rfl (fun K hK => ?_) AllReadyH.nil
            go_simp
            refine hK.out _ _ ?_ (fun hHeld => ?_)
            · exact keepS AF.st (AF.st.get 1 rfl) hb x0 x1
            clear hK K
            refine wpAnyH_done (by kernel_rfl) ?_ _
            go_wp2_with fail
            go_meet
            exact ⟨_, CS, d, f6, F6, rfl, rfl, AF, SF, only_fill (((Only.below (Below.refl _ _).drew).trans k6).trans (Only.below ((Below.refl _ _).alloc (Nat.le_refl _) (.cells zR.toArray 53)))) k6.size CS, k6.size⟩
          · skip
            go_simp
            refine hK.out _ _ ?_ (fun hHeld => ?_)
            · exact keepS (S5.drew.new zR 53).st ((S5.drew.new zR 53).st.get 1 rfl) hb x0 x1
            clear hK K
            refine wpAnyH_ready (rs := [7]) (by kernel_rfl) (by simp) ?_
            refine AllReadyH.cons (o := ⟨some 64, _, _, _, _, _⟩) rfl (fun K hK => ?_) AllReadyH.nil
            have E7 := (S5.drew.new zR 53)
            go_simp
            refine (steps_agg _ R E7.fd mk v z1 z2).mono ?_
            rintro z w6 ⟨CS, d, f6, F6, rfl, LN, ON, h6, k6, SF⟩
            refine hK.out _ _ ?_ (fun hHeld => ?_)
            · exact keepS ((S5.drew.new zR 53).step h6 k6).st (((S5.drew.new zR 53).step h6 k6).st.get 1 rfl) hb x0 x1
            clear hK K
            refine wpAnyH_take (i := 8) (oi := ⟨some 56, _, _, _, _, _⟩) (v := ?_) rfl (by kernel_rfl) (by kernel_rfl) (by kernel_rfl) (fun _ _ _ h => h) (Or.inl ⟨by kernel_rfl, ?_⟩) (by assumption) ?_
            rotate_left
            · intro w hSw
              try dsimp only at hSw
              first | (go_simp; done) | (go_simp; with_reducible rfl) | with_reducible rfl
            simp only [Act.put, List.setIfInBounds_toArray, List.set_cons_zero, List.set_cons_succ]
            refine wpAnyH_take (i := 9) (oi := ⟨some 65, _, _, _, _, _⟩) (v := ?_) rfl (by kernel_rfl) (by kernel_rfl) (by kernel_rfl) (fun _ _ _ h => h) (Or.inl ⟨by kernel_rfl, ?_⟩) (by assumption) ?_
            rotate_left
            · intro w hSw
              try dsimp only at hSw
              first | (go_simp; done) | (go_simp; with_reducible rfl) | with_reducible rfl
            simp only [Act.put, List.setIfInBounds_toArray, List.set_cons_zero, List.set_cons_succ]
            refine wpAnyH_take (i := 10) (oi := ⟨some 66, _, _, _, _, _⟩) (v := ?_) rfl (by kernel_rfl) (by kernel_rfl) (by kernel_rfl) (fun _ _ _ h => h) (Or.inl ⟨by kernel_rfl, ?_⟩) (by assumption) ?_
            rotate_left
            · intro w hSw
              try dsimp only at hSw
              first | (go_simp; done) | (go_simp; with_reducible rfl) | with_reducible rfl
            simp only [Act.put, List.setIfInBounds_toArray, List.set_cons_zero, List.set_cons_succ]
            refine wpAnyH_ready (rs := [12]) (by kernel_rfl) (by simp) ?_
            refine AllReadyH.cons (o := ⟨none, _, _, _, _, _⟩) rfl (fun K hK => ?_) AllReadyH.nil
            have AA := ((S5.drew.new zR 53).step h6 k6)
            have TB := typ_go (typ_new W5.drew zR.toArray 53) k6 (Wk.notin (S5.drew.new zR 53))
            have AF := Wk.fill AA TB CS LN
            have TT := there_len (AA.st.get 0 rfl) (show zR.length = CS.toArray.size from LN.symm)
            have IR : (Try.prog.info? 53).map (·.size) = some CS.toArray.size := by rw [show CS.toArray.size = 26 from LN]; exact info_run
            rw [if_pos (by rfl)]
            refine wp_store_mid _ _ _ rfl _ 0 CS.toArray rfl rfl TT IR (all_oneCell_toArray ON) ?_
            simp only [Act.put]
            refine hK.out _ _ ?_ (fun hHeld => ?_)
            · exact keepS AF.st (AF.st.get 1 rfl) hb x0 x1
            clear hK K
            refine wpAnyH_ready (rs := [13]) (by kernel_rfl) (by simp) ?_
            refine AllReadyH.cons (o := ⟨some 14, _, _, _, _, _⟩) rfl (fun K hK => ?_) AllReadyH.nil
            go_simp
            refine hK.out _ _ ?_ (fun hHeld => ?_)
            · exact keepS AF.st (AF.st.get 1 rfl) hb x0 x1
            clear hK K
            refine wpAnyH_done (by kernel_rfl) ?_ _
            go_wp2_with fail
            go_meet
            exact ⟨_, CS, d, f6, F6, rfl, rfl, AF, SF, only_fill ((Only.below (((Below.refl _ _).drew).alloc (Nat.le_refl _) (.cells zR.toArray 53))).trans k6) (Nat.le_refl _) CS, Nat.le_refl _⟩
        case rest =>
          obtain ⟨gB, CS, d, f6, F6, rfl, rfl, S6, ⟨d0, d4, sf⟩, ko, lgB⟩ := hcut
          have R1 := own_sr O5 ko (fun x hx => by
            rcases List.mem_cons.1 hx with rfl | hx
            · exact lg
            · rw [List.mem_singleton.1 hx]; exact lG)
          clear O1 O5 E5 OF5 x0 x1
          go_wp2_with fail
          refine (words_any _ S6.fd.ar HN8.out).mono ?_
          rintro z w7 ⟨v2, rfl, O2, k7⟩
          have S7 := S6.call k7
          have R1' := R1.below k7
          have R2 := O2.sr
          obtain ⟨A1, n1, rfl, _, _⟩ := R1'.form
          obtain ⟨A2, n2, rfl, _, _⟩ := R2.form
          obtain ⟨L1, hL1⟩ : ∃ L1, (List.range N).map f = L1 := ⟨_, rfl⟩
          obtain ⟨L2, hL2⟩ : ∃ L2, (List.range N).map f6 = L2 := ⟨_, rfl⟩
          have e1 : L1.length = N := by rw [← hL1, List.length_map, List.length_range]
          have e2 : L2.length = N := by rw [← hL2, List.length_map, List.length_range]
          rw [hL1] at R1'
          rw [hL1]
          rw [hL2] at R2
          rw [hL2]
          rw [e1] at R1'
          rw [e1]
          rw [e2] at R2
          rw [e2]
          have HL1 := Lib.hid hL1.symm
          have HL2 := Lib.hid hL2.symm
          have x7d0 := (S7.st.get 0 rfl).cell 0 _ d0
          have x7d4 := (S7.st.get 0 rfl).cell 4 _ d4
          clear hL1 hL2 e1 e2 R1 O2 k7
          rcases sf with ⟨rfl, hB, hf6, hF6, d7, d23, d24⟩ | ⟨rfl, hB, hf6, hF6, d7⟩
          · have y7 := (S7.st.get 0 rfl).cell 7 _ d7
            have y23 := (S7.st.get 0 rfl).cell 23 _ d23
            have y24 := (S7.st.get 0 rfl).cell 24 _ d24
            rcases op_words f F mk v with ⟨hx0, hv0, hFF, hW⟩ | ⟨K, hx0, hK, hW⟩
            · have t0 : ((opR F mk v).x != 0) = true := by simpa using hx0
              have t1 : ((opR F mk v).x == 0) = false := by simpa using hx0
              have HQ := Lib.hid (show ∀ i, f i = f6 i from fun i => by rw [hf6, hW])
              have hl6 : F6.L = F.L := by rw [hF6, hFF]
              cases mk
              all_goals
                go_wp2_with fail
                refine (Gr.free_any _ Gr.y0 G g _ _ F6.L S7.fd.gr (Nat.le_trans S7.fd.iv.ok.len (by omega))).mono ?_
                rintro z w8 ⟨V8, c8, rfl, E8, OF8, k8⟩
                rw [hl6]
                have S8 := S7.call k8
                have R18 := R1'.below k8
                have R28 := R2.below k8
                clear E8 OF8 S7 S6 R1' R2 hv0 hFF hW hf6 hF6 y7 y23 y24 x7d0 x7d4 d0 d4 d7 hl6
                go_wp2_with fail
                go_loopw [17] (fun t' wr => ∃ kk : Nat, kk ≤ N ∧ t' = .int .i64 (kk : Int) ∧ Wk w wr ((gB, CS) :: [(bP, [.int .i64 (n : Int), .int .i64 t, .int .i64 i, .int .i64 hp]), (w.heap.size, [.int .i64 q0, .int .i64 q1, .int .i64 q2, .int .i64 q3])]) ⟨n, t, i, hp, B, g, N⟩ G f6 F6 ∧ Slic.Sr Fina.kU wr (.slice A1 N n1) L1 ∧ Slic.Sr Fina.kU wr (.slice A2 N n2) L2) (fun t' _ => N - (intOf t').toNat)
                case atStart => exact ⟨0, by omega, rfl, S8, R18, R28⟩
                case round =>
                  clear S8 R18 R28
                  obtain ⟨kk, hkk, rfl, S9, r1, r2⟩ := hrel
                  by_cases hlt : kk < N
                  · obtain ⟨g1, o1, rfl, y1⟩ := sr_word r1 HL1.out hlt
                    obtain ⟨g2, o2, rfl, y2⟩ := sr_word r2 HL2.out hlt
                    have j0 : (0 : Int) ≤ (kk : Int) := by omega
                    have j1 : (kk : Int) < (N : Int) := by omega
                    have j2 : (kk : Int) < 8191 := by have := HN8.out; omega
                    rw [← HQ.out kk] at y2
                    have t2 : (f kk != f kk) = false := bne_self_eq_false _
                    go_wp2_with fail
                    go_quiet (fail)
                    go_wp2_with fail
                    go_roundw
                    case rel => exact ⟨kk + 1, by omega, by go_num, S9.call (Held.below_drewN (Below.refl _ _) _), r1.below (Held.below_drewN (Below.refl _ _) _), r2.below (Held.below_drewN (Below.refl _ _) _)⟩
                    case measure => simp [intOf]; omega
                  · obtain rfl : kk = N := by omega
                    go_wp2_with fail
                    go_roundw
                    case rel => exact ⟨k + 1, f6, F6, by omega, by omega, by go_num, S9.sub⟩
                    case measure => simp [intOf]; omega
            · rw [hx0] at d23 y23
              have HW := Lib.hid (show ∀ i, i / 8 ≠ K → f i = f6 i from fun i hi => by rw [hf6, hW i hi])
              cases mk with
              | true =>
                have hK2 : (K : Int) = (opR F true v).v := hK
                rw [← hK2] at y24
                have S8 := S7
                have R18 := R1'
                have R28 := R2
                clear S7 R1' R2 hW hf6 hF6 hK hK2
                go_wp2_with fail
                go_loopw [17] (fun t' wr => ∃ kk : Nat, kk ≤ N ∧ t' = .int .i64 (kk : Int) ∧ Wk w wr ((gB, CS) :: [(bP, [.int .i64 (n : Int), .int .i64 t, .int .i64 i, .int .i64 hp]), (w.heap.size, [.int .i64 q0, .int .i64 q1, .int .i64 q2, .int .i64 q3])]) ⟨n, t, i, hp, B, g, N⟩ G f6 F6 ∧ Slic.Sr Fina.kU wr (.slice A1 N n1) L1 ∧ Slic.Sr Fina.kU wr (.slice A2 N n2) L2) (fun t' _ => N - (intOf t').toNat)
                case atStart => exact ⟨0, by omega, rfl, S8, R18, R28⟩
                case round =>
                  clear S8 R18 R28
                  obtain ⟨kk, hkk, rfl, S9, r1, r2⟩ := hrel
                  by_cases hlt : kk < N
                  · obtain ⟨g1, o1, rfl, y1⟩ := sr_word r1 HL1.out hlt
                    obtain ⟨g2, o2, rfl, y2⟩ := sr_word r2 HL2.out hlt
                    have j0 : (0 : Int) ≤ (kk : Int) := by omega
                    have j1 : (kk : Int) < (N : Int) := by omega
                    have j2 : (kk : Int) < 8191 := by have := HN8.out; omega
                    by_cases hne : f kk = f6 kk
                    · skip
                      rw [← hne] at y2
                      have t2 : (f kk != f kk) = false := bne_self_eq_false _
                      go_wp2_with fail
                      go_quiet (fail)
                      go_wp2_with fail
                      go_roundw
                      case rel => exact ⟨kk + 1, by omega, by go_num, S9.call (Held.below_drewN (Below.refl _ _) _), r1.below (Held.below_drewN (Below.refl _ _) _), r2.below (Held.below_drewN (Below.refl _ _) _)⟩
                      case measure => simp [intOf]; omega
                    · skip
                      have t2 : (f kk != f6 kk) = true := by simpa using hne
                      have hkK : kk / 8 = K := by
                        by_cases h : kk / 8 = K
                        · exact h
                        · exact absurd (HW.out kk h) hne
                      have hq : (kk : Int).tdiv 8 = (K : Int) := by rw [Int.tdiv_eq_ediv_of_nonneg (by omega)]; omega
                      have c23 := (S9.st.get 0 rfl).cell 23 _ d23
                      have t3 : ((K : Int) != (K : Int)) = false := bne_self_eq_false _
                      go_wp2_with fail
                      go_quiet (fail)
                      go_wp2_with fail
                      go_roundw
                      case rel => exact ⟨kk + 1, by omega, by go_num, S9.call (Held.below_drewN (Below.refl _ _) _), r1.below (Held.below_drewN (Below.refl _ _) _), r2.below (Held.below_drewN (Below.refl _ _) _)⟩
                      case measure => simp [intOf]; omega
                  · obtain rfl : kk = N := by omega
                    go_wp2_with fail
                    go_roundw
                    case rel => exact ⟨k + 1, f6, F6, by omega, by omega, by go_num, S9.sub⟩
                    case measure => simp [intOf]; omega
              | false =>
                have hK2 : (K : Int) = opA false v := hK
                rw [← hK2] at x7d4
                have S8 := S7
                have R18 := R1'
                have R28 := R2
                clear S7 R1' R2 hW hf6 hF6 hK hK2
                go_wp2_with fail
                go_loopw [17] (fun t' wr => ∃ kk : Nat, kk ≤ N ∧ t' = .int .i64 (kk : Int) ∧ Wk w wr ((gB, CS) :: [(bP, [.int .i64 (n : Int), .int .i64 t, .int .i64 i, .int .i64 hp]), (w.heap.size, [.int .i64 q0, .int .i64 q1, .int .i64 q2, .int .i64 q3])]) ⟨n, t, i, hp, B, g, N⟩ G f6 F6 ∧ Slic.Sr Fina.kU wr (.slice A1 N n1) L1 ∧ Slic.Sr Fina.kU wr (.slice A2 N n2) L2) (fun t' _ => N - (intOf t').toNat)
                case atStart => exact ⟨0, by omega, rfl, S8, R18, R28⟩
                case round =>
                  clear S8 R18 R28
                  obtain ⟨kk, hkk, rfl, S9, r1, r2⟩ := hrel
                  by_cases hlt : kk < N
                  · obtain ⟨g1, o1, rfl, y1⟩ := sr_word r1 HL1.out hlt
                    obtain ⟨g2, o2, rfl, y2⟩ := sr_word r2 HL2.out hlt
                    have j0 : (0 : Int) ≤ (kk : Int) := by omega
                    have j1 : (kk : Int) < (N : Int) := by omega
                    have j2 : (kk : Int) < 8191 := by have := HN8.out; omega
                    by_cases hne : f kk = f6 kk
                    · skip
                      rw [← hne] at y2
                      have t2 : (f kk != f kk) = false := bne_self_eq_false _
                      go_wp2_with fail
                      go_quiet (fail)
                      go_wp2_with fail
                      go_roundw
                      case rel => exact ⟨kk + 1, by omega, by go_num, S9.call (Held.below_drewN (Below.refl _ _) _), r1.below (Held.below_drewN (Below.refl _ _) _), r2.below (Held.below_drewN (Below.refl _ _) _)⟩
                      case measure => simp [intOf]; omega
                    · skip
                      have t2 : (f kk != f6 kk) = true := by simpa using hne
                      have hkK : kk / 8 = K := by
                        by_cases h : kk / 8 = K
                        · exact h
                        · exact absurd (HW.out kk h) hne
                      have hq : (kk : Int).tdiv 8 = (K : Int) := by rw [Int.tdiv_eq_ediv_of_nonneg (by omega)]; omega
                      have c23 := (S9.st.get 0 rfl).cell 23 _ d23
                      have t3 : ((K : Int) != (K : Int)) = false := bne_self_eq_false _
                      go_wp2_with fail
                      go_quiet (fail)
                      go_wp2_with fail
                      go_roundw
                      case rel => exact ⟨kk + 1, by omega, by go_num, S9.call (Held.below_drewN (Below.refl _ _) _), r1.below (Held.below_drewN (Below.refl _ _) _), r2.below (Held.below_drewN (Below.refl _ _) _)⟩
                      case measure => simp [intOf]; omega
                  · obtain rfl : kk = N := by omega
                    go_wp2_with fail
                    go_roundw
                    case rel => exact ⟨k + 1, f6, F6, by omega, by omega, by go_num, S9.sub⟩
                    case measure => simp [intOf]; omega
          · have y7 := (S7.st.get 0 rfl).cell 7 _ d7
            have SI := S7.sub
            clear d0 d4 d7 S7 S6
            go_wp2_with fail
            go_roundw
            case rel => exact ⟨k + 1, f6, F6, by omega, by omega, by go_num, SI⟩
            case measure => simp [intOf]; omega
      · obtain rfl : k = ln := by omega
        have q1 : decide ((k : Int) < (k : Int)) = false := by simp
        go_wp2
        go_ret
        exact ⟨rfl, SA.st.below⟩
    · obtain rfl : k = 40 := by omega
      go_wp2
      all_goals
        go_ret
        exact ⟨rfl, SA.st.below⟩

set_option maxRecDepth 100000 in
theorem lifted (os : Os) (started : os.Started) (H : Type) (enc : TypeId × Value → H) :
    ReturnsInHanded {} Try.checked os 4 .any (Rows.foundTouchesSpec.pre6 enc Try.prog Try.f4 Rows.foundTouchesRow.domain false) (Rows.foundTouchesSpec.post enc Try.prog Try.f4 false true false false) := by
  refine returnsInHanded_of_change (C := Try.checked) Args.own started (by kernel_rfl) Try.func4
    (ChangeSpec.witness6 (enc := enc) (C := Try.checked) false ⟨#[], #[.agg #[.int .i64 0, .int .i64 0, .int .i64 0, .int .i64 0], .slice none 0 0], []⟩ 8 (by kernel_rfl) (by kernel_rfl) (by kernel_rfl) (by kernel_rfl)) ?_
  intro W base args ds gs before hval0 hW hcnd _
  have hval : ∀ (j : Nat) t v, Try.f4.params[j]? = some t → args[j]? = some v → Value.okWide Try.prog W .any base t v := hval0
  have hW' := hW
  obtain ⟨p, q, hA0, hV, rfl, hfz, hnd⟩ := hW
  have hA : DataW.TrodAll enc Try.prog W 0 (fun _ => true) true Try.f4.params.toList args.toList ds p := hA0
  rw [Try.params4] at hA hval
  obtain ⟨v0, vs0, d0, ds0, p0, q0, hargs, rfl, rfl, h0, r0⟩ := trodAll_cons hA
  obtain ⟨v1, vs1, d1, ds1, p1, q1, rfl, rfl, rfl, h1, r1⟩ := trodAll_cons r0
  obtain ⟨rfl, rfl, rfl⟩ := trodAll_nil r1
  obtain rfl : args = #[v0, v1] := by cases args; simp_all
  obtain ⟨rfl, rfl⟩ := trodVars_none hV
  have lt0 := Args.trod_below h0
  obtain ⟨qz, hv0, hq⟩ := Args.rec_in (ks := [.i64, .i64, .i64, .i64]) Try.underlying23 (by kernel_rfl) (by kernel_rfl) (hval 0 23 v0 rfl rfl) h0
  obtain rfl : v0 = .agg #[.int .i64 (qz 0), .int .i64 (qz 1), .int .i64 (qz 2), .int .i64 (qz 3)] := hv0
  have lt1 := Args.trod_below h1
  obtain ⟨lA, ln, lc, lz, rfl, hl⟩ := Args.precs_in (ks := [none, some .i64]) (e := 57) (by kernel_rfl) Try.underlying57 (by kernel_rfl) (by kernel_rfl) (by decide) (hval 1 40 v1 rfl rfl) h1
  clear hA0 hval0
  refine (walk (qz 0) (qz 1) (qz 2) (qz 3) lA ln lc lz W (hq 0) (hq 1) (hq 2) (hq 3) hl).mono fun e W' ⟨he, bel⟩ => ?_
  subst he
  exact ⟨_, rfl, _, _, _, [], _, [], hW', trodAll_mk1 (shut_bool Try.underlying4 _), trodAll_cons_mk (Below.trod Args.laidOut (by kernel_rfl) (of_decide_eq_true (by kernel_rfl)) h0 bel lt0) (trodAll_cons_mk (Below.trod Args.laidOut (by kernel_rfl) (of_decide_eq_true (by kernel_rfl)) h1 bel lt1) (trodAll_mk0)), rfl, bel.frame _, fun h => by cases h⟩

theorem over : Rows.foundTouchesRow.holds Try.pinned (OpenSpec.ofChange Rows.foundTouchesSpec) :=
  OpenClaim.holds_of_wide 4 Try.f4 rfl rfl rfl rfl rfl rfl rfl ⟨rfl, rfl, rfl, rfl, rfl⟩ rfl rfl rfl rfl rfl (by kernel_rfl) Try.func4 (by kernel_rfl)
    (of_decide_eq_true (by kernel_rfl)) (by unfold Func.isWrapper; rw [if_neg (of_decide_eq_false (by kernel_rfl))]; exact ⟨rfl, rfl⟩)
    (fun os started H enc _ => lifted os started H enc)

theorem proved : Rows.FoundTouchesSaid :=
  over
end Go.Proofs.Ytbpmnjmegffllaa.foundTouches
