/-
  penfoldlaw14.FoundWhole returns true for every four integers (a plan) and every row of Ops, and changes nothing that was there; no condition.
-/
import Derived.Test.YteakglkagmghpaaRows
import Derived.Test.YteakglkagmghpaaBase
import Derived.Test.YteakglkagmghpaaFouz
import Derived.Deep.DeepCutAuto
namespace Go.Proofs.Yteakglkagmghpaa.foundWhole
open Go.ChangeShapes Go.WideShapes Go.ChangeAt Go.RowKit
set_option linter.unusedVariables false

open Go.Proofs.Yteakglkagmghpaa.Fou Sco Amem Go.Proofs.Yteakglkagmghpaa.Beg Go.Proofs.Yteakglkagmghpaa.Mod
attribute [local go_sem ↓] Go.wp_at_zero Go.wp_at_succ
theorem ext_at {w : World} {A : Option Addr} {N c : Nat} {L : List Gm.E} (h : Slic.Sr kP w (.slice A N c) L) {j : Nat} (hj : j < L.length) : ∃ g o, A = some ⟨g, o, none⟩ ∧ w.cell? ⟨g, o + j * 2, none⟩ = some (.int .i64 (L[j]).1) ∧ w.cell? ⟨g, o + j * 2 + 1, none⟩ = some (.int .i64 (L[j]).2) := by
  obtain ⟨g, o, rfl, _, hc⟩ := h.at j hj
  exact ⟨g, o, rfl, hc 0 _ rfl, hc 1 _ rfl⟩
theorem ext_again {w : World} {g o N c : Nat} {L : List Gm.E} (h : Slic.Sr kP w (.slice (some ⟨g, o, none⟩) N c) L) {j : Nat} (hj : j < L.length) : w.cell? ⟨g, o + j * 2, none⟩ = some (.int .i64 (L[j]).1) ∧ w.cell? ⟨g, o + j * 2 + 1, none⟩ = some (.int .i64 (L[j]).2) := by
  obtain ⟨g', o', e, h1, h2⟩ := ext_at h hj
  injection e with e
  injection e with e1 e2
  subst e1 e2
  exact ⟨h1, h2⟩

set_option maxRecDepth 100000 in
set_option maxHeartbeats 8000000 in
theorem walk (q0 q1 q2 q3 : Int) (lA : Option Addr) (ln lc : Nat) (lz : Nat → Nat → Int) (w : World) (wq0 : (Lit.int .i64 q0).wf = true) (wq1 : (Lit.int .i64 q1).wf = true) (wq2 : (Lit.int .i64 q2).wf = true) (wq3 : (Lit.int .i64 q3).wf = true) (hl : Args.PRecs [none, some .i64] w lA ln lz) :
    Calls Try.prog 6 #[.agg #[.int .i64 q0, .int .i64 q1, .int .i64 q2, .int .i64 q3], .slice lA ln lc] w fun e w' => e = .returned (.bool true) ∧ Below w.heap.size w w' := by
  obtain ⟨n, t, i, hp, ⟨b1, b2, b3, b4, b5, b6, b7, b8, b9, b10⟩, FT⟩ := Plan.fit_all q0 q1 q2 q3
  have hr : Plan.rightB n t i hp = true := decide_eq_true (by omega)
  obtain ⟨n, rfl⟩ := Int.eq_ofNat_of_zero_le (show 0 ≤ n by omega)
  clear wq0 wq1 wq2 wq3
  have S0 := (Held.St.start w).new [.int .i64 q0, .int .i64 q1, .int .i64 q2, .int .i64 q3] 25
  have HR := Lib.hid hr
  clear hr
  go_enter Try.func6, Try.ntmps6
  go_wp2_with fail
  refine (shown14_any _).mono ?_
  rintro z w1 ⟨rfl, k1⟩
  have S1 := S0.call k1
  obtain ⟨_, c0, c1, c2, c3⟩ := S1.get4 0 rfl
  go_wp2_with fail
  refine (FT _).mono ?_
  rintro z w2 ⟨rfl, k2⟩
  have S2 := (S1.call k2).new [.int .i64 (n : Int), .int .i64 t, .int .i64 i, .int .i64 hp] 25
  clear c0 c1 c2 c3
  obtain ⟨_, c0, c1, c2, c3⟩ := S2.get4 0 rfl
  go_wp2_with fail
  refine (new_ok _ n t i hp HR.out).mono ?_
  rintro z w3 ⟨B, g, G, rfl, h3, k3, l1, l2, l3⟩
  have S4 := Wk.start S2 k3 h3 l2 l3
  have R := newpr HR.out B g
  obtain ⟨N, hNN⟩ : ∃ N, sizeN n i hp = N := ⟨_, rfl⟩
  have N8 : N ≤ 8191 := by have := R.hN; rw [hNN] at this; dsimp only at this; omega
  have HN8 := Lib.hid N8
  have HP8 : 8 * n ≤ N := by have := R.b.2.2.1; rw [hNN] at this; exact this
  obtain ⟨f0, hf⟩ : ∃ f0, Go.Proofs.Yteakglkagmghpaa.Fou.newW n i = f0 := ⟨_, rfl⟩
  obtain ⟨F0, hF⟩ : ∃ F0, Sco.start n (64 * (n : Int) + i) hp (64 * (n : Int)) i = F0 := ⟨_, rfl⟩
  rw [hNN] at R S4
  rw [hf] at S4
  rw [hF] at S4
  clear hNN hf hF h3 c0 c1 c2 c3 N8
  have P4 := S4.st.get 0 rfl
  have c0 := P4.cell 0 _ rfl
  have c1 := P4.cell 1 _ rfl
  have c2 := P4.cell 2 _ rfl
  have c3 := P4.cell 3 _ rfl
  clear P4
  go_wp2_with fail
  refine (Plan.refheap_any (n : Int) t i hp _ HR.out).mono ?_
  rintro z w4 ⟨rfl, k4⟩
  obtain ⟨A, hA⟩ : ∃ A : Int, 64 * (n : Int) + i = A := ⟨_, rfl⟩
  have a0 : 0 ≤ A := by omega
  have a1 : A ≤ 4096 := by omega
  have a8 : A % 8 = 0 := by omega
  have h1024 : hp ≤ 1024 := by omega
  have S5 := (S4.call k4).new [.int .i64 A, .int .i64 hp] 76
  rw [hA]
  clear S4 c0 c1 c2 c3
  go_wp2_with fail
  obtain ⟨bP, hbP⟩ : ∃ bP : Nat, bP = w2.heap.size := ⟨_, rfl⟩
  obtain ⟨bH, hbH⟩ : ∃ bH : Nat, bH = w4.heap.size := ⟨_, rfl⟩
  rw [← hbP, ← hbH] at S5
  rw [← hbP, ← hbH]
  clear hbP hbH
  go_loopw [11] (fun t' wr => ∃ (k : Nat) (f : Nat → Int) (F : Fo), k ≤ 40 ∧ k ≤ ln ∧ t' = .int .i64 (k : Int) ∧ Wk w wr [(bH, [.int .i64 A, .int .i64 hp]), (bP, [.int .i64 (n : Int), .int .i64 t, .int .i64 i, .int .i64 hp]), (w.heap.size, [.int .i64 q0, .int .i64 q1, .int .i64 q2, .int .i64 q3])] ⟨n, t, i, hp, B, g, N⟩ G f F) (fun t' _ => 40 - (intOf t').toNat)
  case atStart => exact ⟨0, f0, F0, by omega, by omega, rfl, S5⟩
  case round =>
    clear S5
    obtain ⟨k, f, F, hk, hkl, rfl, SA⟩ := hrel
    by_cases h40 : k < 40
    · by_cases hln : k < ln
      · obtain ⟨b, o, mk, rfl, hb, x0, x1, z1, z2⟩ := op_at hl k hln
        obtain ⟨v, hv⟩ : ∃ v, lz k 1 = v := ⟨_, rfl⟩
        rw [hv] at x1 z1 z2
        rw [show o + (k * 2 + 1) = o + k * 2 + 1 from rfl] at x1
        clear hv
        have i0 : (0 : Int) ≤ (k : Int) := by omega
        have i1 : (k : Int) < (ln : Int) := by omega
        go_upto_region 10 with (fail)
        go_cut [66] (fun _ wx => ∃ f6 F6, Wk w wx [(bH, [.int .i64 A, .int .i64 hp]), (bP, [.int .i64 (n : Int), .int .i64 t, .int .i64 i, .int .i64 hp]), (w.heap.size, [.int .i64 q0, .int .i64 q1, .int .i64 q2, .int .i64 q3])] ⟨n, t, i, hp, B, g, N⟩ G f6 F6)
        case first =>
          refine wp_region_held_drew (S := (fun W' => ((W'.cell? ⟨bP, 0, none⟩ = some (.int .i64 (n : Int)) ∧ W'.cell? ⟨bP, 1, none⟩ = some (.int .i64 t) ∧ W'.cell? ⟨bP, 2, none⟩ = some (.int .i64 i) ∧ W'.cell? ⟨bP, 3, none⟩ = some (.int .i64 hp)) ∧ W'.cell? ⟨b, o + k * 2, none⟩ = some (.bool mk) ∧ W'.cell? ⟨b, o + k * 2 + 1, none⟩ = some (.int .i64 v)))) (by kernel_rfl) ?_ (fun hHeld => ?_)
          · exact keepS SA.drew.st (SA.drew.st.get 1 rfl) hb x0 x1
          refine wpAnyH_take (i := 0) (oi := ⟨some 59, _, _, _, _, _⟩) (v := ?_) rfl (by kernel_rfl) (by kernel_rfl) (by kernel_rfl) (fun _ _ _ h => h) (Or.inl ⟨by kernel_rfl, ?_⟩) (by assumption) ?_
          rotate_left
          · intro w hSw
            try dsimp only at hSw
            first | (go_simp; done) | (go_simp; with_reducible rfl) | with_reducible rfl
          simp only [Act.put, List.setIfInBounds_toArray, List.set_cons_zero, List.set_cons_succ]
          refine wpAnyH_take (i := 1) (oi := ⟨some 60, _, _, _, _, _⟩) (v := ?_) rfl (by kernel_rfl) (by kernel_rfl) (by kernel_rfl) (fun _ _ _ h => h) (Or.inl ⟨by kernel_rfl, ?_⟩) (by assumption) ?_
          rotate_left
          · intro w hSw
            try dsimp only at hSw
            first | (go_simp; done) | (go_simp; with_reducible rfl) | with_reducible rfl
          simp only [Act.put, List.setIfInBounds_toArray, List.set_cons_zero, List.set_cons_succ]
          refine wpAnyH_take (i := 2) (oi := ⟨some 61, _, _, _, _, _⟩) (v := ?_) rfl (by kernel_rfl) (by kernel_rfl) (by kernel_rfl) (fun _ _ _ h => h) (Or.inl ⟨by kernel_rfl, ?_⟩) (by assumption) ?_
          rotate_left
          · intro w hSw
            try dsimp only at hSw
            first | (go_simp; done) | (go_simp; with_reducible rfl) | with_reducible rfl
          simp only [Act.put, List.setIfInBounds_toArray, List.set_cons_zero, List.set_cons_succ]
          refine wpAnyH_take (i := 3) (oi := ⟨some 62, _, _, _, _, _⟩) (v := ?_) rfl (by kernel_rfl) (by kernel_rfl) (by kernel_rfl) (fun _ _ _ h => h) (Or.inl ⟨by kernel_rfl, ?_⟩) (by assumption) ?_
          rotate_left
          · intro w hSw
            try dsimp only at hSw
            first | (go_simp; done) | (go_simp; with_reducible rfl) | with_reducible rfl
          simp only [Act.put, List.setIfInBounds_toArray, List.set_cons_zero, List.set_cons_succ]
          refine wpAnyH_take (i := 4) (oi := ⟨some 63, _, _, _, _, _⟩) (v := ?_) rfl (by kernel_rfl) (by kernel_rfl) (by kernel_rfl) (fun _ _ _ h => h) (Or.inl ⟨by kernel_rfl, ?_⟩) (by assumption) ?_
          rotate_left
          · intro w hSw
            try dsimp only at hSw
            first | (go_simp; done) | (go_simp; with_reducible rfl) | with_reducible rfl
          simp only [Act.put, List.setIfInBounds_toArray, List.set_cons_zero, List.set_cons_succ]
          refine wpAnyH_take (i := 5) (oi := ⟨some 64, _, _, _, _, _⟩) (v := ?_) rfl (by kernel_rfl) (by kernel_rfl) (by kernel_rfl) (fun _ _ _ h => h) (Or.inl ⟨by kernel_rfl, ?_⟩) (by assumption) ?_
          rotate_left
          · intro w hSw
            try dsimp only at hSw
            first | (go_simp; done) | (go_simp; with_reducible rfl) | with_reducible rfl
          simp only [Act.put, List.setIfInBounds_toArray, List.set_cons_zero, List.set_cons_succ]
          refine wpAnyH_take (i := 6) (oi := ⟨some 65, _, _, _, _, _⟩) (v := ?_) rfl (by kernel_rfl) (by kernel_rfl) (by kernel_rfl) (fun _ _ _ h => h) (Or.inl ⟨by kernel_rfl, ?_⟩) (by assumption) ?_
          rotate_left
          · intro w hSw
            try dsimp only at hSw
            first | (go_simp; done) | (go_simp; with_reducible rfl) | with_reducible rfl
          simp only [Act.put, List.setIfInBounds_toArray, List.set_cons_zero, List.set_cons_succ]
          refine wpAnyH_ready (rs := [7]) (by kernel_rfl) (by simp) ?_
          refine AllReadyH.cons (o := ⟨some 66, _, _, _, _, _⟩) rfl (fun K hK => ?_) AllReadyH.nil
          have E7 := SA.drew
          go_simp
          refine (steps_agg _ R E7.fd mk v z1 z2).mono ?_
          rintro z w6 ⟨CS, d, f6, F6, rfl, LN, ON, h6, k6, SF⟩
          refine hK.out _ _ ?_ (fun hHeld => ?_)
          · exact keepS (SA.drew.step h6 k6).st ((SA.drew.step h6 k6).st.get 1 rfl) hb x0 x1
          clear hK K
          refine wpAnyH_done (by kernel_rfl) ?_ _
          go_wp2_with fail
          go_meet
          exact ⟨f6, F6, (SA.drew.step h6 k6)⟩
        case rest =>
          obtain ⟨f6, F6, S6⟩ := hcut
          clear SA x0 x1
          have S6a := S6.alloc (.cells #[] 76)
          have IV : Hid (Inv n A hp (64 * (n : Int)) i F6) := Lib.hid (by
            have := S6.fd.iv
            unfold Pn.Iv Pn.A at this
            dsimp only at this
            rw [hA] at this
            exact this)
          have LL : F6.L.length ≤ 200000 := Nat.le_trans IV.out.ok.len (by omega)
          go_wp2_with fail
          refine (Gr.free_any _ Gr.y0 G g _ _ F6.L S6a.fd.gr LL).mono ?_
          rintro z W7 ⟨V, c, rfl, E, OF, k7⟩
          have O0 := (Slic.Own.empty (K := kP) wc wc.heap.size (Nat.le_refl _)).below k7
          have SR := ex_sr E
          have B7 := (((Held.St.start wc).new [] 76).call k7).below
          clear E OF k7 S6a
          go_wp2_with (refine Slic.wpList_app (K := kP) (o := ⟨some 70, _, _, _, _, _⟩) rfl (.tmp 67) (.tmp 69) rfl rfl rfl rfl O0 SR (by show 0 + _ ≤ _; omega) B7.size ?_; intro v9 w9 O9 g9 G9)
          have B9 := G9.below _ _ (Nat.le_refl _) B7
          rw [List.nil_append] at O9
          clear O0 SR B7 g9 G9
          go_wp2_with fail
          go_loopw [12, 13] (fun vv u wr => ∃ s : Nat, 1 ≤ s ∧ s ≤ n ∧ u = .int .i64 (s : Int) ∧ Below wc.heap.size wc wr ∧ Slic.Own kP wr wc.heap.size vv (F6.L ++ exs F6.R s)) (fun vv u _ => n - (intOf u).toNat)
          case atStart => exact ⟨1, by omega, by omega, rfl, B9, by rw [exs_one, List.append_nil]; exact O9⟩
          case round =>
            clear O9 B9
            obtain ⟨s, hs1, hs2, rfl, BR, OR⟩ := hrel
            obtain ⟨V0, c0', rfl, _, _⟩ := OR.sr.form
            have S7 := S6.call BR
            have P7 := S7.st.get 1 rfl
            have p0 := P7.cell 0 _ rfl
            have p1 := P7.cell 1 _ rfl
            have p2 := P7.cell 2 _ rfl
            have p3 := P7.cell 3 _ rfl
            clear P7
            by_cases hsn : s < n
            · obtain ⟨x, hx⟩ : ∃ x, F6.R[s]? = some x := ⟨_, List.getElem?_eq_getElem (by rw [IV.out.len]; exact hsn)⟩
              have HS := Lib.hid (S7.fd.see hx)
              have HWA := Lib.hid (S7.fd.wf s x hx).2.1
              have HWZ := Lib.hid (S7.fd.wf s x hx).2.2
              have HE := IV.out.ext s x hx hs1
              have HN := Lib.hid (exs_next hs1 hx)
              clear hx
              obtain ⟨xs, xc, xp, xe, xa, xz⟩ := x
              dsimp only at *
              go_wp2_with fail
              refine (ctl_ok _ R S7.fd.ar s hsn).mono ?_
              rintro z w8 ⟨rfl, k8⟩
              rw [HS.out]
              have S8 := (S7.call k8).new [.int .i64 xs, .int .i64 xc, .int .i64 xp, .int .i64 xe] 62
              have T8 := ((Held.St.start wr).call k8).new [.int .i64 xs, .int .i64 xc, .int .i64 xp, .int .i64 xe] 62
              clear p0 p1 p2 p3 S7 HS k8
              go_wp2_with fail
              refine (Plan.refat_any 1 (s : Int) _ (by omega) (by omega) (by omega) (by omega)).mono ?_
              rintro z w9 ⟨rfl, k9⟩
              have S9 := S8.call k9
              have T9 := T8.call k9
              clear S8 T8 k9
              go_wp2_with fail
              refine (Arena.word_ok _ B g N (8 * s + 1) f6 _ S9.fd.ar (by omega) (by omega)).mono ?_
              rintro z wq ⟨rfl, rfl⟩
              rw [HWA.out]
              go_wp2_with fail
              refine (Plan.refat_any 2 (s : Int) _ (by omega) (by omega) (by omega) (by omega)).mono ?_
              rintro z wd ⟨rfl, kd⟩
              have Sd := S9.call kd
              have Td := T9.call kd
              clear S9 T9 kd
              go_wp2_with fail
              refine (Arena.word_ok _ B g N (8 * s + 2) f6 _ Sd.fd.ar (by omega) (by omega)).mono ?_
              rintro z wq ⟨rfl, rfl⟩
              rw [HWZ.out]
              have d0 := (Td.get 0 rfl).cell 0 _ rfl
              have Od := OR.below Td.below
              have Bd := BR.trans (Td.below.mono BR.size)
              clear Td Sd OR BR HWA HWZ
              rcases HE with ⟨rfl, rfl, rfl⟩ | ⟨hxs, hz0, hz8, ha8, hal, hau⟩
              · go_wp2_with fail
                go_roundw
                case rel => exact ⟨s + 1, by omega, by omega, by go_num, Bd, by rw [HN.out, if_pos trivial, List.append_nil]; have Od2 := Od; rw [List.length_append] at Od2; exact Od2⟩
                case measure => simp [intOf]; omega
              · have t0 : (xs == 0) = false := by simpa using hxs
                have t0' : (xs != 0) = true := by simpa using hxs
                have t1 : decide (65536 < xa) = false := decide_eq_false (by omega)
                have t2 : decide (65536 < xz) = false := decide_eq_false (by omega)
                have t3 : IntKind.i64.wrap xa = xa := IntWalk.i64_in _ (by omega)
                have t4 : IntKind.i64.wrap xz = xz := IntWalk.i64_in _ (by omega)
                have Oone := Slic.Own.lit (K := kP) wd 0 (Nat.zero_le _) [((xa, xz) : Gm.E)] #[.int .i64 xa, .int .i64 xz] rfl (by simp [maxLen]) 1 rfl
                have hll : (F6.L ++ exs F6.R s).length + 1 ≤ 1000000 := by
                  have := exs_len F6.R s
                  rw [List.length_append]
                  omega
                rw [List.length_append] at Od
                go_upto_region 21 with (fail)
                go_wp2_with (refine Slic.wpList_app (K := kP) (o := ⟨some 131, _, _, _, _, _⟩) rfl (.tmp 124) (.tmp 130) rfl rfl rfl rfl (Od.below (Slic.below_one _ _)) Oone.sr hll (by simp; have := Bd.size; omega) ?_; intro v9 w9 O9 g9 G9)
                have B9 := G9.below _ _ (Nat.le_refl _) (Bd.alloc Bd.size (.cells #[.int .i64 xa, .int .i64 xz] 76))
                go_wp2_with fail
                go_roundw
                case rel => exact ⟨s + 1, by omega, by omega, by go_num, B9, by rw [HN.out, if_neg hxs, ← List.append_assoc]; exact O9⟩
                case measure => simp [intOf]; omega
            · obtain rfl : n = s := by omega
              have RS : Slic.Sr kP wr (.slice V0 (rowsW n F6).length c0') (rowsW n F6) := OR.sr
              have ONCE : Hid (∀ p : Int, A ≤ p → p < A + hp → cL (rowsW n F6) p = 1) := Lib.hid (fun p h1 h2 => rows_once IV.out h1 h2)
              have RA : Hid (∀ (j : Nat) (hj : j < (rowsW n F6).length), A ≤ ((rowsW n F6)[j]).1 ∧ ((rowsW n F6)[j]).1 % 8 = 0 ∧ 8 ≤ ((rowsW n F6)[j]).2 ∧ ((rowsW n F6)[j]).2 % 8 = 0 ∧ ((rowsW n F6)[j]).1 + ((rowsW n F6)[j]).2 ≤ A + hp) := Lib.hid (fun j hj => rowsW_at IV.out hj)
              have RL : (rowsW n F6).length ≤ 200008 := Nat.le_trans (rowsW_len IV.out) (by omega)
              obtain ⟨RW, hRW⟩ : ∃ RW, rowsW n F6 = RW := ⟨_, rfl⟩
              have hRW' : F6.L ++ exs F6.R n = RW := hRW
              rw [hRW] at RS ONCE RA RL
              rw [hRW']
              have CW : Hid (∀ wx, Below wr.heap.size wr wx → Wk w wx [(bH, [.int .i64 A, .int .i64 hp]), (bP, [.int .i64 (n : Int), .int .i64 t, .int .i64 i, .int .i64 hp]), (w.heap.size, [.int .i64 q0, .int .i64 q1, .int .i64 q2, .int .i64 q3])] ⟨n, t, i, hp, B, g, N⟩ G f6 F6 ∧ (wx.cell? ⟨bH, 0, none⟩ = some (.int .i64 A) ∧ wx.cell? ⟨bH, 1, none⟩ = some (.int .i64 hp)) ∧ Slic.Sr kP wx (.slice V0 RW.length c0') RW) := Lib.hid (fun wx kx => by
                have q := (S7.call kx).st.get 0 rfl
                exact ⟨S7.call kx, ⟨q.cell 0 _ rfl, q.cell 1 _ rfl⟩, RS.below kx⟩)
              have RU := row128 wr
              have KU := Slic.below_grown (grown128 wr)
              clear S7 RS OR BR hRW hRW' hsn p1 p2 p3
              go_upto_region 22 with (fail)
              go_wp2_with (first
                | (with_reducible refine wpList_b128 (o := ⟨some 132, _, _, _, _, _⟩) rfl rfl ?_)
                | (with_reducible refine wpList_a128 (o := ⟨some 20, _, _, _, _, _⟩) rfl rfl ?_)
                | (refine wpList_s128 (o := ⟨none, _, _, _, _, _⟩) rfl (.tmp 20) (.tmp 132) rfl rfl rfl ?_))
              generalize (wr.alloc (.cells cs128 79)).setRow wr.heap.size cs128 = W5 at *
              obtain ⟨U, hU⟩ : ∃ U, wr.heap.size = U := ⟨_, rfl⟩
              rw [hU] at RU
              rw [hU]
              obtain ⟨WR, hWR⟩ : ∃ WR, wr = WR := ⟨_, rfl⟩
              rw [hWR] at KU CW hU
              clear hWR
              go_loopw [21] (fun u wx => ∃ j : Nat, j ≤ RW.length ∧ u = .int .i64 (j : Int) ∧ Below WR.heap.size WR wx ∧ wx.rowIs U 79 128 (fun u => .int .i64 (cL (RW.take j) (A + 8 * (u : Int))))) (fun u _ => RW.length - (intOf u).toNat)
              case atStart => exact ⟨0, by omega, rfl, KU, RU⟩
              case round =>
                clear RU KU
                obtain ⟨j, hj, rfl, KX, RX⟩ := hrel
                by_cases hjl : j < RW.length
                · obtain ⟨_, ⟨g0, g1⟩, SX⟩ := CW.out _ KX
                  obtain ⟨gR, oR, rfl, x0, x1⟩ := ext_at SX hjl
                  obtain ⟨r1, r2, r3, r4, r5⟩ := RA.out j hjl
                  have HN := Lib.hid (fun p => cntL_next hjl p)
                  generalize hea : (RW[j]).1 = ea at *
                  generalize hez : (RW[j]).2 = ez at *
                  have HEA := Lib.hid hea
                  have HEZ := Lib.hid hez
                  clear hea hez
                  obtain ⟨m, hm⟩ : ∃ m : Nat, ez = 8 * (m : Int) := ⟨(ez / 8).toNat, by omega⟩
                  obtain ⟨v', hv⟩ : ∃ v : Nat, ea = A + 8 * (v : Int) := ⟨((ea - A) / 8).toNat, by omega⟩
                  have hvm : v' + m ≤ 128 := by omega
                  have t1 : decide (ea < A) = false := decide_eq_false (by omega)
                  have t2 : (Int.tmod ea 8 != 0) = false := by rw [Int.tmod_eq_emod_of_nonneg (by omega), r2]; rfl
                  have t2' : (ea % 8 != 0) = false := by rw [r2]; rfl
                  have t3 : decide (ez < 8) = false := decide_eq_false (by omega)
                  have t4 : IntKind.i64.wrap (ea + ez) = ea + ez := IntWalk.i64_in _ (by omega)
                  have t5 : IntKind.i64.wrap (A + hp) = A + hp := IntWalk.i64_in _ (by omega)
                  have t6 : decide (A + hp < ea + ez) = false := decide_eq_false (by omega)
                  have j0 : (0 : Int) ≤ (j : Int) := by omega
                  have j1 : (j : Int) < (RW.length : Int) := by omega
                  have z0 : 0 ≤ ez := by omega
                  have z0' : ez ≤ 2000 := by omega
                  have z1 : Int.tdiv ez 8 = (m : Int) := by rw [Int.tdiv_eq_ediv_of_nonneg z0]; omega
                  have z2 : ez / 8 = (m : Int) := by omega
                  have w1' : IntKind.i64.wrap (ea - A) = ea - A := IntWalk.i64_in _ (by omega)
                  have w2' : (ea - A) / 8 = (v' : Int) := by omega
                  have w3' : Int.tdiv (ea - A) 8 = (v' : Int) := by rw [Int.tdiv_eq_ediv_of_nonneg (by omega)]; omega
                  have w9' : 0 ≤ ea - A := by omega
                  have HM := Lib.hid hm
                  have HV := Lib.hid hv
                  clear hm hv SX r1 r2 r3 r4 r5
                  go_upto_region 26 with (fail)
                  go_quiet (fail)
                  clear t1 t2 t2' t3 t4 t5 t6 x0 x1 g0 g1
                  go_wp2_with fail
                  go_loopw [22] (fun u wx => ∃ jj : Nat, jj ≤ m ∧ u = .int .i64 (jj : Int) ∧ Below WR.heap.size WR wx ∧ wx.rowIs U 79 128 (fun u => .int .i64 (cL (RW.take j) (A + 8 * (u : Int)) + pin ea jj (A + 8 * (u : Int))))) (fun u _ => m - (intOf u).toNat)
                  case atStart => exact ⟨0, by omega, rfl, KX.trans ((Held.below_drewN (Below.refl _ _) _).mono KX.size), (row_call RX (Held.below_drewN (Below.refl _ _) _)).congr (fun u _ => by rw [pin_zero]; simp)⟩
                  case round =>
                    clear KX RX
                    obtain ⟨jj, hjj, rfl, KY, RY⟩ := hrel
                    obtain ⟨_, ⟨g0, g1⟩, SY⟩ := CW.out _ KY
                    obtain ⟨x0, x1⟩ := ext_again SY hjl
                    rw [HEA.out] at x0
                    rw [HEZ.out] at x1
                    clear SY
                    by_cases hjm : jj < m
                    · have y := RY.cell (i := v' + jj) (by omega)
                      have fz := RY.frozen (v' + jj)
                      have hc2 := cntL_bd RW j (A + 8 * ((v' + jj : Nat) : Int))
                      unfold cntL at hc2
                      have hp' := pin_at (m := jj) HV.out
                      rw [hp'] at y
                      obtain ⟨cc, hcc⟩ : ∃ c, cL (RW.take j) (A + 8 * ((v' + jj : Nat) : Int)) + 0 = c := ⟨_, rfl⟩
                      rw [hcc] at y
                      have w4' : IntKind.i64.wrap ((v' : Int) + (jj : Int)) = (v' : Int) + (jj : Int) := IntWalk.i64_in _ (by omega)
                      have w5' : ((v' : Int) + (jj : Int)).toNat = v' + jj := by omega
                      have w6' : (0 : Int) ≤ (v' : Int) + (jj : Int) := by omega
                      have w7' : (v' : Int) + (jj : Int) < 128 := by omega
                      have w8' : IntKind.i64.wrap (cc + 1) = cc + 1 := IntWalk.i64_in _ (by omega)
                      have AW := row_call (((RY.set (v' + jj) (.int .i64 (cc + 1))).congr (fun u _ => by
                        have e := pin_next (A := A) (m := jj) (u := u) HV.out
                        show _ = Value.int .i64 (cL (RW.take j) (A + 8 * (u : Int)) + pin ea (jj + 1) (A + 8 * (u : Int)))
                        rw [e]
                        by_cases q : u = v' + jj
                        · subst q
                          simp only [if_pos]
                          rw [hp', ← hcc]
                          simp
                        · simp [q]))) (Below.refl _ _).drew
                      have KW := (KY.setCell (p := ⟨U, v' + jj, none⟩) (by show _ ≤ U; omega) (.int .i64 (cc + 1))).drew
                      clear hcc hp' hc2
                      as_aux_lemma =>
                        go_wp2_with fail
                        go_region
                        all_goals
                          go_wp2_with fail
                          go_roundw
                          case rel => exact ⟨jj + 1, by omega, by go_num, KW, AW⟩
                          case measure => simp [intOf]; omega
                    · obtain rfl : jj = m := by omega
                      clear hjm
                      as_aux_lemma =>
                        go_wp2_with fail
                        go_roundw
                        case rel => exact ⟨j + 1, by omega, by go_num, KY, RY.congr (fun u _ => by
                          have e := HN.out (A + 8 * (u : Int))
                          unfold cntL at e
                          first | rw [e, pin_all HM.out] | rw [e, pin_all HM.out, HEA.out, HEZ.out])⟩
                        case measure => simp [intOf]; omega
                · obtain rfl : RW.length = j := by omega
                  obtain ⟨SK, ⟨g0, g1⟩, _⟩ := CW.out _ KX
                  rw [List.take_length] at RX
                  obtain ⟨M, hM⟩ : ∃ M : Nat, hp = 8 * (M : Int) := ⟨(hp / 8).toNat, by omega⟩
                  have z1 : Int.tdiv hp 8 = (M : Int) := by rw [Int.tdiv_eq_ediv_of_nonneg b8]; omega
                  have z2 : hp / 8 = (M : Int) := by omega
                  have hM2 : M ≤ 128 := by omega
                  have ONE : Hid (∀ u : Nat, u < M → cL RW (A + 8 * (u : Int)) = 1) := Lib.hid (fun u hu => ONCE.out _ (by omega) (by omega))
                  clear hM hjl
                  go_wp2_with fail
                  go_loop [23] (fun t => ∃ u : Nat, u ≤ M ∧ t = .int .i64 (u : Int)) (fun t => M - (intOf t).toNat)
                  case atStart => exact ⟨0, by omega, rfl⟩
                  case round =>
                    obtain ⟨u, hu, rfl⟩ := hrel
                    by_cases huM : u < M
                    · have y := RX.cell (i := u) (by omega)
                      rw [ONE.out u huM] at y
                      as_aux_lemma =>
                        go_wp2_with fail
                        go_round
                        case rel => exact ⟨u + 1, by omega, by go_num⟩
                        case measure => simp [intOf]; omega
                    · as_aux_lemma =>
                        go_wp2_with fail
                        go_roundw
                        case rel => exact ⟨k + 1, f6, F6, by omega, by omega, by go_num, SK⟩
                        case measure => simp [intOf]; omega
      · obtain rfl : k = ln := by omega
        have q1 : decide ((k : Int) < (k : Int)) = false := by simp
        go_wp2
        go_ret
        exact ⟨rfl, SA.st.below⟩
    · obtain rfl : k = 40 := by omega
      go_wp2
      all_goals
        go_ret
        exact ⟨rfl, SA.st.below⟩

set_option maxRecDepth 100000 in
theorem lifted (os : Os) (started : os.Started) (H : Type) (enc : TypeId × Value → H) :
    ReturnsInHanded {} Try.checked os 6 .any (Rows.foundWholeSpec.pre6 enc Try.prog Try.f6 Rows.foundWholeRow.domain false) (Rows.foundWholeSpec.post enc Try.prog Try.f6 false true false false) := by
  refine returnsInHanded_of_change (C := Try.checked) Args.own started (by kernel_rfl) Try.func6
    (ChangeSpec.witness6 (enc := enc) (C := Try.checked) false ⟨#[], #[.agg #[.int .i64 0, .int .i64 0, .int .i64 0, .int .i64 0], .slice none 0 0], []⟩ 8 (by kernel_rfl) (by kernel_rfl) (by kernel_rfl) (by kernel_rfl)) ?_
  intro W base args ds gs before hval0 hW hcnd _
  have hval : ∀ (j : Nat) t v, Try.f6.params[j]? = some t → args[j]? = some v → Value.okWide Try.prog W .any base t v := hval0
  have hW' := hW
  obtain ⟨p, q, hA0, hV, rfl, hfz, hnd⟩ := hW
  have hA : DataW.TrodAll enc Try.prog W 0 (fun _ => true) true Try.f6.params.toList args.toList ds p := hA0
  rw [Try.params6] at hA hval
  obtain ⟨v0, vs0, d0, ds0, p0, q0, hargs, rfl, rfl, h0, r0⟩ := trodAll_cons hA
  obtain ⟨v1, vs1, d1, ds1, p1, q1, rfl, rfl, rfl, h1, r1⟩ := trodAll_cons r0
  obtain ⟨rfl, rfl, rfl⟩ := trodAll_nil r1
  obtain rfl : args = #[v0, v1] := by cases args; simp_all
  obtain ⟨rfl, rfl⟩ := trodVars_none hV
  have lt0 := Args.trod_below h0
  obtain ⟨qz, hv0, hq⟩ := Args.rec_in (ks := [.i64, .i64, .i64, .i64]) Try.underlying25 (by kernel_rfl) (by kernel_rfl) (hval 0 25 v0 rfl rfl) h0
  obtain rfl : v0 = .agg #[.int .i64 (qz 0), .int .i64 (qz 1), .int .i64 (qz 2), .int .i64 (qz 3)] := hv0
  have lt1 := Args.trod_below h1
  obtain ⟨lA, ln, lc, lz, rfl, hl⟩ := Args.precs_in (ks := [none, some .i64]) (e := 73) (by kernel_rfl) Try.underlying73 (by kernel_rfl) (by kernel_rfl) (by decide) (hval 1 65 v1 rfl rfl) h1
  clear hA0 hval0
  refine (walk (qz 0) (qz 1) (qz 2) (qz 3) lA ln lc lz W (hq 0) (hq 1) (hq 2) (hq 3) hl).mono fun e W' ⟨he, bel⟩ => ?_
  subst he
  exact ⟨_, rfl, _, _, _, [], _, [], hW', trodAll_mk1 (shut_bool Try.underlying4 _), trodAll_cons_mk (Below.trod Args.laidOut (by kernel_rfl) (of_decide_eq_true (by kernel_rfl)) h0 bel lt0) (trodAll_cons_mk (Below.trod Args.laidOut (by kernel_rfl) (of_decide_eq_true (by kernel_rfl)) h1 bel lt1) (trodAll_mk0)), rfl, bel.frame _, fun h => by cases h⟩

theorem over : Rows.foundWholeRow.holds Try.pinned (OpenSpec.ofChange Rows.foundWholeSpec) :=
  OpenClaim.holds_of_wide 6 Try.f6 rfl rfl rfl rfl rfl rfl rfl ⟨rfl, rfl, rfl, rfl, rfl⟩ rfl rfl rfl rfl rfl (by kernel_rfl) Try.func6 (by kernel_rfl)
    (of_decide_eq_true (by kernel_rfl)) (by unfold Func.isWrapper; rw [if_neg (of_decide_eq_false (by kernel_rfl))]; exact ⟨rfl, rfl⟩)
    (fun os started H enc _ => lifted os started H enc)

theorem proved : Rows.FoundWholeSaid :=
  over
end Go.Proofs.Yteakglkagmghpaa.foundWhole
