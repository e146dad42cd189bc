/-
  penfoldlaw04.GroundGives returns true for every slice of bytes and every place and size, and changes nothing that was there; no condition.
-/
import Derived.Test.YtnekbbdodhokbaaRows
import Derived.Test.YtnekbbdodhokbaaArgs
import Derived.Test.YtnekbbdodhokbaaGives
import Derived.Deep.DeepCutAuto
namespace Go.Proofs.Ytnekbbdodhokbaa.groundGives
open Go.ChangeShapes Go.WideShapes Go.ChangeAt Go.RowKit
set_option linter.unusedVariables false

open Gr Gm

set_option maxRecDepth 100000 in
set_option maxHeartbeats 8000000 in
theorem walk (lA : Option Addr) (ln lc : Nat) (lz : Nat → Int) (at_ : Int) (n : Int) (w : World) (hl : Args.Ints .u8 w lA ln lz) (wat_ : (Lit.int .i64 at_).wf = true) (wn : (Lit.int .i64 n).wf = true) :
    Calls Try.prog 7 #[.slice lA ln lc, .int .i64 at_, .int .i64 n] w fun e w' => e = .returned (.bool true) ∧ Below w.heap.size w w' := by
  have ⟨a1, a2⟩ := bounds_i64 wat_
  have ⟨n1, n2⟩ := bounds_i64 wn
  have hln := hl.len
  unfold maxLen at hln
  clear wn wat_
  have ok0 : Ok 80 400 (newL 80 400) := ok_new (by decide) (by decide)
  go_enter Try.func7, Try.ntmps7
  go_wp2_with fail
  refine (shown_any _).mono ?_
  rintro e w1 ⟨rfl, k1⟩
  go_wp2_with fail
  refine (new_at w1 80 400 w1.heap.size (by decide) (by decide) (Nat.le_refl _)).mono ?_
  rintro e w2 ⟨rfl, h2, k2, z2⟩
  have B2 := k1.trans (k2.mono k1.size)
  have zs := k1.size
  clear k1 k2
  go_wp2_with fail
  go_loopw [10] (fun t wr => ∃ (k : Nat) (L : List E), k ≤ ln ∧ k ≤ 10 ∧ t = .int .i64 k ∧ Gr wr w1.heap.size w1.heap.size 80 400 L ∧ Ok 80 400 L ∧ Below w.heap.size w wr) (fun t _ => 10 - (intOf t).toNat)
  case atStart => exact ⟨0, _, by omega, by omega, rfl, h2, ok0, B2⟩
  case round =>
    obtain ⟨k, L, hk1, hk2, rfl, hG, ok, hB⟩ := hrel
    by_cases hlt : k < ln ∧ k < 10
    · obtain ⟨hk3, hk4⟩ := hlt
      obtain ⟨b, o, rfl, hb, hcell⟩ := hl.at_ k hk3
      have q0 : wr.cell? ⟨b, o + k, none⟩ = some (.int .u8 (lz k)) := (hB.cell hb).trans hcell
      have ⟨v0, v0'⟩ := bounds_u8 (hl.wf k)
      clear hcell
      go_wp2_with fail
      refine (carve_any _ _ _ 80 400 L _ hG hG.lt ok (by omega) (by omega)).mono ?_
      rintro e w3 ⟨rfl, h3, g3⟩
      go_wp2_with fail
      go_roundw
      case rel => exact ⟨k + 1, _, by omega, by omega, by go_num, h3, ok_carve ok, below_only2 hB g3 hB.size zs⟩
      case measure => simp [intOf]; omega
    · have hfirst : (k < ln ∧ k = 10) ∨ ¬ k < ln := by omega
      have hE0 : Tight (wr.alloc (.cells #[] 40)) (.slice (some ⟨wr.heap.size, 0, none⟩) 0 0) [] := .inr ⟨wr.heap.size, rfl, by simp, fun i hi => by simp at hi⟩
      have hG0 := hG.alloc (.cells #[] 40)
      have hB0 := hB.alloc hB.size (.cells #[] 40)
      have zG := hG.lt
      have zA : wr.heap.size < (wr.alloc (.cells #[] 40)).heap.size := by simp
      have okl := ok.len
      go_upto_region 6 with (fail)
      go_cut [42] (fun s42 wx => s42 = .bool false ∧ wr = wx)
      case first =>
        rcases hfirst with ⟨hk3, rfl⟩ | hk3
        all_goals
          clear hlt
          go_wp2_with fail
          go_meet
          exact ⟨rfl, rfl⟩
      case rest =>
        obtain ⟨rfl, rfl⟩ := hcut
        clear hlt hfirst
        go_wp2_with fail
        generalize wr.alloc (.cells #[] 40) = W3 at *
        refine (free_any _ _ _ 80 400 L hG0 (by omega)).mono ?_
        rintro e W4 ⟨V, c, rfl, hE, hn, k4⟩
        have hG4 := hG0.below k4
        have hB4 := hB0.trans (k4.mono hB0.size)
        have hT4 : Tight W4 (.slice (some ⟨wr.heap.size, 0, none⟩) 0 0) [] := .inr ⟨wr.heap.size, rfl, by have := k4.size; omega, fun i hi => by simp at hi⟩
        obtain ⟨v5, W5, r5, hE5, g5, hat5⟩ := app1 W4 hT4 hE.sr (by simp; omega)
        rw [List.nil_append] at hE5
        obtain ⟨V5, c5, rfl⟩ := hE5.form
        have hG5 := hG4.grown g5
        have hB5 : Below w.heap.size w W5 := hB4.trans ((below_only g5).mono hB4.size)
        have hne : (Value.slice V5 L.length c5).ownBlock ≠ some w1.heap.size := by
          intro e
          rcases hat5 _ e with x | x
          · injection x with x
            have x' : wr.heap.size = w1.heap.size := x
            omega
          · have := k4.size
            omega
        clear hat5
        go_wp2_with (at_builtin; refine wpList_run rfl (.tmp 55) (.tmp 57) _ rfl _ _ rfl rfl r5 ?_)
        refine (give_any W5 _ _ 80 400 L at_ n hG5 hG5.lt ok a1 a2 n1 n2).mono ?_
        rintro e W6 ⟨rfl, h6, g6⟩
        have hE6 := hE5.kept g6 (fun g hg e => hne (hg.trans e.symm))
        have hB6 := below_only2 hB5 g6 hB5.size zs
        have ok6 := ok_give (a := at_) (z := n) ok
        have okl6 := ok6.len
        go_wp2_with fail
        refine (free_any _ _ _ 80 400 _ h6 (by omega)).mono ?_
        rintro e W7 ⟨V7, c7, rfl, hE7, hn7, k7⟩
        have hE67 := hE6.below k7
        have hB7 := hB6.trans (k7.mono hB6.size)
        clear hE hE5 hE6 hG0 hB0 hG4 hB4 hT4 hG5 hB5 hB6 h6 r5 g5 g6 k7
        go_upto_region 12 with (fail)
        go_cut [14] (fun s14 wx => s14 = .bool (mayB at_ n) ∧ W7 = wx)
        case first =>
          by_cases h0 : 0 < n
          rotate_left
          · have q0 : decide (0 < n) = false := decide_eq_false h0
            have N := Lib.hid (show mayB at_ n = false by
              cases hx : mayB at_ n with
              | false => rfl
              | true => have := mayB_iff.1 hx; omega)
            go_wp2_with fail
            go_meet
            exact ⟨by rw [N.out], rfl⟩
          have q0 : decide (0 < n) = true := decide_eq_true h0
          by_cases h1 : n % 8 = 0
          rotate_left
          · have q1 : (n % 8 == 0) = false := by simpa using h1
            have N := Lib.hid (show mayB at_ n = false by
              cases hx : mayB at_ n with
              | false => rfl
              | true => have := mayB_iff.1 hx; omega)
            clear h1
            go_wp2_with fail
            go_meet
            exact ⟨by rw [N.out], rfl⟩
          have q1 : (n % 8 == 0) = true := by simpa using h1
          by_cases h2 : at_ % 8 = 0
          rotate_left
          · have q2 : (at_ % 8 == 0) = false := by simpa using h2
            have q2t : (at_.tmod 8 == 0) = false := by simp; exact fun e => h2 ((tmod8 at_).1 e)
            have N := Lib.hid (show mayB at_ n = false by
              cases hx : mayB at_ n with
              | false => rfl
              | true => have := mayB_iff.1 hx; omega)
            clear h2
            go_wp2_with fail
            go_meet
            exact ⟨by rw [N.out], rfl⟩
          have q2 : (at_ % 8 == 0) = true := by simpa using h2
          have q2t : (at_.tmod 8 == 0) = true := by simp; exact (tmod8 at_).2 h2
          by_cases h3 : 80 ≤ at_
          rotate_left
          · have q3 : decide (80 ≤ at_) = false := decide_eq_false h3
            have N := Lib.hid (show mayB at_ n = false by
              cases hx : mayB at_ n with
              | false => rfl
              | true => have := mayB_iff.1 hx; omega)
            go_wp2_with fail
            go_meet
            exact ⟨by rw [N.out], rfl⟩
          have q3 : decide (80 ≤ at_) = true := decide_eq_true h3
          by_cases h4 : at_ < 480
          rotate_left
          · have q4 : decide (at_ < 480) = false := decide_eq_false h4
            have N := Lib.hid (show mayB at_ n = false by
              cases hx : mayB at_ n with
              | false => rfl
              | true => have := mayB_iff.1 hx; omega)
            go_wp2_with fail
            go_meet
            exact ⟨by rw [N.out], rfl⟩
          have q4 : decide (at_ < 480) = true := decide_eq_true h4
          by_cases h5 : n ≤ 480 - at_
          rotate_left
          · have q5 : decide (n ≤ 480 - at_) = false := decide_eq_false h5
            have N := Lib.hid (show mayB at_ n = false by
              cases hx : mayB at_ n with
              | false => rfl
              | true => have := mayB_iff.1 hx; omega)
            go_wp2_with fail
            go_meet
            exact ⟨by rw [N.out], rfl⟩
          have q5 : decide (n ≤ 480 - at_) = true := decide_eq_true h5
          have N := Lib.hid (mayB_iff.2 ⟨h0, h1, h2, h3, h4, h5⟩)
          clear h1 h2
          go_wp2_with fail
          go_meet
          exact ⟨by rw [N.out], rfl⟩
        case rest =>
          obtain ⟨rfl, rfl⟩ := hcut
          have HG := Lib.hid (mayB_give (a := at_) (n := n) ok)
          have m0 : Hid (mayB at_ n = true → 0 < n ∧ n % 8 = 0 ∧ at_ % 8 = 0 ∧ 80 ≤ at_ ∧ at_ < 480 ∧ n ≤ 480 - at_) := Lib.hid mayB_iff.1
          generalize hmb : mayB at_ n = mb at *
          have HMB := Lib.hid hmb
          clear hmb
          go_wp2_with fail
          go_loopw [14, 15, 16] (fun m r t wx => ∃ (j : Nat) (y : Bool), j ≤ L.length ∧ t = .int .i64 j ∧ m = .bool y ∧ r = .int .i64 (- sum (L.take j)) ∧ Hid (y = (mb && !((L.take j).any (ov at_ (at_ + n))))) ∧ Ex wx (.slice V5 L.length c5) L ∧ Ex wx (.slice V7 (giveF 80 400 L at_ n).length c7) (giveF 80 400 L at_ n) ∧ Below w.heap.size w wx) (fun _ _ t _ => L.length - (intOf t).toNat)
          case atStart => exact ⟨0, mb, by omega, rfl, rfl, rfl, Lib.hid (by simp), hE67, hE7, hB7⟩
          case round =>
            obtain ⟨j, y, hj, rfl, rfl, rfl, hy, hX, hX', hBx⟩ := hrel
            by_cases hlt : j < L.length
            · obtain ⟨g, rfl, gl, x0, x1⟩ := hX.cell hlt
              obtain ⟨b1, b2, b3, b4, b5, b6, b7, b8⟩ := ok.at_ hlt
              have ⟨s1, s2⟩ := sum_take_bd ok j
              have HS := Lib.hid (sum_take hlt)
              have HT := Lib.hid (any_take (P := ov at_ (at_ + n)) hlt)
              have HO : Hid (ov at_ (at_ + n) L[j] = (decide ((L[j]).1 < at_ + n) && decide (at_ < (L[j]).1 + (L[j]).2))) := Lib.hid (by unfold ov; rfl)
              generalize hsm : sum (L.take j) = sm at *
              generalize L[j] = e at *
              cases y with
              | false =>
                go_wp2_with fail
                go_region
                all_goals
                  go_wp2_with fail
                  go_roundw
                  case rel =>
                    refine ⟨j + 1, false, by omega, by go_num, rfl, by rw [HS.out]; go_num, Lib.hid ?_, hX.drew, hX'.drew, hBx.drew⟩
                    have h1 := hy.out
                    rw [HT.out]
                    cases mb with
                    | false => rfl
                    | true =>
                      have h2 : ((L.take j).any (ov at_ (at_ + n))) = true := by simpa using h1.symm
                      rw [h2]
                      rfl
                  case measure => simp [intOf]; omega
              | true =>
                have hmb : mb = true := by
                  have := hy.out
                  cases mb with
                  | true => rfl
                  | false => cases this
                have hany : (L.take j).any (ov at_ (at_ + n)) = false := by
                  have := hy.out
                  rw [hmb] at this
                  simpa using this.symm
                obtain ⟨c1, _, _, c4, c5, c6⟩ := m0.out hmb
                have HMT := Lib.hid hmb
                have HAN := Lib.hid hany
                clear hmb hany
                have wr1 : IntKind.i64.wrap (at_ + n) = at_ + n := IntWalk.i64_in _ (by omega)
                have wr2 : IntKind.i64.wrap (e.1 + e.2) = e.1 + e.2 := IntWalk.i64_in _ (by omega)
                cases t1 : decide (e.1 < at_ + n) with
                | false =>
                  have HF := Lib.hid (show ov at_ (at_ + n) e = false by rw [HO.out, t1]; rfl)
                  go_wp2_with fail
                  go_region
                  all_goals
                    clear wr1 wr2 t1
                    go_wp2_with fail
                    go_roundw
                    case rel => exact ⟨j + 1, true, by omega, by go_num, rfl, by rw [HS.out]; go_num, Lib.hid (by rw [HT.out, HAN.out, HF.out, HMT.out]; rfl), hX.drew, hX'.drew, hBx.drew⟩
                    case measure => simp [intOf]; omega
                | true =>
                  cases t2 : decide (at_ < e.1 + e.2) with
                  | false =>
                    have HF := Lib.hid (show ov at_ (at_ + n) e = false by rw [HO.out, t1, t2]; rfl)
                    go_wp2_with fail
                    go_region
                    all_goals
                      clear wr1 wr2 t1 t2
                      go_wp2_with fail
                      go_roundw
                      case rel => exact ⟨j + 1, true, by omega, by go_num, rfl, by rw [HS.out]; go_num, Lib.hid (by rw [HT.out, HAN.out, HF.out, HMT.out]; rfl), hX.drew, hX'.drew, hBx.drew⟩
                      case measure => simp [intOf]; omega
                  | true =>
                    have HF := Lib.hid (show ov at_ (at_ + n) e = true by rw [HO.out, t1, t2]; rfl)
                    go_wp2_with fail
                    go_region
                    all_goals
                      clear wr1 wr2 t1 t2
                      go_wp2_with fail
                      go_roundw
                      case rel => exact ⟨j + 1, false, by omega, by go_num, rfl, by rw [HS.out]; go_num, Lib.hid (by rw [HT.out, HAN.out, HF.out, HMT.out]; rfl), hX.drew, hX'.drew, hBx.drew⟩
                      case measure => simp [intOf]; omega
            · obtain rfl : j = L.length := by omega
              have hyg : y = giveB 80 400 L at_ n := by
                have := hy.out
                rw [List.take_length] at this
                rw [HG.out]
                exact this
              have ⟨s1, s2⟩ := sum_take_bd ok L.length
              rw [List.take_length] at s1 s2
              cases y with
              | false =>
                obtain ⟨E1, E2⟩ := give_no hyg.symm
                have E1 := Lib.hid E1
                rw [E2] at hX'
                have E2' := Lib.hid E2
                clear E2 hyg
                go_wp2_with fail
                rw [E2'.out]
                refine (same_yes wr _ _ c5 c7 L hX hX' (by omega)).mono ?_
                rintro e W8 ⟨rfl, k8⟩
                rw [E1.out]
                go_wp2_with fail
                go_ret
                exact ⟨rfl, hBx.trans (k8.mono hBx.size)⟩
              | true =>
                have E1 := Lib.hid (show giveE 80 400 L at_ n = 0 by unfold giveE; rw [if_pos hyg.symm])
                have hF : giveF 80 400 L at_ n = giveL at_ (at_ + n) L := by unfold giveF; rw [if_pos hyg.symm]
                have hmb : mb = true := by
                  have := hy.out
                  cases mb with
                  | true => rfl
                  | false => cases this
                obtain ⟨c1, c2, c3, c4, c5', c6⟩ := m0.out hmb
                have hbad : bad at_ (at_ + n) L = false := by
                  have h1 := hyg.symm
                  unfold giveB at h1
                  simp only [Bool.and_eq_true, Bool.not_eq_true'] at h1
                  exact h1.2.2.2
                obtain ⟨ok', hmem, hsum⟩ := ok.give (a := at_) (b := at_ + n) (by omega) (by omega) (by omega) c3 (by omega) hbad
                have HCV := Lib.hid (Gr.cover (a := at_) (b := at_ + n) ok'.norm (by omega) (fun p p1 p2 => (hmem p).2 (.inr ⟨p1, p2⟩)))
                have HSM := Lib.hid (show -sum L + sum (giveL at_ (at_ + n) L) = n by omega)
                rw [hF] at hX'
                have HF := Lib.hid hF
                have okl' := ok'.len
                clear hyg hF hmb c2 c3 hbad hmem hsum hy
                generalize giveL at_ (at_ + n) L = M at *
                generalize hsl : sum L = sl at *
                have HSL := Lib.hid hsl
                clear hsl
                rw [E1.out, HF.out]
                go_wp2_with fail
                try rw [List.take_length]
                try rw [HSL.out]
                go_loopw [15, 18, 19] (fun r q t wx => ∃ (j : Nat) (y : Bool), j ≤ M.length ∧ t = .int .i64 j ∧ q = .bool y ∧ r = .int .i64 (-sl + sum (M.take j)) ∧ Hid (y = (M.take j).any (cov at_ (at_ + n))) ∧ Ex wx (.slice V7 M.length c7) M ∧ Below w.heap.size w wx) (fun _ _ t _ => M.length - (intOf t).toNat)
                case atStart => exact ⟨0, false, by omega, rfl, rfl, by simp [sum], Lib.hid (by simp), hX', hBx⟩
                case round =>
                  obtain ⟨j, y, hj, rfl, rfl, rfl, hy, hZ, hBz⟩ := hrel
                  by_cases hlt : j < M.length
                  · obtain ⟨g, rfl, gl, x0, x1⟩ := hZ.cell hlt
                    obtain ⟨b1, b2, b3, b4, b5, b6, b7, b8⟩ := ok'.at_ hlt
                    have ⟨u1, u2⟩ := sum_take_bd ok' j
                    have HS := Lib.hid (sum_take hlt)
                    have HT := Lib.hid (any_take (P := cov at_ (at_ + n)) hlt)
                    have HO : Hid (cov at_ (at_ + n) M[j] = (decide ((M[j]).1 ≤ at_) && decide (at_ + n ≤ (M[j]).1 + (M[j]).2))) := Lib.hid (by unfold cov; rfl)
                    generalize sum (M.take j) = sm at *
                    generalize M[j] = e at *
                    have wr1 : IntKind.i64.wrap (at_ + n) = at_ + n := IntWalk.i64_in _ (by omega)
                    have wr2 : IntKind.i64.wrap (e.1 + e.2) = e.1 + e.2 := IntWalk.i64_in _ (by omega)
                    cases y with
                    | true =>
                      go_wp2_with fail
                      go_region
                      all_goals
                        clear wr1 wr2
                        go_wp2_with fail
                        go_roundw
                        case rel => exact ⟨j + 1, true, by omega, by go_num, rfl, by rw [HS.out]; go_num, Lib.hid (by rw [HT.out, ← hy.out]; rfl), hZ.drew, hBz.drew⟩
                        case measure => simp [intOf]; omega
                    | false =>
                      cases t1 : decide (e.1 ≤ at_) with
                      | false =>
                        have HF := Lib.hid (show cov at_ (at_ + n) e = false by rw [HO.out, t1]; rfl)
                        go_wp2_with fail
                        go_region
                        all_goals
                          clear wr1 wr2 t1
                          go_wp2_with fail
                          go_roundw
                          case rel => exact ⟨j + 1, false, by omega, by go_num, rfl, by rw [HS.out]; go_num, Lib.hid (by rw [HT.out, ← hy.out, HF.out]; rfl), hZ.drew, hBz.drew⟩
                          case measure => simp [intOf]; omega
                      | true =>
                        cases t2 : decide (at_ + n ≤ e.1 + e.2) with
                        | false =>
                          have HF := Lib.hid (show cov at_ (at_ + n) e = false by rw [HO.out, t1, t2]; rfl)
                          go_wp2_with fail
                          go_region
                          all_goals
                            clear wr1 wr2 t1 t2
                            go_wp2_with fail
                            go_roundw
                            case rel => exact ⟨j + 1, false, by omega, by go_num, rfl, by rw [HS.out]; go_num, Lib.hid (by rw [HT.out, ← hy.out, HF.out]; rfl), hZ.drew, hBz.drew⟩
                            case measure => simp [intOf]; omega
                        | true =>
                          have HF := Lib.hid (show cov at_ (at_ + n) e = true by rw [HO.out, t1, t2]; rfl)
                          go_wp2_with fail
                          go_region
                          all_goals
                            clear wr1 wr2 t1 t2
                            go_wp2_with fail
                            go_roundw
                            case rel => exact ⟨j + 1, true, by omega, by go_num, rfl, by rw [HS.out]; go_num, Lib.hid (by rw [HT.out, ← hy.out, HF.out]; rfl), hZ.drew, hBz.drew⟩
                            case measure => simp [intOf]; omega
                  · obtain rfl : j = M.length := by omega
                    have hyt : y = true := by
                      have := hy.out
                      rw [List.take_length, HCV.out] at this
                      exact this
                    subst hyt
                    have hsn : -sl + sum (M.take M.length) = n := by rw [List.take_length]; exact HSM.out
                    have hq : (-sl + sum (M.take M.length) == n) = true := by rw [hsn]; simp
                    have hq2 : (-sl + sum M == n) = true := by rw [HSM.out]; simp
                    have HN := Lib.hid hsn
                    clear hsn
                    go_wp2_with fail
                    go_ret
                    exact ⟨rfl, hBz⟩

set_option maxRecDepth 100000 in
theorem lifted (os : Os) (started : os.Started) (H : Type) (enc : TypeId × Value → H) :
    ReturnsInHanded {} Try.checked os 7 .any (Rows.groundGivesSpec.pre6 enc Try.prog Try.f7 Rows.groundGivesRow.domain false) (Rows.groundGivesSpec.post enc Try.prog Try.f7 false true false false) := by
  refine returnsInHanded_of_change (C := Try.checked) Args.own started (by kernel_rfl) Try.func7
    (ChangeSpec.witness6 (enc := enc) (C := Try.checked) false ⟨#[], #[.slice none 0 0, .int .i64 0, .int .i64 0], []⟩ 8 (by kernel_rfl) (by kernel_rfl) (by kernel_rfl) (by kernel_rfl)) ?_
  intro W base args ds gs before hval0 hW hcnd _
  have hval : ∀ (j : Nat) t v, Try.f7.params[j]? = some t → args[j]? = some v → Value.okWide Try.prog W .any base t v := hval0
  have hW' := hW
  obtain ⟨p, q, hA0, hV, rfl, hfz, hnd⟩ := hW
  have hA : DataW.TrodAll enc Try.prog W 0 (fun _ => true) true Try.f7.params.toList args.toList ds p := hA0
  rw [Try.params7] at hA hval
  obtain ⟨v0, vs0, d0, ds0, p0, q0, hargs, rfl, rfl, h0, r0⟩ := trodAll_cons hA
  obtain ⟨v1, vs1, d1, ds1, p1, q1, rfl, rfl, rfl, h1, r1⟩ := trodAll_cons r0
  obtain ⟨v2, vs2, d2, ds2, p2, q2, rfl, rfl, rfl, h2, r2⟩ := trodAll_cons r1
  obtain ⟨rfl, rfl, rfl⟩ := trodAll_nil r2
  obtain rfl : args = #[v0, v1, v2] := by cases args; simp_all
  obtain ⟨rfl, rfl⟩ := trodVars_none hV
  have lt0 := Args.trod_below h0
  obtain ⟨lA, ln, lc, lz, rfl, hl⟩ := Args.ints_in (k := .u8) (e := 5) (by kernel_rfl) (by kernel_rfl) (by kernel_rfl) (hval 0 42 v0 rfl rfl) h0
  have lt1 := Args.trod_below h1
  obtain ⟨at_, rfl, rfl, rfl, wat_⟩ := open_int Try.underlying3 (hval 1 3 v1 rfl rfl) h1
  have lt2 := Args.trod_below h2
  obtain ⟨n, rfl, rfl, rfl, wn⟩ := open_int Try.underlying3 (hval 2 3 v2 rfl rfl) h2
  clear hA0 hval0
  refine (walk lA ln lc lz at_ n W hl wat_ wn).mono fun e W' ⟨he, bel⟩ => ?_
  subst he
  exact ⟨_, rfl, _, _, _, [], _, [], hW', trodAll_mk1 (shut_bool Try.underlying4 _), trodAll_cons_mk (Below.trod Args.laidOut (by kernel_rfl) (of_decide_eq_true (by kernel_rfl)) h0 bel lt0) (trodAll_cons_mk (Below.trod Args.laidOut (by kernel_rfl) (of_decide_eq_true (by kernel_rfl)) h1 bel lt1) (trodAll_cons_mk (Below.trod Args.laidOut (by kernel_rfl) (of_decide_eq_true (by kernel_rfl)) h2 bel lt2) (trodAll_mk0))), rfl, bel.frame _, fun h => by cases h⟩

theorem over : Rows.groundGivesRow.holds Try.pinned (OpenSpec.ofChange Rows.groundGivesSpec) :=
  OpenClaim.holds_of_wide 7 Try.f7 rfl rfl rfl rfl rfl rfl rfl ⟨rfl, rfl, rfl, rfl, rfl⟩ rfl rfl rfl rfl rfl (by kernel_rfl) Try.func7 (by kernel_rfl)
    (of_decide_eq_true (by kernel_rfl)) (by unfold Func.isWrapper; rw [if_neg (of_decide_eq_false (by kernel_rfl))]; exact ⟨rfl, rfl⟩)
    (fun os started H enc _ => lifted os started H enc)

theorem proved : Rows.GroundGivesSaid :=
  over
end Go.Proofs.Ytnekbbdodhokbaa.groundGives
