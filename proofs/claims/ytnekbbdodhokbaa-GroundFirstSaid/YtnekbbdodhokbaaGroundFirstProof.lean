/-
  penfoldlaw04.GroundFirst returns true for every byte and every slice of operations, and changes nothing that was there; no condition.
-/
import Derived.Test.YtnekbbdodhokbaaRows
import Derived.Test.YtnekbbdodhokbaaArgs
import Derived.Test.YtnekbbdodhokbaaFirst
import Derived.Test.YtnekbbdodhokbaaRefD
import Derived.Deep.DeepCutAuto
namespace Go.Proofs.Ytnekbbdodhokbaa.groundFirst
open Go.ChangeShapes Go.WideShapes Go.ChangeAt Go.RowKit
set_option linter.unusedVariables false

open Gr Gm
attribute [local go_sem ↓] Go.wp_at_zero Go.wp_at_succ

set_option maxRecDepth 100000 in
set_option maxHeartbeats 8000000 in
theorem walk (n : Int) (lA : Option Addr) (ln lc : Nat) (lz : Nat → Nat → Int) (w : World) (wn : (Lit.int .u8 n).wf = true) (hl : Args.Recs [.u8, .i64, .i64] w lA ln lz) :
    Calls Try.prog 6 #[.int .u8 n, .slice lA ln lc] w fun e w' => e = .returned (.bool true) ∧ Below w.heap.size w w' := by
  have ⟨n1, n2⟩ := bounds_u8 wn
  have hln := hl.len
  unfold maxLen at hln
  obtain ⟨N, hN⟩ : ∃ N : Nat, n % 61 = (N : Int) := ⟨(n % 61).toNat, by omega⟩
  have hN2 : N ≤ 60 := by omega
  have hS : boundB (8 * (N : Int)) = true := decide_eq_true (by omega)
  have ok0 : Ok 64 (8 * (N : Int)) (newL 64 (8 * (N : Int))) := ok_new (by decide) hS
  clear wn
  go_enter Try.func6, Try.ntmps6
  go_wp2_with fail
  refine (shown_any _).mono ?_
  rintro e w1 ⟨rfl, k1⟩
  go_wp2_with fail
  refine (new_at w1 64 (8 * (N : Int)) w1.heap.size (by decide) hS (Nat.le_refl _)).mono ?_
  rintro e w2 ⟨rfl, h2, k2, z2⟩
  have B2 := k1.trans (k2.mono k1.size)
  have zs := k1.size
  clear k1 k2
  go_wp2_with fail
  try rw [hN]
  clear hN
  go_loopw [8] (fun t wr => ∃ (k : Nat) (L : List E), k ≤ ln ∧ k ≤ 50 ∧ t = .int .i64 k ∧ Gr wr w1.heap.size w1.heap.size 64 (8 * (N : Int)) L ∧ Ok 64 (8 * (N : Int)) L ∧ Below w.heap.size w wr) (fun t _ => 50 - (intOf t).toNat)
  case atStart => exact ⟨0, _, by omega, by omega, rfl, h2, ok0, B2⟩
  case round =>
    obtain ⟨k, L, hk1, hk2, rfl, hG, ok, hB⟩ := hrel
    by_cases hlt : k < ln ∧ k < 50
    · obtain ⟨hk3, hk4⟩ := hlt
      obtain ⟨b, o, rfl, hb, hcell⟩ := hl.at_ k hk3
      have q0 : wr.cell? ⟨b, o + k * 3, none⟩ = some (.int .u8 (lz k 0)) := (hB.cell hb).trans (hcell 0 (by decide))
      have q1 : wr.cell? ⟨b, o + k * 3 + 1, none⟩ = some (.int .i64 (lz k 1)) := (hB.cell hb).trans (hcell 1 (by decide))
      have q2 : wr.cell? ⟨b, o + k * 3 + 2, none⟩ = some (.int .i64 (lz k 2)) := (hB.cell hb).trans (hcell 2 (by decide))
      have ⟨v0, v0'⟩ := bounds_u8 (hl.wf k 0)
      have ⟨v1, v1'⟩ := bounds_i64 (hl.wf k 1)
      have ⟨v2, v2'⟩ := bounds_i64 (hl.wf k 2)
      clear hcell
      have zG := hG.lt
      have okl : L.length ≤ 1000 := by have := len_le ok.norm ok.hi (by omega); omega
      have e3 : (lz k 0 % 3 = 2 ∧ (lz k 0 % 3 == 2) = true) ∨ (¬ lz k 0 % 3 = 2 ∧ (lz k 0 % 3 == 2) = false) := by
        by_cases e : lz k 0 % 3 = 2
        · exact .inl ⟨e, by simpa using e⟩
        · exact .inr ⟨e, by simpa using e⟩
      have hG1 := hG.alloc (.cells #[.int .u8 (lz k 0), .int .i64 (lz k 1), .int .i64 (lz k 2)] 31)
      have hB1 := hB.alloc hB.size (.cells #[.int .u8 (lz k 0), .int .i64 (lz k 1), .int .i64 (lz k 2)] 31)
      have bx2 : (wr.alloc (.cells #[.int .u8 (lz k 0), .int .i64 (lz k 1), .int .i64 (lz k 2)] 31)).cell? ⟨wr.heap.size, 2, none⟩ = some (.int .i64 (lz k 2)) := by simp [go_sem]
      have zb : wr.heap.size < (wr.alloc (.cells #[.int .u8 (lz k 0), .int .i64 (lz k 1), .int .i64 (lz k 2)] 31)).heap.size := by simp
      rcases e3 with ⟨_, e3⟩ | ⟨_, e3⟩
      · go_wp2_with fail
        generalize wr.alloc (.cells #[.int .u8 (lz k 0), .int .i64 (lz k 1), .int .i64 (lz k 2)] 31) = W1 at *
        refine (give_any _ _ _ 64 _ L _ _ hG1 hG1.lt ok v1 v1' v2 v2').mono ?_
        rintro e w3 ⟨rfl, h3, g3⟩
        go_wp2_with fail
        go_roundw
        case rel => exact ⟨k + 1, _, by omega, by omega, by go_num, h3, ok_give ok, below_only2 hB1 g3 hB1.size zs⟩
        case measure => simp [intOf]; omega
      · go_upto_region 11 with (fail)
        generalize wr.alloc (.cells #[.int .u8 (lz k 0), .int .i64 (lz k 1), .int .i64 (lz k 2)] 31) = W1 at *
        generalize wr.heap.size = b_ at *
        have okF := ok_carve (z := lz k 2) ok
        generalize lz k 2 = z at *
        have oklF := okF.len
        clear q0 q1 q2
        have hT2 : Tight (W1.alloc (.cells #[] 40)) (.slice (some ⟨W1.heap.size, 0, none⟩) 0 0) [] := .inr ⟨W1.heap.size, rfl, by simp, fun i hi => by simp at hi⟩
        have hG2 := hG1.alloc (.cells #[] 40)
        have hB2 := hB1.alloc hB1.size (.cells #[] 40)
        have bx3 := cell_alloc bx2 (.cells #[] 40)
        have zA : W1.heap.size < (W1.alloc (.cells #[] 40)).heap.size := by simp
        go_wp2_with fail
        generalize W1.alloc (.cells #[] 40) = W2 at *
        refine (free_any _ _ _ 64 _ L hG2 (by omega)).mono ?_
        rintro e W4 ⟨V, c, rfl, hE, hn, k4⟩
        have hT4 : Tight W4 (.slice (some ⟨W1.heap.size, 0, none⟩) 0 0) [] := .inr ⟨W1.heap.size, rfl, by have := k4.size; omega, fun i hi => by simp at hi⟩
        obtain ⟨v5, W5, r5, hE5, g5, hat5⟩ := app1 W4 hT4 hE.sr (by simp; omega)
        rw [List.nil_append] at hE5
        obtain ⟨V5, c5, rfl⟩ := hE5.form
        have k24 : Below W2.heap.size W2 W5 := k4.trans ((below_only g5).mono k4.size)
        have hF5 : Fi w W5 w1.heap.size w1.heap.size (8 * (N : Int)) L V5 L.length c5 L b_ z := by
          refine ⟨hG2.below k24, hE5, Gr.bel k24 bx3, hB2.trans (k24.mono hB2.size), zs, zG, fun g hg => ?_⟩
          rcases hat5 g hg with x | x
          · injection x with x
            have x' : W1.heap.size = g := x
            omega
          · have := k4.size
            omega
        clear hat5 hT4 hT2 hE hG2 hB2 bx3 hG1 hB1 bx2 hE5 g5 k4 k24 hG hB
        have x5 := hF5.box
        go_wp2_with (at_builtin; refine wpList_run rfl (.tmp 60) (.tmp 62) _ rfl _ _ rfl rfl r5 ?_)
        refine (carve_any W5 _ _ 64 _ L z hF5.gr hF5.gr.lt ok v2 v2').mono ?_
        rintro e W6 ⟨rfl, h6, g6⟩
        have hF6 := hF5.one h6 g6
        clear h6 g6 hF5 x5 r5
        go_wp2_with fail
        go_loopw [13] (fun t wx => ∃ j : Nat, j ≤ L.length ∧ t = .int .i64 j ∧ Fi w wx w1.heap.size w1.heap.size (8 * (N : Int)) (carveF z L) V5 L.length c5 L b_ z ∧ Hid (∀ i (hi : i < L.length), i < j → decide (z ≤ (L[i]).2) = false)) (fun t _ => L.length - (intOf t).toNat)
        case atStart => exact ⟨0, by omega, rfl, hF6, Lib.hid (fun i _ h => by omega)⟩
        case round =>
          clear hF6
          obtain ⟨j, hj, rfl, hF, hno⟩ := hrel
          have xb := hF.box
          have hFd := hF.drew
          by_cases hlt : j < L.length
          · obtain ⟨g, e5, _, x0, x1⟩ := hF.was.cell hlt
            obtain ⟨b1, b2, b3, b4, b5, b6, b7, b8⟩ := ok.at_ hlt
            subst e5
            cases ts : decide ((L[j]).2 < z) with
            | true =>
              have HP := Lib.hid (show decide (z ≤ (L[j]).2) = false from decide_eq_false (by have := of_decide_eq_true ts; omega))
              go_wp2_with fail
              go_region
              all_goals
                clear ts
                go_wp2_with fail
                go_roundw
                case rel =>
                  refine ⟨j + 1, by omega, by go_num, hFd, Lib.hid (fun i hi h => ?_)⟩
                  by_cases e : i = j
                  · subst e; exact HP.out
                  · exact hno.out i hi (by omega)
                case measure => simp [intOf]; omega
            | false =>
              have hp : decide (z ≤ (L[j]).2) = true := decide_eq_true (by have := of_decide_eq_false ts; omega)
              have hI := Ref.carveI_of hno.out hlt hp
              have hzj : z ≤ (L[j]).2 := of_decide_eq_true hp
              cases hsz : sizeB z with
              | true =>
                obtain ⟨t1, t2, t4⟩ := take_drop_carve hI hlt hsz
                have HBB := Lib.hid t1
                have HV := Lib.hid t2
                have HF := Lib.hid t4
                have ⟨hz0, hz8⟩ : 0 < z ∧ z % 8 = 0 := of_decide_eq_true hsz
                have HZ8 := Lib.hid hz8
                clear t1 t2 t4 hI hp hsz hz8
                go_wp2_with fail
                go_region
                all_goals as_aux_lemma =>
                  clear ts xb x0 x1 hF
                  generalize wr.drew = Wd at *
                  have zq := hFd.was
                  have hbq := cell_lt hFd.box
                  have hwq := fun g' hg => hFd.was.lt (g := g') hg
                  have zB := hFd.gr.lt
                  have hh7 := Hl.start Wd (w1.heap.size + 1) (by omega)
                  have hF7 := (hFd.other (Nat.le_refl _)).bel ((Below.refl _ _).alloc (Nat.le_refl _) (.cells #[] 40))
                  obtain ⟨sf1, sf2⟩ := hFd.was.frontRun hj
                  have z7 : Wd.heap.size < (Wd.alloc (.cells #[] 40)).heap.size := by simp
                  obtain ⟨v8, W8, K8, r8, hh8, g8, hk8⟩ := Hl.app _ hh7 (hF7.was.front hj) (by rw [List.length_take]; simp; omega)
                  rw [List.nil_append] at hh8
                  have hF8 := hF7.put hh7 (by omega) (by omega) (fun g hg e => by have := hwq g hg; omega) g8 hk8
                  have hK8 : Wd.heap.size ≤ K8 := by rcases hk8 with e | e <;> omega
                  have z8 := g8.size
                  clear hFd hF7 hh7 g8 hk8
                  go_upto_region 17 with (at_builtin; refine wpList_run rfl (.tmp 87) (.tmp 90) _ rfl _ _ rfl rfl r8 ?_)
                  clear r8 sf1 sf2
                  obtain ⟨c8, e8⟩ := hh8.form
                  rw [List.length_take, Nat.min_eq_left hj] at e8
                  subst e8
                  have x9 := hF8.box
                  go_cut [15] (fun s15 wx => s15 = .bool true ∧ W8 = wx)
                  case first =>
                    have q0 : decide (0 < z) = true := decide_eq_true hz0
                    have q1 : (z % 8 == 0) = true := by simpa using HZ8.out
                    go_wp2_with fail
                    go_meet
                    exact ⟨rfl, rfl⟩
                  case rest =>
                    obtain ⟨rfl, rfl⟩ := hcut
                    rw [HV.out, HBB.out]
                    obtain ⟨g0, e0, _, y0, y1⟩ := hF8.was.cell hlt
                    injection e0 with e0
                    injection e0 with e0
                    subst e0
                    cases td : decide (z < (L[j]).2) with
                    | false =>
                      have hcut0 : cut z L[j] = [] := by
                        unfold cut
                        have := of_decide_eq_false td
                        rw [if_pos (by omega)]
                      have HC0 := Lib.hid hcut0
                      clear hcut0
                      go_wp2_with fail
                      go_region
                      all_goals
                        have hF9 := hF8.drew
                        have hh9 : Hl W8.drew (w1.heap.size + 1) K8 (.slice (some ⟨K8, 0, none⟩) j c8) (L.take j) := ⟨hh8.own.drew, hh8.blk⟩
                        obtain ⟨Vb, cb, sb1, sb2, sr⟩ := hF9.was.back (k := j + 1) (by omega)
                        rw [show ((j + 1 : Nat) : Int) = (j : Int) + 1 from rfl] at sb1 sb2
                        obtain ⟨v10, W10, K10, r10, hh10, g10, hk10⟩ := Hl.app _ hh9 sr (by rw [List.length_take, List.length_drop]; omega)
                        have hF10 := hF9.put hh9 (by omega) (by omega) (fun g hg e => by have := hwq g hg; omega) g10 hk10
                        have HCF := Lib.hid (show carveF z L = L.take j ++ L.drop (j + 1) by rw [HF.out, HC0.out, List.nil_append])
                        clear hF9 hh9 sr g10 hk10 hF8 hh8 td
                        have hh10' : Hl W10 (w1.heap.size + 1) K10 v10 (carveF z L) := by rw [HCF.out]; exact hh10
                        obtain ⟨c10, rfl⟩ := hh10'.form
                        have hE10 := Ex.own hh10'.own
                        clear hh10 hh10'
                        go_wp2_with (at_builtin; refine wpList_run rfl (.tmp 164) (.tmp 167) _ rfl _ _ rfl rfl r10 ?_)
                        refine (free_any _ _ _ 64 _ _ hF10.gr (by omega)).mono ?_
                        rintro e W11 ⟨V11, c11, rfl, hE11, hn11, k11⟩
                        have hF11 := hF10.bel k11
                        go_wp2_with fail
                        refine (same_yes W11 _ _ _ _ _ hE11 (hE10.below k11) (by omega)).mono ?_
                        rintro e W12 ⟨rfl, k12⟩
                        have hF12 := hF11.bel k12
                        go_wp2_with fail
                        go_roundw
                        case rel => exact ⟨k + 1, _, by omega, by omega, by go_num, hF12.gr.self, okF, hF12.below⟩
                        case measure => simp [intOf]; omega
                    | true =>
                      have hcut0 : cut z L[j] = [((L[j]).1 + z, (L[j]).2 - z)] := by
                        unfold cut
                        have := of_decide_eq_true td
                        rw [if_neg (by omega)]
                      have HC0 := Lib.hid hcut0
                      clear hcut0
                      go_wp2_with fail
                      go_region
                      all_goals
                        have hF9 := hF8.drew
                        have hh9 : Hl W8.drew (w1.heap.size + 1) K8 (.slice (some ⟨K8, 0, none⟩) j c8) (L.take j) := ⟨hh8.own.drew, hh8.blk⟩
                        have z9 : Wd.heap.size < W8.drew.heap.size := Nat.lt_of_lt_of_le z7 z8
                        have y0d : W8.drew.cell? ⟨g, j * 2, none⟩ = some (.int .i64 (L[j]).1) := y0
                        have y1d : W8.drew.cell? ⟨g, j * 2 + 1, none⟩ = some (.int .i64 (L[j]).2) := y1
                        have x9d : W8.drew.cell? ⟨b_, 2, none⟩ = some (.int .i64 z) := x9
                        clear hF8 hh8 y0 y1 x9 td
                        generalize W8.drew = W9 at *
                        obtain ⟨v11, W11, K11, r11, hh11, g11, hk11⟩ := Hl.push W9.drew (H := L.take j) ⟨hh9.own.drew, hh9.blk⟩ ((L[j]).1 + z) ((L[j]).2 - z) (by rw [List.length_take]; omega)
                        have hF11 := hF9.drew.put (Hl.mk (H := L.take j) hh9.own.drew hh9.blk) (by omega) (by omega) (fun g hg e => by have := hwq g hg; omega) (only_trans (only_alloc (World.grownBy.refl _ _) _) g11) hk11
                        have hK11 : Wd.heap.size ≤ K11 := by
                          rcases hk11 with e | e
                          · omega
                          · have e' : W9.heap.size ≤ K11 := e
                            omega
                        obtain ⟨c11, e11⟩ := hh11.form
                        rw [List.length_append, List.length_take, Nat.min_eq_left hj] at e11
                        have e11' : v11 = .slice (some ⟨K11, 0, none⟩) (j + 1) c11 := e11
                        clear e11
                        subst e11'
                        obtain ⟨g', e1, _, s0, s1⟩ := hF11.was.cell hlt
                        injection e1 with e1
                        injection e1 with e1
                        subst e1
                        have s2 := hF11.box
                        have wr1 : IntKind.i64.wrap ((L[j]).1 + z) = (L[j]).1 + z := IntWalk.i64_in _ (by omega)
                        have wr2 : IntKind.i64.wrap ((L[j]).2 - z) = (L[j]).2 - z := IntWalk.i64_in _ (by omega)
                        obtain ⟨Vb, cb, sb1, sb2, sr⟩ := hF11.was.back (k := j + 1) (by omega)
                        rw [show ((j + 1 : Nat) : Int) = (j : Int) + 1 from rfl] at sb1 sb2
                        obtain ⟨v10, W10, K10, r10, hh10, g10, hk10⟩ := Hl.app _ hh11 sr (by rw [List.length_append, List.length_take, List.length_drop]; simp; omega)
                        have hF10 := hF11.put hh11 (by omega) (by omega) (fun g hg e => by have := hwq g hg; omega) g10 hk10
                        have HCF := Lib.hid (show carveF z L = L.take j ++ [((L[j]).1 + z, (L[j]).2 - z)] ++ L.drop (j + 1) by rw [HF.out, HC0.out, List.append_assoc])
                        clear hF9 hh9 sr g10 hk10 hF11 hh11 g11 hk11
                        go_wp2_with fail
                        go_region_held3 (fun w' => w'.cell? ⟨g, j * 2, none⟩ = some (.int .i64 (L[j]).1) ∧ w'.cell? ⟨g, j * 2 + 1, none⟩ = some (.int .i64 (L[j]).2) ∧ w'.cell? ⟨b_, 2, none⟩ = some (.int .i64 z))
                          (first | exact ⟨y0d, y1d, x9d⟩ | exact ⟨s0, s1, s2⟩ | exact ⟨cell_alloc y0d _, cell_alloc y1d _, cell_alloc x9d _⟩)
                          ((refine step_run (by rfl) (.tmp 141) (.tmp 159) _ (by rfl) _ _ (by rfl) (by rfl) r11 ?_))
                        clear wr1 wr2 r11
                        have hh10' : Hl W10 (w1.heap.size + 1) K10 v10 (carveF z L) := by rw [HCF.out]; exact hh10
                        obtain ⟨c10, rfl⟩ := hh10'.form
                        have hE10 := Ex.own hh10'.own
                        clear hh10 hh10'
                        go_wp2_with (at_builtin; refine wpList_run rfl (.tmp 164) (.tmp 167) _ rfl _ _ rfl rfl r10 ?_)
                        refine (free_any _ _ _ 64 _ _ hF10.gr (by omega)).mono ?_
                        rintro e W11 ⟨V11, c11, rfl, hE11, hn11, k11⟩
                        have hF11 := hF10.bel k11
                        go_wp2_with fail
                        refine (same_yes W11 _ _ _ _ _ hE11 (hE10.below k11) (by omega)).mono ?_
                        rintro e W12 ⟨rfl, k12⟩
                        have hF12 := hF11.bel k12
                        go_wp2_with fail
                        go_roundw
                        case rel => exact ⟨k + 1, _, by omega, by omega, by go_num, hF12.gr.self, okF, hF12.below⟩
                        case measure => simp [intOf]; omega
              | false =>
                have hb : carveB z L = false := by unfold carveB; rw [hsz]; rfl
                obtain ⟨t1, t2⟩ := carve_not hb
                have HBB := Lib.hid hb
                have HV := Lib.hid t1
                have HF := Lib.hid t2
                have HSZ := Lib.hid hsz
                clear hI hp t1 t2 hb hsz
                go_wp2_with fail
                go_region
                all_goals as_aux_lemma =>
                  clear ts xb x0 x1 hF
                  generalize wr.drew = Wd at *
                  have zq := hFd.was
                  have hbq := cell_lt hFd.box
                  have hwq := fun g' hg => hFd.was.lt (g := g') hg
                  have zB := hFd.gr.lt
                  have hh7 := Hl.start Wd (w1.heap.size + 1) (by omega)
                  have hF7 := (hFd.other (Nat.le_refl _)).bel ((Below.refl _ _).alloc (Nat.le_refl _) (.cells #[] 40))
                  obtain ⟨sf1, sf2⟩ := hFd.was.frontRun hj
                  have z7 : Wd.heap.size < (Wd.alloc (.cells #[] 40)).heap.size := by simp
                  obtain ⟨v8, W8, K8, r8, hh8, g8, hk8⟩ := Hl.app _ hh7 (hF7.was.front hj) (by rw [List.length_take]; simp; omega)
                  rw [List.nil_append] at hh8
                  have hF8 := hF7.put hh7 (by omega) (by omega) (fun g hg e => by have := hwq g hg; omega) g8 hk8
                  have hK8 : Wd.heap.size ≤ K8 := by rcases hk8 with e | e <;> omega
                  have z8 := g8.size
                  clear hFd hF7 hh7 g8 hk8
                  go_upto_region 17 with (at_builtin; refine wpList_run rfl (.tmp 87) (.tmp 90) _ rfl _ _ rfl rfl r8 ?_)
                  clear r8 sf1 sf2
                  obtain ⟨c8, e8⟩ := hh8.form
                  rw [List.length_take, Nat.min_eq_left hj] at e8
                  subst e8
                  have x9 := hF8.box
                  go_cut [15] (fun s15 wx => s15 = .bool false ∧ W8 = wx)
                  case first =>
                    by_cases h0 : 0 < z
                    · have q0 : decide (0 < z) = true := decide_eq_true h0
                      have q1 : (z % 8 == 0) = false := by
                        have h8 : ¬ z % 8 = 0 := fun e => by
                          have := HSZ.out
                          unfold sizeB at this
                          exact of_decide_eq_false this ⟨h0, e⟩
                        simpa using h8
                      go_wp2_with fail
                      go_meet
                      exact ⟨rfl, rfl⟩
                    · have q0 : decide (0 < z) = false := decide_eq_false h0
                      go_wp2_with fail
                      go_meet
                      exact ⟨rfl, rfl⟩
                  case rest =>
                    obtain ⟨rfl, rfl⟩ := hcut
                    rw [HV.out, HBB.out]
                    go_wp2_with fail
                    go_region
                    all_goals
                      have hF9 := hF8.drew
                      have hh9 : Hl W8.drew (w1.heap.size + 1) K8 (.slice (some ⟨K8, 0, none⟩) j c8) (L.take j) := ⟨hh8.own.drew, hh8.blk⟩
                      obtain ⟨Vb, cb, sb1, sb2, sr⟩ := hF9.was.back hj
                      obtain ⟨v10, W10, K10, r10, hh10, g10, hk10⟩ := Hl.app _ hh9 sr (by rw [List.length_take, List.length_drop]; omega)
                      have hF10 := hF9.put hh9 (by omega) (by omega) (fun g hg e => by have := hwq g hg; omega) g10 hk10
                      have HCF := Lib.hid (show carveF z L = L.take j ++ L.drop j by rw [HF.out, List.take_append_drop])
                      clear hF9 hh9 sr g10 hk10 hF8 hh8
                      have hh10' : Hl W10 (w1.heap.size + 1) K10 v10 (carveF z L) := by rw [HCF.out]; exact hh10
                      obtain ⟨c10, rfl⟩ := hh10'.form
                      have hE10 := Ex.own hh10'.own
                      clear hh10 hh10'
                      go_wp2_with (at_builtin; refine wpList_run rfl (.tmp 164) (.tmp 167) _ rfl _ _ rfl rfl r10 ?_)
                      refine (free_any _ _ _ 64 _ _ hF10.gr (by omega)).mono ?_
                      rintro e W11 ⟨V11, c11, rfl, hE11, hn11, k11⟩
                      have hF11 := hF10.bel k11
                      go_wp2_with fail
                      refine (same_yes W11 _ _ _ _ _ hE11 (hE10.below k11) (by omega)).mono ?_
                      rintro e W12 ⟨rfl, k12⟩
                      have hF12 := hF11.bel k12
                      go_wp2_with fail
                      go_roundw
                      case rel => exact ⟨k + 1, _, by omega, by omega, by go_num, hF12.gr.self, okF, hF12.below⟩
                      case measure => simp [intOf]; omega
          · have hjl : j = L.length := by omega
            have hI : carveI z L = L.length := by
              have := hno.out
              rw [hjl] at this
              exact Ref.carveI_no this
            have hb : carveB z L = false := by unfold carveB; rw [(carve_none hI).1, Bool.and_false]
            obtain ⟨t1, t2⟩ := carve_not hb
            have HBB := Lib.hid hb
            have HV := Lib.hid t1
            have HF := Lib.hid t2
            have qj : decide (j < L.length) = false := decide_eq_false hlt
            clear hI t1 t2 hb hjl
            go_wp2_with fail
            go_region
            all_goals as_aux_lemma =>
              clear xb hF
              generalize wr.drew = Wd at *
              have zq := hFd.was
              have hbq := cell_lt hFd.box
              have hwq := fun g' hg => hFd.was.lt (g := g') hg
              have zB := hFd.gr.lt
              have hh7 := Hl.start Wd (w1.heap.size + 1) (by omega)
              have hF7 := (hFd.other (Nat.le_refl _)).bel ((Below.refl _ _).alloc (Nat.le_refl _) (.cells #[] 40))
              obtain ⟨sf1, sf2⟩ := hFd.was.frontRun hj
              have z7 : Wd.heap.size < (Wd.alloc (.cells #[] 40)).heap.size := by simp
              obtain ⟨v8, W8, K8, r8, hh8, g8, hk8⟩ := Hl.app _ hh7 (hF7.was.front hj) (by rw [List.length_take]; simp; omega)
              rw [List.nil_append] at hh8
              have hF8 := hF7.put hh7 (by omega) (by omega) (fun g hg e => by have := hwq g hg; omega) g8 hk8
              have hK8 : Wd.heap.size ≤ K8 := by rcases hk8 with e | e <;> omega
              have z8 := g8.size
              clear hFd hF7 hh7 g8 hk8
              go_upto_region 17 with (at_builtin; refine wpList_run rfl (.tmp 87) (.tmp 90) _ rfl _ _ rfl rfl r8 ?_)
              clear r8 sf1 sf2
              obtain ⟨c8, e8⟩ := hh8.form
              rw [List.length_take, Nat.min_eq_left hj] at e8
              subst e8
              have x9 := hF8.box
              go_cut [15] (fun s15 wx => s15 = .bool false ∧ W8 = wx)
              case first =>
                by_cases h0 : 0 < z
                · have q0 : decide (0 < z) = true := decide_eq_true h0
                  by_cases h8 : z % 8 = 0
                  · have q1 : (z % 8 == 0) = true := by simpa using h8
                    clear h8
                    go_wp2_with fail
                    go_meet
                    exact ⟨rfl, rfl⟩
                  · have q1 : (z % 8 == 0) = false := by simpa using h8
                    clear h8
                    go_wp2_with fail
                    go_meet
                    exact ⟨rfl, rfl⟩
                · have q0 : decide (0 < z) = false := decide_eq_false h0
                  go_wp2_with fail
                  go_meet
                  exact ⟨rfl, rfl⟩
              case rest =>
                obtain ⟨rfl, rfl⟩ := hcut
                rw [HV.out, HBB.out]
                go_wp2_with fail
                go_region
                all_goals
                  have hF9 := hF8.drew
                  have hh9 : Hl W8.drew (w1.heap.size + 1) K8 (.slice (some ⟨K8, 0, none⟩) j c8) (L.take j) := ⟨hh8.own.drew, hh8.blk⟩
                  obtain ⟨Vb, cb, sb1, sb2, sr⟩ := hF9.was.back hj
                  obtain ⟨v10, W10, K10, r10, hh10, g10, hk10⟩ := Hl.app _ hh9 sr (by rw [List.length_take, List.length_drop]; omega)
                  have hF10 := hF9.put hh9 (by omega) (by omega) (fun g hg e => by have := hwq g hg; omega) g10 hk10
                  have HCF := Lib.hid (show carveF z L = L.take j ++ L.drop j by rw [HF.out, List.take_append_drop])
                  clear hF9 hh9 sr g10 hk10 hF8 hh8
                  have hh10' : Hl W10 (w1.heap.size + 1) K10 v10 (carveF z L) := by rw [HCF.out]; exact hh10
                  obtain ⟨c10, rfl⟩ := hh10'.form
                  have hE10 := Ex.own hh10'.own
                  clear hh10 hh10'
                  go_wp2_with (at_builtin; refine wpList_run rfl (.tmp 164) (.tmp 167) _ rfl _ _ rfl rfl r10 ?_)
                  refine (free_any _ _ _ 64 _ _ hF10.gr (by omega)).mono ?_
                  rintro e W11 ⟨V11, c11, rfl, hE11, hn11, k11⟩
                  have hF11 := hF10.bel k11
                  go_wp2_with fail
                  refine (same_yes W11 _ _ _ _ _ hE11 (hE10.below k11) (by omega)).mono ?_
                  rintro e W12 ⟨rfl, k12⟩
                  have hF12 := hF11.bel k12
                  go_wp2_with fail
                  go_roundw
                  case rel => exact ⟨k + 1, _, by omega, by omega, by go_num, hF12.gr.self, okF, hF12.below⟩
                  case measure => simp [intOf]; omega
    · have hfirst : (k < ln ∧ k = 50) ∨ ¬ k < ln := by omega
      rcases hfirst with ⟨hk3, rfl⟩ | hk3
      all_goals
        clear hlt
        go_wp2_with fail
        go_ret
        exact ⟨rfl, hB⟩

set_option maxRecDepth 100000 in
theorem lifted (os : Os) (started : os.Started) (H : Type) (enc : TypeId × Value → H) :
    ReturnsInHanded {} Try.checked os 6 .any (Rows.groundFirstSpec.pre6 enc Try.prog Try.f6 Rows.groundFirstRow.domain false) (Rows.groundFirstSpec.post enc Try.prog Try.f6 false true false false) := by
  refine returnsInHanded_of_change (C := Try.checked) Args.own started (by kernel_rfl) Try.func6
    (ChangeSpec.witness6 (enc := enc) (C := Try.checked) false ⟨#[], #[.int .u8 0, .slice none 0 0], []⟩ 8 (by kernel_rfl) (by kernel_rfl) (by kernel_rfl) (by kernel_rfl)) ?_
  intro W base args ds gs before hval0 hW hcnd _
  have hval : ∀ (j : Nat) t v, Try.f6.params[j]? = some t → args[j]? = some v → Value.okWide Try.prog W .any base t v := hval0
  have hW' := hW
  obtain ⟨p, q, hA0, hV, rfl, hfz, hnd⟩ := hW
  have hA : DataW.TrodAll enc Try.prog W 0 (fun _ => true) true Try.f6.params.toList args.toList ds p := hA0
  rw [Try.params6] at hA hval
  obtain ⟨v0, vs0, d0, ds0, p0, q0, hargs, rfl, rfl, h0, r0⟩ := trodAll_cons hA
  obtain ⟨v1, vs1, d1, ds1, p1, q1, rfl, rfl, rfl, h1, r1⟩ := trodAll_cons r0
  obtain ⟨rfl, rfl, rfl⟩ := trodAll_nil r1
  obtain rfl : args = #[v0, v1] := by cases args; simp_all
  obtain ⟨rfl, rfl⟩ := trodVars_none hV
  have lt0 := Args.trod_below h0
  obtain ⟨n, rfl, rfl, rfl, wn⟩ := open_int Try.underlying5 (hval 0 5 v0 rfl rfl) h0
  have lt1 := Args.trod_below h1
  obtain ⟨lA, ln, lc, lz, rfl, hl⟩ := Args.recs_in (ks := [.u8, .i64, .i64]) (e := 31) (by kernel_rfl) Try.underlying31 (by kernel_rfl) (by kernel_rfl) (by decide) (hval 1 22 v1 rfl rfl) h1
  clear hA0 hval0
  refine (walk n lA ln lc lz W wn hl).mono fun e W' ⟨he, bel⟩ => ?_
  subst he
  exact ⟨_, rfl, _, _, _, [], _, [], hW', trodAll_mk1 (shut_bool Try.underlying4 _), trodAll_cons_mk (Below.trod Args.laidOut (by kernel_rfl) (of_decide_eq_true (by kernel_rfl)) h0 bel lt0) (trodAll_cons_mk (Below.trod Args.laidOut (by kernel_rfl) (of_decide_eq_true (by kernel_rfl)) h1 bel lt1) (trodAll_mk0)), rfl, bel.frame _, fun h => by cases h⟩

theorem over : Rows.groundFirstRow.holds Try.pinned (OpenSpec.ofChange Rows.groundFirstSpec) :=
  OpenClaim.holds_of_wide 6 Try.f6 rfl rfl rfl rfl rfl rfl rfl ⟨rfl, rfl, rfl, rfl, rfl⟩ rfl rfl rfl rfl rfl (by kernel_rfl) Try.func6 (by kernel_rfl)
    (of_decide_eq_true (by kernel_rfl)) (by unfold Func.isWrapper; rw [if_neg (of_decide_eq_false (by kernel_rfl))]; exact ⟨rfl, rfl⟩)
    (fun os started H enc _ => lifted os started H enc)

theorem proved : Rows.GroundFirstSaid :=
  over
end Go.Proofs.Ytnekbbdodhokbaa.groundFirst
