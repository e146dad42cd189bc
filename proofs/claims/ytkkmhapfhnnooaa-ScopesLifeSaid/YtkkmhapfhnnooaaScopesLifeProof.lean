/-
  penfoldlaw11.ScopesLife returns true for every plan and every slice of things done, and changes nothing that was there; no condition.
-/
import Derived.Test.YtkkmhapfhnnooaaRows
import Derived.Test.YtkkmhapfhnnooaaArgs
import Derived.Test.YtkkmhapfhnnooaaScoK
import Derived.Test.YtkkmhapfhnnooaaSt
import Derived.Deep.DeepCutAuto
namespace Go.Proofs.Ytkkmhapfhnnooaa.scopesLife
open Go.ChangeShapes Go.WideShapes Go.ChangeAt Go.RowKit
set_option linter.unusedVariables false

open Sco Slic Gm Gr

set_option maxRecDepth 100000 in
set_option maxHeartbeats 8000000 in
theorem walk (q0 q1 q2 q3 : Int) (lA : Option Addr) (ln lc : Nat) (lz : Nat → Nat → Int) (w : World) (wq0 : (Lit.int .i64 q0).wf = true) (wq1 : (Lit.int .i64 q1).wf = true) (wq2 : (Lit.int .i64 q2).wf = true) (wq3 : (Lit.int .i64 q3).wf = true) (hl : Args.Recs [.u8, .i64, .i64] w lA ln lz) :
    Calls Try.prog 8 #[.agg #[.int .i64 q0, .int .i64 q1, .int .i64 q2, .int .i64 q3], .slice lA ln lc] w fun e w' => e = .returned (.bool true) ∧ Below w.heap.size w w' := by
  obtain ⟨s, t, i, h, ⟨b1, b2, b3, b4, b5, b6, b7, b8, b9, b10⟩, FT⟩ := Plan.fit_all q0 q1 q2 q3
  obtain ⟨n, rfl⟩ : ∃ n : Nat, s = n := ⟨s.toNat, by omega⟩
  have n1 : 1 ≤ n := by omega
  have n8 : n ≤ 8 := by omega
  have HR : Hid (Plan.rightB (n : Int) t i h = true) := Lib.hid (decide_eq_true (by omega))
  clear wq0 wq1 wq2 wq3
  have hln := hl.len
  unfold maxLen at hln
  have Q0 : Bt w (w.alloc (.cells #[.int .i64 q0, .int .i64 q1, .int .i64 q2, .int .i64 q3] 23)) w.heap.size [.int .i64 q0, .int .i64 q1, .int .i64 q2, .int .i64 q3] 23 := ⟨Nat.le_refl _, heap_alloc_new w _⟩
  go_enter Try.func8, Try.ntmps8
  go_wp2_with fail
  refine (shown_any _).mono ?_
  rintro z w1 ⟨rfl, k1⟩
  have Q1 := Q0.below k1
  have B1 := (below_one w (.cells #[.int .i64 q0, .int .i64 q1, .int .i64 q2, .int .i64 q3] 23)).trans (k1.mono (by simp))
  have c0 := Q1.cell 0 _ rfl
  have c1 := Q1.cell 1 _ rfl
  have c2 := Q1.cell 2 _ rfl
  have c3 := Q1.cell 3 _ rfl
  clear Q0 Q1 k1
  go_wp2_with fail
  refine (FT _).mono ?_
  rintro z w2 ⟨rfl, k2⟩
  have B2 := B1.trans (k2.mono B1.size)
  have P3 : Bt w (w2.alloc (.cells #[.int .i64 (n : Int), .int .i64 t, .int .i64 i, .int .i64 h] 23)) w2.heap.size [.int .i64 (n : Int), .int .i64 t, .int .i64 i, .int .i64 h] 23 := ⟨B2.size, heap_alloc_new w2 _⟩
  clear c0 c1 c2 c3 FT B1 k2
  go_wp2_with fail
  refine (so_new (B2.alloc B2.size _) (n : Int) t i h HR.out [(w2.heap.size, [.int .i64 (n : Int), .int .i64 t, .int .i64 i, .int .i64 h], 23)] (fun x hx => by rw [List.mem_singleton.1 hx]; exact P3)).mono ?_
  rintro z w3 ⟨B, g, rfl, h3, k3, hB, hg⟩
  rw [Int.toNat_natCast] at h3
  obtain ⟨A, hA⟩ : ∃ A : Int, A = 64 * (n : Int) + i := ⟨_, rfl⟩
  obtain ⟨I, hI⟩ : ∃ I : Int, I = 64 * (n : Int) := ⟨_, rfl⟩
  rw [← hA, ← hI] at h3
  generalize hF0 : Sco.start n A h I i = F0 at *
  clear k3 hB hg P3 B2 hA hF0
  have HI := Lib.hid hI
  clear hI
  go_wp2_with fail
  go_loopw [9] (fun u wr => ∃ (k : Nat) (F : Fo), k ≤ ln ∧ k ≤ 60 ∧ u = .int .i64 (k : Int) ∧ So w wr B g n A h I i F [(w2.heap.size, [.int .i64 (n : Int), .int .i64 t, .int .i64 i, .int .i64 h], 23)]) (fun u _ => 60 - (intOf u).toNat)
  case atStart => exact ⟨0, F0, by omega, by omega, rfl, h3⟩
  case round =>
    obtain ⟨k, F, hk1, hk2, rfl, SO⟩ := hrel
    by_cases hlt : k < ln ∧ k < 60
    · obtain ⟨hk3, hk4⟩ := hlt
      obtain ⟨b, o, rfl, hb, hcell⟩ := hl.at_ k hk3
      have ⟨v0, v0'⟩ := Held.bounds_u8 (hl.wf k 0)
      have ⟨v2, v2'⟩ := Held.bounds_i64 (hl.wf k 2)
      have hlen := SO.inv.len
      have h8 : F.R.length ≤ 8 := by omega
      have LIFE := Lib.hid (do_life SO.inv (lz k 0) (lz k 1) (lz k 2))
      have HCS := Lib.hid (fun (j : Nat) (x : Cx) (hx : F.R[j]? = some x) => all_six hx h8)
      have HRT := Lib.hid SO.inv.right
      have HLN := Lib.hid hlen
      have HW1 : Hid (lz k 0 % 7 = 0 → whichV F (lz k 0) (lz k 1) (lz k 2) = (doV F (lz k 0) (lz k 1) (lz k 2)).v) := Lib.hid (fun hk => by unfold whichV; rw [if_pos hk])
      have HW2 : Hid (lz k 0 % 7 ≠ 0 → whichV F (lz k 0) (lz k 1) (lz k 2) = lz k 1) := Lib.hid (fun hk => by unfold whichV; rw [if_neg hk])
      obtain ⟨p0, p1, p2, p3⟩ := SO.get4 0 rfl
      go_wp2_with fail
      with_reducible refine (seen_any SO t i h).mono ?_
      rintro z w5 ⟨rfl, k5⟩
      have S5 := SO.call k5
      have hs := allA_size F.R
      have h1 := allA_one F.R
      generalize allA F.R = CA at *
      have S6 := S5.whole cs48 CA 63 (by rw [cs48_size, hs])
      have e0 : ((w5.alloc (.cells cs48 63)).setRow w5.heap.size CA).cell? ⟨b, o + k * 3, none⟩ = some (.int .u8 (lz k 0)) := (S6.below.cell hb).trans (hcell 0 (by decide))
      have e1 : ((w5.alloc (.cells cs48 63)).setRow w5.heap.size CA).cell? ⟨b, o + k * 3 + 1, none⟩ = some (.int .i64 (lz k 1)) := (S6.below.cell hb).trans (hcell 1 (by decide))
      have e2 : ((w5.alloc (.cells cs48 63)).setRow w5.heap.size CA).cell? ⟨b, o + k * 3 + 2, none⟩ = some (.int .i64 (lz k 2)) := (S6.below.cell hb).trans (hcell 2 (by decide))
      clear p0 p1 p2 p3 S5 hlen h8
      go_wp2_with (first
        | (with_reducible refine wpList_a48 (o := ⟨some 10, _, _, _, _, _⟩) rfl rfl ?_)
        | (with_reducible refine wpList_s48 (o := ⟨none, _, _, _, _, _⟩) rfl (.tmp 10) (.tmp 57) rfl w5.heap.size CA cs48 rfl rfl (heap_alloc_new _ _) cs48_size hs h1 ?_))
      generalize (w5.alloc (.cells cs48 63)).setRow w5.heap.size CA = W6 at *
      refine (does_any S6 (lz k 0) (lz k 1) (lz k 2) v2 v2' v0 v0').mono ?_
      rintro z w7 ⟨rfl, S7⟩
      generalize whichV F (lz k 0) (lz k 1) (lz k 2) = W at *
      have h8' : (doV F (lz k 0) (lz k 1) (lz k 2)).F.R.length ≤ 8 := by have := S7.inv.len; omega
      have HCT := Lib.hid (fun (j : Nat) (x : Cx) (hx : (doV F (lz k 0) (lz k 1) (lz k 2)).F.R[j]? = some x) => all_six hx h8')
      generalize doV F (lz k 0) (lz k 1) (lz k 2) = r at *
      clear S6 SO k5 e0 e1 e2 h8' hs h1
      obtain ⟨rv, rx, rd, rF⟩ := r
      dsimp only at *
      obtain ⟨p0, p1, p2, p3⟩ := S7.get4 1 rfl
      go_wp2_with fail
      with_reducible refine (seen_any S7 t i h).mono ?_
      rintro z w8 ⟨rfl, k8⟩
      have S8 := S7.call k8
      have hs := allA_size rF.R
      have h1 := allA_one rF.R
      generalize allA rF.R = CB at *
      have S9 := S8.whole cs48 CB 63 (by rw [cs48_size, hs])
      have e0 : ((w8.alloc (.cells cs48 63)).setRow w8.heap.size CB).cell? ⟨b, o + k * 3, none⟩ = some (.int .u8 (lz k 0)) := (S9.below.cell hb).trans (hcell 0 (by decide))
      have e1 : ((w8.alloc (.cells cs48 63)).setRow w8.heap.size CB).cell? ⟨b, o + k * 3 + 1, none⟩ = some (.int .i64 (lz k 1)) := (S9.below.cell hb).trans (hcell 1 (by decide))
      clear p0 p1 p2 p3 S8 S7 k8 hcell
      go_upto_if 82 with (first
        | (with_reducible refine wpList_a48 (o := ⟨some 13, _, _, _, _, _⟩) rfl rfl ?_)
        | (with_reducible refine wpList_s48 (o := ⟨none, _, _, _, _, _⟩) rfl (.tmp 13) (.tmp 69) rfl w8.heap.size CB cs48 rfl rfl (heap_alloc_new _ _) cs48_size hs h1 ?_))
      generalize (w8.alloc (.cells cs48 63)).setRow w8.heap.size CB = W9 at *
      clear e0 e1
      go_cut [15] (fun s15 wx => s15 = .int .i64 W ∧ W9 = wx)
      case first =>
        by_cases hk0 : lz k 0 % 7 = 0
        · have q7 : (lz k 0 % 7 == 0) = true := by simpa using hk0
          have HW := Lib.hid (HW1.out hk0)
          clear hk0
          as_aux_lemma =>
            go_wp2_with fail
            go_meet
            exact ⟨by rw [HW.out], rfl⟩
        · have q7 : (lz k 0 % 7 == 0) = false := by simpa using hk0
          have HW := Lib.hid (HW2.out hk0)
          clear hk0
          as_aux_lemma =>
            go_wp2_with fail
            go_meet
            exact ⟨by rw [HW.out], rfl⟩
      case rest =>
        obtain ⟨rfl, rfl⟩ := hcut
        clear HW1 HW2 hs h1
        generalize lz k 0 % 7 = kd at *
        go_wp2_with fail
        go_loopw [16] (fun u wx => ∃ m : Nat, m ≤ n ∧ u = .int .i64 (m : Int) ∧ So w wx B g n A h I i rF [(w8.heap.size, CB.toList, 63), (w5.heap.size, CA.toList, 63), (w2.heap.size, [.int .i64 (n : Int), .int .i64 t, .int .i64 i, .int .i64 h], 23)]) (fun u _ => n - (intOf u).toNat)
        case atStart => exact ⟨0, by omega, rfl, S9⟩
        case round =>
          clear S9
          obtain ⟨m, hm1, rfl, SX⟩ := hrel
          obtain ⟨p0, p1, p2, p3⟩ := SX.get4 2 rfl
          by_cases hmn : m < n
          · obtain ⟨x, hx⟩ : ∃ x, F.R[m]? = some x := ⟨_, List.getElem?_eq_getElem (by rw [HLN.out]; exact hmn)⟩
            obtain ⟨y, hy, hcase⟩ := LIFE.out m x hx
            obtain ⟨a0, a1, a2, a3, a4, a5⟩ := six_cells (SX.at 1 rfl) (HCS.out m x hx)
            obtain ⟨c0, c1, c2, c3, c4, c5⟩ := six_cells (SX.at 0 rfl) (HCT.out m y hy)
            have hr := rightI (HRT.out m x hx)
            have he0 : 0 ≤ x.e := hr.1
            have he1 : x.e ≤ 16777215 := hr.2.1
            clear hx hy hr p1 p2 p3 HCS HCT HRT HLN LIFE
            obtain ⟨xs, xc, xp, xe, xa, xz⟩ := x
            obtain ⟨ys, yc, yp, ye, ya, yz⟩ := y
            dsimp only at *
            rcases hcase with hyx | ⟨hx0, hmW, hc⟩
            · injection hyx with h1 h2 h3 h4 h5 h6
              subst h1 h2 h3 h4 h5 h6
              as_aux_lemma =>
                go_wp2_with fail
                go_region
                all_goals
                  go_wp2
                  go_roundw
                  case rel => exact ⟨m + 1, by omega, by go_num, SX.drew⟩
                  case measure => simp [intOf]; omega
            · subst hx0
              subst hmW
              rcases hc with ⟨g1, g2, g3, g4⟩ | ⟨g1, g2, g3, g4⟩ | ⟨g1, g2, g3, g4, g5, g6⟩ | ⟨g1, g2, g3, g0, g4, g5, g6⟩ | ⟨g1, g2, g3, g0, g4, g5, g6⟩ | ⟨g1, g2, g3, g4, g5, g6⟩ | ⟨g1, g2, g3, g4, g5, g6⟩ | ⟨g1, g2, g3, g4, g5, g6⟩
              · dsimp only at g2 g3 g4
                obtain ⟨m1, m2⟩ := none_more xe
                subst g1 g2 g3 g4
                as_aux_lemma =>
                  go_wp2_with fail
                  go_region
                  all_goals
                    go_wp2_with fail
                    go_region
                    all_goals
                      go_wp2_with fail
                      go_region
                      all_goals
                        go_wp2
                        go_roundw
                        case rel => exact ⟨m + 1, by omega, by go_num, SX.drew.drew.drew⟩
                        case measure => simp [intOf]; omega
              · dsimp only at g2 g3 g4
                obtain ⟨d, m1, m2⟩ := one_more he0 he1
                subst g1 g2 g3 g4
                as_aux_lemma =>
                  go_wp2_with fail
                  go_region
                  all_goals
                    go_wp2_with fail
                    go_region
                    all_goals
                      go_wp2_with fail
                      go_region
                      all_goals
                        go_wp2
                        go_roundw
                        case rel => exact ⟨m + 1, by omega, by go_num, SX.drew.drew.drew⟩
                        case measure => simp [intOf]; omega
              · dsimp only at g2 g3 g4 g5 g6
                obtain ⟨m1, m2⟩ := none_more xe
                subst g2 g3 g4 g5 g6
                rcases g1 with rfl | rfl
                all_goals as_aux_lemma =>
                  go_wp2_with fail
                  go_region
                  all_goals
                    go_wp2_with fail
                    go_region
                    all_goals
                      go_wp2_with fail
                      go_region
                      all_goals
                        go_wp2
                        go_roundw
                        case rel => exact ⟨m + 1, by omega, by go_num, SX.drew.drew.drew⟩
                        case measure => simp [intOf]; omega
              · dsimp only at g0 g2 g3 g4 g5 g6
                have g0 : (yc == xc) = false := by simpa using g0
                obtain ⟨m1, m2⟩ := none_more xe
                subst g2 g3 g4 g5 g6
                rcases g1 with rfl | rfl
                all_goals as_aux_lemma =>
                  go_wp2_with fail
                  go_region
                  all_goals
                    go_wp2_with fail
                    go_region
                    all_goals
                      go_wp2_with fail
                      go_region
                      all_goals
                        go_wp2
                        go_roundw
                        case rel => exact ⟨m + 1, by omega, by go_num, SX.drew.drew.drew⟩
                        case measure => simp [intOf]; omega
              · dsimp only at g0 g2 g3 g4 g5 g6
                have g0 : (yc == xc) = false := by simpa using g0
                obtain ⟨m1, m2⟩ := none_more xe
                subst g1 g2 g3 g4 g5 g6
                as_aux_lemma =>
                  go_wp2_with fail
                  go_region
                  all_goals
                    go_wp2_with fail
                    go_region
                    all_goals
                      go_wp2_with fail
                      go_region
                      all_goals
                        go_wp2
                        go_roundw
                        case rel => exact ⟨m + 1, by omega, by go_num, SX.drew.drew.drew⟩
                        case measure => simp [intOf]; omega
              · dsimp only at g2 g3 g4 g5 g6
                obtain ⟨m1, m2⟩ := none_more xe
                subst g1 g2 g3 g4 g5 g6
                as_aux_lemma =>
                  go_wp2_with fail
                  go_region
                  all_goals
                    go_wp2_with fail
                    go_region
                    all_goals
                      go_wp2_with fail
                      go_region
                      all_goals
                        go_wp2
                        go_roundw
                        case rel => exact ⟨m + 1, by omega, by go_num, SX.drew.drew.drew⟩
                        case measure => simp [intOf]; omega
              · dsimp only at g2 g3 g4 g5 g6
                obtain ⟨d, m1, m2⟩ := one_more he0 he1
                subst g1 g2 g3 g4 g5 g6
                as_aux_lemma =>
                  go_wp2_with fail
                  go_region
                  all_goals
                    go_wp2_with fail
                    go_region
                    all_goals
                      go_wp2_with fail
                      go_region
                      all_goals
                        go_wp2
                        go_roundw
                        case rel => exact ⟨m + 1, by omega, by go_num, SX.drew.drew.drew⟩
                        case measure => simp [intOf]; omega
              · dsimp only at g2 g3 g4 g5 g6
                obtain ⟨m1, m2⟩ := none_more xe
                subst g1 g2 g3 g4 g5 g6
                as_aux_lemma =>
                  go_wp2_with fail
                  go_region
                  all_goals
                    go_wp2_with fail
                    go_region
                    all_goals
                      go_wp2_with fail
                      go_region
                      all_goals
                        go_wp2
                        go_roundw
                        case rel => exact ⟨m + 1, by omega, by go_num, SX.drew.drew.drew⟩
                        case measure => simp [intOf]; omega
          · obtain rfl : m = n := by omega
            clear hmn
            as_aux_lemma =>
              go_wp2
              go_roundw
              case rel => exact ⟨k + 1, _, by omega, by omega, by go_num, SX.drop 2⟩
              case measure => simp [intOf]; omega
    · have hend : ¬ k < ln ∨ (k < ln ∧ ¬ k < 60) := by omega
      clear hlt
      rcases hend with hend | ⟨hend, hend'⟩
      all_goals
        go_wp2
        go_ret
        exact ⟨rfl, SO.below⟩

set_option maxRecDepth 100000 in
theorem lifted (os : Os) (started : os.Started) (H : Type) (enc : TypeId × Value → H) :
    ReturnsInHanded {} Try.checked os 8 .any (Rows.scopesLifeSpec.pre6 enc Try.prog Try.f8 Rows.scopesLifeRow.domain false) (Rows.scopesLifeSpec.post enc Try.prog Try.f8 false true false false) := by
  refine returnsInHanded_of_change (C := Try.checked) Args.own started (by kernel_rfl) Try.func8
    (ChangeSpec.witness6 (enc := enc) (C := Try.checked) false ⟨#[], #[.agg #[.int .i64 0, .int .i64 0, .int .i64 0, .int .i64 0], .slice none 0 0], []⟩ 8 (by kernel_rfl) (by kernel_rfl) (by kernel_rfl) (by kernel_rfl)) ?_
  intro W base args ds gs before hval0 hW hcnd _
  have hval : ∀ (j : Nat) t v, Try.f8.params[j]? = some t → args[j]? = some v → Value.okWide Try.prog W .any base t v := hval0
  have hW' := hW
  obtain ⟨p, q, hA0, hV, rfl, hfz, hnd⟩ := hW
  have hA : DataW.TrodAll enc Try.prog W 0 (fun _ => true) true Try.f8.params.toList args.toList ds p := hA0
  rw [Try.params8] at hA hval
  obtain ⟨v0, vs0, d0, ds0, p0, q0, hargs, rfl, rfl, h0, r0⟩ := trodAll_cons hA
  obtain ⟨v1, vs1, d1, ds1, p1, q1, rfl, rfl, rfl, h1, r1⟩ := trodAll_cons r0
  obtain ⟨rfl, rfl, rfl⟩ := trodAll_nil r1
  obtain rfl : args = #[v0, v1] := by cases args; simp_all
  obtain ⟨rfl, rfl⟩ := trodVars_none hV
  have lt0 := Args.trod_below h0
  obtain ⟨qz, hv0, hq⟩ := Args.rec_in (ks := [.i64, .i64, .i64, .i64]) Try.underlying23 (by kernel_rfl) (by kernel_rfl) (hval 0 23 v0 rfl rfl) h0
  obtain rfl : v0 = .agg #[.int .i64 (qz 0), .int .i64 (qz 1), .int .i64 (qz 2), .int .i64 (qz 3)] := hv0
  have lt1 := Args.trod_below h1
  obtain ⟨lA, ln, lc, lz, rfl, hl⟩ := Args.recs_in (ks := [.u8, .i64, .i64]) (e := 34) (by kernel_rfl) Try.underlying34 (by kernel_rfl) (by kernel_rfl) (by decide) (hval 1 24 v1 rfl rfl) h1
  clear hA0 hval0
  refine (walk (qz 0) (qz 1) (qz 2) (qz 3) lA ln lc lz W (hq 0) (hq 1) (hq 2) (hq 3) hl).mono fun e W' ⟨he, bel⟩ => ?_
  subst he
  exact ⟨_, rfl, _, _, _, [], _, [], hW', trodAll_mk1 (shut_bool Try.underlying4 _), trodAll_cons_mk (Below.trod Args.laidOut (by kernel_rfl) (of_decide_eq_true (by kernel_rfl)) h0 bel lt0) (trodAll_cons_mk (Below.trod Args.laidOut (by kernel_rfl) (of_decide_eq_true (by kernel_rfl)) h1 bel lt1) (trodAll_mk0)), rfl, bel.frame _, fun h => by cases h⟩

theorem over : Rows.scopesLifeRow.holds Try.pinned (OpenSpec.ofChange Rows.scopesLifeSpec) :=
  OpenClaim.holds_of_wide 8 Try.f8 rfl rfl rfl rfl rfl rfl rfl ⟨rfl, rfl, rfl, rfl, rfl⟩ rfl rfl rfl rfl rfl (by kernel_rfl) Try.func8 (by kernel_rfl)
    (of_decide_eq_true (by kernel_rfl)) (by unfold Func.isWrapper; rw [if_neg (of_decide_eq_false (by kernel_rfl))]; exact ⟨rfl, rfl⟩)
    (fun os started H enc _ => lifted os started H enc)

theorem proved : Rows.ScopesLifeSaid :=
  over
end Go.Proofs.Ytkkmhapfhnnooaa.scopesLife
