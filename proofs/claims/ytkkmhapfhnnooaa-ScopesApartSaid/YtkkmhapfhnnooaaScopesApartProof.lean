/-
  penfoldlaw11.ScopesApart returns true for every plan and every slice of things done, and changes nothing that was there; no condition.
-/
import Derived.Test.YtkkmhapfhnnooaaRows
import Derived.Test.YtkkmhapfhnnooaaArgs
import Derived.Test.YtkkmhapfhnnooaaScoAx
import Derived.Test.YtkkmhapfhnnooaaSt
import Derived.Deep.DeepCutAuto
namespace Go.Proofs.Ytkkmhapfhnnooaa.scopesApart
open Go.ChangeShapes Go.WideShapes Go.ChangeAt Go.RowKit
set_option linter.unusedVariables false

open Sco Slic Gm Gr

set_option maxRecDepth 100000 in
set_option maxHeartbeats 8000000 in
theorem walk (q0 q1 q2 q3 : Int) (lA : Option Addr) (ln lc : Nat) (lz : Nat → Nat → Int) (w : World) (wq0 : (Lit.int .i64 q0).wf = true) (wq1 : (Lit.int .i64 q1).wf = true) (wq2 : (Lit.int .i64 q2).wf = true) (wq3 : (Lit.int .i64 q3).wf = true) (hl : Args.Recs [.u8, .i64, .i64] w lA ln lz) :
    Calls Try.prog 4 #[.agg #[.int .i64 q0, .int .i64 q1, .int .i64 q2, .int .i64 q3], .slice lA ln lc] w fun e w' => e = .returned (.bool true) ∧ Below w.heap.size w w' := by
  obtain ⟨s, t, i, h, ⟨b1, b2, b3, b4, b5, b6, b7, b8, b9, b10⟩, FT⟩ := Plan.fit_all q0 q1 q2 q3
  obtain ⟨n, rfl⟩ : ∃ n : Nat, s = n := ⟨s.toNat, by omega⟩
  have n1 : 1 ≤ n := by omega
  have n8 : n ≤ 8 := by omega
  have HR : Hid (Plan.rightB (n : Int) t i h = true) := Lib.hid (decide_eq_true (by omega))
  clear wq0 wq1 wq2 wq3
  have hln := hl.len
  unfold maxLen at hln
  have Q0 : Bt w (w.alloc (.cells #[.int .i64 q0, .int .i64 q1, .int .i64 q2, .int .i64 q3] 23)) w.heap.size [.int .i64 q0, .int .i64 q1, .int .i64 q2, .int .i64 q3] 23 := ⟨Nat.le_refl _, heap_alloc_new w _⟩
  go_enter Try.func4, Try.ntmps4
  go_wp2_with fail
  refine (shown_any _).mono ?_
  rintro z w1 ⟨rfl, k1⟩
  have Q1 := Q0.below k1
  have B1 := (below_one w (.cells #[.int .i64 q0, .int .i64 q1, .int .i64 q2, .int .i64 q3] 23)).trans (k1.mono (by simp))
  have c0 := Q1.cell 0 _ rfl
  have c1 := Q1.cell 1 _ rfl
  have c2 := Q1.cell 2 _ rfl
  have c3 := Q1.cell 3 _ rfl
  clear Q0 Q1 k1
  go_wp2_with fail
  refine (FT _).mono ?_
  rintro z w2 ⟨rfl, k2⟩
  have B2 := B1.trans (k2.mono B1.size)
  have P3 : Bt w (w2.alloc (.cells #[.int .i64 (n : Int), .int .i64 t, .int .i64 i, .int .i64 h] 23)) w2.heap.size [.int .i64 (n : Int), .int .i64 t, .int .i64 i, .int .i64 h] 23 := ⟨B2.size, heap_alloc_new w2 _⟩
  clear c0 c1 c2 c3 FT B1 k2
  go_wp2_with fail
  refine (so_new (B2.alloc B2.size _) (n : Int) t i h HR.out [(w2.heap.size, [.int .i64 (n : Int), .int .i64 t, .int .i64 i, .int .i64 h], 23)] (fun x hx => by rw [List.mem_singleton.1 hx]; exact P3)).mono ?_
  rintro z w3 ⟨B, g, rfl, h3, k3, hB, hg⟩
  rw [Int.toNat_natCast] at h3
  obtain ⟨A, hA⟩ : ∃ A : Int, A = 64 * (n : Int) + i := ⟨_, rfl⟩
  obtain ⟨I, hI⟩ : ∃ I : Int, I = 64 * (n : Int) := ⟨_, rfl⟩
  rw [← hA, ← hI] at h3
  have CA0 := Lib.hid (calm_start n A h I i)
  generalize hF0 : Sco.start n A h I i = F0 at *
  have HA := Lib.hid hA
  clear k3 hB hg P3 B2 hI hF0
  have a0 : 0 ≤ A := by omega
  have a1 : A ≤ 4096 := by omega
  have a8 := Lib.hid (show A % 8 = 0 by omega)
  clear hA
  obtain ⟨c0, c1, c2, c3⟩ := h3.get4 0 rfl
  go_wp2_with fail
  refine (Plan.refheap_any (n : Int) t i h _ HR.out).mono ?_
  rintro z w4 ⟨rfl, k4⟩
  rw [← HA.out]
  have h4 := (h3.call k4).new [.int .i64 A, .int .i64 h] 46
  clear h3 c0 c1 c2 c3 k4
  go_wp2_with fail
  go_loopw [10] (fun u wr => ∃ (k : Nat) (F : Fo), k ≤ ln ∧ k ≤ 20 ∧ u = .int .i64 (k : Int) ∧ So w wr B g n A h I i F [(w4.heap.size, [.int .i64 A, .int .i64 h], 46), (w2.heap.size, [.int .i64 (n : Int), .int .i64 t, .int .i64 i, .int .i64 h], 23)] ∧ Hid (AtRest F)) (fun u _ => 20 - (intOf u).toNat)
  case atStart => exact ⟨0, F0, by omega, by omega, rfl, h4, CA0⟩
  case round =>
    clear h4 CA0
    obtain ⟨k, F, hk1, hk2, rfl, SO, HC⟩ := hrel
    by_cases hlt : k < ln ∧ k < 20
    · obtain ⟨hk3, hk4⟩ := hlt
      obtain ⟨b, o, rfl, hb, hcell⟩ := hl.at_ k hk3
      have e0 : wr.cell? ⟨b, o + k * 3, none⟩ = some (.int .u8 (lz k 0)) := (SO.below.cell hb).trans (hcell 0 (by decide))
      have e1 : wr.cell? ⟨b, o + k * 3 + 1, none⟩ = some (.int .i64 (lz k 1)) := (SO.below.cell hb).trans (hcell 1 (by decide))
      have e2 : wr.cell? ⟨b, o + k * 3 + 2, none⟩ = some (.int .i64 (lz k 2)) := (SO.below.cell hb).trans (hcell 2 (by decide))
      have ⟨v0, v0'⟩ := Held.bounds_u8 (hl.wf k 0)
      have m1 : bits .and .i64 (lz k 2) 255 = lz k 2 % 256 := by simpa using Ctl.mask_i64 8 (by decide) (lz k 2)
      have m2 : bits .and .i64 (lz k 1) 7 = lz k 1 % 8 := by simpa using Ctl.mask_i64 3 (by decide) (lz k 1)
      have m3 : IntKind.i64.wrap (1 + lz k 2 % 256) = 1 + lz k 2 % 256 := IntWalk.i64_in _ (by omega)
      clear hcell
      go_upto_if 60 with (fail)
      go_cut [69] (fun _ wx => ∃ F' : Fo, So w wx B g n A h I i F' [(w4.heap.size, [.int .i64 A, .int .i64 h], 46), (w2.heap.size, [.int .i64 (n : Int), .int .i64 t, .int .i64 i, .int .i64 h], 23)] ∧ Hid (AtRest F'))
      case first =>
        by_cases hk0 : lz k 0 % 2 = 0
        · have q7 : (lz k 0 % 2 == 0) = true := by simpa using hk0
          clear hk0
          as_aux_lemma =>
            go_wp2_with fail
            refine (so_create SO (1 + lz k 2 % 256) (by omega) (by omega)).mono ?_
            rintro e w5 ⟨rfl, S5⟩
            go_wp2_with fail
            go_meet
            exact ⟨_, S5, Lib.hid (AtRest.create SO.inv HC.out _)⟩
        · have q7 : (lz k 0 % 2 == 0) = false := by simpa using hk0
          clear hk0
          as_aux_lemma =>
            go_wp2_with fail
            refine (so_destroy SO (lz k 1 % 8)).mono ?_
            rintro e w5 ⟨rfl, S5⟩
            go_wp2_with fail
            go_meet
            exact ⟨_, S5, Lib.hid (AtRest.destroy SO.inv HC.out _)⟩
      case rest =>
        clear SO HC e0 e1 e2 m1 m2 m3 v0 v0'
        obtain ⟨F', SO, HC⟩ := hcut
        have INV := Lib.hid SO.inv
        have hlen := SO.inv.len
        have A5 := ax_start SO
        have s0 := SO.inv.ok.s0
        clear SO
        go_wp2_with (first
          | (refine wpList_b128 (o := ⟨some 78, _, _, _, _, _⟩) rfl rfl ?_)
          | (refine wpList_a128 (o := ⟨some 11, _, _, _, _, _⟩) rfl rfl ?_)
          | (refine wpList_s128 (o := ⟨none, _, _, _, _, _⟩) rfl (.tmp 11) (.tmp 78) rfl rfl rfl ?_))
        generalize (wc.alloc (.cells cs128 58)).setRow wc.heap.size cs128 = W5 at *
        generalize wc.heap.size = U at *
        have A6 : Ax w W5 B g n A h I i F' [(w4.heap.size, [.int .i64 A, .int .i64 h], 46), (w2.heap.size, [.int .i64 (n : Int), .int .i64 t, .int .i64 i, .int .i64 h], 23)] U (fun u => cntR F'.R 1 (A + 8 * (u : Int))) := A5.congr (fun u _ => (cntR_one _ _).symm)
        clear A5
        go_loopw [12] (fun u wx => ∃ kk : Nat, 1 ≤ kk ∧ kk ≤ n ∧ u = .int .i64 (kk : Int) ∧ Ax w wx B g n A h I i F' [(w4.heap.size, [.int .i64 A, .int .i64 h], 46), (w2.heap.size, [.int .i64 (n : Int), .int .i64 t, .int .i64 i, .int .i64 h], 23)] U (fun u => cntR F'.R kk (A + 8 * (u : Int)))) (fun u _ => n - (intOf u).toNat)
        case atStart => exact ⟨1, by omega, by omega, rfl, A6⟩
        case round =>
          clear A6
          rename_i wx
          obtain ⟨kk, hkk1, hkk2, rfl, AX⟩ := hrel
          obtain ⟨p0, p1, p2, p3⟩ := AX.so.get4 1 rfl
          by_cases hkn : kk < n
          · obtain ⟨x, hx⟩ : ∃ x, F'.R[kk]? = some x := ⟨_, List.getElem?_eq_getElem (by omega)⟩
            have E := Lib.hid (see_in hx)
            have HS := HC.out kk x hx hkk1
            have HE := INV.out.ext kk x hx hkk1
            have HN := Lib.hid (fun p => cntR_next hkk1 hx p)
            clear p1 p2 p3 hx
            go_wp2_with fail
            refine (ext_any AX.so.sc n8 (kk : Int)).mono ?_
            rintro e w6 ⟨rfl, k6⟩
            rw [E.out.2]
            have A6 := (AX.call k6).new [.int .i64 x.a, .int .i64 x.z] 46
            go_wp2_with fail
            refine (ctl_any A6.so.sc n8 (kk : Int)).mono ?_
            rintro e w7 ⟨rfl, k7⟩
            rw [E.out.1]
            have A7 := (A6.call k7).new [.int .i64 x.s, .int .i64 x.c, .int .i64 x.p, .int .i64 x.e] 42
            obtain ⟨xs, xc, xp, xe, xa, xz⟩ := x
            dsimp only at *
            clear E AX A6 k6 k7 p0
            obtain ⟨d0, _, _, _⟩ := A7.so.get4 0 rfl
            obtain ⟨f0, f1⟩ := A7.so.get2 1 rfl
            obtain ⟨g0, g1⟩ := A7.so.get2 2 rfl
            obtain ⟨m, hm⟩ : ∃ m : Nat, xz = 8 * (m : Int) := ⟨(xz / 8).toNat, by omega⟩
            have hz0 : 0 ≤ xz := by omega
            have hz1 : xz ≤ 2000 := by omega
            have hin : 0 < m → A ≤ xa ∧ xa + 8 * (m : Int) ≤ A + h ∧ xa % 8 = 0 := fun q => by omega
            go_upto_region 19 with (fail)
            generalize w7.alloc (.cells #[.int .i64 xs, .int .i64 xc, .int .i64 xp, .int .i64 xe] 42) = W8 at *
            go_cut [128] (fun s128 wx => s128 = .bool false ∧ W8 = wx)
            case first =>
              rcases HS with rfl | rfl
              · obtain ⟨_, rfl, rfl⟩ : (0 : Int) = 0 ∧ xa = 0 ∧ xz = 0 := by omega
                clear hm hin
                as_aux_lemma =>
                  go_wp2_with fail
                  go_meet
                  exact ⟨rfl, rfl⟩
              · have t1 : decide (0 < xz) = true := decide_eq_true (by omega)
                have t2 : decide (xa < A) = false := decide_eq_false (by omega)
                have t3 : decide (A + h < xa + xz) = false := decide_eq_false (by omega)
                have t4 : IntKind.i64.wrap (xa + xz) = xa + xz := IntWalk.i64_in _ (by omega)
                have t5 : IntKind.i64.wrap (A + h) = A + h := IntWalk.i64_in _ (by omega)
                have t6 : 0 < xz := by omega
                have t7 : ¬ xa < A := by omega
                have t8 : ¬ A + h < xa + xz := by omega
                clear hm hin HE
                as_aux_lemma =>
                  go_wp2_with fail
                  go_meet
                  exact ⟨rfl, rfl⟩
            case rest =>
              obtain ⟨rfl, rfl⟩ := hcut
              have z1 : Int.tdiv xz 8 = (m : Int) := by rw [Int.tdiv_eq_ediv_of_nonneg hz0]; omega
              have z2 : xz / 8 = (m : Int) := by omega
              have HM := Lib.hid hm
              have HIN := Lib.hid hin
              have A8 : Ax w W8 B g n A h I i F' [(w7.heap.size, [.int .i64 xs, .int .i64 xc, .int .i64 xp, .int .i64 xe], 42), (w6.heap.size, [.int .i64 xa, .int .i64 xz], 46), (w4.heap.size, [.int .i64 A, .int .i64 h], 46), (w2.heap.size, [.int .i64 (n : Int), .int .i64 t, .int .i64 i, .int .i64 h], 23)] U (fun u => cntR F'.R kk (A + 8 * (u : Int)) + pin xa 0 (A + 8 * (u : Int))) := A7.congr (fun u _ => by rw [pin_zero]; omega)
              clear A7 HS HE hm hin d0 f0 f1 g0 g1
              go_wp2_with fail
              go_loopw [17] (fun u wx => ∃ j : Nat, j ≤ m ∧ u = .int .i64 (j : Int) ∧ Ax w wx B g n A h I i F' [(w7.heap.size, [.int .i64 xs, .int .i64 xc, .int .i64 xp, .int .i64 xe], 42), (w6.heap.size, [.int .i64 xa, .int .i64 xz], 46), (w4.heap.size, [.int .i64 A, .int .i64 h], 46), (w2.heap.size, [.int .i64 (n : Int), .int .i64 t, .int .i64 i, .int .i64 h], 23)] U (fun u => cntR F'.R kk (A + 8 * (u : Int)) + pin xa j (A + 8 * (u : Int)))) (fun u _ => m - (intOf u).toNat)
              case atStart => exact ⟨0, by omega, rfl, A8⟩
              case round =>
                clear A8
                obtain ⟨j, hj, rfl, AY⟩ := hrel
                obtain ⟨f0, f1⟩ := AY.so.get2 1 rfl
                obtain ⟨g0, g1⟩ := AY.so.get2 2 rfl
                by_cases hjm : j < m
                · have hin := HIN.out (by omega)
                  obtain ⟨v, hv⟩ : ∃ v : Nat, xa = A + 8 * (v : Int) := ⟨((xa - A) / 8).toNat, by have := a8.out; omega⟩
                  have y := AY.cell (u := v + j) (by omega)
                  have fz := AY.fz (v + j)
                  have hc := cntR_bd F'.R kk (A + 8 * ((v + j : Nat) : Int))
                  have hp := pin_at (m := j) hv
                  rw [hp] at y
                  obtain ⟨c, hcc⟩ : ∃ c, cntR F'.R kk (A + 8 * ((v + j : Nat) : Int)) + 0 = c := ⟨_, rfl⟩
                  rw [hcc] at y
                  have HP := Lib.hid (fun u => pin_next (A := A) (m := j) (u := u) hv)
                  have HCC := Lib.hid hcc
                  have HPA := Lib.hid hp
                  have w1 : IntKind.i64.wrap (xa - A) = xa - A := IntWalk.i64_in _ (by omega)
                  have w2' : (xa - A) / 8 = (v : Int) := by omega
                  have w3' : Int.tdiv (xa - A) 8 = (v : Int) := by rw [Int.tdiv_eq_ediv_of_nonneg (by omega)]; omega
                  have w4' : IntKind.i64.wrap ((v : Int) + (j : Int)) = (v : Int) + (j : Int) := IntWalk.i64_in _ (by omega)
                  have w5' : ((v : Int) + (j : Int)).toNat = v + j := by omega
                  have w6' : (0 : Int) ≤ (v : Int) + (j : Int) := by omega
                  have w7' : (v : Int) + (j : Int) < 128 := by omega
                  have w8' : IntKind.i64.wrap (c + 1) = c + 1 := IntWalk.i64_in _ (by omega)
                  have w9' : 0 ≤ xa - A := by omega
                  clear hin hv hcc hp hc
                  as_aux_lemma =>
                    go_wp2_with fail
                    go_roundw
                    case rel => exact ⟨j + 1, by omega, by go_num, (AY.put (v + j) (c + 1)).congr (fun u _ => by
                      have e := HP.out u
                      rw [e]
                      by_cases q : u = v + j
                      · subst q
                        rw [if_pos rfl, if_pos rfl, HPA.out, ← HCC.out]
                        omega
                      · rw [if_neg q, if_neg q])⟩
                    case measure => simp [intOf]; omega
                · obtain rfl : j = m := by omega
                  clear hjm
                  as_aux_lemma =>
                    go_wp2_with fail
                    go_roundw
                    case rel => exact ⟨kk + 1, by omega, by omega, by go_num, (AY.drop 2).congr (fun u _ => by rw [HN.out, pin_all HM.out])⟩
                    case measure => simp [intOf]; omega
          · obtain rfl : n = kk := by omega
            clear hkn hkk1 hkk2 p1 p2 p3
            go_wp2_with fail
            refine (free_any AX.so.sc AX.so.inv.lenL).mono ?_
            rintro e w6 ⟨V, cv, rfl, EX, nq, k6⟩
            have A6 := AX.call k6
            have HQ : Hid (∀ q, (Value.slice V F'.L.length cv).ownBlock = some q → q ≠ U) := Lib.hid (fun q hq => by have := nq q hq; have := AX.row.lt; omega)
            have OKL := Lib.hid AX.so.inv.ok
            have HLL := Lib.hid AX.so.inv.ok.len
            have A7 : Ax w w6 B g n A h I i F' [(w4.heap.size, [.int .i64 A, .int .i64 h], 46), (w2.heap.size, [.int .i64 (n : Int), .int .i64 t, .int .i64 i, .int .i64 h], 23)] U (fun u => cntR F'.R n (A + 8 * (u : Int)) + cntL F'.L 0 (A + 8 * (u : Int))) := A6.congr (fun u _ => by rw [cntL_zero]; omega)
            clear AX A6 nq k6 p0
            go_wp2_with fail
            go_loopw [19] (fun u wx => ∃ j : Nat, j ≤ F'.L.length ∧ u = .int .i64 (j : Int) ∧ Ax w wx B g n A h I i F' [(w4.heap.size, [.int .i64 A, .int .i64 h], 46), (w2.heap.size, [.int .i64 (n : Int), .int .i64 t, .int .i64 i, .int .i64 h], 23)] U (fun u => cntR F'.R n (A + 8 * (u : Int)) + cntL F'.L j (A + 8 * (u : Int))) ∧ Gr.Ex wx (.slice V F'.L.length cv) F'.L) (fun u _ => F'.L.length - (intOf u).toNat)
            case atStart => exact ⟨0, by omega, rfl, A7, EX⟩
            case round =>
              clear A7 EX
              obtain ⟨j, hj, rfl, AY, EY⟩ := hrel
              have hll := HLL.out
              obtain ⟨g0, g1⟩ := AY.so.get2 0 rfl
              by_cases hjl : j < F'.L.length
              · obtain ⟨q, rfl, ql, x0, x1⟩ := EY.cell hjl
                obtain ⟨b1', b2', b3', b4', b5', b6', b7', b8'⟩ := OKL.out.at_ hjl
                have HN := Lib.hid (fun p => cntL_next hjl p)
                generalize hea : (F'.L[j]).1 = ea at *
                generalize hez : (F'.L[j]).2 = ez at *
                have HEA := Lib.hid hea
                have HEZ := Lib.hid hez
                clear hea hez
                obtain ⟨m, hm⟩ : ∃ m : Nat, ez = 8 * (m : Int) := ⟨(ez / 8).toNat, by omega⟩
                obtain ⟨v, hv⟩ : ∃ v : Nat, ea = A + 8 * (v : Int) := ⟨((ea - A) / 8).toNat, by have := a8.out; omega⟩
                have hvm : v + m ≤ 127 := by omega
                have t1 : decide (ea < A) = false := decide_eq_false (by omega)
                have t3 : decide (A + h < ea + ez) = false := decide_eq_false (by omega)
                have t4 : IntKind.i64.wrap (ea + ez) = ea + ez := IntWalk.i64_in _ (by omega)
                have t5 : IntKind.i64.wrap (A + h) = A + h := IntWalk.i64_in _ (by omega)
                have z0 : 0 ≤ ez := by omega
                have z0' : ez ≤ 2000 := by omega
                have z1 : Int.tdiv ez 8 = (m : Int) := by rw [Int.tdiv_eq_ediv_of_nonneg z0]; omega
                have z2 : ez / 8 = (m : Int) := by omega
                have w1 : IntKind.i64.wrap (ea - A) = ea - A := IntWalk.i64_in _ (by omega)
                have w2' : (ea - A) / 8 = (v : Int) := by omega
                have w3' : Int.tdiv (ea - A) 8 = (v : Int) := by rw [Int.tdiv_eq_ediv_of_nonneg (by omega)]; omega
                have w9' : 0 ≤ ea - A := by omega
                have HM := Lib.hid hm
                have HV := Lib.hid hv
                have A8 : Ax w wr.drew B g n A h I i F' [(w4.heap.size, [.int .i64 A, .int .i64 h], 46), (w2.heap.size, [.int .i64 (n : Int), .int .i64 t, .int .i64 i, .int .i64 h], 23)] U (fun u => cntR F'.R n (A + 8 * (u : Int)) + cntL F'.L j (A + 8 * (u : Int)) + pin ea 0 (A + 8 * (u : Int))) := (AY.congr (fun u _ => by rw [pin_zero]; omega)).drew
                have E8 := EY.below (Below.refl wr.heap.size wr).drew
                have hqU := HQ.out q rfl
                clear hm hv b1' b2' b3' b4' b5' b6' b7' b8' AY EY
                go_wp2_with fail
                go_region
                all_goals
                  clear t1 t3 t4 t5 x0 x1 g0 g1
                  go_wp2_with fail
                  go_loopw [20] (fun u wx => ∃ jj : Nat, jj ≤ m ∧ u = .int .i64 (jj : Int) ∧ Ax w wx B g n A h I i F' [(w4.heap.size, [.int .i64 A, .int .i64 h], 46), (w2.heap.size, [.int .i64 (n : Int), .int .i64 t, .int .i64 i, .int .i64 h], 23)] U (fun u => cntR F'.R n (A + 8 * (u : Int)) + cntL F'.L j (A + 8 * (u : Int)) + pin ea jj (A + 8 * (u : Int))) ∧ Gr.Ex wx (.slice (some ⟨q, 0, none⟩) F'.L.length cv) F'.L) (fun u _ => m - (intOf u).toNat)
                  case atStart => exact ⟨0, by omega, rfl, A8, E8⟩
                  case round =>
                    clear A8 E8
                    obtain ⟨jj, hjj, rfl, AZ, EZ⟩ := hrel
                    obtain ⟨g0, g1⟩ := AZ.so.get2 0 rfl
                    obtain ⟨q', e, _, x0, x1⟩ := EZ.cell hjl
                    rw [HEA.out] at x0
                    rw [HEZ.out] at x1
                    injection e with e
                    injection e with e
                    subst e
                    by_cases hjm : jj < m
                    · have y := AZ.cell (u := v + jj) (by omega)
                      have fz := AZ.fz (v + jj)
                      have hc := cntR_bd F'.R n (A + 8 * ((v + jj : Nat) : Int))
                      have hc2 := cntL_bd F'.L j (A + 8 * ((v + jj : Nat) : Int))
                      have hp := pin_at (m := jj) HV.out
                      rw [hp] at y
                      obtain ⟨c, hcc⟩ : ∃ c, cntR F'.R n (A + 8 * ((v + jj : Nat) : Int)) + cntL F'.L j (A + 8 * ((v + jj : Nat) : Int)) + 0 = c := ⟨_, rfl⟩
                      rw [hcc] at y
                      have HP := Lib.hid (fun u => pin_next (A := A) (m := jj) (u := u) HV.out)
                      have HCC := Lib.hid hcc
                      have HPA := Lib.hid hp
                      have w4' : IntKind.i64.wrap ((v : Int) + (jj : Int)) = (v : Int) + (jj : Int) := IntWalk.i64_in _ (by omega)
                      have w5' : ((v : Int) + (jj : Int)).toNat = v + jj := by omega
                      have w6' : (0 : Int) ≤ (v : Int) + (jj : Int) := by omega
                      have w7' : (v : Int) + (jj : Int) < 128 := by omega
                      have w8' : IntKind.i64.wrap (c + 1) = c + 1 := IntWalk.i64_in _ (by omega)
                      have hkeep : ∀ q', (Value.slice (some ⟨q, 0, none⟩) F'.L.length cv).ownBlock = some q' → q' ≠ U := fun q' e => by
                        have e2 : q = q' := by simpa [Value.ownBlock] using e
                        rw [← e2]
                        exact hqU
                      have EW := (ex_put EZ hkeep (v + jj) (.int .i64 (c + 1))).below (Below.refl _ _).drew
                      have AW := ((AZ.put (v + jj) (c + 1)).congr (f' := (fun u => cntR F'.R n (A + 8 * (u : Int)) + cntL F'.L j (A + 8 * (u : Int)) + pin ea (jj + 1) (A + 8 * (u : Int)))) (fun u _ => by
                        have e := HP.out u
                        show _ = _ + pin ea (jj + 1) (A + 8 * (u : Int))
                        rw [e]
                        by_cases q : u = v + jj
                        · subst q
                          rw [if_pos rfl, if_pos rfl, HPA.out, ← HCC.out]
                          omega
                        · rw [if_neg q, if_neg q])).drew
                      clear hcc hp hc hc2 hkeep hqU HP HCC HPA
                      as_aux_lemma =>
                        go_wp2_with fail
                        go_region
                        all_goals
                          go_wp2_with fail
                          go_roundw
                          case rel => exact ⟨jj + 1, by omega, by go_num, AW, EW⟩
                          case measure => simp [intOf]; omega
                    · obtain rfl : jj = m := by omega
                      clear hjm
                      as_aux_lemma =>
                        go_wp2_with fail
                        go_roundw
                        case rel => exact ⟨j + 1, by omega, by go_num, AZ.congr (fun u _ => by rw [HN.out, pin_all HM.out]; omega), EZ⟩
                        case measure => simp [intOf]; omega
              · obtain rfl : j = F'.L.length := by omega
                obtain ⟨M, hM⟩ : ∃ M : Nat, h = 8 * (M : Int) := ⟨(h / 8).toNat, by omega⟩
                have ONCE : Hid (∀ u : Nat, u < M → cntR F'.R n (A + 8 * (u : Int)) + cntL F'.L F'.L.length (A + 8 * (u : Int)) = 1) := Lib.hid (fun u hu => INV.out.once (by omega) (by omega))
                have z1 : Int.tdiv h 8 = (M : Int) := by rw [Int.tdiv_eq_ediv_of_nonneg b8]; omega
                have z2 : h / 8 = (M : Int) := by omega
                have hM2 : M ≤ 127 := by omega
                clear hM hjl
                go_wp2_with fail
                go_loop [21] (fun t => ∃ u : Nat, u ≤ M ∧ t = .int .i64 (u : Int)) (fun t => M - (intOf t).toNat)
                case atStart => exact ⟨0, by omega, rfl⟩
                case round =>
                  obtain ⟨u, hu, rfl⟩ := hrel
                  by_cases huM : u < M
                  · have y := AY.cell (u := u) (by omega)
                    rw [ONCE.out u huM] at y
                    as_aux_lemma =>
                      go_wp2_with fail
                      go_round
                      case rel => exact ⟨u + 1, by omega, by go_num⟩
                      case measure => simp [intOf]; omega
                  · as_aux_lemma =>
                      go_wp2_with fail
                      go_roundw
                      case rel => exact ⟨k + 1, F', by omega, by omega, by go_num, AY.so, HC⟩
                      case measure => simp [intOf]; omega
    · have hend : (k < ln ∧ k = 20) ∨ ¬ k < ln := by omega
      go_upto_region 8 with (fail)
      go_cut [51] (fun s51 wx => s51 = .bool false ∧ wr = wx)
      case first =>
        rcases hend with ⟨hk3, rfl⟩ | hk3
        all_goals
          clear hlt
          as_aux_lemma =>
            go_wp2_with fail
            go_meet
            exact ⟨rfl, rfl⟩
      case rest =>
        obtain ⟨rfl, rfl⟩ := hcut
        clear hend hlt
        go_wp2_with fail
        go_loopw [22] (fun u wx => ∃ (kk : Nat) (F' : Fo), 1 ≤ kk ∧ kk ≤ n ∧ u = .int .i64 (kk : Int) ∧ So w wx B g n A h I i F' [(w4.heap.size, [.int .i64 A, .int .i64 h], 46), (w2.heap.size, [.int .i64 (n : Int), .int .i64 t, .int .i64 i, .int .i64 h], 23)] ∧ Hid (AtRest F') ∧ Hid (Gone F' kk)) (fun u _ => n - (intOf u).toNat)
        case atStart => exact ⟨1, F, by omega, by omega, rfl, SO, HC, Lib.hid (fun i x _ h1 h2 => by omega)⟩
        case round =>
          clear SO HC
          obtain ⟨kk, F', hkk1, hkk2, rfl, S1, HC1, HG⟩ := hrel
          obtain ⟨p0, p1, p2, p3⟩ := S1.get4 1 rfl
          by_cases hkn : kk < n
          · as_aux_lemma =>
              go_wp2_with fail
              refine (so_destroy S1 (kk : Int)).mono ?_
              rintro e w5 ⟨rfl, S5⟩
              go_wp2_with fail
              go_roundw
              case rel => exact ⟨kk + 1, _, by omega, by omega, by go_num, S5, Lib.hid (AtRest.destroy S1.inv HC1.out _), Lib.hid (Gone.destroy S1.inv HC1.out hkk1 HG.out)⟩
              case measure => simp [intOf]; omega
          · obtain rfl : n = kk := by omega
            have HW := S1.inv.whole HG.out
            clear hkn p1 p2 p3
            go_wp2_with fail
            refine (so_free S1).mono ?_
            rintro e w5 ⟨V, cv, rfl, E5, _, S5, k5⟩
            obtain ⟨g0, g1⟩ := S5.get2 0 rfl
            have FIN := S5.drew.below
            clear S5 S1 p0 k5
            by_cases h0 : h = 0
            · rw [if_pos h0] at HW
              rw [HW] at E5 ⊢
              rw [h0] at g1
              clear HW h0
              as_aux_lemma =>
                go_wp2_with fail
                go_region
                all_goals
                  go_wp2
                  go_ret
                  exact ⟨rfl, FIN⟩
            · rw [if_neg h0] at HW
              rw [HW] at E5 ⊢
              obtain ⟨q, rfl, _, x0, x1⟩ := E5.cell (k := 0) (by simp)
              have y0 : w5.cell? ⟨q, 0, none⟩ = some (.int .i64 A) := x0
              have y1 : w5.cell? ⟨q, 1, none⟩ = some (.int .i64 h) := x1
              have hq : (h == 0) = false := by simpa using h0
              clear HW h0 x0 x1
              as_aux_lemma =>
                go_wp2_with fail
                go_region
                all_goals
                  go_wp2
                  go_ret
                  exact ⟨rfl, FIN⟩

set_option maxRecDepth 100000 in
theorem lifted (os : Os) (started : os.Started) (H : Type) (enc : TypeId × Value → H) :
    ReturnsInHanded {} Try.checked os 4 .any (Rows.scopesApartSpec.pre6 enc Try.prog Try.f4 Rows.scopesApartRow.domain false) (Rows.scopesApartSpec.post enc Try.prog Try.f4 false true false false) := by
  refine returnsInHanded_of_change (C := Try.checked) Args.own started (by kernel_rfl) Try.func4
    (ChangeSpec.witness6 (enc := enc) (C := Try.checked) false ⟨#[], #[.agg #[.int .i64 0, .int .i64 0, .int .i64 0, .int .i64 0], .slice none 0 0], []⟩ 8 (by kernel_rfl) (by kernel_rfl) (by kernel_rfl) (by kernel_rfl)) ?_
  intro W base args ds gs before hval0 hW hcnd _
  have hval : ∀ (j : Nat) t v, Try.f4.params[j]? = some t → args[j]? = some v → Value.okWide Try.prog W .any base t v := hval0
  have hW' := hW
  obtain ⟨p, q, hA0, hV, rfl, hfz, hnd⟩ := hW
  have hA : DataW.TrodAll enc Try.prog W 0 (fun _ => true) true Try.f4.params.toList args.toList ds p := hA0
  rw [Try.params4] at hA hval
  obtain ⟨v0, vs0, d0, ds0, p0, q0, hargs, rfl, rfl, h0, r0⟩ := trodAll_cons hA
  obtain ⟨v1, vs1, d1, ds1, p1, q1, rfl, rfl, rfl, h1, r1⟩ := trodAll_cons r0
  obtain ⟨rfl, rfl, rfl⟩ := trodAll_nil r1
  obtain rfl : args = #[v0, v1] := by cases args; simp_all
  obtain ⟨rfl, rfl⟩ := trodVars_none hV
  have lt0 := Args.trod_below h0
  obtain ⟨qz, hv0, hq⟩ := Args.rec_in (ks := [.i64, .i64, .i64, .i64]) Try.underlying23 (by kernel_rfl) (by kernel_rfl) (hval 0 23 v0 rfl rfl) h0
  obtain rfl : v0 = .agg #[.int .i64 (qz 0), .int .i64 (qz 1), .int .i64 (qz 2), .int .i64 (qz 3)] := hv0
  have lt1 := Args.trod_below h1
  obtain ⟨lA, ln, lc, lz, rfl, hl⟩ := Args.recs_in (ks := [.u8, .i64, .i64]) (e := 34) (by kernel_rfl) Try.underlying34 (by kernel_rfl) (by kernel_rfl) (by decide) (hval 1 24 v1 rfl rfl) h1
  clear hA0 hval0
  refine (walk (qz 0) (qz 1) (qz 2) (qz 3) lA ln lc lz W (hq 0) (hq 1) (hq 2) (hq 3) hl).mono fun e W' ⟨he, bel⟩ => ?_
  subst he
  exact ⟨_, rfl, _, _, _, [], _, [], hW', trodAll_mk1 (shut_bool Try.underlying4 _), trodAll_cons_mk (Below.trod Args.laidOut (by kernel_rfl) (of_decide_eq_true (by kernel_rfl)) h0 bel lt0) (trodAll_cons_mk (Below.trod Args.laidOut (by kernel_rfl) (of_decide_eq_true (by kernel_rfl)) h1 bel lt1) (trodAll_mk0)), rfl, bel.frame _, fun h => by cases h⟩

theorem over : Rows.scopesApartRow.holds Try.pinned (OpenSpec.ofChange Rows.scopesApartSpec) :=
  OpenClaim.holds_of_wide 4 Try.f4 rfl rfl rfl rfl rfl rfl rfl ⟨rfl, rfl, rfl, rfl, rfl⟩ rfl rfl rfl rfl rfl (by kernel_rfl) Try.func4 (by kernel_rfl)
    (of_decide_eq_true (by kernel_rfl)) (by unfold Func.isWrapper; rw [if_neg (of_decide_eq_false (by kernel_rfl))]; exact ⟨rfl, rfl⟩)
    (fun os started H enc _ => lifted os started H enc)

theorem proved : Rows.ScopesApartSaid :=
  over
end Go.Proofs.Ytkkmhapfhnnooaa.scopesApart
