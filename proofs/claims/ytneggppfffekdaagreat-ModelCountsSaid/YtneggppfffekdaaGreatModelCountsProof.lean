/-
  penfoldlaw12.ModelCounts returns true for every plan, all finalizers and every slice of calls, and changes nothing that was there; no condition.
-/
import Derived.Test.YtneggppfffekdaaGreatRows
import Derived.Test.YtneggppfffekdaaGreatBase
import Derived.Test.YtneggppfffekdaaGreatLawf
import Derived.Test.YtneggppfffekdaaGreatArgn
import Derived.Test.YtneggppfffekdaaGreatNump
import Derived.StillTailTactics
import Derived.Deep.RegionHeld3
import Derived.Deep.DeepCutAuto
namespace Go.Proofs.YtneggppfffekdaaGreat.modelCounts
open Go.ChangeShapes Go.WideShapes Go.ChangeAt Go.RowKit
set_option linter.unusedVariables false

open Go.Proofs.YtneggppfffekdaaGreat.Mod Slic Sco

set_option maxRecDepth 100000 in
set_option maxHeartbeats 8000000 in
theorem walk (q0 q1 q2 q3 : Int) (finsv : Value) (finsL : _) (lA : Option Addr) (ln lc : Nat) (lz : Nat → Nat → Int) (w : World) (wq0 : (Lit.int .i64 q0).wf = true) (wq1 : (Lit.int .i64 q1).wf = true) (wq2 : (Lit.int .i64 q2).wf = true) (wq3 : (Lit.int .i64 q3).wf = true) (hfins : Fina.Came w finsv finsL) (hl : Args.Recs (.i64 :: [.u8, .u8, .u8, .u8, .i64, .i64, .i64]) w lA ln lz) :
    Calls Tryz.prog 7 #[.agg #[.int .i64 q0, .int .i64 q1, .int .i64 q2, .int .i64 q3], finsv, .slice lA ln lc] w fun e w' => e = .returned (.bool true) ∧ Below w.heap.size w w' := by
  obtain ⟨s, t, i, h, ⟨b1, b2, b3, b4, b5, b6, b7, b8, b9, b10⟩, FT⟩ := Plan.fit_all q0 q1 q2 q3
  obtain ⟨n, rfl⟩ : ∃ n : Nat, s = n := ⟨s.toNat, by omega⟩
  obtain ⟨nt, rfl⟩ : ∃ n : Nat, t = n := ⟨t.toNat, by omega⟩
  have n1 : 1 ≤ n := by omega
  have n8 : n ≤ 8 := by omega
  have t1 : 1 ≤ nt := by omega
  have t4 : nt ≤ 4 := by omega
  have HR : Hid (Plan.rightB (n : Int) (nt : Int) i h = true) := Lib.hid (decide_eq_true (by omega))
  clear wq0 wq1 wq2 wq3 b1 b2 b3 b4 b5 b6 b7 b8 b9 b10
  obtain ⟨hfr, hok⟩ := hfins
  obtain ⟨fA, fc, rfl, _, _⟩ := hfr.form
  have hln := hl.len
  unfold maxLen at hln
  have Q0 := heap_alloc_new w (.cells #[.int .i64 q0, .int .i64 q1, .int .i64 q2, .int .i64 q3] 23)
  have B0 := below_one w (.cells #[.int .i64 q0, .int .i64 q1, .int .i64 q2, .int .i64 q3] 23)
  go_enter Tryz.func7, Tryz.ntmps7
  go_wp2_with fail
  refine (shown_any _).mono ?_
  rintro z w1 ⟨rfl, k1⟩
  have Q1 := (k1.block w.heap.size (by simp)).trans Q0
  have c0 := cell_of Q1 0 _ rfl
  have c1 := cell_of Q1 1 _ rfl
  have c2 := cell_of Q1 2 _ rfl
  have c3 := cell_of Q1 3 _ rfl
  have B1 := B0.trans (k1.mono (by simp))
  clear Q0 Q1 k1
  go_wp2_with fail
  refine (FT _).mono ?_
  rintro z w2 ⟨rfl, k2⟩
  have B2 := B1.trans (k2.mono B1.size)
  have P3 := heap_alloc_new w2 (.cells #[.int .i64 (n : Int), .int .i64 (nt : Int), .int .i64 i, .int .i64 h] 23)
  have B3 := B2.alloc B2.size (.cells #[.int .i64 (n : Int), .int .i64 (nt : Int), .int .i64 i, .int .i64 h] 23)
  have b3 := B2.size
  clear c0 c1 c2 c3 FT B1 k2 B0
  go_wp2_with fail
  generalize hW3 : w2.alloc (.cells #[.int .i64 (n : Int), .int .i64 (nt : Int), .int .i64 i, .int .i64 h] 23) = w3 at *
  clear hW3
  have l3 := (Array.getElem?_eq_some_iff.1 P3).1
  have hf3 := hfr.below B3
  have kc : ∀ W : World, Below w3.heap.size w3 W → W.cell? ⟨w2.heap.size, 0, none⟩ = some (.int .i64 (n : Int)) ∧ W.cell? ⟨w2.heap.size, 1, none⟩ = some (.int .i64 (nt : Int)) ∧ W.cell? ⟨w2.heap.size, 2, none⟩ = some (.int .i64 i) ∧ W.cell? ⟨w2.heap.size, 3, none⟩ = some (.int .i64 h) := fun W k => by
    have := (k.block w2.heap.size l3).trans P3
    exact ⟨cell_of this 0 _ rfl, cell_of this 1 _ rfl, cell_of this 2 _ rfl, cell_of this 3 _ rfl⟩
  go_region_held3 (fun W => W.cell? ⟨w2.heap.size, 0, none⟩ = some (.int .i64 (n : Int)) ∧ W.cell? ⟨w2.heap.size, 1, none⟩ = some (.int .i64 (nt : Int)) ∧ W.cell? ⟨w2.heap.size, 2, none⟩ = some (.int .i64 i) ∧ W.cell? ⟨w2.heap.size, 3, none⟩ = some (.int .i64 h))
    (first | exact kc _ (Below.refl _ _) | exact kc _ (Below.refl _ _).drew | exact kc _ kF | exact kc _ kM)
    (first
      | (go_at_call 15; refine (Fina.fit_any _ _ _ (hf3.below ?_) hok).mono ?_; exact (Below.refl _ _).drew; intro z w4 hz; obtain ⟨gA, gc, rfl, hr4, k4⟩ := fitted hz; have kF : Below w3.heap.size w3 w4 := (Below.refl w3.heap.size w3).drew.trans k4)
      | (go_at_call 16; refine (ms_new (w0 := w) (bx := [(w2.heap.size, .cells #[.int .i64 (n : Int), .int .i64 (nt : Int), .int .i64 i, .int .i64 h] 23 (0, 0))]) (B3.trans (kF.mono B3.size)) ?_ ?_ (n : Int) (nt : Int) i h _ _ hr4 (fitL_ok hok).1 HR.out (fitL_ok hok).2).mono ?_; (intro x hx; rw [List.mem_singleton.1 hx]; exact ⟨(kF.block _ l3).trans P3, b3⟩); simp; rintro z w5 ⟨Z, rfl, M5, k5⟩; have kM : Below w3.heap.size w3 w5 := kF.trans (k5.mono kF.size)))
  simp only [Int.toNat_natCast] at M5
  obtain ⟨m0, hm0⟩ : ∃ m0, m0 = newM n nt (64 * (n : Int) + i) h (64 * (n : Int)) i := ⟨_, rfl⟩
  rw [← hm0] at M5
  obtain ⟨FF, hFF⟩ : ∃ FF, FF = Fina.fitL finsL := ⟨_, rfl⟩
  rw [← hFF] at M5
  clear hm0 kc hf3 k4 kF k5 hr4 hz kM
  go_wp2_with fail
  clear hFF
  go_loopw [11] (fun u wr => ∃ (k : Nat) (m : Mo), k ≤ ln ∧ k ≤ 60 ∧ u = .int .i64 (k : Int) ∧ Ms w wr Z FF n nt k m [(w2.heap.size, .cells #[.int .i64 (n : Int), .int .i64 (nt : Int), .int .i64 i, .int .i64 h] 23 (0, 0))]) (fun u _ => 60 - (intOf u).toNat)
  case atStart => exact ⟨0, m0, by omega, by omega, rfl, M5⟩
  case round =>
    obtain ⟨k, m, hk1, hk2, rfl, SO⟩ := hrel
    by_cases hlt : k < ln ∧ k < 60
    · obtain ⟨hk3, hk4⟩ := hlt
      obtain ⟨b, o, rfl, hb, hcell⟩ := hl.at_ k hk3
      have e0 : wr.cell? ⟨b, o + k * 8, none⟩ = some (.int .i64 (lz k 0)) := (SO.below.cell (p := ⟨b, _, none⟩) hb).trans (hcell 0 (by decide))
      have e1 : wr.cell? ⟨b, o + k * 8 + 1, none⟩ = some (.int .u8 (lz k 1)) := (SO.below.cell (p := ⟨b, _, none⟩) hb).trans (hcell 1 (by decide))
      have e2 : wr.cell? ⟨b, o + k * 8 + 2, none⟩ = some (.int .u8 (lz k 2)) := (SO.below.cell (p := ⟨b, _, none⟩) hb).trans (hcell 2 (by decide))
      have e3 : wr.cell? ⟨b, o + k * 8 + 3, none⟩ = some (.int .u8 (lz k 3)) := (SO.below.cell (p := ⟨b, _, none⟩) hb).trans (hcell 3 (by decide))
      have e4 : wr.cell? ⟨b, o + k * 8 + 4, none⟩ = some (.int .u8 (lz k 4)) := (SO.below.cell (p := ⟨b, _, none⟩) hb).trans (hcell 4 (by decide))
      have e5 : wr.cell? ⟨b, o + k * 8 + 5, none⟩ = some (.int .i64 (lz k 5)) := (SO.below.cell (p := ⟨b, _, none⟩) hb).trans (hcell 5 (by decide))
      have e6 : wr.cell? ⟨b, o + k * 8 + 6, none⟩ = some (.int .i64 (lz k 6)) := (SO.below.cell (p := ⟨b, _, none⟩) hb).trans (hcell 6 (by decide))
      have e7 : wr.cell? ⟨b, o + k * 8 + 7, none⟩ = some (.int .i64 (lz k 7)) := (SO.below.cell (p := ⟨b, _, none⟩) hb).trans (hcell 7 (by decide))
      have ⟨v1, _⟩ := Held.bounds_u8 (hl.wf k 1)
      have ⟨v2, _⟩ := Held.bounds_u8 (hl.wf k 2)
      have ⟨v3, _⟩ := Held.bounds_u8 (hl.wf k 3)
      have ⟨v4, _⟩ := Held.bounds_u8 (hl.wf k 4)
      have ⟨v5, v5'⟩ := Held.bounds_i64 (hl.wf k 5)
      obtain ⟨p0, p1, p2, p3⟩ := SO.cells4 0 rfl
      obtain ⟨M, hM⟩ : ∃ M : Int, M = lz k 0 % 4 := ⟨_, rfl⟩
      have M0 : 0 ≤ M ∧ M ≤ 3 := by omega
      have m1 : bits .and .i64 (lz k 0) 3 = M := by rw [hM]; simpa using Ctl.mask_i64 2 (by decide) (lz k 0)
      obtain ⟨T, hT⟩ : ∃ T : Int, T = M % (nt : Int) := ⟨_, rfl⟩
      have T0 : 0 ≤ T := by rw [hT]; exact Int.emod_nonneg _ (by omega)
      have T1 : T < (nt : Int) := by rw [hT]; exact Int.emod_lt_of_pos _ (by omega)
      have tm : Int.tmod M (nt : Int) = T := (Int.tmod_eq_emod_of_nonneg M0.1).trans hT.symm
      have nz : ((nt : Int) == 0) = false := by simp; omega
      have nz' : ¬ nt = 0 := by omega
      have wT : IntKind.i64.wrap T = T := IntWalk.i64_in _ (by omega)
      have wT2 : IntKind.i64.wrap (Int.tmod M (nt : Int)) = T := by rw [tm]; exact wT
      clear hM hT
      obtain ⟨x5, y5, L5, m5, R5⟩ := exX FF m nt T ⟨lz k 1, lz k 2, lz k 3, lz k 4, lz k 5, lz k 6, lz k 7⟩ (show inN T nt = true from decide_eq_true ⟨T0, T1⟩)
      replace R5 := Lib.hid R5
      have S5 := SO.drew
      go_wp2_with fail
      go_region_held3 (fun W => W.cell? ⟨b, o + k * 8, none⟩ = some (.int .i64 (lz k 0)) ∧ W.cell? ⟨b, o + k * 8 + 1, none⟩ = some (.int .u8 (lz k 1)) ∧ W.cell? ⟨b, o + k * 8 + 2, none⟩ = some (.int .u8 (lz k 2)) ∧ W.cell? ⟨b, o + k * 8 + 3, none⟩ = some (.int .u8 (lz k 3)) ∧ W.cell? ⟨b, o + k * 8 + 4, none⟩ = some (.int .u8 (lz k 4)) ∧ W.cell? ⟨b, o + k * 8 + 5, none⟩ = some (.int .i64 (lz k 5)) ∧ W.cell? ⟨b, o + k * 8 + 6, none⟩ = some (.int .i64 (lz k 6)) ∧ W.cell? ⟨b, o + k * 8 + 7, none⟩ = some (.int .i64 (lz k 7)) ∧ W.cell? ⟨w2.heap.size, 1, none⟩ = some (.int .i64 (nt : Int)))
        (first | exact ⟨e0, e1, e2, e3, e4, e5, e6, e7, p1⟩ | exact KD)
        ((go_at_call 19; refine (ms_as S5 (by omega) (c := ⟨lz k 1, lz k 2, lz k 3, lz k 4, lz k 5, lz k 6, lz k 7⟩) (cok (by omega) (by omega) (by omega) (by omega) (by omega) (by omega)) T R5.out).mono ?_; rintro e w5 ⟨A5, c5, rfl, _, h5⟩
          have KD := (show w5.cell? ⟨b, o + k * 8, none⟩ = some (.int .i64 (lz k 0)) ∧ w5.cell? ⟨b, o + k * 8 + 1, none⟩ = some (.int .u8 (lz k 1)) ∧ w5.cell? ⟨b, o + k * 8 + 2, none⟩ = some (.int .u8 (lz k 2)) ∧ w5.cell? ⟨b, o + k * 8 + 3, none⟩ = some (.int .u8 (lz k 3)) ∧ w5.cell? ⟨b, o + k * 8 + 4, none⟩ = some (.int .u8 (lz k 4)) ∧ w5.cell? ⟨b, o + k * 8 + 5, none⟩ = some (.int .i64 (lz k 5)) ∧ w5.cell? ⟨b, o + k * 8 + 6, none⟩ = some (.int .i64 (lz k 6)) ∧ w5.cell? ⟨b, o + k * 8 + 7, none⟩ = some (.int .i64 (lz k 7)) ∧ w5.cell? ⟨w2.heap.size, 1, none⟩ = some (.int .i64 (nt : Int)) from
            ⟨(h5.below.cell (p := ⟨b, _, none⟩) hb).trans (hcell 0 (by decide)), (h5.below.cell (p := ⟨b, _, none⟩) hb).trans (hcell 1 (by decide)), (h5.below.cell (p := ⟨b, _, none⟩) hb).trans (hcell 2 (by decide)), (h5.below.cell (p := ⟨b, _, none⟩) hb).trans (hcell 3 (by decide)), (h5.below.cell (p := ⟨b, _, none⟩) hb).trans (hcell 4 (by decide)), (h5.below.cell (p := ⟨b, _, none⟩) hb).trans (hcell 5 (by decide)), (h5.below.cell (p := ⟨b, _, none⟩) hb).trans (hcell 6 (by decide)), (h5.below.cell (p := ⟨b, _, none⟩) hb).trans (hcell 7 (by decide)), (h5.cells4 0 rfl).2.1⟩)))
      clear e0 e1 e2 e3 e4 e5 e6 e7 p0 p1 p2 p3 m1 tm nz nz' wT wT2 S5 R5 SO KD hcell v1 v2 v3 v4 v5 v5'
      go_wp2_with fail
      go_loopw [12] (fun u wz => ∃ s : Nat, 1 ≤ s ∧ s ≤ n ∧ u = .int .i64 (s : Int) ∧ Ms w wz Z FF n nt (k + 1) m5 [(w2.heap.size, .cells #[.int .i64 (n : Int), .int .i64 (nt : Int), .int .i64 i, .int .i64 h] 23 (0, 0))]) (fun u _ => n - (intOf u).toNat)
      case atStart => exact ⟨1, by omega, n1, rfl, h5⟩
      case round =>
        obtain ⟨s, s1, sn, rfl, S1⟩ := hrel
        obtain ⟨p0, p1, p2, p3⟩ := S1.cells4 0 rfl
        by_cases hs : s < n
        · generalize hV : wr = V at *
          go_wp2_with fail
          go_loopw [13, 14] (fun c u wy => ∃ t q : Nat, t ≤ nt ∧ u = .int .i64 (t : Int) ∧ c = .int .i64 (q : Int) ∧ Hid (q = cou (m5.T.take t) (s : Int)) ∧ q ≤ 6 * t ∧ Ms w wy Z FF n nt (k + 1) m5 [(w2.heap.size, .cells #[.int .i64 (n : Int), .int .i64 (nt : Int), .int .i64 i, .int .i64 h] 23 (0, 0))]) (fun _ u _ => nt - (intOf u).toNat)
          case atStart => exact ⟨0, 0, by omega, rfl, rfl, Lib.hid rfl, by omega, S1⟩
          case round =>
            obtain ⟨t, q, ht, rfl, rfl, HQ, q6, S2⟩ := hrel
            obtain ⟨p0, p1, p2, p3⟩ := S2.cells4 0 rfl
            by_cases htn : t < nt
            · go_wp2_with fail
              refine (ms_ents S2 t htn).mono ?_
              rintro e wa ⟨A, cc, rfl, O3, S3, _⟩
              have E6 := S3.iv.l6 (t := t) (by rw [S3.et]; exact htn)
              obtain ⟨L, hL⟩ : ∃ L, L = m5.ents t := ⟨_, rfl⟩
              rw [← hL] at O3 E6
              have HL := Lib.hid hL
              rw [← hL]
              clear hL
              have O4 := O3.sr
              clear O3
              generalize hV2 : wr = V2 at *
              go_wp2_with fail
              go_loopw [13, 16] (fun c u wy => ∃ j q' : Nat, j ≤ L.length ∧ u = .int .i64 (j : Int) ∧ c = .int .i64 (q' : Int) ∧ Hid (q' = q + (L.take j).countP (Chain.hit (s : Int))) ∧ q' ≤ q + j ∧ wy = wa) (fun _ u _ => L.length - (intOf u).toNat)
              case atStart => exact ⟨0, q, by omega, rfl, rfl, Lib.hid rfl, by omega, rfl⟩
              case round =>
                obtain ⟨j, q', hj, rfl, rfl, HC, q7, rfl⟩ := hrel
                by_cases hjl : j < L.length
                · obtain ⟨g, og, rfl, hg, a0, a1⟩ := ent_at O4 hjl
                  have HT : Hid ((L.take (j + 1)).countP (Chain.hit (s : Int)) = (L.take j).countP (Chain.hit (s : Int)) + (if ((L[j]).2 && (L[j]).1 == (s : Int)) = true then 1 else 0)) := Lib.hid (cnt_take hjl)
                  generalize (L[j]).1 = sc at a0 HT
                  generalize (L[j]).2 = bc at a1 HT
                  cases bc with
                  | false =>
                    have N1 := Lib.hid (show q' = q + (L.take (j + 1)).countP (Chain.hit (s : Int)) by rw [HT.out, HC.out]; simp)
                    go_wp2
                    go_roundw
                    case rel => exact ⟨j + 1, q', by omega, by go_num, rfl, N1, by omega, by trivial⟩
                    case measure => simp [intOf]; omega
                  | true =>
                    by_cases es : sc = (s : Int)
                    · have e1 : (sc == (s : Int)) = true := by simp [es]
                      have N1 := Lib.hid (show q' + 1 = q + (L.take (j + 1)).countP (Chain.hit (s : Int)) by rw [HT.out, HC.out, es]; simp; omega)
                      clear es
                      go_wp2
                      go_roundw
                      case rel => exact ⟨j + 1, q' + 1, by omega, by go_num, by go_num, N1, by omega, by trivial⟩
                      case measure => simp [intOf]; omega
                    · have e1 : (sc == (s : Int)) = false := by simp [es]
                      have N1 := Lib.hid (show q' = q + (L.take (j + 1)).countP (Chain.hit (s : Int)) by rw [HT.out, HC.out, e1]; simp)
                      clear es
                      go_wp2
                      go_roundw
                      case rel => exact ⟨j + 1, q', by omega, by go_num, rfl, N1, by omega, by trivial⟩
                      case measure => simp [intOf]; omega
                · obtain rfl : j = L.length := by omega
                  have N1 := Lib.hid (show q' = cou (m5.T.take (t + 1)) (s : Int) by
                    rw [cou_take (by rw [S3.iv.nT, S3.et]; exact htn), HC.out, List.take_length, HQ.out, HL.out]
                    rfl)
                  go_wp2
                  go_roundw
                  case rel => exact ⟨t + 1, q', by omega, by go_num, rfl, N1, by omega, S3⟩
                  case measure => simp [intOf]; omega
            · obtain rfl : t = nt := by omega
              have hq : q = cou m5.T (s : Int) := by
                rw [HQ.out, List.take_of_length_le (by rw [S2.iv.nT, S2.et]; exact Nat.le_refl _)]
              rcases S2.cnt s1 hs hq with ⟨rfl, st, ep, st2, hsee, hu, hg⟩ | ⟨q0', p, ep, hsee, pm1, p7, hpar⟩
              · have z2 : (st == 2) = false := by simp [st2]
                clear hq HQ st2 q6
                go_wp2_with fail
                refine (ms_ctl S2 (s : Int) hsee).mono ?_
                rintro e wb ⟨rfl, S4, _⟩
                have S5 := S4.new #[.int .i64 st, .int .i64 0, .int .i64 (-1), .int .i64 ep] 64
                clear hsee
                go_wp2_with fail
                refine (ms_used S5 (i := (s : Int)) (by omega) (by omega) hu).mono ?_
                rintro e wq ⟨rfl, rfl⟩
                go_wp2_with fail
                refine (ms_port S5 (i := (s : Int)) (by omega) (by omega) hg).mono ?_
                rintro e wq ⟨rfl, rfl⟩
                clear hu hg
                go_wp2
                go_roundw
                case rel => exact ⟨s + 1, by omega, by omega, by go_num, S5.drop 1⟩
                case measure => simp [intOf]; omega
              · have z1 : decide (0 < (q : Int)) = true := decide_eq_true (by omega)
                have z2 : ((q : Int) == 0) = false := by simp; omega
                clear hq HQ
                by_cases hp : 0 < p
                · obtain ⟨pn, c', p', e', hsee2⟩ := hpar hp
                  have z3 : decide (0 < p) = true := decide_eq_true hp
                  go_wp2_with fail
                  refine (ms_ctl S2 (s : Int) hsee).mono ?_
                  rintro e wb ⟨rfl, S4, _⟩
                  have S5 := S4.new #[.int .i64 2, .int .i64 (q : Int), .int .i64 p, .int .i64 ep] 64
                  clear hsee
                  go_wp2_with fail
                  refine (ms_ctl S5 p hsee2).mono ?_
                  rintro e wc ⟨rfl, S6, _⟩
                  have S7 := S6.new #[.int .i64 2, .int .i64 c', .int .i64 p', .int .i64 e'] 64
                  clear hsee2
                  go_wp2
                  go_roundw
                  case rel => exact ⟨s + 1, by omega, by omega, by go_num, S7.drop 2⟩
                  case measure => simp [intOf]; omega
                · have z3 : decide (0 < p) = false := decide_eq_false hp
                  clear hpar
                  go_wp2_with fail
                  refine (ms_ctl S2 (s : Int) hsee).mono ?_
                  rintro e wb ⟨rfl, S4, _⟩
                  have S5 := S4.new #[.int .i64 2, .int .i64 (q : Int), .int .i64 p, .int .i64 ep] 64
                  clear hsee
                  go_wp2
                  go_roundw
                  case rel => exact ⟨s + 1, by omega, by omega, by go_num, S5.drop 1⟩
                  case measure => simp [intOf]; omega
        · obtain rfl : s = n := by omega
          go_wp2
          go_roundw
          case rel => exact ⟨k + 1, m5, by omega, by omega, by go_num, S1⟩
          case measure => simp [intOf]; omega
    · by_cases hk3 : k < ln
      · obtain rfl : k = 60 := by omega
        have i1 : decide ((60 : Int) < (ln : Int)) = true := decide_eq_true (by omega)
        go_wp2
        go_ret
        exact ⟨rfl, SO.below⟩
      · have i1 : decide ((k : Int) < (ln : Int)) = false := decide_eq_false (by omega)
        go_wp2
        go_ret
        exact ⟨rfl, SO.below⟩

set_option maxRecDepth 100000 in
theorem lifted (os : Os) (started : os.Started) (H : Type) (enc : TypeId × Value → H) :
    ReturnsInHanded {} Tryz.checked os 7 .any (Rows.modelCountsSpec.pre6 enc Tryz.prog Tryz.f7 Rows.modelCountsRow.domain false) (Rows.modelCountsSpec.post enc Tryz.prog Tryz.f7 false true false false) := by
  refine returnsInHanded_of_change (C := Tryz.checked) Args.own started (by kernel_rfl) Tryz.func7
    (ChangeSpec.witness6 (enc := enc) (C := Tryz.checked) false ⟨#[], #[.agg #[.int .i64 0, .int .i64 0, .int .i64 0, .int .i64 0], .slice none 0 0, .slice none 0 0], []⟩ 8 (by kernel_rfl) (by kernel_rfl) (by kernel_rfl) (by kernel_rfl)) ?_
  intro W base args ds gs before hval0 hW hcnd _
  have hval : ∀ (j : Nat) t v, Tryz.f7.params[j]? = some t → args[j]? = some v → Value.okWide Tryz.prog W .any base t v := hval0
  have hW' := hW
  obtain ⟨p, q, hA0, hV, rfl, hfz, hnd⟩ := hW
  have hA : DataW.TrodAll enc Tryz.prog W 0 (fun _ => true) true Tryz.f7.params.toList args.toList ds p := hA0
  rw [Tryz.params7] at hA hval
  obtain ⟨v0, vs0, d0, ds0, p0, q0, hargs, rfl, rfl, h0, r0⟩ := trodAll_cons hA
  obtain ⟨v1, vs1, d1, ds1, p1, q1, rfl, rfl, rfl, h1, r1⟩ := trodAll_cons r0
  obtain ⟨v2, vs2, d2, ds2, p2, q2, rfl, rfl, rfl, h2, r2⟩ := trodAll_cons r1
  obtain ⟨rfl, rfl, rfl⟩ := trodAll_nil r2
  obtain rfl : args = #[v0, v1, v2] := by cases args; simp_all
  obtain ⟨rfl, rfl⟩ := trodVars_none hV
  have lt0 := Args.trod_below h0
  obtain ⟨qz, hv0, hq⟩ := Args.rec_in (ks := [.i64, .i64, .i64, .i64]) Tryz.underlying23 (by kernel_rfl) (by kernel_rfl) (hval 0 23 v0 rfl rfl) h0
  obtain rfl : v0 = .agg #[.int .i64 (qz 0), .int .i64 (qz 1), .int .i64 (qz 2), .int .i64 (qz 3)] := hv0
  have lt1 := Args.trod_below h1
  obtain ⟨finsL, hfins⟩ := Fina.came_rows (hval 1 24 v1 rfl rfl) h1
  have lt2 := Args.trod_below h2
  obtain ⟨lA, ln, lc, lz, rfl, hl⟩ := Args.nest_in (k := .i64) (ks := [.u8, .u8, .u8, .u8, .i64, .i64, .i64]) (e := 39) (u := 37) (by kernel_rfl) Tryz.underlying39 (by kernel_rfl) (by kernel_rfl) (by kernel_rfl) (by kernel_rfl) (by kernel_rfl) Tryz.underlying37 (by kernel_rfl) (by kernel_rfl) (by kernel_rfl) (hval 2 25 v2 rfl rfl) h2
  clear hA0 hval0
  refine (walk (qz 0) (qz 1) (qz 2) (qz 3) v1 finsL lA ln lc lz W (hq 0) (hq 1) (hq 2) (hq 3) hfins hl).mono fun e W' ⟨he, bel⟩ => ?_
  subst he
  exact ⟨_, rfl, _, _, _, [], _, [], hW', trodAll_mk1 (shut_bool Tryz.underlying4 _), trodAll_cons_mk (Below.trod Args.laidOut (by kernel_rfl) (of_decide_eq_true (by kernel_rfl)) h0 bel lt0) (trodAll_cons_mk (Below.trod Args.laidOut (by kernel_rfl) (of_decide_eq_true (by kernel_rfl)) h1 bel lt1) (trodAll_cons_mk (Below.trod Args.laidOut (by kernel_rfl) (of_decide_eq_true (by kernel_rfl)) h2 bel lt2) (trodAll_mk0))), rfl, bel.frame _, fun h => by cases h⟩

theorem over : Rows.modelCountsRow.holds Tryz.pinned (OpenSpec.ofChange Rows.modelCountsSpec) :=
  OpenClaim.holds_of_wide 7 Tryz.f7 rfl rfl rfl rfl rfl rfl rfl ⟨rfl, rfl, rfl, rfl, rfl⟩ rfl rfl rfl rfl rfl (by kernel_rfl) Tryz.func7 (by kernel_rfl)
    (of_decide_eq_true (by kernel_rfl)) (by unfold Func.isWrapper; rw [if_neg (of_decide_eq_false (by kernel_rfl))]; exact ⟨rfl, rfl⟩)
    (fun os started H enc _ => lifted os started H enc)

theorem proved : Rows.ModelCountsSaid :=
  over
end Go.Proofs.YtneggppfffekdaaGreat.modelCounts
