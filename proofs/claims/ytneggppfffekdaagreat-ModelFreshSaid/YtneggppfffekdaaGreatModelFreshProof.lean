/-
  penfoldlaw12.ModelFresh returns true for all finalizers and every slice of calls, and changes nothing that was there; no condition.
-/
import Derived.Test.YtneggppfffekdaaGreatRows
import Derived.Test.YtneggppfffekdaaGreatBase
import Derived.Test.YtneggppfffekdaaGreatFrel
import Derived.Test.YtneggppfffekdaaGreatSlom
import Derived.Test.YtneggppfffekdaaGreatArgn
import Derived.Test.YtneggppfffekdaaGreatNump
import Derived.StillTailTactics
import Derived.Deep.RegionHeld3
import Derived.Deep.DeepCutAuto
namespace Go.Proofs.YtneggppfffekdaaGreat.modelFresh
open Go.ChangeShapes Go.WideShapes Go.ChangeAt Go.RowKit
set_option linter.unusedVariables false

open Go.Proofs.YtneggppfffekdaaGreat.Mod Slic Sco

set_option maxRecDepth 100000 in
set_option maxHeartbeats 8000000 in
theorem walk (finsv : Value) (finsL : _) (lA : Option Addr) (ln lc : Nat) (lz : Nat → Nat → Int) (w : World) (hfins : Fina.Came w finsv finsL) (hl : Args.Recs (.i64 :: [.u8, .u8, .u8, .u8, .i64, .i64, .i64]) w lA ln lz) :
    Calls Tryz.prog 9 #[finsv, .slice lA ln lc] w fun e w' => e = .returned (.bool true) ∧ Below w.heap.size w w' := by
  obtain ⟨hfr, hok⟩ := hfins
  obtain ⟨fA, fc, rfl, _, _⟩ := hfr.form
  have hln := hl.len
  unfold maxLen at hln
  go_enter Tryz.func9, Tryz.ntmps9
  go_wp2_with fail
  refine (shown_any _).mono ?_
  rintro z w1 ⟨rfl, k1⟩
  go_wp2_with fail
  refine (some_any _).mono ?_
  rintro z w2 ⟨rfl, k2⟩
  have B2 := k1.trans (k2.mono k1.size)
  have hf2 := hfr.below B2
  go_wp2_with fail
  refine (Fina.fit_any _ _ _ hf2 hok).mono ?_
  intro z w4 hz
  obtain ⟨gA, gc, rfl, hr4, k4⟩ := fitted hz
  have B4 := B2.trans (k4.mono B2.size)
  go_wp2_with fail
  refine (ms_new (bx := []) B4 (fun x hx => absurd hx List.not_mem_nil) List.nodup_nil 4 2 128 512 _ _ hr4 (fitL_ok hok).1 (by decide) (fitL_ok hok).2).mono ?_
  rintro z w5 ⟨Z, rfl, M5, _⟩
  obtain ⟨m0, hm0⟩ : ∃ m0, m0 = sh0 := ⟨_, rfl⟩
  have M5 : Ms w w5 Z (Fina.fitL finsL) 4 2 0 m0 [] := by rw [hm0]; exact M5
  have HT0 := Lib.hid (show Mod.Told m0 0 [] by rw [hm0]; exact told0)
  obtain ⟨FF, hFF⟩ : ∃ FF, FF = Fina.fitL finsL := ⟨_, rfl⟩
  rw [← hFF] at M5
  clear hm0 k1 k2 k4 hr4 hz B2 hf2 B4
  have O0 := Slic.Own.empty (K := Fina.kI) w5 w5.heap.size (Nat.le_refl _)
  obtain ⟨ex, M6, H0⟩ := M5.keep O0 (below_one _ _)
  have M6 : Ms w (w5.alloc (.cells #[] 3)) Z FF 4 2 0 m0 ([] ++ ex) := M6
  obtain ⟨vt, hvt⟩ : ∃ v, v = Value.slice (some ⟨w5.heap.size, 0, none⟩) 0 0 := ⟨_, rfl⟩
  rw [← hvt] at H0
  clear O0 M5
  go_wp2_with fail
  rw [← hvt]
  clear hFF hvt
  go_loopw [8, 9] (fun tv u wr => ∃ (k : Nat) (m : Mo) (L : List Int) (ex : Bx), k ≤ ln ∧ k ≤ 60 ∧ u = .int .i64 (k : Int) ∧ Hold Fina.kI tv L ex ∧ L.length ≤ k ∧ Hid (Mod.Told m k L) ∧ Ms w wr Z FF 4 2 k m ex) (fun _ u _ => 60 - (intOf u).toNat)
  case atStart => exact ⟨0, m0, [], ex, by omega, by omega, rfl, H0, Nat.le_refl _, HT0, M6⟩
  case round =>
    clear M6 H0 HT0
    obtain ⟨k, m, L, ex, hk1, hk2, rfl, HL, hLk, HT, SO⟩ := hrel
    by_cases hlt : k < ln ∧ k < 60
    · obtain ⟨hk3, hk4⟩ := hlt
      obtain ⟨b, o, rfl, hb, hcell⟩ := hl.at_ k hk3
      have e0 : wr.cell? ⟨b, o + k * 8, none⟩ = some (.int .i64 (lz k 0)) := (SO.below.cell (p := ⟨b, _, none⟩) hb).trans (hcell 0 (by decide))
      have e1 : wr.cell? ⟨b, o + k * 8 + 1, none⟩ = some (.int .u8 (lz k 1)) := (SO.below.cell (p := ⟨b, _, none⟩) hb).trans (hcell 1 (by decide))
      have e2 : wr.cell? ⟨b, o + k * 8 + 2, none⟩ = some (.int .u8 (lz k 2)) := (SO.below.cell (p := ⟨b, _, none⟩) hb).trans (hcell 2 (by decide))
      have e3 : wr.cell? ⟨b, o + k * 8 + 3, none⟩ = some (.int .u8 (lz k 3)) := (SO.below.cell (p := ⟨b, _, none⟩) hb).trans (hcell 3 (by decide))
      have e4 : wr.cell? ⟨b, o + k * 8 + 4, none⟩ = some (.int .u8 (lz k 4)) := (SO.below.cell (p := ⟨b, _, none⟩) hb).trans (hcell 4 (by decide))
      have e5 : wr.cell? ⟨b, o + k * 8 + 5, none⟩ = some (.int .i64 (lz k 5)) := (SO.below.cell (p := ⟨b, _, none⟩) hb).trans (hcell 5 (by decide))
      have e6 : wr.cell? ⟨b, o + k * 8 + 6, none⟩ = some (.int .i64 (lz k 6)) := (SO.below.cell (p := ⟨b, _, none⟩) hb).trans (hcell 6 (by decide))
      have e7 : wr.cell? ⟨b, o + k * 8 + 7, none⟩ = some (.int .i64 (lz k 7)) := (SO.below.cell (p := ⟨b, _, none⟩) hb).trans (hcell 7 (by decide))
      have ⟨v1, _⟩ := Held.bounds_u8 (hl.wf k 1)
      have ⟨v2, _⟩ := Held.bounds_u8 (hl.wf k 2)
      have ⟨v3, _⟩ := Held.bounds_u8 (hl.wf k 3)
      have ⟨v4, _⟩ := Held.bounds_u8 (hl.wf k 4)
      have ⟨v5, v5'⟩ := Held.bounds_i64 (hl.wf k 5)
      obtain ⟨T, hT⟩ : ∃ T : Nat, (T : Int) = lz k 0 % 2 := ⟨(lz k 0 % 2).toNat, by omega⟩
      have T1 : T < 2 := by omega
      have m1 : bits .and .i64 (lz k 0) 1 = (T : Int) := by rw [hT]; simpa using Ctl.mask_i64 1 (by decide) (lz k 0)
      clear hT hcell
      generalize lz k 1 = op at *
      generalize lz k 2 = cr at *
      generalize lz k 3 = ch at *
      generalize lz k 4 = cv at *
      generalize lz k 5 = ca at *
      generalize lz k 6 = cb at *
      generalize lz k 7 = cc at *
      obtain ⟨AR, hAR⟩ : ∃ AR, AR = Chain.areaV (m.ents T) := ⟨_, rfl⟩
      obtain ⟨ar0, ar1⟩ := SO.areaB T1
      rw [← hAR] at ar0 ar1
      obtain ⟨us, hus⟩ : ∃ us, (m.ar AR).u = us := ⟨_, rfl⟩
      obtain ⟨x5, y5, L5, m5, R5⟩ := exX FF m 2 (T : Int) ⟨op, cr, ch, cv, ca, cb, cc⟩ (show inN (T : Int) 2 = true from decide_eq_true (by omega))
      have HT5 := Lib.hid (SO.told HT.out (by omega) T1 R5)
      have HM := Lib.hid (fun (h7 : op = 7) (h0 : x5 = 0) => SO.made HT.out (by omega) T1 R5 h7 h0)
      replace R5 := Lib.hid R5
      replace hAR := Lib.hid hAR
      replace hus := Lib.hid hus
      have S1 := SO.new (caA ⟨op, cr, ch, cv, ca, cb, cc⟩) 37
      go_wp2_with fail
      refine (ms_ents S1 T T1).mono ?_
      rintro e w6 ⟨A6, c6, rfl, O6, S6, _⟩
      clear e0 e1 e2 e3 e4 e5 e6 e7 m1 S1
      go_wp2_with fail
      refine (Chain.refarea_any _ _ _ (ent_own.2 O6).sr).mono ?_
      rintro e wq ⟨rfl, rfl⟩
      rw [← hAR.out]
      clear O6
      go_wp2_with fail
      refine (ms_used S6 (i := AR) ar0 ar1 hus.out).mono ?_
      rintro e wq ⟨rfl, rfl⟩
      obtain ⟨p0, p1, p2, p3, p4, p5, p6⟩ := S6.cells7 0 rfl
      go_wp2_with fail
      refine (ms_as S6 (by omega) (c := ⟨op, cr, ch, cv, ca, cb, cc⟩) (cok (by omega) (by omega) (by omega) (by omega) (by omega) (by omega)) (T : Int) R5.out).mono ?_
      rintro e w7 ⟨A7, c7, rfl, _, S7⟩
      have S8 := S7.new #[.int .i64 x5, .int .i64 y5, .slice A7 L5.length c7] anT
      clear p0 p1 p2 p3 p4 p5 p6 R5 S7 S6
      obtain ⟨p0, p1, p2, p3, p4, p5, p6⟩ := S8.cells7 1 rfl
      obtain ⟨a0, a1, a2⟩ := S8.cells3 0 rfl
      by_cases h7 : op = 7
      rotate_left
      · have d1 : (op != 7) = true := by simp [h7]
        as_aux_lemma =>
          go_wp2
          go_roundw
          case rel => exact ⟨k + 1, m5, L, ex, by omega, by omega, by go_num, HL, by omega, HT5, S8.drop 2⟩
          case measure => simp [intOf]; omega
      by_cases h0 : x5 = 0
      rotate_left
      · have d1 : (op != 7) = false := by simp [h7]
        have d2 : (x5 != 0) = true := by simp [h0]
        clear h7
        as_aux_lemma =>
          go_wp2
          go_roundw
          case rel => exact ⟨k + 1, m5, L, ex, by omega, by omega, by go_num, HL, by omega, HT5, S8.drop 2⟩
          case measure => simp [intOf]; omega
      subst h7 h0
      obtain ⟨s, ep, at_, sc, sp, u, MD, nL, TL⟩ := HM.out rfl rfl
      obtain ⟨q1, q2, q3, q4, q5, q6, q7, q8, q9, q10, q11, q12, q13, q14, q15⟩ := MD
      rw [← hAR.out] at q1
      dsimp only at q7 q8 q9 q10 q11 q12 q13 q15
      obtain rfl := q1
      have hus := hus.out
      rw [hus] at q14
      obtain rfl := q14
      obtain ⟨A, rfl⟩ : ∃ A : Nat, ca = A := ⟨ca.toNat, by omega⟩
      obtain ⟨B, rfl⟩ : ∃ B : Nat, cb = B := ⟨cb.toNat, by omega⟩
      obtain ⟨Rn, rfl⟩ : ∃ R : Nat, cr = R := ⟨cr.toNat, by omega⟩
      rw [Int.toNat_natCast] at q7 q8
      obtain ⟨u0, u1, _⟩ := SO.use (s := s) q2
      rw [hus] at u0 u1
      obtain ⟨n1, n2, n3, n4, n5, z1, z2, z3, z4, z5, z6, z7⟩ := need_steps (A := A) (B := B) (u := us) (v := (m5.ar (s : Int)).u) (by omega) (by omega) u0 u1 q15
      have wy : IntKind.u64.wrap y5 = y5 := Ctl.wraps_u64 _ q3 (by omega)
      have TL := Lib.hid TL
      have nL := Lib.hid nL
      obtain ⟨us', hus'⟩ : ∃ us', (m5.ar (s : Int)).u = us' := ⟨_, rfl⟩
      rw [hus'] at z7
      have r4 : Rn < 4 := by omega
      obtain ⟨At, ct, hvt, _⟩ := (SO.hold HL (fun x hx => hx)).sr
      subst hvt
      clear HM HT HT5 hAR hus q15 u0 u1 SO
      go_wp2_with fail
      refine (Refs.refunpack_any y5 _ q3 (by omega)).mono ?_
      rintro e w9 ⟨rfl, k9⟩
      rw [q5]
      have S9 := (S8.call k9).new #[.int .i64 (s : Int), .int .i64 ep, .int .i64 at_] 95
      clear p0 p1 p2 p3 p4 p5 p6 a0 a1 a2 S8 k9
      go_wp2_with fail
      refine (ms_ctl S9 (s : Int) q6).mono ?_
      rintro e w10 ⟨rfl, S10, _⟩
      have S11 := S10.new #[.int .i64 2, .int .i64 sc, .int .i64 sp, .int .i64 ep] 64
      obtain ⟨a0, a1, a2⟩ := S11.cells3 2 rfl
      clear S9 S10
      go_wp2_with fail
      refine (ms_slots S11 y5 ⟨q3, by omega⟩ q7).mono ?_
      rintro e w12 ⟨uv, rfl, O12, S12, q12'⟩
      obtain ⟨Au, cu, rfl, _⟩ := O12.sr
      rw [List.length_replicate] at O12 ⊢
      clear a0 a1 a2 S11
      go_wp2_with fail
      refine (ms_regs S12 T T1).mono ?_
      rintro e w13 ⟨gr, cr, rfl, O13, _, _, _, _, S13, q13'⟩
      have SU := (O12.sr).below q13'
      obtain ⟨d0, d1, d2, d3⟩ := S13.cells4 0 rfl
      obtain ⟨f0, f1, f2⟩ := S13.cells3 1 rfl
      obtain ⟨a0, a1, a2⟩ := S13.cells3 2 rfl
      obtain ⟨p0, p1, p2, p3, p4, p5, p6⟩ := S13.cells7 3 rfl
      have g1 := (fun (v : Value) (hv : (Fina.kU.enc ((regL (m5.th T))[Rn]'r4))[0]? = some v) => (by
        obtain ⟨g', o', e', _, hc⟩ := O13.sr.at Rn r4
        injection e' with e'
        injection e' with e1 e2
        subst e1 e2
        exact hc 0 v hv : w13.cell? ⟨gr, 0 + (Rn * Fina.kU.m + 0), none⟩ = some v)) _ rfl
      have hrg := regL_at (m5.th T) r4
      rw [List.getElem?_eq_getElem (by exact r4), q8] at hrg
      injection hrg with hrg
      rw [show 0 + (Rn * Fina.kU.m + 0) = Rn by simp [Fina.kU], hrg] at g1
      have wR : IntKind.i64.wrap (Rn : Int) = (Rn : Int) := IntWalk.i64_in _ (by omega)
      have x1 : ((s : Int) != (s : Int)) = false := by simp
      have x2 : (ep != ep) = false := by simp
      have x3 : ((A : Int) != (A : Int)) = false := by simp
      have x4 : decide ((4 : Int) ≤ (Rn : Int)) = false := decide_eq_false (by omega)
      have x5 : (y5 != y5) = false := by simp
      have x6 : (us' != us') = false := by simp
      have x7 : (Rn : Int) < 4 := by omega
      have S14 := S13.drew
      clear O13 hrg q8 q13' q12'
      go_wp2_with fail
      go_region_held3 (fun W' => W'.cell? ⟨w9.heap.size, 0, none⟩ = some (.int .i64 (s : Int)) ∧ W'.cell? ⟨w9.heap.size, 1, none⟩ = some (.int .i64 ep) ∧ W'.cell? ⟨w10.heap.size, 3, none⟩ = some (.int .i64 ep) ∧ W'.cell? ⟨wr.heap.size, 4, none⟩ = some (.int .i64 (A : Int)) ∧ W'.cell? ⟨wr.heap.size, 1, none⟩ = some (.int .u8 (Rn : Int)) ∧ W'.cell? ⟨gr, Rn, none⟩ = some (.int .u64 y5) ∧ W'.cell? ⟨w7.heap.size, 1, none⟩ = some (.int .i64 y5) ∧ W'.cell? ⟨wr.heap.size, 5, none⟩ = some (.int .i64 (B : Int)))
        (exact ⟨f0, f1, d3, p4, p1, g1, a1, p5⟩)
        ((go_at_call 28; refine (ms_used S14 (i := (s : Int)) (by omega) (by omega) hus').mono ?_; rintro e wq ⟨rfl, rfl⟩))
      have SV := SU.drew
      clear f0 f1 f2 a0 a1 a2 p0 p1 p2 p3 p4 p5 p6 d0 d1 d2 d3 g1 x1 x2 x3 x4 x5 x6 x7 z1 z2 z3 z4 z5 z6 z7 S13 SU wR hus' q5 q6 q7 S12 O12
      generalize hVr : wr = Vr at *
      clear hVr
      generalize w13.drew = W0 at *
      have S14 : Ms w W0 Z FF 4 2 (k + 1) m5 ((w10.heap.size, .cells #[.int .i64 2, .int .i64 sc, .int .i64 sp, .int .i64 ep] 64 (0, 0)) :: (w9.heap.size, .cells #[.int .i64 (s : Int), .int .i64 ep, .int .i64 at_] 95 (0, 0)) :: (w7.heap.size, .cells #[.int .i64 0, .int .i64 y5, .slice A7 L5.length c7] anT (0, 0)) :: (Vr.heap.size, .cells (caA ⟨7, (Rn : Int), ch, cv, (A : Int), (B : Int), cc⟩) 37 (0, 0)) :: ex) := S14
      go_wp2_with fail
      go_loopw [24] (fun u wz => ∃ y : Nat, y ≤ A ∧ u = .int .i64 (y : Int) ∧ wz = W0) (fun u _ => A - (intOf u).toNat)
      case atStart => exact ⟨0, by omega, rfl, rfl⟩
      case round =>
        obtain ⟨y, hy, rfl, rfl⟩ := hrel
        by_cases hyA : y < A
        · as_aux_lemma =>
            obtain ⟨g2, o2, rfl, _, q2⟩ := SV.at y (by rw [List.length_replicate]; exact hyA)
            have q2 := q2 0 _ rfl
            rw [List.getElem_replicate, show o2 + (y * Fina.kU.m + 0) = o2 + y by simp [Fina.kU]] at q2
            go_wp2
            go_roundw
            case rel => exact ⟨y + 1, by omega, by go_num, by trivial⟩
            case measure => simp [intOf]; omega
        · as_aux_lemma =>
            obtain rfl : A = y := by omega
            clear SV
            generalize hVs : wr = Vs at *
            clear hVs
            go_wp2_with fail
            go_loopw [25] (fun u wz => ∃ x : Nat, x ≤ L.length ∧ u = .int .i64 (x : Int) ∧ Ms w wz Z FF 4 2 (k + 1) m5 ((w10.heap.size, .cells #[.int .i64 2, .int .i64 sc, .int .i64 sp, .int .i64 ep] 64 (0, 0)) :: (w9.heap.size, .cells #[.int .i64 (s : Int), .int .i64 ep, .int .i64 at_] 95 (0, 0)) :: (w7.heap.size, .cells #[.int .i64 0, .int .i64 y5, .slice A7 L5.length c7] anT (0, 0)) :: (Vr.heap.size, .cells (caA ⟨7, (Rn : Int), ch, cv, (A : Int), (B : Int), cc⟩) 37 (0, 0)) :: ex)) (fun u _ => L.length - (intOf u).toNat)
            case atStart => exact ⟨0, by omega, rfl, S14⟩
            case round =>
              clear S14
              obtain ⟨x, hx, rfl, S14⟩ := hrel
              obtain ⟨a0, a1, a2⟩ := S14.cells3 2 rfl
              by_cases hxL : x < L.length
              · as_aux_lemma =>
                  obtain ⟨g2, o2, rfl, _, q2⟩ := (S14.hold HL (fun x hx => by simp [hx])).sr.at x hxL
                  have q2 := q2 0 _ rfl
                  have hne : (L[x] == y5) = false := by
                    rw [beq_eq_false_iff_ne]
                    rintro e
                    exact nL.out (e ▸ List.getElem_mem hxL)
                  rw [show o2 + (x * Fina.kI.m + 0) = o2 + x by simp [Fina.kI]] at q2
                  generalize L[x] = vx at q2 hne
                  have y0 : (0 : Int) ≤ (x : Int) := by omega
                  have y1 : (x : Int) < (L.length : Int) := by omega
                  go_wp2_with fail
                  go_region
                  go_wp2
                  go_roundw
                  case rel => exact ⟨x + 1, by omega, by go_num, S14.drew⟩
                  case measure => simp [intOf]; omega
              · as_aux_lemma =>
                  obtain rfl : x = L.length := by omega
                  have M10 := S14.alloc (.cells #[.int .i64 y5] 3)
                  have O10 := M10.hold HL (fun x hx => by simp [hx])
                  have hx10 := (Slic.Own.lit (K := Fina.kI) wr wr.heap.size (Nat.le_refl _) [y5] #[.int .i64 y5] rfl (by show 1 ≤ maxLen; decide) 1 rfl).sr
                  have hb10 : w.heap.size ≤ (wr.alloc (.cells #[.int .i64 y5] 3)).heap.size := M10.below.size
                  go_upto_region 32 with (fail)
                  go_wp2_with (refine wpList_grows (K := Fina.kI) (o := ⟨some 203, _, _, _, _, _⟩) rfl (.tmp 199) (.tmp 202) rfl rfl rfl rfl O10 hx10 (by show _ + 1 ≤ _; omega) hb10 ?_; intro v9 w9' O9 g9 h9; obtain ⟨ex9, M11, H9⟩ := Ms.grown (bx := ((w10.heap.size, .cells #[.int .i64 2, .int .i64 sc, .int .i64 sp, .int .i64 ep] 64 (0, 0)) :: (w9.heap.size, .cells #[.int .i64 (s : Int), .int .i64 ep, .int .i64 at_] 95 (0, 0)) :: (w7.heap.size, .cells #[.int .i64 0, .int .i64 y5, .slice A7 L5.length c7] anT (0, 0)) :: (Vr.heap.size, .cells (caA ⟨7, (Rn : Int), ch, cv, (A : Int), (B : Int), cc⟩) 37 (0, 0)) :: [])) M10 HL O9 g9 h9 (by decide))
                  go_roundw
                  case rel => exact ⟨k + 1, m5, L ++ [y5], ex9, by omega, by omega, by go_num, H9, by rw [List.length_append]; simp; omega, TL, M11.drop 4⟩
                  case measure => simp [intOf]; omega
    · by_cases hk3 : k < ln
      · obtain rfl : k = 60 := by omega
        have i1 : decide ((60 : Int) < (ln : Int)) = true := decide_eq_true (by omega)
        as_aux_lemma =>
          go_wp2
          go_ret
          exact ⟨rfl, SO.below⟩
      · have i1 : decide ((k : Int) < (ln : Int)) = false := decide_eq_false (by omega)
        as_aux_lemma =>
          go_wp2
          go_ret
          exact ⟨rfl, SO.below⟩

set_option maxRecDepth 100000 in
theorem lifted (os : Os) (started : os.Started) (H : Type) (enc : TypeId × Value → H) :
    ReturnsInHanded {} Tryz.checked os 9 .any (Rows.modelFreshSpec.pre6 enc Tryz.prog Tryz.f9 Rows.modelFreshRow.domain false) (Rows.modelFreshSpec.post enc Tryz.prog Tryz.f9 false true false false) := by
  refine returnsInHanded_of_change (C := Tryz.checked) Args.own started (by kernel_rfl) Tryz.func9
    (ChangeSpec.witness6 (enc := enc) (C := Tryz.checked) false ⟨#[], #[.slice none 0 0, .slice none 0 0], []⟩ 8 (by kernel_rfl) (by kernel_rfl) (by kernel_rfl) (by kernel_rfl)) ?_
  intro W base args ds gs before hval0 hW hcnd _
  have hval : ∀ (j : Nat) t v, Tryz.f9.params[j]? = some t → args[j]? = some v → Value.okWide Tryz.prog W .any base t v := hval0
  have hW' := hW
  obtain ⟨p, q, hA0, hV, rfl, hfz, hnd⟩ := hW
  have hA : DataW.TrodAll enc Tryz.prog W 0 (fun _ => true) true Tryz.f9.params.toList args.toList ds p := hA0
  rw [Tryz.params9] at hA hval
  obtain ⟨v0, vs0, d0, ds0, p0, q0, hargs, rfl, rfl, h0, r0⟩ := trodAll_cons hA
  obtain ⟨v1, vs1, d1, ds1, p1, q1, rfl, rfl, rfl, h1, r1⟩ := trodAll_cons r0
  obtain ⟨rfl, rfl, rfl⟩ := trodAll_nil r1
  obtain rfl : args = #[v0, v1] := by cases args; simp_all
  obtain ⟨rfl, rfl⟩ := trodVars_none hV
  have lt0 := Args.trod_below h0
  obtain ⟨finsL, hfins⟩ := Fina.came_rows (hval 0 24 v0 rfl rfl) h0
  have lt1 := Args.trod_below h1
  obtain ⟨lA, ln, lc, lz, rfl, hl⟩ := Args.nest_in (k := .i64) (ks := [.u8, .u8, .u8, .u8, .i64, .i64, .i64]) (e := 39) (u := 37) (by kernel_rfl) Tryz.underlying39 (by kernel_rfl) (by kernel_rfl) (by kernel_rfl) (by kernel_rfl) (by kernel_rfl) Tryz.underlying37 (by kernel_rfl) (by kernel_rfl) (by kernel_rfl) (hval 1 25 v1 rfl rfl) h1
  clear hA0 hval0
  refine (walk v0 finsL lA ln lc lz W hfins hl).mono fun e W' ⟨he, bel⟩ => ?_
  subst he
  exact ⟨_, rfl, _, _, _, [], _, [], hW', trodAll_mk1 (shut_bool Tryz.underlying4 _), trodAll_cons_mk (Below.trod Args.laidOut (by kernel_rfl) (of_decide_eq_true (by kernel_rfl)) h0 bel lt0) (trodAll_cons_mk (Below.trod Args.laidOut (by kernel_rfl) (of_decide_eq_true (by kernel_rfl)) h1 bel lt1) (trodAll_mk0)), rfl, bel.frame _, fun h => by cases h⟩

theorem over : Rows.modelFreshRow.holds Tryz.pinned (OpenSpec.ofChange Rows.modelFreshSpec) :=
  OpenClaim.holds_of_wide 9 Tryz.f9 rfl rfl rfl rfl rfl rfl rfl ⟨rfl, rfl, rfl, rfl, rfl⟩ rfl rfl rfl rfl rfl (by kernel_rfl) Tryz.func9 (by kernel_rfl)
    (of_decide_eq_true (by kernel_rfl)) (by unfold Func.isWrapper; rw [if_neg (of_decide_eq_false (by kernel_rfl))]; exact ⟨rfl, rfl⟩)
    (fun os started H enc _ => lifted os started H enc)

theorem proved : Rows.ModelFreshSaid :=
  over
end Go.Proofs.YtneggppfffekdaaGreat.modelFresh
