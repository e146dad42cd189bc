/-
  penfoldlaw08.ThingWalks returns true for every slice of heads and every byte, and changes nothing that was there; no condition.
-/
import Derived.Test.YtgihoicppeegaaaRows
import Derived.Test.YtgihoicppeegaaaArgs
import Derived.Test.YtgihoicppeegaaaArgsB
import Derived.Test.YtgihoicppeegaaaMarked
import Derived.Deep.RegionHeld3
import Derived.Deep.DeepCutAuto
import Derived.Deep.QuietTactic
import Derived.BigQuiet
namespace Go.Proofs.Ytgihoicppeegaaa.thingWalks
open Go.ChangeShapes Go.WideShapes Go.ChangeAt Go.RowKit
set_option linter.unusedVariables false

open Thing Arena Mem Ref Held
open Heads (unV firstV packV)

set_option maxRecDepth 100000 in
set_option maxHeartbeats 8000000 in
theorem walk (lA : Option Addr) (ln lc : Nat) (lz : Nat → Nat → Int) (which : Int) (w : World) (hl : Args.PRecs [some .i64, some .i64, some .i64, none, some .i64, some .i64] w lA ln lz) (wwhich : (Lit.int .u8 which).wf = true) :
    Calls Try.prog 4 #[.slice lA ln lc, .int .u8 which] w fun e w' => e = .returned (.bool true) ∧ Below w.heap.size w w' := by
  have hlen := hl.len
  have ⟨y1, y2⟩ := bounds_u8 wwhich
  clear wwhich
  have hmx : maxLen ≤ 9223372036854775807 := by decide
  have hmn : 100000 ≤ maxLen := by decide
  obtain ⟨i0, hi, hz0, hz1, hz2⟩ := info_parts info_int
  obtain ⟨i1, hi', hy0, hy1, hy2⟩ := info_parts info_head
  go_enter Try.func4, Try.ntmps4
  go_wp2_with fail
  refine (shown_any _).mono ?_
  rintro z w0 ⟨rfl, k0⟩
  go_wp2_with fail
  refine (new_at _ _ 80 rfl (by omega)).mono ?_
  rintro e w1 ⟨rfl, h1, k1, z1⟩
  have T0 : Rw w ((w1.alloc (.cells #[] 30)).alloc (.cells #[] 3)) w0.heap.size (fun _ => 0) [] (.slice (some ⟨w1.heap.size, 0, none⟩) 0 0) (.slice (some ⟨w1.heap.size + 1, 0, none⟩) 0 0) := by
    have kk : Below w1.heap.size w1 ((w1.alloc (.cells #[] 30)).alloc (.cells #[] 3)) := ((Below.refl _ _).alloc (Nat.le_refl _) _).alloc (by simp) _
    have := row_empty (w1.alloc (.cells #[] 30)) (w0.heap.size + 2) 3 1 (by simp; omega)
    rw [World.size_alloc] at this
    exact ⟨h1.below kk (by omega) (by omega), (row_empty w1 (w0.heap.size + 2) 30 6 (by omega)).alloc _, this, trivial, by simp, by simp [total], fun _ _ => rfl, k0.trans ((k1.trans (kk.mono (by omega))).mono k0.size), k0.size⟩
  clear h1 k1 k0 z1
  generalize w0.heap.size = N at *
  go_wp2_with fail
  go_loopw [8, 9, 10, 11] (fun v u x t wr => ∃ (hs : List Hd) (f : Nat → Int), hs.length ≤ ln ∧ t = .int .i64 hs.length ∧ x = .int .i64 (8 * (total hs : Int)) ∧ Rw w wr N f hs v u) (fun _ _ _ t _ => 6 - (intOf t).toNat)
  case atStart => exact ⟨[], _, by simp, rfl, rfl, T0⟩
  case round =>
    clear T0
    obtain ⟨hs, f, hk, rfl, rfl, R⟩ := hrel
    have h6 := R.len
    have htot := R.tot
    have hown := R.own
    by_cases hlt6 : hs.length < ln ∧ hs.length < 6
    · obtain ⟨hlt, hl6⟩ := hlt6
      · obtain ⟨b, o, rfl, hb, hcell⟩ := hl.at_ hs.length hlt
        generalize hK : hs.length = K at *
        have q0 : wr.cell? ⟨b, o + K * 6, none⟩ = some (.int .i64 (lz K 0)) := (R.below.cell hb).trans (hcell 0 (by decide))
        have q1 : wr.cell? ⟨b, o + K * 6 + 1, none⟩ = some (.int .i64 (lz K 1)) := (R.below.cell hb).trans (hcell 1 (by decide))
        have q2 : wr.cell? ⟨b, o + K * 6 + 2, none⟩ = some (.int .i64 (lz K 2)) := (R.below.cell hb).trans (hcell 2 (by decide))
        have q3 : wr.cell? ⟨b, o + K * 6 + 3, none⟩ = some (.bool (lz K 3 != 0)) := (R.below.cell hb).trans (hcell 3 (by decide))
        have q4 : wr.cell? ⟨b, o + K * 6 + 4, none⟩ = some (.int .i64 (lz K 4)) := (R.below.cell hb).trans (hcell 4 (by decide))
        have q5 : wr.cell? ⟨b, o + K * 6 + 5, none⟩ = some (.int .i64 (lz K 5)) := (R.below.cell hb).trans (hcell 5 (by decide))
        have hbw : b < wr.heap.size := Nat.lt_of_lt_of_le hb R.below.size
        have m1 : bits .and .i64 (lz K 0) 1 = lz K 0 % 2 := by have := Heads.mask_i64 1 (by decide) (lz K 0); simpa using this
        clear hcell
        go_wp2_with fail
        refine (Heads.fit_any _ _ _ _ _ _ _).mono ?_
        rintro z w2 ⟨rfl, k2⟩
        have q0' := (k2.cell (p := ⟨b, o + K * 6, none⟩) hbw).trans q0
        have S2 := ((St.start wr).call k2).new [.int .i64 (2 + lz K 1 % 8 % 7 + lz K 0 % 64), .int .i64 (lz K 1 % 8 % 7), .int .i64 (lz K 2 % 8), .bool (lz K 3 != 0), .int .i64 (lz K 4 % 8), .int .i64 (lz K 5 % 16777216)] 30
        go_wp2_with fail
        have q0'' : (w2.alloc (.cells #[.int .i64 (2 + lz K 1 % 8 % 7 + lz K 0 % 64), .int .i64 (lz K 1 % 8 % 7), .int .i64 (lz K 2 % 8), .bool (lz K 3 != 0), .int .i64 (lz K 4 % 8), .int .i64 (lz K 5 % 16777216)] 30)).cell? ⟨b, o + K * 6, none⟩ = some (.int .i64 (lz K 0)) := (((Below.refl _ _).alloc (Nat.le_refl _) _).cell (p := ⟨b, o + K * 6, none⟩) (Nat.lt_of_lt_of_le hbw k2.size)).trans q0'
        generalize (w2.alloc (.cells #[.int .i64 (2 + lz K 1 % 8 % 7 + lz K 0 % 64), .int .i64 (lz K 1 % 8 % 7), .int .i64 (lz K 2 % 8), .bool (lz K 3 != 0), .int .i64 (lz K 4 % 8), .int .i64 (lz K 5 % 16777216)] 30)) = W2 at *
        have zz : w2.heap.size ≠ b := by have := k2.size; omega
        clear q0 q1 q2 q3 q4 q5 q0'
        obtain ⟨ql, r0, r1, r2, r3, r4, r5⟩ := S2.get6 0 rfl
        have rf := (S2.get 0 rfl).fz 0
        have b0 : 0 ≤ lz K 1 % 8 % 7 ∧ lz K 1 % 8 % 7 ≤ 6 ∧ 0 ≤ lz K 2 % 8 ∧ lz K 2 % 8 ≤ 7 ∧ 0 ≤ lz K 4 % 8 ∧ lz K 4 % 8 ≤ 7 ∧ 0 ≤ lz K 5 % 16777216 ∧ lz K 5 % 16777216 ≤ 16777215 := by omega
        obtain ⟨s, hs0⟩ : ∃ s : Nat, 2 + lz K 1 % 8 % 7 + lz K 0 % 2 = (s : Int) := ⟨_, (Int.toNat_of_nonneg (by omega)).symm⟩
        have bs : 2 + lz K 1 % 8 % 7 ≤ (s : Int) ∧ (s : Int) ≤ 3 + lz K 1 % 8 % 7 := by omega
        go_region
        have S3 := (S2.put 0 0 rfl (.int .i64 (2 + lz K 1 % 8 % 7 + lz K 0 % 2)) (Nat.le_of_ble_eq_true rfl)).drew
        rw [hs0] at S3
        have hlt2 : wr.heap.size ≤ w2.heap.size := k2.size
        clear hs0 m1 ql r0 r1 r2 r3 r4 r5 rf S2 q0'' zz k2
        generalize (W2.setCell ⟨w2.heap.size, 0, none⟩ (.int .i64 (s : Int))).drew = W3 at *
        generalize lz K 1 % 8 % 7 = n at *
        generalize lz K 2 % 8 = t at *
        generalize (lz K 3 != 0) = d at *
        generalize lz K 4 % 8 = c at *
        generalize lz K 5 % 16777216 = e at *
        have S3' : St wr W3 [(w2.heap.size, [.int .i64 (s : Int), .int .i64 n, .int .i64 t, .bool d, .int .i64 c, .int .i64 e])] := S3
        clear S3
        obtain ⟨b1, b2, b3, b4, b5, b6, b7, b8⟩ := b0
        obtain ⟨b9, b10⟩ := bs
        have hr : (⟨s, n, t, d, c, e⟩ : Hd).right := ⟨decide_eq_true (by dsimp only; omega), by dsimp only; omega⟩
        have hwd := hr.words
        have HP : Hid (packV (s : Int) n t d c e = ⟨firstH ⟨s, n, t, d, c, e⟩, secondH ⟨s, n, t, d, c, e⟩, 0⟩) := Lib.hid (Heads.pack_yes d hr.r)
        have HU := Lib.hid R.used
        obtain ⟨ql, r0, r1, r2, r3, r4, r5⟩ := S3'.get6 0 rfl
        go_wp2_with fail
        refine (lift S3' (Heads.refpack_any _ _ _ _ _ _ _)).mono ?_
        rintro z w4 ⟨rfl, S4⟩
        rw [HP.out]
        have R4 := R.call S4.below
        have hsz4 := R4.size
        have hs4 : wr.heap.size ≤ w4.heap.size := S4.below.size
        have ht45 : total hs ≤ 45 := by have := laid_total R.laid; omega
        clear r0 r1 r2 r3 r4 r5 ql S3'
        obtain ⟨ql, r0, r1, r2, r3, r4, r5⟩ := S4.get6 0 rfl
        go_wp2_with fail
        refine (claim_yes _ _ _ 80 0 (8 + total hs) f _ _ _ _ _ _ R4.ar (by omega) rfl (by omega) (by omega) (by omega) (by omega) (by omega) (by omega) hwd.1 hwd.2.1 hwd.2.2.1 hwd.2.2.2 (by rw [R4.used]; omega) (by rw [R4.used]; omega) (by rw [R4.used]; omega) (by omega)).mono ?_
        rintro z w5 ⟨rfl, h5, g5⟩
        rw [HU.out]
        have S5 := st_only (st_base S4 R4.below R.below.size) g5 R.own (by simp only [List.mem_singleton]; rintro x rfl; dsimp only; have := R.size; omega)
        have H5 := row_only R4.heads g5 (by omega)
        have P5 := row_only R4.plcs g5 (by omega)
        have B5 := below_only R4.below g5 R4.below.size R.own
        have hs5 : w4.heap.size ≤ w5.heap.size := g5.size
        obtain ⟨CL, CU, CR⟩ := claimed_laid R.laid R.used R.rest hr
        have A5 : Ar w5 (N + 1) N 80 (claimed f hs ⟨s, n, t, d, c, e⟩) := h5
        clear r0 r1 r2 r3 r4 r5 ql
        obtain ⟨ql, r0, r1, r2, r3, r4, r5⟩ := S5.get6 0 rfl
        have RL := Lib.hid R.len
        have HK := Lib.hid hK
        clear hK R4 S4 h5 g5
        have hne6 : some w2.heap.size ≠ Value.ownBlock u8 := fun e => by have := (R.heads.lt _ e.symm).2; omega
        have hne7 : some w2.heap.size ≠ Value.ownBlock u9 := fun e => by have := (R.plcs.lt _ e.symm).2; omega
        have lt6 := World.ownsRow.lt H5
        have lt7 := World.ownsRow.lt P5
        go_wp2_with (first
          | (at_builtin; refine wpList_append_own _ rfl _ _ 51 rfl (N + 2) 30 i1 (.agg #[.int .i64 0, .int .i64 0, .int .i64 0, .bool false, .int .i64 0, .int .i64 0]) 6 48 Try.underlying51 hi' hy0 hy1 hy2 rfl (by decide) _ _ _ rfl (World.ownsRow.alloc H5 _) ⟨w5.heap.size, 0, none⟩ 1 1 [.int .i64 (s : Int), .int .i64 n, .int .i64 t, .bool d, .int .i64 c, .int .i64 e] rfl rfl (cell_six_new _ _ _ _ _ _ _ _) (by simp [Value.oneCell']) (by have := HK.out; omega) (by have := HK.out; omega) (by simp; omega) ?_; intro v' w6 hown6 hgrow6 _; have A6 := (A5.below ((Below.refl _ _).alloc (Nat.le_refl _) _) A5.head.lt A5.body.lt).kept hgrow6 (fun e => by have := (lt6 _ e).1; omega) (fun e => by have := (lt6 _ e).1; omega); have P6 := World.ownsRow.kept (World.ownsRow.alloc P5 _) hgrow6 (own_apart P5 H5 (by decide)); have B6 := below_row (B5.alloc B5.size _) (World.ownsRow.alloc H5 _) hgrow6 (by omega) (by simp; omega); have S6 := (cell_only hgrow6 (b := w2.heap.size) (by simp; omega) hne6 0).trans ((((Below.refl _ _).alloc (Nat.le_refl _) _).cell (p := ⟨w2.heap.size, 0, none⟩) ql).trans r0); have ql6 : w2.heap.size < w6.heap.size := (by have := hgrow6.size; simp at this; omega); have hs6 : w5.heap.size < w6.heap.size := (by have := hgrow6.size; simp at this; omega))
          | (at_builtin; refine wpList_append_own _ rfl _ _ 38 rfl (N + 2) 3 i0 (.int .i64 0) 1 8 Try.underlying38 hi hz0 hz1 hz2 rfl (by decide) _ _ _ rfl (World.ownsRow.alloc P6 _) ⟨w6.heap.size, 0, none⟩ 1 1 [.int .i64 (64 + 8 * (total hs : Int))] rfl rfl (cell_one_new _ _ _) (by simp [Value.oneCell']) (by rw [places_len]; have := HK.out; omega) (by rw [places_len]; have := HK.out; omega) (by simp; omega) ?_; intro v'' w7 hown7 hgrow7 _; have A7 := (A6.below ((Below.refl _ _).alloc (Nat.le_refl _) _) A6.head.lt A6.body.lt).kept hgrow7 (fun e => by have := (lt7 _ e).1; omega) (fun e => by have := (lt7 _ e).1; omega); have H7 := World.ownsRow.kept (World.ownsRow.alloc hown6 _) hgrow7 (own_apart hown6 P6 (by decide)); have B7 := below_row (B6.alloc B6.size _) (World.ownsRow.alloc P6 _) hgrow7 (by omega) (by simp; omega); have S7 := (cell_only hgrow7 (b := w2.heap.size) (by simp; omega) hne7 0).trans ((((Below.refl _ _).alloc (Nat.le_refl _) _).cell (p := ⟨w2.heap.size, 0, none⟩) ql6).trans S6)))
        go_roundw
        case rel =>
          refine ⟨hs ++ [⟨s, n, t, d, c, e⟩], _, by simp; have := HK.out; omega, by simp; have := HK.out; omega, by rw [total_app]; simp [total]; omega, ⟨A7, HRow.snoc (h := ⟨s, n, t, d, c, e⟩) H7, by rw [places_snoc]; exact row_snoc hown7, CL, by simp; have := HK.out; omega, CU, CR, B7, R.own⟩⟩
        case measure => simp [intOf]; omega
    · have hfirst : (hs.length < ln ∧ hs.length = 6) ∨ ¬ hs.length < ln := by omega
      obtain ⟨pv, cv, pu, cu, rfl, rfl⟩ := R.forms
      go_upto_region 9 with (fail)
      go_cut [58] (fun s58 wx => s58 = .bool false ∧ wr = wx)
      case first =>
        rcases hfirst with ⟨hk3, hk4⟩ | hk3
        · have d6 : decide ((hs.length : Int) < 6) = false := decide_eq_false (by omega)
          clear hk4
          go_wp2_with fail
          go_meet
          exact ⟨rfl, rfl⟩
        · have d6 : decide ((hs.length : Int) < (ln : Int)) = false := decide_eq_false (by omega)
          go_wp2_with fail
          go_meet
          exact ⟨rfl, rfl⟩
      case rest =>
        obtain ⟨rfl, rfl⟩ := hcut
        clear hlt6 hfirst
        by_cases h0 : hs.length = 0
        · have e0 : hs = [] := List.eq_nil_of_length_eq_zero h0
          subst e0
          clear h0
          have HW1 := Lib.hid R.whole
          have HW2 : Hid (Walked 80 f 64 (8 * (total [] : Int) - 8) [] 18) := Lib.hid (.inl ⟨by simp [total], rfl, rfl⟩)
          have HW3 := Lib.hid R.more
          obtain ⟨A0, c0, e0, r0⟩ := R.plcs.reads
          injection e0 with e0 _ _
          subst e0
          rw [show (8 * ((total [] : Nat) : Int)) = 0 from rfl] at *
          rw [show places 8 [] = [] from rfl] at *
          simp only [List.length_nil] at *
          go_wp2_with fail
          refine (walk_any _ _ _ 80 f _ _ [] 0 R.ar (by omega) (by omega) (by omega) (by omega) HW1.out).mono ?_
          rintro z w3 ⟨⟨v1, rfl, hv1⟩, k3⟩
          obtain ⟨A1, c1, rfl, r1⟩ := hv1.reads
          have R3 := R.call k3
          have r03 := r0.below k3
          clear R k3 hv1 r0
          go_wp2_with fail
          refine (ints_same _ _ _ _ _ _ _ [] (by simp) rfl rfl r1 r03).mono ?_
          rintro z w4 ⟨rfl, k4⟩
          have R4 := R3.call k4
          clear R3 k4 r1 r03
          go_wp2_with fail
          go_loop [23] (fun t => t = .int .i64 0) (fun _ => 0)
          case atStart => exact rfl
          case round =>
            obtain rfl := hrel
            go_wp2_with fail
            refine (walk_any _ _ _ 80 f _ _ [] 18 R4.ar (by omega) (by omega) (by omega) (by omega) HW2.out).mono ?_
            rintro z w5 ⟨⟨v2, rfl, hv2⟩, k5⟩
            have R5 := R4.call k5
            clear R4 k5 hv2
            go_wp2_with fail
            refine (walk_any _ _ _ 80 f _ _ [] 18 R5.ar (by omega) (by omega) (by omega) (by omega) HW3.out).mono ?_
            rintro z w6 ⟨⟨v3, rfl, hv3⟩, k6⟩
            have R6 := R5.call k6
            go_wp2
            go_ret
            exact ⟨rfl, R6.below⟩
        · have d0 : decide (0 < (hs.length : Int)) = true := decide_eq_true (by omega)
          obtain ⟨K, hK⟩ : ∃ K : Nat, which % (hs.length : Int) = (K : Int) := ⟨(which % (hs.length : Int)).toNat, (Int.toNat_of_nonneg (Int.emod_nonneg _ (by omega))).symm⟩
          have hKl : K < hs.length := by
            have := Int.emod_lt_of_pos which (show (0 : Int) < (hs.length : Int) by omega)
            omega
          obtain ⟨a, b, h, p, g, g', O⟩ := R.one hKl
          have hb := O.right.bd
          have hfit := O.fits
          obtain rfl := O.hv
          obtain rfl := O.hu
          have q := O.q
          have LH := Lib.hid O.split
          have LP := Lib.hid O.at_
          have LL := Lib.hid O.len
          have AV := Lib.hid O.at_V
          have HMF := Lib.hid (mark_one O).1
          have h0' : (0 : Int) < (hs.length : Int) := by omega
          have hng : N + 2 ≤ g := (R.heads.lt g rfl).1
          have hgl : g < wr.heap.size := (R.heads.lt g rfl).2
          have c3 := O.c3
          have fz3 := World.ownsRow.frozenAt R.heads (K * 6 + 3)
          clear O
          go_wp2_with fail
          try rw [hK]
          clear hK
          refine (mark_any _ _ _ 80 f _ R.ar (by omega) (by omega)).mono ?_
          rintro z w3 ⟨rfl, A3, g3⟩
          rw [AV.out]
          rw [HMF.out] at A3
          have R3 := R.marked LH.out LL.out LP.out rfl A3 g3
          have c33 := (cell_only g3 (b := g) hgl (by intro e; injection e; omega) (K * 6 + 3)).trans c3
          have fz33 : w3.frozen? ⟨g, K * 6 + 3, none⟩ = false := by
            rw [← fz3]
            simp only [World.frozen?, g3.block g hgl (by intro e; injection e; omega)]
          have hl' : (a ++ { h with d := true } :: b).length = hs.length := by rw [LH.out]; simp
          have ht' : total (a ++ { h with d := true } :: b) = total hs := by rw [LH.out, total_app, total_app]; rfl
          have hne' : a ++ { h with d := true } :: b ≠ [] := by simp
          clear A3 g3 q c3 fz3 R AV HMF hb hfit LH LP LL hgl hng
          generalize setF f p (firstH { h with d := true }) = f1 at *
          generalize hw4 : w3.setCell ⟨g, K * 6 + 3, none⟩ (.bool true) = W3 at *
          go_wp2_with fail
          try rw [hw4]
          clear hw4 c33 fz33 w3
          generalize a ++ { h with d := true } :: b = H at *
          have W1 := R3.whole
          have W2 := R3.less hne'
          have W3' := R3.more
          rw [ht'] at W1 W2 W3'
          have HW1 := Lib.hid W1
          have HW2 := Lib.hid W2
          have HW3 := Lib.hid W3'
          have hH : 0 < H.length := by omega
          have hl6 : H.length ≤ 6 := R3.len
          have HL := Lib.hid hl'
          clear W1 W2 W3' hne' ht' hl' h a b
          refine (walk_any _ _ _ 80 f1 _ _ (places 8 H) 0 R3.ar (by omega) (by omega) (by omega) (by omega) HW1.out).mono ?_
          rintro z w4 ⟨⟨v1, rfl, hv1⟩, k4⟩
          obtain ⟨A1, c1, rfl, r1⟩ := hv1.reads
          have R4 := R3.call k4
          obtain ⟨A2, c2, e2, r2⟩ := R4.plcs.reads
          have eA : A2 = some ⟨g', 0, none⟩ := by
            injection e2 with e2 _ _
            exact e2.symm
          subst eA
          clear e2 R3 k4 hv1
          go_wp2_with fail
          refine (ints_same _ _ _ _ _ _ _ (places 8 H) (by rw [places_len]; omega) rfl (by rw [places_len, HL.out]) r1 r2).mono ?_
          rintro z w5 ⟨rfl, k5⟩
          have R5 := R4.call k5
          clear R4 k5 r1 r2
          go_wp2_with fail
          go_loopw [23] (fun t wr => ∃ i : Nat, i ≤ hs.length ∧ t = .int .i64 i ∧ Rw w wr N f1 H (.slice (some ⟨g, 0, none⟩) hs.length cv) (.slice (some ⟨g', 0, none⟩) hs.length cu)) (fun t _ => hs.length - (intOf t).toNat)
          case atStart => exact ⟨0, by omega, rfl, R5⟩
          case round =>
            clear R5
            obtain ⟨i, hi2, rfl, R⟩ := hrel
            by_cases hlt : i < hs.length
            · obtain ⟨a, b, h, q, g1, g1', O⟩ := R.one (i := i) (by have := HL.out; omega)
              have hb := O.right.bd
              have hfit := O.fits
              have e1 := O.hv
              have e2 := O.hu
              injection e1 with e1
              injection e1 with e1
              injection e2 with e2
              injection e2 with e2
              subst e1 e2
              have p0 := O.q
              have LH := Lib.hid O.split
              have LP := Lib.hid O.at_
              have LL := Lib.hid O.len
              have AV := Lib.hid O.at_V
              have SV := Lib.hid O.slot
              have i1 : (0 : Int) ≤ (i : Int) := by omega
              have i2 : (i : Int) < (hs.length : Int) := by omega
              have x1 := wr64 (x := h.n - 1) (by omega) (by omega)
              clear O
              go_wp2_with fail
              refine (at_any _ _ _ 80 f1 _ R.ar (by omega) (by omega)).mono ?_
              rintro z w6 ⟨rfl, k6⟩
              rw [AV.out]
              have S6 := (st_base ((St.start wr).call k6) (R.call k6).below R.below.size).new [.int .i64 (h.s : Int), .int .i64 h.n, .int .i64 h.t, .bool h.d, .int .i64 h.c, .int .i64 h.e] 30
              have R6 := (R.call k6).call ((Below.refl _ _).alloc (Nat.le_refl _) (.cells #[.int .i64 (h.s : Int), .int .i64 h.n, .int .i64 h.t, .bool h.d, .int .i64 h.c, .int .i64 h.e] 30))
              clear R k6 p0
              go_wp2_with fail
              generalize (w6.alloc (.cells #[.int .i64 (h.s : Int), .int .i64 h.n, .int .i64 h.t, .bool h.d, .int .i64 h.c, .int .i64 h.e] 30)) = W6 at *
              have O6 := R6.again LH.out LL.out LP.out
              have p6 := O6.q
              have n6 := O6.c1
              have R6d := R6.call (Below.refl _ W6).drew
              have S6d := S6.drew
              clear O6
              go_region_held3 (fun w' => w'.cell? ⟨g', i, none⟩ = some (.int .i64 (8 * (q : Int))) ∧ w'.cell? ⟨g, i * 6 + 1, none⟩ = some (.int .i64 h.n))
                (first | exact ⟨p6, n6⟩ | exact ⟨p7, n7⟩)
                (first | (go_at_call 11; refine (slot_any _ _ _ 80 f1 _ _ R6d.ar (by omega) (by omega) (by omega) (by omega)).mono ?_; rintro z w7 ⟨rfl, k7⟩; have R7 := R6d.call k7; have S7 := S6d.call k7; have O7 := R7.again LH.out LL.out LP.out; have p7 := O7.q; have n7 := O7.c1))
              obtain ⟨y, k, hy, hyk⟩ : ∃ y k, slotV 80 f1 (8 * (q : Int)) (h.n - 1) = ⟨y, k⟩ ∧ ((0 < h.n ∧ y = 8 * (q : Int) + 16 + 8 * (h.n - 1) ∧ k = 0) ∨ ¬ 0 < h.n) := by
                by_cases hn0 : 0 < h.n
                · exact ⟨_, _, (SV.out _).trans (if_pos (by omega)), .inl ⟨hn0, rfl, rfl⟩⟩
                · exact ⟨_, _, (SV.out _).trans (if_neg (by omega)), .inr hn0⟩
              rw [hy]
              clear hy
              have HYK := Lib.hid hyk
              clear hyk
              have R7d := R7.call (Below.refl _ w7).drew
              have S7d := S7.drew
              clear R6 R6d S6 S6d p6 n6
              go_wp2_with fail
              go_region_held3 (fun w' => w'.cell? ⟨g', i, none⟩ = some (.int .i64 (8 * (q : Int))) ∧ w'.cell? ⟨g, i * 6 + 1, none⟩ = some (.int .i64 h.n))
                (first | exact ⟨p7, n7⟩ | exact ⟨p8, n8⟩)
                (first | (go_at_call 11; refine (slot_any _ _ _ 80 f1 _ _ R7d.ar (by omega) (by omega) (by omega) (by omega)).mono ?_; rintro z w8 ⟨rfl, k8⟩; have R8 := R7d.call k8; have S8 := S7d.call k8; have O8 := R8.again LH.out LL.out LP.out; have p8 := O8.q; have n8 := O8.c1))
              rw [SV.out]
              rw [if_neg (show ¬ (0 ≤ h.n ∧ h.n < h.n) by omega)]
              obtain ⟨zl, z0, z1, z2, z3, z4, z5⟩ := S8.get6 0 rfl
              have s8 := O8.c0
              have t8 := O8.c2
              have d8 := O8.c3
              have o8 := O8.c4
              have u8' := O8.c5
              clear R7 R7d S7 S7d p7 n7 O7 O8
              rcases HYK.out with ⟨hn0, rfl, rfl⟩ | hn0
              · have dn : decide (0 < h.n) = true := decide_eq_true hn0
                have x2 := wr64 (x := 8 * (q : Int) + 16) (by omega) (by omega)
                have x3 := wr64 (x := 8 * (h.n - 1)) (by omega) (by omega)
                have x4 := wr64 (x := 8 * (q : Int) + 16 + 8 * (h.n - 1)) (by omega) (by omega)
                go_wp2_with fail
                go_quiet (fail)
                have R9 := R8.call (below_drewN (Below.refl _ w8) nq)
                clear R8 S8
                go_wp2_with fail
                go_roundw
                case rel => exact ⟨i + 1, by omega, by go_num, R9⟩
                case measure => simp [intOf]; omega
              · have dn : decide (0 < h.n) = false := decide_eq_false (by omega)
                go_wp2_with fail
                go_quiet (fail)
                have R9 := R8.call (below_drewN (Below.refl _ w8) nq)
                clear R8 S8
                go_wp2_with fail
                go_roundw
                case rel => exact ⟨i + 1, by omega, by go_num, R9⟩
                case measure => simp [intOf]; omega
            · obtain rfl : i = hs.length := by omega
              have dz : ((hs.length : Int) == 0) = false := by simp only [beq_eq_false_iff_ne, ne_eq]; omega
              go_wp2_with fail
              refine (walk_any _ _ _ 80 f1 _ _ [] 18 R.ar (by omega) (by omega) (by omega) (by omega) HW2.out).mono ?_
              rintro z w6 ⟨⟨v2, rfl, hv2⟩, k6⟩
              have R6 := R.call k6
              clear R k6 hv2
              go_wp2_with fail
              refine (walk_any _ _ _ 80 f1 _ _ [] 18 R6.ar (by omega) (by omega) (by omega) (by omega) HW3.out).mono ?_
              rintro z w7 ⟨⟨v3, rfl, hv3⟩, k7⟩
              have R7 := R6.call k7
              go_wp2
              go_ret
              exact ⟨rfl, R7.below⟩

set_option maxRecDepth 100000 in
theorem lifted (os : Os) (started : os.Started) (H : Type) (enc : TypeId × Value → H) :
    ReturnsInHanded {} Try.checked os 4 .any (Rows.thingWalksSpec.pre6 enc Try.prog Try.f4 Rows.thingWalksRow.domain false) (Rows.thingWalksSpec.post enc Try.prog Try.f4 false true false false) := by
  refine returnsInHanded_of_change (C := Try.checked) Args.own started (by kernel_rfl) Try.func4
    (ChangeSpec.witness6 (enc := enc) (C := Try.checked) false ⟨#[], #[.slice none 0 0, .int .u8 0], []⟩ 8 (by kernel_rfl) (by kernel_rfl) (by kernel_rfl) (by kernel_rfl)) ?_
  intro W base args ds gs before hval0 hW hcnd _
  have hval : ∀ (j : Nat) t v, Try.f4.params[j]? = some t → args[j]? = some v → Value.okWide Try.prog W .any base t v := hval0
  have hW' := hW
  obtain ⟨p, q, hA0, hV, rfl, hfz, hnd⟩ := hW
  have hA : DataW.TrodAll enc Try.prog W 0 (fun _ => true) true Try.f4.params.toList args.toList ds p := hA0
  rw [Try.params4] at hA hval
  obtain ⟨v0, vs0, d0, ds0, p0, q0, hargs, rfl, rfl, h0, r0⟩ := trodAll_cons hA
  obtain ⟨v1, vs1, d1, ds1, p1, q1, rfl, rfl, rfl, h1, r1⟩ := trodAll_cons r0
  obtain ⟨rfl, rfl, rfl⟩ := trodAll_nil r1
  obtain rfl : args = #[v0, v1] := by cases args; simp_all
  obtain ⟨rfl, rfl⟩ := trodVars_none hV
  have lt0 := Args.trod_below h0
  obtain ⟨lA, ln, lc, lz, rfl, hl⟩ := Args.precs_in (ks := [some .i64, some .i64, some .i64, none, some .i64, some .i64]) (e := 30) (by kernel_rfl) Try.underlying30 (by kernel_rfl) (by kernel_rfl) (by decide) (hval 0 51 v0 rfl rfl) h0
  have lt1 := Args.trod_below h1
  obtain ⟨which, rfl, rfl, rfl, wwhich⟩ := open_int Try.underlying5 (hval 1 5 v1 rfl rfl) h1
  clear hA0 hval0
  refine (walk lA ln lc lz which W hl wwhich).mono fun e W' ⟨he, bel⟩ => ?_
  subst he
  exact ⟨_, rfl, _, _, _, [], _, [], hW', trodAll_mk1 (shut_bool Try.underlying4 _), trodAll_cons_mk (Below.trod Args.laidOut (by kernel_rfl) (of_decide_eq_true (by kernel_rfl)) h0 bel lt0) (trodAll_cons_mk (Below.trod Args.laidOut (by kernel_rfl) (of_decide_eq_true (by kernel_rfl)) h1 bel lt1) (trodAll_mk0)), rfl, bel.frame _, fun h => by cases h⟩

theorem over : Rows.thingWalksRow.holds Try.pinned (OpenSpec.ofChange Rows.thingWalksSpec) :=
  OpenClaim.holds_of_wide 4 Try.f4 rfl rfl rfl rfl rfl rfl rfl ⟨rfl, rfl, rfl, rfl, rfl⟩ rfl rfl rfl rfl rfl (by kernel_rfl) Try.func4 (by kernel_rfl)
    (of_decide_eq_true (by kernel_rfl)) (by unfold Func.isWrapper; rw [if_neg (of_decide_eq_false (by kernel_rfl))]; exact ⟨rfl, rfl⟩)
    (fun os started H enc _ => lifted os started H enc)

theorem proved : Rows.ThingWalksSaid :=
  over
end Go.Proofs.Ytgihoicppeegaaa.thingWalks
