/-
  penfoldlaw08.ThingCuts returns true for every slice of heads and every byte, and changes nothing that was there; no condition.
-/
import Derived.Test.YtgihoicppeegaaaRows
import Derived.Test.YtgihoicppeegaaaArgs
import Derived.Test.YtgihoicppeegaaaArgsB
import Derived.Test.YtgihoicppeegaaaCuts
import Derived.Deep.RegionHeld3
import Derived.Deep.QuietTactic
import Derived.BigQuiet
import Derived.StillTailTactics
namespace Go.Proofs.Ytgihoicppeegaaa.thingCuts
open Go.ChangeShapes Go.WideShapes Go.ChangeAt Go.RowKit
set_option linter.unusedVariables false

open Thing Arena Mem Ref Held
open Heads (unV firstV)

set_option maxRecDepth 100000 in
set_option maxHeartbeats 8000000 in
theorem walk (lA : Option Addr) (ln lc : Nat) (lz : Nat → Nat → Int) (which : Int) (w : World) (hl : Args.PRecs [some .i64, some .i64, some .i64, none, some .i64, some .i64] w lA ln lz) (wwhich : (Lit.int .u8 which).wf = true) :
    Calls Try.prog 6 #[.slice lA ln lc, .int .u8 which] w fun e w' => e = .returned (.bool true) ∧ Below w.heap.size w w' := by
  have hln := hl.len
  have ⟨y1, y2⟩ := bounds_u8 wwhich
  clear wwhich
  have hmx : maxLen ≤ 9223372036854775807 := by decide
  go_enter Try.func6, Try.ntmps6
  go_wp2_with fail
  refine (shown_any _).mono ?_
  rintro z w1 ⟨rfl, k1⟩
  go_wp2_with fail
  refine (row_any _ _ _ _ _ (hl.below k1)).mono ?_
  rintro z w2 ⟨hs, f, v, u, rfl, R0⟩
  obtain ⟨pv, cv, pu, cu, rfl, rfl⟩ := R0.forms
  have R := R0.base k1
  have hlen := R0.len
  clear R0 hl
  generalize w1.heap.size = N at *
  by_cases h0 : hs.length = 0
  · have d0 : ((hs.length : Int) == 0) = true := by simp [h0]
    go_wp2
    go_ret
    exact ⟨rfl, R.below⟩
  · have d0 : ((hs.length : Int) == 0) = false := by simp [h0]
    obtain ⟨K, hK⟩ : ∃ K : Nat, which % (hs.length : Int) = (K : Int) := ⟨(which % (hs.length : Int)).toNat, (Int.toNat_of_nonneg (Int.emod_nonneg _ (by omega))).symm⟩
    have hKl : K < hs.length := by
      have := Int.emod_lt_of_pos which (show (0 : Int) < (hs.length : Int) by omega)
      omega
    obtain ⟨a, b, h, p, g, g', O⟩ := R.one hKl
    have hb := O.right.bd
    have hfit := O.fits
    obtain rfl := O.hv
    obtain rfl := O.hu
    have q := O.q
    have LH := Lib.hid O.split
    have LP := Lib.hid O.at_
    have LL := Lib.hid O.len
    have hpos : 8 ≤ p := by have := O.at_; omega
    have HW1 := Lib.hid (R.front O.split O.at_)
    have HW2 := Lib.hid (R.back O.split O.at_)
    have htot := R.tot
    clear O
    have h0' : (0 : Int) < (hs.length : Int) := by omega
    go_wp2_with fail
    rw [hK]
    clear hK
    refine (walk_any _ _ _ 80 f _ _ (places 8 a) 0 R.ar (by omega) (by omega) (by omega) (by omega) HW1.out).mono ?_
    rintro z w3 ⟨⟨v1, rfl, hv1⟩, k3⟩
    obtain ⟨A1, c1, rfl, r1⟩ := hv1.reads
    have R3 := R.call k3
    have q3 := (R3.again LH.out LL.out LP.out).q
    have R3d := R3.call (Below.refl _ w3).drew
    have r1d := r1.below (Below.refl _ w3).drew
    clear q R hv1 k3
    have x1 := wr64 (x := 8 * (total hs : Int) + 64) (by omega) (by omega)
    have x2 := wr64 (x := 8 * (total hs : Int) + 64 - 8 * (p : Int)) (by omega) (by omega)
    have i1 : (0 : Int) ≤ (K : Int) := by omega
    have i2 : (K : Int) < (hs.length : Int) := by omega
    go_wp2_with fail
    go_region_held3 (fun w' => w'.cell? ⟨g', K, none⟩ = some (.int .i64 (8 * (p : Int))))
      (first | exact q3 | exact q4)
      (first | (go_at_call 13; refine (walk_any _ _ _ 80 f _ _ (places p (h :: b)) 0 (Rw.ar (by assumption)) (by omega) (by omega) (by omega) (by omega) HW2.out).mono ?_; rintro z w4 ⟨⟨v2, rfl, hv2⟩, k4⟩; obtain ⟨A2, c2, rfl, r2⟩ := hv2.reads; have R4 := Rw.call R3d k4; have q4 := (R4.again LH.out LL.out LP.out).q; have r14 := r1d.below k4))
    obtain ⟨rr, ra, rb, hcu⟩ := R4.reads LH.out LP.out
    have i3 : K ≤ cu := by omega
    have i4 : (K : Int) ≤ (cu : Int) := by omega
    have i5 : ¬ cu = K := by omega
    rw [LL.out] at rb
    clear R3 R3d r1 r1d q3 x1 x2 rr
    go_wp2_with fail
    refine (ints_same _ _ _ _ _ _ _ (places 8 a) (by rw [places_len, LL.out]; omega) rfl (by rw [places_len, LL.out]) r14 ra).mono ?_
    rintro z w5 ⟨rfl, k5⟩
    have R5 := R4.call k5
    have r25 := r2.below k5
    have rb5 := rb.below k5
    clear R4 r14 ra r2 rb k5 q4
    go_wp2_with fail
    have hlb : hs.length - K = (places p (h :: b)).length := by
      rw [places_len, List.length_cons]
      have := congrArg List.length LH.out
      have := LL.out
      simp at *
      omega
    refine (ints_same _ _ _ _ _ _ _ (places p (h :: b)) (by omega) rfl hlb r25 rb5).mono ?_
    rintro z w6 ⟨rfl, k6⟩
    have R6 := (R5.call k6).call (below_of_grown (grown80 w6))
    have hgB : g < w6.heap.size := ((R5.call k6).heads.lt g rfl).2
    have hgB' : g' < w6.heap.size := ((R5.call k6).plcs.lt g' rfl).2
    have hNB : N + 2 ≤ w6.heap.size := (R5.call k6).size
    have W6 := row80 w6
    clear R5 r25 rb5 k6 hlb
    go_wp2_with (first
      | (refine wpList_b80 (o := ⟨some 86, _, _, _, _, _⟩) rfl rfl ?_)
      | (refine wpList_a80 (o := ⟨some 18, _, _, _, _, _⟩) rfl rfl ?_)
      | (refine wpList_s80 (o := ⟨none, _, _, _, _, _⟩) rfl (.tmp 18) (.tmp 86) rfl rfl rfl ?_))
    generalize (w6.alloc (.cells cs80 64)).setRow w6.heap.size cs80 = V6 at *
    generalize w6.heap.size = B at *
    go_loopw [19] (fun t wr => ∃ j : Nat, j ≤ 80 ∧ t = .int .i64 j ∧ Rw w wr N f hs (.slice (some ⟨g, 0, none⟩) hs.length cv) (.slice (some ⟨g', 0, none⟩) hs.length cu) ∧ wr.rowIs B 64 80 (fun i => .int .u64 (if i < j then f i else 0))) (fun t _ => 80 - (intOf t).toNat)
    case atStart => exact ⟨0, by omega, rfl, R6, W6.congr (fun i _ => by rw [if_neg (by omega)])⟩
    case round =>
      clear R6 W6
      obtain ⟨j, hj, rfl, R, W⟩ := hrel
      by_cases hlt : j < 80
      · have c1 := W.cell hlt
        have f1 := W.frozen j
        go_wp2_with fail
        refine (word_ok _ _ _ 80 j f _ R.ar hlt rfl).mono ?_
        rintro z w7 ⟨rfl, rfl⟩
        go_wp2_with fail
        go_roundw
        case rel =>
          refine ⟨j + 1, by omega, by go_num, R.only (only_setCell (World.grownBy.refl _ _) _ _) hNB (by simp only [Value.ownBlock, ne_eq, Option.some.injEq]; omega) (by simp only [Value.ownBlock, ne_eq, Option.some.injEq]; omega), (W.set j _).congr fun i _ => ?_⟩
          by_cases e : i = j
          · subst e
            rw [if_pos rfl, if_pos (by omega)]
          · rw [if_neg e]
            by_cases e' : i < j
            · rw [if_pos e', if_pos (by omega)]
            · rw [if_neg e', if_neg (by omega)]
        case measure => simp [intOf]; omega
      · obtain rfl : j = 80 := by omega
        have W' : wr.rowIs B 64 80 (fun i => .int .u64 (f i)) := W.congr fun i hi => by rw [if_pos hi]
        have O := R.again LH.out LL.out LP.out
        have q := O.q
        obtain ⟨MF, ME, MG⟩ := mark_one O
        have AV := Lib.hid O.at_V
        have HMF := Lib.hid MF
        have HME := Lib.hid ME
        have HMG := Lib.hid MG
        have HFP := Lib.hid O.first
        have HOR := Lib.hid (or_done O.right)
        clear W O MF ME MG hlt
        have hg2 : N + 2 ≤ g' := (R.plcs.lt g' rfl).1
        have hBlt : B < wr.heap.size := W'.lt
        have hN := R.own
        have HB := R.below
        go_wp2_with fail
        refine (mark_any _ _ _ 80 f _ R.ar (by omega) (by omega)).mono ?_
        rintro z w7 ⟨rfl, A7, g7⟩
        rw [AV.out]
        rw [HMF.out] at A7
        have q7 := (cell_only g7 (b := g') (R.plcs.lt g' rfl).2 (by intro e; injection e; omega) K).trans q
        have W7 := W'.of_block (g7.block B hBlt (by intro e; injection e; omega))
        have B7 := below_only HB g7 HB.size hN
        have hFP := HFP.out
        have hOR := HOR.out
        rw [← hFP] at hOR
        clear R W' q HB AV HMF hFP HFP HOR g7
        generalize hX : firstH { h with d := true } = X at *
        clear hX
        have HO := Lib.hid hOR
        clear hOR
        go_wp2_with fail
        refine (word_ok _ _ _ 80 p _ _ A7 (by omega) rfl).mono ?_
        rintro z w8 ⟨rfl, rfl⟩
        rw [setF_same]
        go_wp2_with fail
        refine (mark_any _ _ _ 80 _ _ A7 (by omega) (by omega)).mono ?_
        rintro z w8 ⟨rfl, A8, g8⟩
        rw [HME.out]
        rw [HMG.out] at A8
        have q8 := (cell_only g8 (b := g') (cell_lt q7) (by intro e; injection e; omega) K).trans q7
        have W8 := W7.of_block (g8.block B W7.lt (by intro e; injection e; omega))
        have B8 := below_only B7 g8 B7.size hN
        clear A7 q7 W7 B7 g8 HME HMG
        go_wp2_with fail
        go_loop [24] (fun t => ∃ j : Nat, j ≤ 80 ∧ t = .int .i64 j) (fun t => 80 - (intOf t).toNat)
        case atStart => exact ⟨0, by omega, rfl⟩
        case round =>
          obtain ⟨j, hj, rfl⟩ := hrel
          by_cases hlt : j < 80
          · have c1 := W8.cell hlt
            by_cases e : j = p
            · subst e
              have E1 : Hid (setF f j X j = X) := Lib.hid (setF_same _ _ _)
              cases hx : (X != f j)
              all_goals
                go_wp2_with fail
                refine (word_ok _ _ _ 80 j _ _ A8 hlt rfl).mono ?_
                rintro z w9 ⟨rfl, rfl⟩
                rw [E1.out]
                go_wp2_with fail
                go_round
                case rel => exact ⟨j + 1, by omega, by go_num⟩
                case measure => simp [intOf]; omega
            · have E1 : Hid (setF f p X j = f j) := Lib.hid (setF_other _ _ _ _ e)
              have d1 : ((8 * (j : Int)) == 8 * (p : Int)) = false := by simp; omega
              go_wp2_with fail
              refine (word_ok _ _ _ 80 j _ _ A8 hlt rfl).mono ?_
              rintro z w9 ⟨rfl, rfl⟩
              rw [E1.out]
              go_wp2_with fail
              go_round
              case rel => exact ⟨j + 1, by omega, by go_num⟩
              case measure => simp [intOf]; omega
          · obtain rfl : j = 80 := by omega
            have c1 := W8.cell (i := p) (by omega)
            have hd : 8 * (p : Int) / 8 = (p : Int) := by omega
            have ho := HO.out
            have ip : (p : Int) < 80 := by omega
            go_wp2
            go_ret
            exact ⟨rfl, B8⟩

set_option maxRecDepth 100000 in
theorem lifted (os : Os) (started : os.Started) (H : Type) (enc : TypeId × Value → H) :
    ReturnsInHanded {} Try.checked os 6 .any (Rows.thingCutsSpec.pre6 enc Try.prog Try.f6 Rows.thingCutsRow.domain false) (Rows.thingCutsSpec.post enc Try.prog Try.f6 false true false false) := by
  refine returnsInHanded_of_change (C := Try.checked) Args.own started (by kernel_rfl) Try.func6
    (ChangeSpec.witness6 (enc := enc) (C := Try.checked) false ⟨#[], #[.slice none 0 0, .int .u8 0], []⟩ 8 (by kernel_rfl) (by kernel_rfl) (by kernel_rfl) (by kernel_rfl)) ?_
  intro W base args ds gs before hval0 hW hcnd _
  have hval : ∀ (j : Nat) t v, Try.f6.params[j]? = some t → args[j]? = some v → Value.okWide Try.prog W .any base t v := hval0
  have hW' := hW
  obtain ⟨p, q, hA0, hV, rfl, hfz, hnd⟩ := hW
  have hA : DataW.TrodAll enc Try.prog W 0 (fun _ => true) true Try.f6.params.toList args.toList ds p := hA0
  rw [Try.params6] at hA hval
  obtain ⟨v0, vs0, d0, ds0, p0, q0, hargs, rfl, rfl, h0, r0⟩ := trodAll_cons hA
  obtain ⟨v1, vs1, d1, ds1, p1, q1, rfl, rfl, rfl, h1, r1⟩ := trodAll_cons r0
  obtain ⟨rfl, rfl, rfl⟩ := trodAll_nil r1
  obtain rfl : args = #[v0, v1] := by cases args; simp_all
  obtain ⟨rfl, rfl⟩ := trodVars_none hV
  have lt0 := Args.trod_below h0
  obtain ⟨lA, ln, lc, lz, rfl, hl⟩ := Args.precs_in (ks := [some .i64, some .i64, some .i64, none, some .i64, some .i64]) (e := 30) (by kernel_rfl) Try.underlying30 (by kernel_rfl) (by kernel_rfl) (by decide) (hval 0 51 v0 rfl rfl) h0
  have lt1 := Args.trod_below h1
  obtain ⟨which, rfl, rfl, rfl, wwhich⟩ := open_int Try.underlying5 (hval 1 5 v1 rfl rfl) h1
  clear hA0 hval0
  refine (walk lA ln lc lz which W hl wwhich).mono fun e W' ⟨he, bel⟩ => ?_
  subst he
  exact ⟨_, rfl, _, _, _, [], _, [], hW', trodAll_mk1 (shut_bool Try.underlying4 _), trodAll_cons_mk (Below.trod Args.laidOut (by kernel_rfl) (of_decide_eq_true (by kernel_rfl)) h0 bel lt0) (trodAll_cons_mk (Below.trod Args.laidOut (by kernel_rfl) (of_decide_eq_true (by kernel_rfl)) h1 bel lt1) (trodAll_mk0)), rfl, bel.frame _, fun h => by cases h⟩

theorem over : Rows.thingCutsRow.holds Try.pinned (OpenSpec.ofChange Rows.thingCutsSpec) :=
  OpenClaim.holds_of_wide 6 Try.f6 rfl rfl rfl rfl rfl rfl rfl ⟨rfl, rfl, rfl, rfl, rfl⟩ rfl rfl rfl rfl rfl (by kernel_rfl) Try.func6 (by kernel_rfl)
    (of_decide_eq_true (by kernel_rfl)) (by unfold Func.isWrapper; rw [if_neg (of_decide_eq_false (by kernel_rfl))]; exact ⟨rfl, rfl⟩)
    (fun os started H enc _ => lifted os started H enc)

theorem proved : Rows.ThingCutsSaid :=
  over
end Go.Proofs.Ytgihoicppeegaaa.thingCuts
