/-
  penfoldlaw04.GroundTurns returns true for every slice of bytes, every number of 16 bits and every byte, and changes nothing that was there; no condition.
-/
import Derived.Test.YtnekbbdodhokbaaRows
import Derived.Test.YtnekbbdodhokbaaArgs
import Derived.Test.YtnekbbdodhokbaaTurnB
import Derived.Deep.DeepCutAuto
namespace Go.Proofs.Ytnekbbdodhokbaa.groundTurns
open Go.ChangeShapes Go.WideShapes Go.ChangeAt Go.RowKit
set_option linter.unusedVariables false

open Gr Gm
theorem idx_down {m k f : Nat} (hk : k < m) : ((m : Int) - 1 - (k : Int) + (f : Int)) % (m : Int) = ((down m f k : Nat) : Int) := by
  unfold down
  rw [Int.natCast_emod]
  congr 1
  omega

set_option maxRecDepth 100000 in
set_option maxHeartbeats 8000000 in
theorem walk (lA : Option Addr) (ln lc : Nat) (lz : Nat → Int) (which : Int) (from_ : Int) (w : World) (hl : Args.Ints .u8 w lA ln lz) (wwhich : (Lit.int .u16 which).wf = true) (wfrom_ : (Lit.int .u8 from_).wf = true) :
    Calls Try.prog 8 #[.slice lA ln lc, .int .u16 which, .int .u8 from_] w fun e w' => e = .returned (.bool true) ∧ Below w.heap.size w w' := by
  have ⟨a1, a2⟩ := bounds_u16 wwhich
  have ⟨n1, n2⟩ := bounds_u8 wfrom_
  have hln := hl.len
  unfold maxLen at hln
  clear wwhich wfrom_
  obtain ⟨f, rfl⟩ : ∃ f : Nat, from_ = (f : Int) := ⟨from_.toNat, by omega⟩
  have ok0 : Ok 80 400 (newL 80 400) := ok_new (by decide) (by decide)
  go_enter Try.func8, Try.ntmps8
  go_wp2_with fail
  refine (shown_any _).mono ?_
  rintro e w1 ⟨rfl, k1⟩
  go_wp2_with fail
  refine (new_at w1 80 400 w1.heap.size (by decide) (by decide) (Nat.le_refl _)).mono ?_
  rintro e w2 ⟨rfl, h2, k2, z2⟩
  go_wp2_with fail
  refine (new_at w2 80 400 w2.heap.size (by decide) (by decide) (Nat.le_refl _)).mono ?_
  rintro e w3 ⟨rfl, h3, k3, z3⟩
  have zs := k1.size
  have B3 : Below w.heap.size w w3 := (k1.trans (k2.mono k1.size)).trans (k3.mono (by omega))
  have T0 : Tu w w3 w1.heap.size w2.heap.size w3.heap.size (.slice (some ⟨w3.heap.size, 0, none⟩) 0 0) (newL 80 400) (newL 80 400) [] → True := fun _ => trivial
  have hg1 := (h2.below k3).other (K' := w3.heap.size) (Nat.le_refl _)
  have hg2 := h3.other (K' := w3.heap.size) (Nat.le_refl _)
  have T1 : Tu w (w3.alloc (.cells #[] 40)) w1.heap.size w2.heap.size w3.heap.size (.slice (some ⟨w3.heap.size, 0, none⟩) 0 0) (newL 80 400) (newL 80 400) [] :=
    ⟨hg1.alloc _, hg2.alloc _, Hl.start w3 (w2.heap.size + 1) (by omega), B3.alloc (by omega) _, zs, z2⟩
  clear T0 hg1 hg2 h2 h3 k1 k2 k3 B3
  go_wp2_with fail
  generalize w3.alloc (.cells #[] 40) = W3 at *
  go_loopw [12, 13] (fun v t wr => ∃ (k K : Nat) (L H : List E), k ≤ ln ∧ k ≤ 10 ∧ t = .int .i64 k ∧ Tu w wr w1.heap.size w2.heap.size K v L L H ∧ Inv L H ∧ H.length ≤ k) (fun _ t _ => 10 - (intOf t).toNat)
  case atStart => exact ⟨0, _, _, _, by omega, by omega, rfl, T1, Inv.start ok0, Nat.le_refl _⟩
  case round =>
    obtain ⟨k, K, L, H, hk1, hk2, rfl, hT, hI, hH⟩ := hrel
    by_cases hlt : k < ln ∧ k < 10
    · obtain ⟨hk3, hk4⟩ := hlt
      obtain ⟨b, o, rfl, hb, hcell⟩ := hl.at_ k hk3
      have q0 : wr.cell? ⟨b, o + k, none⟩ = some (.int .u8 (lz k)) := (hT.below.cell hb).trans hcell
      have ⟨v0, v0'⟩ := bounds_u8 (hl.wf k)
      clear hcell
      go_wp2_with fail
      refine (t_carve1 hT hI.ok _ (by omega) (by omega)).mono ?_
      rintro e w4 ⟨rfl, hT4⟩
      go_wp2_with fail
      refine (t_carve2 hT4 hI.ok _ (by omega) (by omega)).mono ?_
      rintro e w5 ⟨rfl, hT5⟩
      have HI := Lib.hid (hI.carve (8 * (1 + lz k % 12)))
      have hz1 : 0 ≤ 8 * (1 + lz k % 12) := by omega
      have hz2 : 8 * (1 + lz k % 12) ≤ 96 := by omega
      generalize 8 * (1 + lz k % 12) = z at *
      generalize carveF z L = L' at *
      generalize carveV z L = p at *
      cases hb : carveB z L with
      | false =>
        rw [hb] at HI
        clear hb
        go_wp2_with fail
        go_roundw
        case rel => exact ⟨k + 1, K, L', H, by omega, by omega, by go_num, hT5, HI.out.1, by omega⟩
        case measure => simp [intOf]; omega
      | true =>
        rw [hb] at HI
        clear hb
        have HI2 := Lib.hid (HI.out.2 rfl)
        have HI1 := Lib.hid HI.out.1
        clear HI
        obtain ⟨v6, w6, K6, r6, hh6, g6, hk6⟩ := Hl.push w5 hT5.hl p z (by omega)
        have hT6 := hT5.push hh6 g6 hk6
        clear hh6 g6 hk6
        go_wp2_with (at_builtin; refine wpList_run rfl (.tmp 96) (.tmp 100) _ rfl _ _ rfl rfl r6 ?_)
        · go_roundw
          case rel => exact ⟨k + 1, K6, L', H ++ [(p, z)], by omega, by omega, by go_num, hT6, HI2.out, by simp; omega⟩
          case measure => simp [intOf]; omega
        · go_roundw
          case rel => exact ⟨k + 1, K, L', H, by omega, by omega, by go_num, hT5, HI1.out, by omega⟩
          case measure => simp [intOf]; omega
    · have hfirst : (k < ln ∧ k = 10) ∨ ¬ k < ln := by omega
      go_upto_region 8 with (fail)
      go_cut [57] (fun s57 wx => s57 = .bool false ∧ wr = wx)
      case first =>
        rcases hfirst with ⟨hk3, rfl⟩ | hk3
        all_goals
          clear hlt
          go_wp2_with fail
          go_meet
          exact ⟨rfl, rfl⟩
      case rest =>
        obtain ⟨rfl, rfl⟩ := hcut
        clear hlt hfirst
        obtain ⟨c, rfl⟩ := hT.hl.form
        go_wp2_with fail
        go_loopw [19] (fun t wr => ∃ (k : Nat) (L1 L2 : List E), k ≤ H.length ∧ t = .int .i64 k ∧ Tu w wr w1.heap.size w2.heap.size K (.slice (some ⟨K, 0, none⟩) H.length c) L1 L2 H ∧ Gv L H id k L1 ∧ Gv L H (down H.length f) k L2) (fun t _ => H.length - (intOf t).toNat)
        case atStart => exact ⟨0, L, L, by omega, rfl, hT, Gv.start hI, Gv.start hI⟩
        case round =>
          obtain ⟨j, L1, L2, hj, rfl, hU, G1, G2⟩ := hrel
          by_cases hlt : j < H.length
          · have hd := down_lt (m := H.length) (f := f) (j := j) (by omega)
            have hix := idx_down (f := f) hlt
            obtain ⟨e1, s1, _, _⟩ := G1.step hI (fun i j _ _ e => e) hlt hlt
            obtain ⟨e2, s2, _, _⟩ := G2.step hI (fun i j h1 h2 e => down_inj h1 h2 e) hlt hd
            have hx := hI.each _ (List.getElem_mem hlt)
            have hy := hI.each _ (List.getElem_mem hd)
            obtain ⟨x0, x1⟩ := hU.hl.cell hlt
            obtain ⟨y0, y1⟩ := hU.hl.cell hd
            have E1 : Hid (giveE 80 400 L1 (H[j]).1 (H[j]).2 = 0) := Lib.hid e1
            have E2 : Hid (giveE 80 400 L2 (H[down H.length f j]).1 (H[down H.length f j]).2 = 0) := Lib.hid e2
            have S1 : Hid (Gv L H id (j + 1) (giveF 80 400 L1 (H[j]).1 (H[j]).2)) := Lib.hid s1
            have S2 : Hid (Gv L H (down H.length f) (j + 1) (giveF 80 400 L2 (H[down H.length f j]).1 (H[down H.length f j]).2)) := Lib.hid s2
            generalize down H.length f j = d at *
            generalize H[j] = x at *
            generalize H[d] = y at *
            clear e1 e2 s1 s2
            have i1 : (0 : Int) ≤ (d : Int) := by omega
            have i2 : (d : Int) < (H.length : Int) := by omega
            have hU1 := hU.bel ((Below.refl _ _).alloc (Nat.le_refl _) (.cells #[.int .i64 x.1, .int .i64 x.2] 40))
            have y0' := cell_alloc y0 (.cells #[.int .i64 x.1, .int .i64 x.2] 40)
            have y1' := cell_alloc y1 (.cells #[.int .i64 x.1, .int .i64 x.2] 40)
            have bx := Bx.new wr x.1 x.2 40
            go_wp2_with fail
            have hU2 := hU1.bel ((Below.refl _ _).alloc (Nat.le_refl _) (.cells #[.int .i64 y.1, .int .i64 y.2] 40))
            have by_ := Bx.new (wr.alloc (.cells #[.int .i64 x.1, .int .i64 x.2] 40)) y.1 y.2 40
            rw [World.size_alloc] at by_
            have zB := hU.g2.lt
            have zb1 := hU.b1
            generalize (wr.alloc (.cells #[.int .i64 x.1, .int .i64 x.2] 40)).alloc (.cells #[.int .i64 y.1, .int .i64 y.2] 40) = W5 at *
            refine (t_give1 hU2 G1.ok x.1 x.2 (by omega) (by omega) (by omega) (by omega)).mono ?_
            rintro e w7 ⟨rfl, hU7, k7⟩
            rw [E1.out]
            have bb := k7.block (wr.heap.size + 1) by_.lt (fun e => by injection e with e; omega)
            have d0 : w7.cell? ⟨wr.heap.size + 1, 0, none⟩ = some (.int .i64 y.1) := (World.cell?_of_block (w := W5) (w' := w7) (a := ⟨wr.heap.size + 1, 0, none⟩) bb).trans by_.c0
            have d1 : w7.cell? ⟨wr.heap.size + 1, 1, none⟩ = some (.int .i64 y.2) := (World.cell?_of_block (w := W5) (w' := w7) (a := ⟨wr.heap.size + 1, 1, none⟩) bb).trans by_.c1
            clear bb by_ bx y0' y1' hU1 hU2
            go_wp2_with fail
            refine (t_give2 hU7 G2.ok y.1 y.2 (by omega) (by omega) (by omega) (by omega)).mono ?_
            rintro e w8 ⟨rfl, hU8, k8⟩
            rw [E2.out]
            go_wp2_with fail
            go_roundw
            case rel => exact ⟨j + 1, _, _, by omega, by go_num, hU8, S1.out, S2.out⟩
            case measure => simp [intOf]; omega
          · obtain rfl : j = H.length := by omega
            have e12 : L1 = L2 := G1.all G2 (fun i hi => ⟨i, hi, rfl⟩) (fun i hi => down_sur hi)
            subst e12
            have okl := G1.ok.len
            go_wp2_with fail
            refine (free_any _ _ _ 80 400 L1 hU.g1 (by omega)).mono ?_
            rintro e W8 ⟨V, c1, rfl, hE, hn, k8⟩
            have hU8 := hU.bel k8
            go_wp2_with fail
            refine (free_any _ _ _ 80 400 L1 hU8.g2 (by omega)).mono ?_
            rintro e W9 ⟨V', c2, rfl, hE', hn', k9⟩
            go_wp2_with fail
            refine (same_yes W9 V V' c1 c2 _ (hE.below k9) hE' (by omega)).mono ?_
            rintro e W10 ⟨rfl, k10⟩
            go_wp2_with fail
            go_ret
            exact ⟨rfl, ((hU8.bel k9).bel k10).below⟩

set_option maxRecDepth 100000 in
theorem lifted (os : Os) (started : os.Started) (H : Type) (enc : TypeId × Value → H) :
    ReturnsInHanded {} Try.checked os 8 .any (Rows.groundTurnsSpec.pre6 enc Try.prog Try.f8 Rows.groundTurnsRow.domain false) (Rows.groundTurnsSpec.post enc Try.prog Try.f8 false true false false) := by
  refine returnsInHanded_of_change (C := Try.checked) Args.own started (by kernel_rfl) Try.func8
    (ChangeSpec.witness6 (enc := enc) (C := Try.checked) false ⟨#[], #[.slice none 0 0, .int .u16 0, .int .u8 0], []⟩ 8 (by kernel_rfl) (by kernel_rfl) (by kernel_rfl) (by kernel_rfl)) ?_
  intro W base args ds gs before hval0 hW hcnd _
  have hval : ∀ (j : Nat) t v, Try.f8.params[j]? = some t → args[j]? = some v → Value.okWide Try.prog W .any base t v := hval0
  have hW' := hW
  obtain ⟨p, q, hA0, hV, rfl, hfz, hnd⟩ := hW
  have hA : DataW.TrodAll enc Try.prog W 0 (fun _ => true) true Try.f8.params.toList args.toList ds p := hA0
  rw [Try.params8] at hA hval
  obtain ⟨v0, vs0, d0, ds0, p0, q0, hargs, rfl, rfl, h0, r0⟩ := trodAll_cons hA
  obtain ⟨v1, vs1, d1, ds1, p1, q1, rfl, rfl, rfl, h1, r1⟩ := trodAll_cons r0
  obtain ⟨v2, vs2, d2, ds2, p2, q2, rfl, rfl, rfl, h2, r2⟩ := trodAll_cons r1
  obtain ⟨rfl, rfl, rfl⟩ := trodAll_nil r2
  obtain rfl : args = #[v0, v1, v2] := by cases args; simp_all
  obtain ⟨rfl, rfl⟩ := trodVars_none hV
  have lt0 := Args.trod_below h0
  obtain ⟨lA, ln, lc, lz, rfl, hl⟩ := Args.ints_in (k := .u8) (e := 5) (by kernel_rfl) (by kernel_rfl) (by kernel_rfl) (hval 0 42 v0 rfl rfl) h0
  have lt1 := Args.trod_below h1
  obtain ⟨which, rfl, rfl, rfl, wwhich⟩ := open_int Try.underlying47 (hval 1 47 v1 rfl rfl) h1
  have lt2 := Args.trod_below h2
  obtain ⟨from_, rfl, rfl, rfl, wfrom_⟩ := open_int Try.underlying5 (hval 2 5 v2 rfl rfl) h2
  clear hA0 hval0
  refine (walk lA ln lc lz which from_ W hl wwhich wfrom_).mono fun e W' ⟨he, bel⟩ => ?_
  subst he
  exact ⟨_, rfl, _, _, _, [], _, [], hW', trodAll_mk1 (shut_bool Try.underlying4 _), trodAll_cons_mk (Below.trod Args.laidOut (by kernel_rfl) (of_decide_eq_true (by kernel_rfl)) h0 bel lt0) (trodAll_cons_mk (Below.trod Args.laidOut (by kernel_rfl) (of_decide_eq_true (by kernel_rfl)) h1 bel lt1) (trodAll_cons_mk (Below.trod Args.laidOut (by kernel_rfl) (of_decide_eq_true (by kernel_rfl)) h2 bel lt2) (trodAll_mk0))), rfl, bel.frame _, fun h => by cases h⟩

theorem over : Rows.groundTurnsRow.holds Try.pinned (OpenSpec.ofChange Rows.groundTurnsSpec) :=
  OpenClaim.holds_of_wide 8 Try.f8 rfl rfl rfl rfl rfl rfl rfl ⟨rfl, rfl, rfl, rfl, rfl⟩ rfl rfl rfl rfl rfl (by kernel_rfl) Try.func8 (by kernel_rfl)
    (of_decide_eq_true (by kernel_rfl)) (by unfold Func.isWrapper; rw [if_neg (of_decide_eq_false (by kernel_rfl))]; exact ⟨rfl, rfl⟩)
    (fun os started H enc _ => lifted os started H enc)

theorem proved : Rows.GroundTurnsSaid :=
  over
end Go.Proofs.Ytnekbbdodhokbaa.groundTurns
