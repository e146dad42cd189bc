/-
  penfoldlaw04.GroundApart returns true for every slice of bytes and every byte, and changes nothing that was there; no condition.
-/
import Derived.Test.YtnekbbdodhokbaaRows
import Derived.Test.YtnekbbdodhokbaaArgs
import Derived.Test.YtnekbbdodhokbaaFifty
import Derived.Deep.DeepCutAuto
namespace Go.Proofs.Ytnekbbdodhokbaa.groundApart
open Go.ChangeShapes Go.WideShapes Go.ChangeAt Go.RowKit
set_option linter.unusedVariables false

open Gr Gm
theorem idx_up {m k f : Nat} : ((k : Int) + (f : Int)) % (m : Int) = ((up m f k : Nat) : Int) := by
  unfold up
  rw [Int.natCast_emod]
  congr 1

set_option maxRecDepth 100000 in
set_option maxHeartbeats 8000000 in
theorem walk (lA : Option Addr) (ln lc : Nat) (lz : Nat → Int) (from_ : Int) (w : World) (hl : Args.Ints .u8 w lA ln lz) (wfrom_ : (Lit.int .u8 from_).wf = true) :
    Calls Try.prog 5 #[.slice lA ln lc, .int .u8 from_] w fun e w' => e = .returned (.bool true) ∧ Below w.heap.size w w' := by
  have ⟨n1, n2⟩ := bounds_u8 wfrom_
  have hln := hl.len
  unfold maxLen at hln
  clear wfrom_
  obtain ⟨f, rfl⟩ : ∃ f : Nat, from_ = (f : Int) := ⟨from_.toNat, by omega⟩
  go_enter Try.func5, Try.ntmps5
  go_wp2_with fail
  refine (shown_any _).mono ?_
  rintro e w1 ⟨rfl, k1⟩
  go_wp2_with fail
  refine (new_at w1 80 400 w1.heap.size (by decide) (by decide) (Nat.le_refl _)).mono ?_
  rintro e w2 ⟨rfl, h2, k2, z2⟩
  have zs := k1.size
  have B2 : Below w.heap.size w w2 := k1.trans (k2.mono k1.size)
  have hg := (h2.other (K' := w2.heap.size) (Nat.le_refl _)).alloc (.cells #[] 40)
  have hh := Hl.start w2 (w1.heap.size + 1) (by omega)
  have hB := B2.alloc (by omega) (.cells #[] 40)
  have z3 : w2.heap.size < (w2.alloc (.cells #[] 40)).heap.size := by simp
  clear h2 B2 k1 k2
  go_upto_region 6 with (fail)
  generalize w2.alloc (.cells #[] 40) = W3 at *
  have A0 : Ap w ((W3.alloc (.cells cs50 43)).setRow W3.heap.size cs50) w1.heap.size w2.heap.size W3.heap.size (.slice (some ⟨w2.heap.size, 0, none⟩) 0 0) (newL 80 400) [] (fun _ => false) 43 :=
    ⟨hg.grown (grown50 W3), hh.kept (grown50 W3) (by simp), row50 W3, hB.grown (grown50 W3) hB.size (fun k e => by cases e), zs, by omega, by omega⟩
  clear hg hh hB
  go_wp2_with (first
    | (refine wpList_b50 (o := ⟨some 40, _, _, _, _, _⟩) rfl rfl ?_)
    | (refine wpList_a50 (o := ⟨some 9, _, _, _, _, _⟩) rfl rfl ?_)
    | (refine wpList_s50 (o := ⟨none, _, _, _, _, _⟩) rfl (.tmp 9) (.tmp 40) rfl rfl rfl ?_))
  generalize (W3.alloc (.cells cs50 43)).setRow W3.heap.size cs50 = W4 at *
  go_loopw [8, 10] (fun v t wr => ∃ (k K : Nat) (L H : List E) (Y : Nat → Bool), k ≤ ln ∧ k ≤ 10 ∧ t = .int .i64 k ∧ Ap w wr w1.heap.size K W3.heap.size v L H Y 43 ∧ Pa L H Y ∧ H.length ≤ k) (fun _ t _ => 10 - (intOf t).toNat)
  case atStart => exact ⟨0, _, _, _, _, by omega, by omega, rfl, A0, Pa.start, Nat.le_refl _⟩
  case round =>
    obtain ⟨k, K, L, H, Y, hk1, hk2, rfl, hA, hP, hH⟩ := hrel
    by_cases hlt : k < ln ∧ k < 10
    · obtain ⟨hk3, hk4⟩ := hlt
      obtain ⟨b, o, rfl, hb, hcell⟩ := hl.at_ k hk3
      have q0 : wr.cell? ⟨b, o + k, none⟩ = some (.int .u8 (lz k)) := (hA.below.cell hb).trans hcell
      have ⟨v0, v0'⟩ := bounds_u8 (hl.wf k)
      clear hcell
      go_wp2_with fail
      refine (a_carve hA hP.inv.ok _ (by omega) (by omega)).mono ?_
      rintro e w4 ⟨rfl, hA4⟩
      obtain ⟨m, hm⟩ : ∃ m : Nat, 8 * (1 + lz k % 12) = 8 * (m : Int) := ⟨(1 + lz k % 12).toNat, by omega⟩
      have hm0 : 0 < m := by omega
      have hm1 : m ≤ 12 := by omega
      cases hb : carveB (8 * (1 + lz k % 12)) L with
      | false =>
        have hF := hP.refused hb
        have hsz := refused_size (by omega) (by omega) hb
        rw [hF] at hA4
        have HSZ := Lib.hid hsz
        have hz1 : 8 ≤ 8 * (1 + lz k % 12) := by omega
        have hz2 : 8 * (1 + lz k % 12) ≤ 96 := by omega
        generalize 8 * (1 + lz k % 12) = z at *
        generalize carveV z L = p at *
        have okl := hP.inv.ok.len
        clear hF hsz hb hm
        go_wp2_with fail
        refine (free_any _ _ _ 80 400 L hA4.gr (by omega)).mono ?_
        rintro e w5 ⟨V, c, rfl, hE, hn, k5⟩
        have hA5 := hA4.bel k5
        go_wp2_with fail
        go_loop [15] (fun t => ∃ j : Nat, j ≤ L.length ∧ t = .int .i64 j) (fun t => L.length - (intOf t).toNat)
        case atStart => exact ⟨0, by omega, rfl⟩
        case round =>
          obtain ⟨j, hj, rfl⟩ := hrel
          by_cases hlt : j < L.length
          · obtain ⟨g, rfl, _, x0, x1⟩ := hE.cell hlt
            have hq := HSZ.out _ (List.getElem_mem hlt)
            have hq' : decide (z ≤ (L[j]).2) = false := decide_eq_false (by omega)
            go_wp2_with fail
            go_round
            case rel => exact ⟨j + 1, by omega, by go_num⟩
            case measure => simp [intOf]; omega
          · go_wp2_with fail
            go_roundw
            case rel => exact ⟨k + 1, K, L, H, Y, by omega, by omega, by go_num, hA5, hP, by omega⟩
            case measure => simp [intOf]; omega
      | true =>
        obtain ⟨u, hu, hum, hno, hPa⟩ := hP.carve hm hm0 hb
        have hz1 : 8 ≤ 8 * (1 + lz k % 12) := by omega
        have hz2 : 8 * (1 + lz k % 12) ≤ 96 := by omega
        have zq : 8 * (1 + lz k % 12) / 8 = (m : Int) := by omega
        generalize 8 * (1 + lz k % 12) = z at *
        have p1 : 80 ≤ carveV z L := by omega
        have p2 : carveV z L + z ≤ 480 := by omega
        have p3 : (carveV z L % 8 != 0) = false := by
          have : carveV z L % 8 = 0 := by omega
          rw [this]; rfl
        have p4 : (carveV z L - 80) / 8 = (u : Int) := by omega
        generalize carveV z L = p at *
        generalize carveF z L = L' at *
        have HNO := Lib.hid hno
        clear hno hu hm hb
        go_wp2_with fail
        go_loopw [16] (fun t wx => ∃ j : Nat, j ≤ m ∧ t = .int .i64 j ∧ Ap w wx w1.heap.size K W3.heap.size u8 L' H (setW Y u j true) 43) (fun t _ => m - (intOf t).toNat)
        case atStart => exact ⟨0, by omega, rfl, by rw [setW_zero]; exact hA4⟩
        case round =>
          obtain ⟨j, hj, rfl, hX⟩ := hrel
          by_cases hlt : j < m
          · have y := hX.us.cell (i := u + j) (by omega)
            have fz := hX.us.frozen (u + j)
            have hy : setW Y u j true (u + j) = false := by
              unfold setW
              rw [if_neg (by omega)]
              exact HNO.out j hlt
            have y' : wr.cell? ⟨W3.heap.size, u + j, none⟩ = some (.bool false) := by rw [y, hy]
            clear y hy
            go_wp2_with fail
            go_roundw
            case rel => exact ⟨j + 1, by omega, by go_num, (hX.mark (by decide) (u + j)).congr fun i _ => setW_step Y u j i true⟩
            case measure => simp [intOf]; omega
          · obtain rfl : j = m := by omega
            obtain ⟨v6, w6, K6, r6, hh6, g6, hk6⟩ := Hl.push _ hX.hl p z (by omega)
            have hA6 := hX.push hh6 g6 hk6
            clear hh6 g6 hk6
            go_wp2_with (at_builtin; refine wpList_run rfl (.tmp 114) (.tmp 118) _ rfl _ _ rfl rfl r6 ?_)
            go_roundw
            case rel => exact ⟨k + 1, K6, L', H ++ [(p, z)], _, by omega, by omega, by go_num, hA6, hPa, by simp; omega⟩
            case measure => simp [intOf]; omega
    · have hfirst : (k < ln ∧ k = 10) ∨ ¬ k < ln := by omega
      go_upto_region 8 with (fail)
      go_cut [48] (fun s48 wx => s48 = .bool false ∧ wr = wx)
      case first =>
        rcases hfirst with ⟨hk3, rfl⟩ | hk3
        all_goals
          clear hlt
          go_wp2_with fail
          go_meet
          exact ⟨rfl, rfl⟩
      case rest =>
        obtain ⟨rfl, rfl⟩ := hcut
        clear hlt hfirst
        obtain ⟨c, rfl⟩ := hA.hl.form
        have us := hA.us
        go_wp2_with fail
        go_loop [17, 18] (fun r t => ∃ j : Nat, j ≤ 50 ∧ t = .int .i64 j ∧ r = .int .i64 (cnt (nots Y) j)) (fun _ t => 50 - (intOf t).toNat)
        case atStart => exact ⟨0, by omega, rfl, rfl⟩
        case round =>
          obtain ⟨j, hj, rfl, rfl⟩ := hrel
          have ⟨b1, b2⟩ := cnt_bd (nots Y) j
          by_cases hlt : j < 50
          · have y := us.cell hlt
            cases hy : Y j with
            | true =>
              rw [hy] at y
              have HC := Lib.hid (show cnt (nots Y) (j + 1) = cnt (nots Y) j by simp [cnt, nots, hy])
              clear hy
              go_wp2_with fail
              go_round
              case rel => exact ⟨j + 1, by omega, by go_num, by rw [HC.out]⟩
              case measure => simp [intOf]; omega
            | false =>
              rw [hy] at y
              have HC := Lib.hid (show cnt (nots Y) (j + 1) = cnt (nots Y) j + 8 by simp [cnt, nots, hy])
              clear hy
              go_wp2_with fail
              go_round
              case rel => exact ⟨j + 1, by omega, by go_num, by rw [HC.out]⟩
              case measure => simp [intOf]; omega
          · obtain rfl : j = 50 := by omega
            have hsum : cnt (nots Y) 50 = sum L := by rw [hP.free, sum_runs]
            have okL := hP.inv.ok
            have okl := okL.len
            rw [hsum] at b1 b2
            rw [hsum]
            clear hsum
            go_wp2_with fail
            refine (free_any _ _ _ 80 400 L hA.gr (by omega)).mono ?_
            rintro e w5 ⟨V, c5, rfl, hE, hn, k5⟩
            have hA5 := hA.bel k5
            clear us
            go_wp2_with fail
            go_loop [17, 20] (fun r t => ∃ j : Nat, j ≤ L.length ∧ t = .int .i64 j ∧ r = .int .i64 (sum L - sum (L.take j))) (fun _ t => L.length - (intOf t).toNat)
            case atStart => exact ⟨0, by omega, rfl, by simp [sum]⟩
            case round =>
              obtain ⟨j, hj, rfl, rfl⟩ := hrel
              have ⟨s1, s2⟩ := sum_take_bd okL j
              by_cases hlt : j < L.length
              · obtain ⟨g, rfl, _, x0, x1⟩ := hE.cell hlt
                obtain ⟨c1, c2, c3, c4, _⟩ := okL.at_ hlt
                have HS := Lib.hid (sum_take hlt)
                generalize sum (L.take j) = sm at *
                go_wp2_with fail
                go_round
                case rel => exact ⟨j + 1, by omega, by go_num, by rw [HS.out]; go_num⟩
                case measure => simp [intOf]; omega
              · obtain rfl : j = L.length := by omega
                have h0 : sum L - sum (L.take L.length) = 0 := by rw [List.take_length]; omega
                rw [h0]
                clear h0 s1 s2
                go_wp2_with fail
                go_loopw [21] (fun t wx => ∃ (i : Nat) (L1 : List E), i ≤ H.length ∧ t = .int .i64 i ∧ Ap w wx w1.heap.size K W3.heap.size (.slice (some ⟨K, 0, none⟩) H.length c) L1 H Y 43 ∧ Gv L H (up H.length f) i L1) (fun t _ => H.length - (intOf t).toNat)
                case atStart => exact ⟨0, L, by omega, rfl, hA5, Gv.start hP.inv⟩
                case round =>
                  obtain ⟨i, L1, hi, rfl, hU, G1⟩ := hrel
                  by_cases hlt : i < H.length
                  · have hd := up_lt (m := H.length) (f := f) (j := i) (by omega)
                    have hix := idx_up (m := H.length) (k := i) (f := f)
                    obtain ⟨e1, s1, e2, s2⟩ := G1.step hP.inv (fun i j h1 h2 e => up_inj h1 h2 e) hlt hd
                    have hx := hP.inv.each _ (List.getElem_mem hd)
                    obtain ⟨x0, x1⟩ := hU.hl.cell hd
                    generalize up H.length f i = d at *
                    generalize H[d] = x at *
                    have E1 := Lib.hid e1
                    have E2 := Lib.hid e2
                    have S1 := Lib.hid s1
                    have S2 := Lib.hid s2
                    clear e1 e2 s1 s2
                    have i1 : (0 : Int) ≤ (d : Int) := by omega
                    have i2 : (d : Int) < (H.length : Int) := by omega
                    have hU1 := hU.bel ((Below.refl _ _).alloc (Nat.le_refl _) (.cells #[.int .i64 x.1, .int .i64 x.2] 40))
                    have bx := Bx.new wr x.1 x.2 40
                    have zB := hU.gr.lt
                    go_wp2_with fail
                    generalize wr.alloc (.cells #[.int .i64 x.1, .int .i64 x.2] 40) = W5 at *
                    refine (a_give hU1 G1.ok x.1 x.2 (by omega) (by omega) (by omega) (by omega)).mono ?_
                    rintro e w7 ⟨rfl, hU7, k7⟩
                    rw [E1.out]
                    have bb := k7.block wr.heap.size bx.lt (fun e => by injection e with e; omega)
                    have d0 : w7.cell? ⟨wr.heap.size, 0, none⟩ = some (.int .i64 x.1) := (World.cell?_of_block (w := W5) (w' := w7) (a := ⟨wr.heap.size, 0, none⟩) bb).trans bx.c0
                    have d1 : w7.cell? ⟨wr.heap.size, 1, none⟩ = some (.int .i64 x.2) := (World.cell?_of_block (w := W5) (w' := w7) (a := ⟨wr.heap.size, 1, none⟩) bb).trans bx.c1
                    clear bb bx hU1
                    go_wp2_with fail
                    refine (a_give hU7 S1.out.ok x.1 x.2 (by omega) (by omega) (by omega) (by omega)).mono ?_
                    rintro e w8 ⟨rfl, hU8, k8⟩
                    rw [E2.out]
                    rw [S2.out] at hU8
                    go_wp2_with fail
                    go_roundw
                    case rel => exact ⟨i + 1, _, by omega, by go_num, hU8, S1.out⟩
                    case measure => simp [intOf]; omega
                  · obtain rfl : i = H.length := by omega
                    have hw := hP.whole G1 (fun i hi => up_sur hi)
                    subst hw
                    go_wp2_with fail
                    refine (free_any _ _ _ 80 400 _ hU.gr (by decide)).mono ?_
                    rintro e w9 ⟨V9, c9, rfl, hE9, hn9, k9⟩
                    obtain ⟨g, rfl, _, x0, x1⟩ := hE9.cell (k := 0) (by decide)
                    go_wp2_with fail
                    go_ret
                    exact ⟨rfl, (hU.bel k9).below⟩

set_option maxRecDepth 100000 in
theorem lifted (os : Os) (started : os.Started) (H : Type) (enc : TypeId × Value → H) :
    ReturnsInHanded {} Try.checked os 5 .any (Rows.groundApartSpec.pre6 enc Try.prog Try.f5 Rows.groundApartRow.domain false) (Rows.groundApartSpec.post enc Try.prog Try.f5 false true false false) := by
  refine returnsInHanded_of_change (C := Try.checked) Args.own started (by kernel_rfl) Try.func5
    (ChangeSpec.witness6 (enc := enc) (C := Try.checked) false ⟨#[], #[.slice none 0 0, .int .u8 0], []⟩ 8 (by kernel_rfl) (by kernel_rfl) (by kernel_rfl) (by kernel_rfl)) ?_
  intro W base args ds gs before hval0 hW hcnd _
  have hval : ∀ (j : Nat) t v, Try.f5.params[j]? = some t → args[j]? = some v → Value.okWide Try.prog W .any base t v := hval0
  have hW' := hW
  obtain ⟨p, q, hA0, hV, rfl, hfz, hnd⟩ := hW
  have hA : DataW.TrodAll enc Try.prog W 0 (fun _ => true) true Try.f5.params.toList args.toList ds p := hA0
  rw [Try.params5] at hA hval
  obtain ⟨v0, vs0, d0, ds0, p0, q0, hargs, rfl, rfl, h0, r0⟩ := trodAll_cons hA
  obtain ⟨v1, vs1, d1, ds1, p1, q1, rfl, rfl, rfl, h1, r1⟩ := trodAll_cons r0
  obtain ⟨rfl, rfl, rfl⟩ := trodAll_nil r1
  obtain rfl : args = #[v0, v1] := by cases args; simp_all
  obtain ⟨rfl, rfl⟩ := trodVars_none hV
  have lt0 := Args.trod_below h0
  obtain ⟨lA, ln, lc, lz, rfl, hl⟩ := Args.ints_in (k := .u8) (e := 5) (by kernel_rfl) (by kernel_rfl) (by kernel_rfl) (hval 0 42 v0 rfl rfl) h0
  have lt1 := Args.trod_below h1
  obtain ⟨from_, rfl, rfl, rfl, wfrom_⟩ := open_int Try.underlying5 (hval 1 5 v1 rfl rfl) h1
  clear hA0 hval0
  refine (walk lA ln lc lz from_ W hl wfrom_).mono fun e W' ⟨he, bel⟩ => ?_
  subst he
  exact ⟨_, rfl, _, _, _, [], _, [], hW', trodAll_mk1 (shut_bool Try.underlying4 _), trodAll_cons_mk (Below.trod Args.laidOut (by kernel_rfl) (of_decide_eq_true (by kernel_rfl)) h0 bel lt0) (trodAll_cons_mk (Below.trod Args.laidOut (by kernel_rfl) (of_decide_eq_true (by kernel_rfl)) h1 bel lt1) (trodAll_mk0)), rfl, bel.frame _, fun h => by cases h⟩

theorem over : Rows.groundApartRow.holds Try.pinned (OpenSpec.ofChange Rows.groundApartSpec) :=
  OpenClaim.holds_of_wide 5 Try.f5 rfl rfl rfl rfl rfl rfl rfl ⟨rfl, rfl, rfl, rfl, rfl⟩ rfl rfl rfl rfl rfl (by kernel_rfl) Try.func5 (by kernel_rfl)
    (of_decide_eq_true (by kernel_rfl)) (by unfold Func.isWrapper; rw [if_neg (of_decide_eq_false (by kernel_rfl))]; exact ⟨rfl, rfl⟩)
    (fun os started H enc _ => lifted os started H enc)

theorem proved : Rows.GroundApartSaid :=
  over
end Go.Proofs.Ytnekbbdodhokbaa.groundApart
