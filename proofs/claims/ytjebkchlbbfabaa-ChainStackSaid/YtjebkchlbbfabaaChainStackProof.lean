/-
  penfoldlaw09.ChainStack returns true for every slice of entries, and changes nothing that was there; no condition.
-/
import Derived.Test.YtjebkchlbbfabaaRows
import Derived.Test.YtjebkchlbbfabaaArgs
import Derived.Test.YtjebkchlbbfabaaChG
import Derived.Test.YtjebkchlbbfabaaSt
import Derived.Deep.DeepCutAuto
namespace Go.Proofs.Ytjebkchlbbfabaa.chainStack
open Go.ChangeShapes Go.WideShapes Go.ChangeAt Go.RowKit
set_option linter.unusedVariables false

open Chain Held
theorem push_e {L : List E} (h : 6 ≤ L.length) : pushE L = 24 := if_pos h
theorem push_l {L : List E} (e : E) (h : 6 ≤ L.length) : pushL L e = [] := if_pos h
theorem pop_e {L : List E} (h : 0 < L.length) : popE L = 0 := if_neg (by omega)
theorem take_snoc {L : List E} {k : Nat} (h : k < L.length) : L.take k ++ [((L[k]).1, (L[k]).2)] = L.take (k + 1) := (List.take_succ_eq_append_getElem h).symm
theorem take_drop {L : List E} {k : Nat} (h : k < L.length) : (L.take (k + 1)).dropLast = L.take k := by
  rw [List.dropLast_eq_take, List.length_take, List.take_take]
  congr 1
  omega
theorem take_last {L : List E} {k : Nat} (h : k < L.length) : lastV (L.take (k + 1)) = L[k] := by
  rw [List.take_succ_eq_append_getElem h, last_snoc]
theorem take_len {L : List E} {k : Nat} (h : k ≤ L.length) : (L.take k).length = k := by rw [List.length_take]; omega

set_option maxRecDepth 100000 in
set_option maxHeartbeats 8000000 in
theorem walk (lA : Option Addr) (ln lc : Nat) (lz : Nat → Nat → Int) (w : World) (hl : Args.PRecs [some .i64, none] w lA ln lz) (hlc : ln ≤ lc ∧ lc ≤ maxLen ∧ (lA = none → lc = 0)) :
    Calls Try.prog 6 #[.slice lA ln lc] w fun e w' => e = .returned (.bool true) ∧ Below w.heap.size w w' := by
  have L0 := came_in hl hlc
  have hln := listOf_len ln lz
  generalize listOf ln lz = L at *
  subst hln
  clear hl
  obtain ⟨lc1, lc2, lc3⟩ := hlc
  have hlen : L.length ≤ 9223372036854775807 := by unfold maxLen at lc2; omega
  clear lc1 lc2 lc3
  go_enter Try.func6, Try.ntmps6
  go_wp2_with fail
  refine (shown_any _).mono ?_
  rintro z w1 ⟨rfl, k1⟩
  have R0 := Rs.start w w1 L k1
  clear k1
  go_wp2_with fail
  go_loopw [4, 5] (fun s t wr => ∃ k n : Nat, k ≤ L.length ∧ k ≤ 10 ∧ t = .int .i64 k ∧ Hid (n = min k 6 + 1) ∧ Rs w wr s L n) (fun _ t _ => 10 - (intOf t).toNat)
  case atStart => exact ⟨0, 1, by omega, by omega, rfl, Lib.hid rfl, R0⟩
  case round =>
    obtain ⟨k, n, hk, hk10, rfl, hn, R⟩ := hrel
    have n0 : 1 ≤ n := by have := hn.out; omega
    have n7 : n ≤ 7 := by have := hn.out; omega
    have nk : n ≤ k + 1 := by have := hn.out; omega
    clear R0
    by_cases hlt : k < L.length ∧ k < 10
    · obtain ⟨hlt, h10⟩ := hlt
      obtain ⟨g, c, rfl, hg0, hg, c1, c2, hcell⟩ := R.at n0
      obtain ⟨m, hm⟩ : ∃ m, m = n - 1 := ⟨_, rfl⟩
      obtain ⟨u, cu, ou⟩ := hcell m (by omega)
      have j1 : (1 : Int) ≤ (n : Int) := by omega
      have j2 : (0 : Int) ≤ (n : Int) - 1 := by omega
      have j3 : (n : Int) - 1 < (n : Int) := by omega
      have j4 : ((n : Int) - 1).toNat = m := by omega
      have j5 : IntKind.i64.wrap ((n : Int) - 1) = (n : Int) - 1 := IntWalk.i64_in _ (by omega)
      have i1 : (k : Int) < (L.length : Int) := by omega
      have HM := Lib.hid hm
      clear hm hcell
      have LS := L0.below R.bel
      obtain ⟨A, cl, e, _, _, _, h4⟩ := id LS
      injection e with e1 e2 e3
      subst e1 e3
      clear e2
      obtain ⟨q, o, rfl, hq, hc⟩ := h4 (by omega)
      obtain ⟨d0, d1⟩ := hc k hlt
      clear hc h4
      have z1 : decide ((k : Int) < (L.length : Int)) = true := decide_eq_true (by omega)
      have z2 : decide ((k : Int) < 10) = true := decide_eq_true (by omega)
      have RD := R.drew
      have OD : Own wr.drew 0 u (L.take m) := ou.drew
      go_wp2_with fail
      by_cases h6 : k < 6
      · have em : Hid (m = k) := Lib.hid (by have := hn.out; have := HM.out; omega)
        have z3 : decide ((6 : Int) ≤ (k : Int)) = false := decide_eq_false (by omega)
        have hml : (L.take m).length < 6 := by have := em.out; rw [take_len (by omega)]; omega
        go_region_held3 (fun w' => w'.cell? ⟨g, m, none⟩ = some u ∧ w'.cell? ⟨q, o + k * 2, none⟩ = some (.int .i64 (L[k]).1) ∧ w'.cell? ⟨q, o + k * 2 + 1, none⟩ = some (.bool (L[k]).2))
          (first | exact ⟨cu, d0, d1⟩ | exact ⟨x0, x1, x2⟩)
          ((go_at_call 10; refine (push_own _ _ (L.take m) _ _ OD.sr hml).mono ?_; rintro z w2 ⟨p, rfl, P2, k2⟩; have x0 := (k2.cell (p := ⟨g, m, none⟩) hg).trans cu; have x1 := (k2.cell (p := ⟨q, o + k * 2, none⟩) hq).trans d0; have x2 := (k2.cell (p := ⟨q, o + k * 2 + 1, none⟩) hq).trans d1))
        have R2 := RD.call k2
        have hN : L.take m ++ [((L[k]).1, (L[k]).2)] = L.take n := by
          have e1 := em.out
          have e2 := hn.out
          subst e1
          rw [take_snoc hlt, show n = m + 1 by omega]
        have P3 : Own w2 0 p (L.take n) := by
          have := P2.zero
          rwa [hN] at this
        have AR : Hid (areaV (L.take n) = (L[k]).1) := Lib.hid (by rw [← hN, area_snoc])
        have l1 : (L.take n).length ≤ k + 1 := by rw [take_len (by omega)]; omega
        have l2 : k + 1 ≤ (L.take n).length := by have := hn.out; rw [take_len (by omega)]; omega
        obtain ⟨N, hNe⟩ : ∃ N, N = L.take n := ⟨_, rfl⟩
        rw [← hNe] at P3 AR l1 l2
        have HNe := Lib.hid hNe
        have hqw : q < w2.heap.size := Nat.lt_of_lt_of_le hq k2.size
        clear hNe hN P2 k2 R RD OD ou cu d0 d1 x0 x2 LS
        have hS := P3.sr
        obtain ⟨A2, c3, e, hsh⟩ := id hS
        subst e
        clear hsh
        have z4 : ((N.length : Int) != (k : Int) + 1) = false := by
          have : (N.length : Int) = (k : Int) + 1 := by omega
          rw [this]; simp
        have z4' : ((N.length : Int) == (k : Int) + 1) = true := by
          have : (N.length : Int) = (k : Int) + 1 := by omega
          rw [this]; simp
        have j6 : IntKind.i64.wrap ((k : Int) + 1) = (k : Int) + 1 := IntWalk.i64_in _ (by omega)
        have z5 : ((L[k]).1 != (L[k]).1) = false := by simp
        have hSd := hS.drew
        have R2d := R2.drew
        have P3d : Own w2.drew 0 (.slice A2 N.length c3) N := P3.drew
        go_wp2_with fail
        go_region_held3 (fun w' => w'.cell? ⟨q, o + k * 2, none⟩ = some (.int .i64 (L[k]).1)) (exact x1)
          ((go_at_call 15; refine (area_any _ _ N hSd).mono ?_; rintro z w3 ⟨rfl, rfl⟩; rw [AR.out]))
        have HU : Own w2.drew 0 (.slice A2 N.length c3) (L.take n) := by rw [← HNe.out]; exact P3d
        have nn : Hid (n + 1 = min (k + 1) 6 + 1) := Lib.hid (by have := hn.out; omega)
        clear hS hSd R2 P3 P3d HNe z4 z4' l1 l2
        go_wp2_with (
          refine wpList_rows rfl (.tmp 71) (.tmp 73) rfl rfl rfl rfl rfl (R2d.call (below_one _ _)) (HU.below (below_one _ _)) rfl (by omega) (by simp [go_sem]) ?_
          intro v' w' R')
        go_roundw
        case rel => exact ⟨k + 1, n + 1, by omega, by omega, by go_num, nn, R'⟩
        case measure => simp [intOf]; omega
      · have em : Hid (m = 6) := Lib.hid (by have := hn.out; have := HM.out; omega)
        have z3 : decide ((6 : Int) ≤ (k : Int)) = true := decide_eq_true (by omega)
        have hml : 6 ≤ (L.take m).length := by have := em.out; rw [take_len (by omega)]; omega
        have E1 := Lib.hid (push_e hml)
        have E2 := Lib.hid (push_l ((L[k]).1, (L[k]).2) hml)
        go_region_held3 (fun w' => w'.cell? ⟨g, m, none⟩ = some u ∧ w'.cell? ⟨q, o + k * 2, none⟩ = some (.int .i64 (L[k]).1) ∧ w'.cell? ⟨q, o + k * 2 + 1, none⟩ = some (.bool (L[k]).2))
          (first | exact ⟨cu, d0, d1⟩ | exact ⟨x0, x1, x2⟩)
          ((go_at_call 10; refine (push_any _ _ (L.take m) _ _ OD.sr).mono ?_; rintro z w2 ⟨p, rfl, P2, k2⟩; rw [E1.out]; have x0 := (k2.cell (p := ⟨g, m, none⟩) hg).trans cu; have x1 := (k2.cell (p := ⟨q, o + k * 2, none⟩) hq).trans d0; have x2 := (k2.cell (p := ⟨q, o + k * 2 + 1, none⟩) hq).trans d1))
        rw [E2.out] at P2
        obtain ⟨A2, c3, e, hsh⟩ := P2
        subst e
        have R2 := RD.call k2
        have nn : Hid (n = min (k + 1) 6 + 1) := Lib.hid (by have := hn.out; omega)
        clear hsh k2 R RD OD ou cu d0 d1 x0 x1 x2 LS
        go_wp2_with fail
        go_roundw
        case rel => exact ⟨k + 1, n, by omega, by omega, by go_num, nn, R2⟩
        case measure => simp [intOf]; omega
    · go_upto_region 4 with (fail)
      go_cut [26] (fun s wx => s = .bool false ∧ wr = wx)
      case first =>
        by_cases h1 : k < L.length
        · have z1 : decide ((k : Int) < (L.length : Int)) = true := decide_eq_true (by omega)
          have z2 : decide ((k : Int) < 10) = false := decide_eq_false (by omega)
          go_wp2_with fail
          go_meet
          exact ⟨rfl, rfl⟩
        · have z1 : decide ((k : Int) < (L.length : Int)) = false := decide_eq_false (by omega)
          go_wp2_with fail
          go_meet
          exact ⟨rfl, rfl⟩
      case rest =>
        obtain ⟨rfl, rfl⟩ := hcut
        clear hlt
        obtain ⟨g, c, rfl, hg0, hg, c1, c2, hcell⟩ := R.at n0
        obtain ⟨m, hm⟩ : ∃ m, m = n - 1 := ⟨_, rfl⟩
        obtain ⟨u, cu, ou⟩ := hcell m (by omega)
        have j1 : (1 : Int) ≤ (n : Int) := by omega
        have j2 : (0 : Int) ≤ (n : Int) - 1 := by omega
        have j3 : (n : Int) - 1 < (n : Int) := by omega
        have j4 : ((n : Int) - 1).toNat = m := by omega
        have j5 : IntKind.i64.wrap ((n : Int) - 1) = (n : Int) - 1 := IntWalk.i64_in _ (by omega)
        have HM := Lib.hid hm
        clear hm hcell
        go_wp2_with fail
        go_loopw [8, 9] (fun s t wx => ∃ i : Nat, i < n ∧ t = .int .i64 i ∧ Sr wx s (L.take i) ∧ Rs w wx (.slice (some ⟨g, 0, none⟩) n c) L n) (fun _ t _ => (intOf t).toNat)
        case atStart => exact ⟨m, by have := HM.out; omega, by have := HM.out; congr 1; omega, ou.sr, R⟩
        case round =>
          clear cu ou R j1 j2 j3 j4 j5 HM hg
          obtain ⟨i, hi, rfl, T, R⟩ := hrel
          by_cases h0 : 0 < i
          · obtain ⟨j, rfl⟩ : ∃ j, i = j + 1 := ⟨i - 1, by omega⟩
            have hj : j < L.length := by omega
            have E1 : Hid ((L.take (j + 1)).dropLast = L.take j) := Lib.hid (take_drop hj)
            have E2 : Hid (lastV (L.take (j + 1)) = L[j]) := Lib.hid (take_last hj)
            have E3 : Hid (popE (L.take (j + 1)) = 0) := Lib.hid (pop_e (by rw [take_len (by omega)]; omega))
            have hr : ∀ W, (Op.equalIn 10000 25 (.agg #[.int .i64 (L[j]).1, .bool (L[j]).2]) (.agg #[.int .i64 (L[j]).1, .bool (L[j]).2])).run Try.prog W = .ok true W := fun W => by
              rw [run_eq]; simp [eqB]
            have z1 : decide ((0 : Int) < (j : Int) + 1) = true := decide_eq_true (by omega)
            clear h0
            go_wp2_with fail
            refine (pop_any _ _ _ T (by rw [take_len (by omega)]; omega)).mono ?_
            rintro z w3 ⟨p, rfl, P3, k3⟩
            rw [E1.out] at P3
            rw [E2.out, E3.out]
            have R3 := (R.call k3).call (below_one _ (.cells #[.int .i64 (L[j]).1, .bool (L[j]).2] 25))
            have P3' := P3.alloc (.cells #[.int .i64 (L[j]).1, .bool (L[j]).2] 25)
            have y0 : (w3.alloc (.cells #[.int .i64 (L[j]).1, .bool (L[j]).2] 25)).cell? ⟨w3.heap.size, 0, none⟩ = some (.int .i64 (L[j]).1) := by simp [go_sem]
            have y1 : (w3.alloc (.cells #[.int .i64 (L[j]).1, .bool (L[j]).2] 25)).cell? ⟨w3.heap.size, 1, none⟩ = some (.bool (L[j]).2) := by simp [go_sem]
            have yl : w3.heap.size < (w3.alloc (.cells #[.int .i64 (L[j]).1, .bool (L[j]).2] 25)).heap.size := by simp
            clear R T P3 k3 E1 E2 E3
            obtain ⟨_, _, e, _, hg, _, _, hcell⟩ := R3.at n0
            injection e with e1 _ e3
            injection e1 with e1
            injection e1 with e1
            subst e1 e3
            obtain ⟨u2, cu, ou⟩ := hcell j (by omega)
            clear hcell
            have i1 : (j : Int) < (n : Int) := by omega
            have i2 : (j : Int) < (L.length : Int) := by omega
            have HS : Hid (sameB (L.take j) (L.take j) = true) := Lib.hid (same_refl _)
            go_wp2_with fail
            refine (same_any _ _ _ _ _ P3' ou.sr).mono ?_
            rintro z w4 ⟨rfl, k4⟩
            rw [HS.out]
            have R4 := R3.call k4
            have P4 := P3'.below k4
            have q0 := (k4.cell (p := ⟨w3.heap.size, 0, none⟩) yl).trans y0
            have q1 := (k4.cell (p := ⟨w3.heap.size, 1, none⟩) yl).trans y1
            clear R3 P3' k4 y0 y1 cu ou HS
            have LS := L0.below R4.bel
            obtain ⟨A, cl, e, _, _, _, h4⟩ := id LS
            injection e with e1 e2 e3
            subst e1 e3
            clear e2
            obtain ⟨q, o, rfl, hq, hc⟩ := h4 (by omega)
            obtain ⟨d0, d1⟩ := hc j hj
            clear hc h4 LS
            go_wp2_with fail
            go_quiet (fail)
            go_wp2
            refine ⟨⟨j, by omega, rfl, P4.below (below_drewN (Below.refl _ _) _), R4.call (below_drewN (Below.refl _ _) _)⟩, ?_⟩
            simp [intOf]
          · obtain rfl : i = 0 := by omega
            have E3 : Hid (popE (L.take 0) = 23) := Lib.hid rfl
            have E4 : Hid (areaV (L.take 0) = 0) := Lib.hid rfl
            have E5 : Hid (lastV (L.take 0) = (0, false)) := Lib.hid rfl
            have z1 : decide ((0 : Int) < 0) = false := by decide
            go_wp2_with fail
            refine (pop_any _ _ _ T (by simp)).mono ?_
            rintro z w3 ⟨p, rfl, P3, k3⟩
            rw [E3.out, E5.out]
            have R3 := (R.call k3).call (below_one _ (.cells #[.int .i64 0, .bool false] 25))
            have T3 := (T.below k3).alloc (.cells #[.int .i64 0, .bool false] 25)
            go_wp2_with fail
            refine (area_any _ _ _ T3).mono ?_
            rintro z w4 ⟨rfl, rfl⟩
            rw [E4.out]
            go_wp2
            go_ret
            exact ⟨rfl, R3.bel⟩

set_option maxRecDepth 100000 in
theorem lifted (os : Os) (started : os.Started) (H : Type) (enc : TypeId × Value → H) :
    ReturnsInHanded {} Try.checked os 6 .any (Rows.chainStackSpec.pre6 enc Try.prog Try.f6 Rows.chainStackRow.domain false) (Rows.chainStackSpec.post enc Try.prog Try.f6 false true false false) := by
  refine returnsInHanded_of_change (C := Try.checked) Args.own started (by kernel_rfl) Try.func6
    (ChangeSpec.witness6 (enc := enc) (C := Try.checked) false ⟨#[], #[.slice none 0 0], []⟩ 8 (by kernel_rfl) (by kernel_rfl) (by kernel_rfl) (by kernel_rfl)) ?_
  intro W base args ds gs before hval0 hW hcnd _
  have hval : ∀ (j : Nat) t v, Try.f6.params[j]? = some t → args[j]? = some v → Value.okWide Try.prog W .any base t v := hval0
  have hW' := hW
  obtain ⟨p, q, hA0, hV, rfl, hfz, hnd⟩ := hW
  have hA : DataW.TrodAll enc Try.prog W 0 (fun _ => true) true Try.f6.params.toList args.toList ds p := hA0
  rw [Try.params6] at hA hval
  obtain ⟨v0, vs0, d0, ds0, p0, q0, hargs, rfl, rfl, h0, r0⟩ := trodAll_cons hA
  obtain ⟨rfl, rfl, rfl⟩ := trodAll_nil r0
  obtain rfl : args = #[v0] := by cases args; simp_all
  obtain ⟨rfl, rfl⟩ := trodVars_none hV
  have lt0 := Args.trod_below h0
  obtain ⟨lA, ln, lc, lz, rfl, hl, hlc⟩ := Args.precs_cap (ks := [some .i64, none]) (e := 25) (by kernel_rfl) Try.underlying25 (by kernel_rfl) (by kernel_rfl) (by decide) (hval 0 22 v0 rfl rfl) h0
  clear hA0 hval0
  refine (walk lA ln lc lz W hl hlc).mono fun e W' ⟨he, bel⟩ => ?_
  subst he
  exact ⟨_, rfl, _, _, _, [], _, [], hW', trodAll_mk1 (shut_bool Try.underlying4 _), trodAll_cons_mk (Below.trod Args.laidOut (by kernel_rfl) (of_decide_eq_true (by kernel_rfl)) h0 bel lt0) (trodAll_mk0), rfl, bel.frame _, fun h => by cases h⟩

theorem over : Rows.chainStackRow.holds Try.pinned (OpenSpec.ofChange Rows.chainStackSpec) :=
  OpenClaim.holds_of_wide 6 Try.f6 rfl rfl rfl rfl rfl rfl rfl ⟨rfl, rfl, rfl, rfl, rfl⟩ rfl rfl rfl rfl rfl (by kernel_rfl) Try.func6 (by kernel_rfl)
    (of_decide_eq_true (by kernel_rfl)) (by unfold Func.isWrapper; rw [if_neg (of_decide_eq_false (by kernel_rfl))]; exact ⟨rfl, rfl⟩)
    (fun os started H enc _ => lifted os started H enc)

theorem proved : Rows.ChainStackSaid :=
  over
end Go.Proofs.Ytjebkchlbbfabaa.chainStack
