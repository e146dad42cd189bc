/-
  penfoldlaw02.ArenaClaims returns true for every slice of bytes and every byte, and changes nothing that was there; no condition.
-/
import Derived.Test.YtpaioclagnmblaaRows
import Derived.Test.YtpaioclagnmblaaArgs
import Derived.Test.YtpaioclagnmblaaShown
namespace Go.Proofs.Ytpaioclagnmblaa.arenaClaims
open Go.ChangeShapes Go.WideShapes Go.ChangeAt Go.RowKit
set_option linter.unusedVariables false

open Arena Mem

set_option maxRecDepth 100000 in
set_option maxHeartbeats 8000000 in
theorem walk (lA : Option Addr) (ln lc : Nat) (lz : Nat → Int) (most : Int) (w : World) (hl : Args.Ints .u8 w lA ln lz) (wmost : (Lit.int .u8 most).wf = true) :
    Calls Try.prog 6 #[.slice lA ln lc, .int .u8 most] w fun e w' => e = .returned (.bool true) ∧ Below w.heap.size w w' := by
  have ⟨m1, m2⟩ := bounds_u8 wmost
  have hln := hl.len
  unfold maxLen at hln
  have hm8 : most % 61 * 8 ≤ 480 := by omega
  have hm9 : 0 ≤ most % 61 * 8 := by omega
  clear wmost
  go_enter Try.func6, Try.ntmps6
  go_wp2_with (go_at_call 10; refine (shown_any _).mono ?_; rintro e w1 ⟨rfl, k1⟩)
  refine (new_at _ _ 80 rfl (by omega)).mono ?_
  rintro e w2 ⟨rfl, h2, k2, z2⟩
  have Z2 := Lib.hid z2
  clear z2
  go_wp2_with fail
  have hs : w.heap.size ≤ w1.heap.size := k1.size
  go_loopw [9, 10] (fun u t wr => ∃ (k : Nat) (f : Nat → Int), k ≤ ln ∧ k ≤ 10 ∧ t = .int .i64 k ∧ u = .int .u64 (f 0) ∧ f 0 % 8 = 0 ∧ f 0 ≤ most % 61 * 8 ∧ Ar wr (w1.heap.size + 1) w1.heap.size 80 f ∧ Below w.heap.size w wr ∧ w.heap.size ≤ wr.heap.size) (fun _ t _ => 10 - (intOf t).toNat)
  case atStart => exact ⟨0, fun _ => 0, by omega, by omega, rfl, rfl, rfl, by simpa using hm9, h2, k1.trans (k2.mono k1.size), by have := Z2.out; omega⟩
  case round =>
    obtain ⟨k, f, hk1, hk2, rfl, rfl, hf8, hfm, hA, hB, hz⟩ := hrel
    have hf0 := (hA.fit 0).1
    by_cases hlt : k < ln ∧ k < 10
    · obtain ⟨hk3, hk4⟩ := hlt
      obtain ⟨b, o, rfl, hb, hcell⟩ := hl.at_ k hk3
      have hc : wr.cell? ⟨b, o + k, none⟩ = some (.int .u8 (lz k)) := (hB.cell hb).trans hcell
      have ⟨z1, z2⟩ := bounds_u8 (hl.wf k)
      clear hcell
      by_cases hfit : f 0 + 8 * (2 + lz k % 8) ≤ most % 61 * 8
      · have hd : decide (f 0 + 8 * (2 + lz k % 8) ≤ most % 61 * 8) = true := decide_eq_true hfit
        obtain ⟨j, hj⟩ : ∃ j : Nat, 64 + f 0 = 8 * (j : Int) := ⟨((64 + f 0) / 8).toNat, by omega⟩
        have hj2 : j + 1 < 80 := by omega
        have hj3 : 0 ≠ j := by omega
        have F0 := Lib.hid (show setF (setF (setF f 0 (f 0 + 8 * (2 + lz k % 8))) j ((k : Int) + 1)) (j + 1) 7 0 = f 0 + 8 * (2 + lz k % 8) by rw [setF_other _ _ _ _ (by omega), setF_other _ _ _ _ hj3, setF_same])
        have F1 := Lib.hid (show setF (setF (setF f 0 (f 0 + 8 * (2 + lz k % 8))) j ((k : Int) + 1)) (j + 1) 7 j = (k : Int) + 1 by rw [setF_other _ _ _ _ (by omega), setF_same])
        have F2 := Lib.hid (show setF (setF (setF f 0 (f 0 + 8 * (2 + lz k % 8))) j ((k : Int) + 1)) (j + 1) 7 (j + 1) = 7 by rw [setF_same])
        have HJ := Lib.hid hj
        have H8 := Lib.hid hf8
        clear hj hf8
        go_wp2_with fail
        refine (claim_yes _ _ _ 80 0 j f _ _ _ _ _ _ hA (by omega) rfl (by omega) (by omega) (by omega) (by omega) (by omega) (by omega) (by omega) (by omega) (by omega) (by omega) hfit (by omega) HJ.out hj2).mono ?_
        rintro e w3 ⟨rfl, h3, g3⟩
        go_wp2_with fail
        refine (word_ok _ _ _ 80 0 _ _ h3 (by omega) rfl).mono ?_
        rintro e w' ⟨rfl, rfl⟩
        rw [F0.out]
        go_wp2_with fail
        refine (word_ok _ _ _ 80 j _ _ h3 (by omega) (by have := HJ.out; omega)).mono ?_
        rintro e w' ⟨rfl, rfl⟩
        rw [F1.out]
        go_wp2_with fail
        refine (word_ok _ _ _ 80 (j + 1) _ _ h3 (by omega) (by have := HJ.out; omega)).mono ?_
        rintro e w' ⟨rfl, rfl⟩
        rw [F2.out]
        go_wp2_with fail
        go_roundw
        case rel => exact ⟨k + 1, _, by omega, by omega, by go_num, by rw [F0.out], by rw [F0.out]; have := H8.out; omega, by rw [F0.out]; exact hfit, h3, below_only hB g3 hz hs, Nat.le_trans hz g3.size⟩
        case measure => simp [intOf]; omega
      · have hd : decide (f 0 + 8 * (2 + lz k % 8) ≤ most % 61 * 8) = false := decide_eq_false hfit
        have H8 := Lib.hid hf8
        clear hf8
        go_wp2_with fail
        refine (claim_no _ _ _ 80 0 f _ _ _ _ _ _ hA (by omega) rfl (by omega) (by omega) (by omega) (by omega) (by omega) (by omega) (by omega) (by omega) (by omega) (by omega) (by omega)).mono ?_
        rintro e w3 ⟨rfl, h3, g3⟩
        go_wp2_with fail
        refine (word_ok _ _ _ 80 0 _ _ h3 (by omega) rfl).mono ?_
        rintro e w' ⟨rfl, rfl⟩
        go_wp2_with fail
        go_roundw
        case rel => exact ⟨k + 1, _, by omega, by omega, by go_num, rfl, H8.out, hfm, h3, below_only hB g3 hz hs, Nat.le_trans hz g3.size⟩
        case measure => simp [intOf]; omega
    · by_cases hk3 : k < ln
      · obtain rfl : k = 10 := by omega
        go_wp2
        go_ret
        exact ⟨rfl, hB⟩
      · go_wp2
        go_ret
        exact ⟨rfl, hB⟩

set_option maxRecDepth 100000 in
theorem lifted (os : Os) (started : os.Started) (H : Type) (enc : TypeId × Value → H) :
    ReturnsInHanded {} Try.checked os 6 .any (Rows.arenaClaimsSpec.pre6 enc Try.prog Try.f6 Rows.arenaClaimsRow.domain false) (Rows.arenaClaimsSpec.post enc Try.prog Try.f6 false true false false) := by
  refine returnsInHanded_of_change (C := Try.checked) Args.own started (by kernel_rfl) Try.func6
    (ChangeSpec.witness6 (enc := enc) (C := Try.checked) false ⟨#[], #[.slice none 0 0, .int .u8 0], []⟩ 8 (by kernel_rfl) (by kernel_rfl) (by kernel_rfl) (by kernel_rfl)) ?_
  intro W base args ds gs before hval0 hW hcnd _
  have hval : ∀ (j : Nat) t v, Try.f6.params[j]? = some t → args[j]? = some v → Value.okWide Try.prog W .any base t v := hval0
  have hW' := hW
  obtain ⟨p, q, hA0, hV, rfl, hfz, hnd⟩ := hW
  have hA : DataW.TrodAll enc Try.prog W 0 (fun _ => true) true Try.f6.params.toList args.toList ds p := hA0
  rw [Try.params6] at hA hval
  obtain ⟨v0, vs0, d0, ds0, p0, q0, hargs, rfl, rfl, h0, r0⟩ := trodAll_cons hA
  obtain ⟨v1, vs1, d1, ds1, p1, q1, rfl, rfl, rfl, h1, r1⟩ := trodAll_cons r0
  obtain ⟨rfl, rfl, rfl⟩ := trodAll_nil r1
  obtain rfl : args = #[v0, v1] := by cases args; simp_all
  obtain ⟨rfl, rfl⟩ := trodVars_none hV
  have lt0 := Args.trod_below h0
  obtain ⟨lA, ln, lc, lz, rfl, hl⟩ := Args.ints_in (k := .u8) (e := 5) (by kernel_rfl) (by kernel_rfl) (by kernel_rfl) (hval 0 53 v0 rfl rfl) h0
  have lt1 := Args.trod_below h1
  obtain ⟨most, rfl, rfl, rfl, wmost⟩ := open_int Try.underlying5 (hval 1 5 v1 rfl rfl) h1
  clear hA0 hval0
  refine (walk lA ln lc lz most W hl wmost).mono fun e W' ⟨he, bel⟩ => ?_
  subst he
  exact ⟨_, rfl, _, _, _, [], _, [], hW', trodAll_mk1 (shut_bool Try.underlying4 _), trodAll_cons_mk (Below.trod Args.laidOut (by kernel_rfl) (of_decide_eq_true (by kernel_rfl)) h0 bel lt0) (trodAll_cons_mk (Below.trod Args.laidOut (by kernel_rfl) (of_decide_eq_true (by kernel_rfl)) h1 bel lt1) (trodAll_mk0)), rfl, bel.frame _, fun h => by cases h⟩

theorem over : Rows.arenaClaimsRow.holds Try.pinned (OpenSpec.ofChange Rows.arenaClaimsSpec) :=
  OpenClaim.holds_of_wide 6 Try.f6 rfl rfl rfl rfl rfl rfl rfl ⟨rfl, rfl, rfl, rfl, rfl⟩ rfl rfl rfl rfl rfl (by kernel_rfl) Try.func6 (by kernel_rfl)
    (of_decide_eq_true (by kernel_rfl)) (by unfold Func.isWrapper; rw [if_neg (of_decide_eq_false (by kernel_rfl))]; exact ⟨rfl, rfl⟩)
    (fun os started H enc _ => lifted os started H enc)

theorem proved : Rows.ArenaClaimsSaid :=
  over
end Go.Proofs.Ytpaioclagnmblaa.arenaClaims
