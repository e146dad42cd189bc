/-
  penfoldlaw04.GroundPlays returns true for every two bytes and every slice of operations, and changes nothing that was there; no condition.
-/
import Derived.Test.YtnekbbdodhokbaaRows
import Derived.Test.YtnekbbdodhokbaaArgs
import Derived.Test.YtnekbbdodhokbaaPlays
namespace Go.Proofs.Ytnekbbdodhokbaa.groundPlays
open Go.ChangeShapes Go.WideShapes Go.ChangeAt Go.RowKit
set_option linter.unusedVariables false

open Gr Gm Ref Plays

set_option maxRecDepth 100000 in
set_option maxHeartbeats 8000000 in
theorem walk (at_ : Int) (n : Int) (lA : Option Addr) (ln lc : Nat) (lz : Nat → Nat → Int) (w : World) (wat_ : (Lit.int .u8 at_).wf = true) (wn : (Lit.int .u8 n).wf = true) (hl : Args.Recs [.u8, .i64, .i64] w lA ln lz) :
    Calls Try.prog 3 #[.int .u8 at_, .int .u8 n, .slice lA ln lc] w fun e w' => e = .returned (.bool true) ∧ Below w.heap.size w w' := by
  have ⟨n1, n2⟩ := bounds_u8 wn
  have ⟨t1, t2⟩ := bounds_u8 wat_
  have hln := hl.len
  unfold maxLen at hln
  obtain ⟨N, hN⟩ : ∃ N : Nat, n % 61 = (N : Int) := ⟨(n % 61).toNat, by omega⟩
  obtain ⟨T, hT⟩ : ∃ T : Nat, at_ % 61 = (T : Int) := ⟨(at_ % 61).toNat, by omega⟩
  have hN2 : N ≤ 60 := by omega
  have hT2 : T ≤ 60 := by omega
  have hA : boundB (8 * (T : Int)) = true := decide_eq_true (by omega)
  have hS : boundB (8 * (N : Int)) = true := decide_eq_true (by omega)
  have hr0 : newL (8 * (T : Int)) (8 * (N : Int)) = runs (8 * (T : Int)) (fun _ => true) N := by
    by_cases h0 : N = 0
    · subst h0; rfl
    · rw [runs_all (by omega)]
      unfold newL
      rw [if_neg (by omega)]
  have HR0 := Lib.hid hr0
  clear hr0 wn wat_
  go_enter Try.func3, Try.ntmps3
  go_wp2_with fail
  refine (shown_any _).mono ?_
  rintro e w1 ⟨rfl, k1⟩
  go_wp2_with fail
  refine (new_at w1 (8 * (T : Int)) (8 * (N : Int)) w1.heap.size hA hS (Nat.le_refl _)).mono ?_
  rintro e w2 ⟨rfl, h2, k2, z2⟩
  go_wp2_with fail
  refine (Ref.new_any w2 (8 * (T : Int)) N (by omega)).mono ?_
  rintro e w3 ⟨rfl, r3, k3, z3⟩
  have h3 := (h2.other (K' := w2.heap.size) (Nat.le_refl _)).below k3
  rw [HR0.out] at h3
  have B3 : Both w w3 w1.heap.size (w2.heap.size + 1) w2.heap.size N (8 * (T : Int)) (runs (8 * (T : Int)) (fun _ => true) N) (fun _ => true) :=
    ⟨h3, r3, (k1.trans (k2.mono k1.size)).trans (k3.mono (by have := k1.size; omega)), k1.size, z2, by omega, by omega⟩
  clear h2 r3 h3 k2 k3 k1 z2 z3
  go_wp2_with fail
  try rw [hN]
  try rw [hT]
  clear hN hT
  go_loopw [13] (fun t wr => ∃ (k : Nat) (F : Nat → Bool), k ≤ ln ∧ k ≤ 50 ∧ t = .int .i64 k ∧ Both w wr w1.heap.size (w2.heap.size + 1) w2.heap.size N (8 * (T : Int)) (runs (8 * (T : Int)) F N) F) (fun t _ => 50 - (intOf t).toNat)
  case atStart => exact ⟨0, _, by omega, by omega, rfl, B3⟩
  case round =>
    obtain ⟨k, F, hk1, hk2, rfl, hP⟩ := hrel
    by_cases hlt : k < ln ∧ k < 50
    · obtain ⟨hk3, hk4⟩ := hlt
      obtain ⟨b, o, rfl, hb, hcell⟩ := hl.at_ k hk3
      have q0 : wr.cell? ⟨b, o + k * 3, none⟩ = some (.int .u8 (lz k 0)) := (hP.below.cell hb).trans (hcell 0 (by decide))
      have q1 : wr.cell? ⟨b, o + k * 3 + 1, none⟩ = some (.int .i64 (lz k 1)) := (hP.below.cell hb).trans (hcell 1 (by decide))
      have q2 : wr.cell? ⟨b, o + k * 3 + 2, none⟩ = some (.int .i64 (lz k 2)) := (hP.below.cell hb).trans (hcell 2 (by decide))
      have ⟨v0, v0'⟩ := bounds_u8 (hl.wf k 0)
      have ⟨v1, v1'⟩ := bounds_i64 (hl.wf k 1)
      have ⟨v2, v2'⟩ := bounds_i64 (hl.wf k 2)
      have P1 := Pl.new hP (lz k 0) (lz k 1) (lz k 2) 31
      have ok := Ok.runs (n := N) (A := 8 * (T : Int)) F (by omega) (by omega) (by omega) (by omega)
      have hA0 : 0 ≤ 8 * (T : Int) := by omega
      have hA1 : 8 * (T : Int) ≤ 65536 := by omega
      have HA8 := Lib.hid (show 8 * (T : Int) % 8 = 0 by omega)
      clear hcell
      have e3 : (lz k 0 % 3 = 2 ∧ (lz k 0 % 3 == 2) = true) ∨ (¬ lz k 0 % 3 = 2 ∧ (lz k 0 % 3 == 2) = false) := by
        by_cases e : lz k 0 % 3 = 2
        · exact .inl ⟨e, by simpa using e⟩
        · exact .inr ⟨e, by simpa using e⟩
      rcases e3 with ⟨_, e3⟩ | ⟨_, e3⟩
      · as_aux_lemma =>
          go_wp2_with fail
          generalize wr.alloc (.cells #[.int .u8 (lz k 0), .int .i64 (lz k 1), .int .i64 (lz k 2)] 31) = W1 at *
          have P1d := P1.drew
          go_region_held3 (fun w' => w'.cell? ⟨wr.heap.size, 1, none⟩ = some (.int .i64 (lz k 1)) ∧ w'.cell? ⟨wr.heap.size, 2, none⟩ = some (.int .i64 (lz k 2)))
            (first | exact ⟨P1.c1, P1.c2⟩ | exact ⟨P1d.c1, P1d.c2⟩ | exact ⟨P2.c1, P2.c2⟩ | exact ⟨P3.c1, P3.c2⟩)
            (first
              | (go_at_call 12; refine (p_give P1d ok _ _ v1 v1' v2 v2').mono ?_; rintro e W2 ⟨rfl, P2⟩)
              | (go_at_call 13; refine (r_give P2 _ _ hA0 hA1 HA8.out (by omega) v1 v1' v2 v2').mono ?_; rintro e W3 ⟨rfl, P3⟩))
          have hb := P3.both
          rw [give_runs F _ _ HA8.out] at hb
          generalize giveW (8 * (T : Int)) N F (lz k 1) (lz k 2) = F' at hb
          have okl := (Ok.runs (n := N) (A := 8 * (T : Int)) F' hA0 hA1 HA8.out (by omega)).len
          clear P1 P1d P2 P3 q0 q1 q2
          go_wp2_with fail
          refine (free_any _ _ _ _ _ _ hb.gr (by omega)).mono ?_
          rintro e W4 ⟨V, c, rfl, hE, hn, k4⟩
          have hb4 := hb.bel k4
          go_wp2_with fail
          refine (extents_any W4 _ _ N _ F' hb4.rf hA0 hA1 (by omega)).mono ?_
          rintro e W5 ⟨V', c', rfl, hE', hn', k5⟩
          have hE5 := hE.below k5
          have hb5 := hb4.bel k5
          go_wp2_with fail
          refine (same_yes W5 V V' c c' _ hE5 hE' (by omega)).mono ?_
          rintro e W6 ⟨rfl, k6⟩
          have hb6 := hb5.bel k6
          go_wp2_with fail
          go_roundw
          case rel => exact ⟨k + 1, F', by omega, by omega, by go_num, hb6⟩
          case measure => simp [intOf]; omega
      · as_aux_lemma =>
          go_wp2_with fail
          generalize wr.alloc (.cells #[.int .u8 (lz k 0), .int .i64 (lz k 1), .int .i64 (lz k 2)] 31) = W1 at *
          refine (p_carve P1 ok _ v2 v2').mono ?_
          rintro e W2 ⟨rfl, P2⟩
          obtain ⟨_, _, _, _, _, c2⟩ := id P2
          go_wp2_with fail
          refine (r_carve P2 _ hA0 hA1 HA8.out (by omega) v2 v2').mono ?_
          rintro e W3 ⟨rfl, P3⟩
          have hb := P3.both
          rw [carve_runs F hA0 hA1 HA8.out (by omega)] at hb
          generalize carveW (8 * (T : Int)) (lz k 2) N F = F' at hb
          have okl := (Ok.runs (n := N) (A := 8 * (T : Int)) F' hA0 hA1 HA8.out (by omega)).len
          clear P1 P2 P3 q0 q1 q2 c2
          go_wp2_with fail
          refine (free_any _ _ _ _ _ _ hb.gr (by omega)).mono ?_
          rintro e W4 ⟨V, c, rfl, hE, hn, k4⟩
          have hb4 := hb.bel k4
          go_wp2_with fail
          refine (extents_any W4 _ _ N _ F' hb4.rf hA0 hA1 (by omega)).mono ?_
          rintro e W5 ⟨V', c', rfl, hE', hn', k5⟩
          have hE5 := hE.below k5
          have hb5 := hb4.bel k5
          go_wp2_with fail
          refine (same_yes W5 V V' c c' _ hE5 hE' (by omega)).mono ?_
          rintro e W6 ⟨rfl, k6⟩
          have hb6 := hb5.bel k6
          go_wp2_with fail
          go_roundw
          case rel => exact ⟨k + 1, F', by omega, by omega, by go_num, hb6⟩
          case measure => simp [intOf]; omega
    · have hfirst : (k < ln ∧ k = 50) ∨ ¬ k < ln := by omega
      rcases hfirst with ⟨hk3, rfl⟩ | hk3
      all_goals
        clear hlt
        go_wp2_with fail
        go_ret
        exact ⟨rfl, hP.below⟩

set_option maxRecDepth 100000 in
theorem lifted (os : Os) (started : os.Started) (H : Type) (enc : TypeId × Value → H) :
    ReturnsInHanded {} Try.checked os 3 .any (Rows.groundPlaysSpec.pre6 enc Try.prog Try.f3 Rows.groundPlaysRow.domain false) (Rows.groundPlaysSpec.post enc Try.prog Try.f3 false true false false) := by
  refine returnsInHanded_of_change (C := Try.checked) Args.own started (by kernel_rfl) Try.func3
    (ChangeSpec.witness6 (enc := enc) (C := Try.checked) false ⟨#[], #[.int .u8 0, .int .u8 0, .slice none 0 0], []⟩ 8 (by kernel_rfl) (by kernel_rfl) (by kernel_rfl) (by kernel_rfl)) ?_
  intro W base args ds gs before hval0 hW hcnd _
  have hval : ∀ (j : Nat) t v, Try.f3.params[j]? = some t → args[j]? = some v → Value.okWide Try.prog W .any base t v := hval0
  have hW' := hW
  obtain ⟨p, q, hA0, hV, rfl, hfz, hnd⟩ := hW
  have hA : DataW.TrodAll enc Try.prog W 0 (fun _ => true) true Try.f3.params.toList args.toList ds p := hA0
  rw [Try.params3] at hA hval
  obtain ⟨v0, vs0, d0, ds0, p0, q0, hargs, rfl, rfl, h0, r0⟩ := trodAll_cons hA
  obtain ⟨v1, vs1, d1, ds1, p1, q1, rfl, rfl, rfl, h1, r1⟩ := trodAll_cons r0
  obtain ⟨v2, vs2, d2, ds2, p2, q2, rfl, rfl, rfl, h2, r2⟩ := trodAll_cons r1
  obtain ⟨rfl, rfl, rfl⟩ := trodAll_nil r2
  obtain rfl : args = #[v0, v1, v2] := by cases args; simp_all
  obtain ⟨rfl, rfl⟩ := trodVars_none hV
  have lt0 := Args.trod_below h0
  obtain ⟨at_, rfl, rfl, rfl, wat_⟩ := open_int Try.underlying5 (hval 0 5 v0 rfl rfl) h0
  have lt1 := Args.trod_below h1
  obtain ⟨n, rfl, rfl, rfl, wn⟩ := open_int Try.underlying5 (hval 1 5 v1 rfl rfl) h1
  have lt2 := Args.trod_below h2
  obtain ⟨lA, ln, lc, lz, rfl, hl⟩ := Args.recs_in (ks := [.u8, .i64, .i64]) (e := 31) (by kernel_rfl) Try.underlying31 (by kernel_rfl) (by kernel_rfl) (by decide) (hval 2 22 v2 rfl rfl) h2
  clear hA0 hval0
  refine (walk at_ n lA ln lc lz W wat_ wn hl).mono fun e W' ⟨he, bel⟩ => ?_
  subst he
  exact ⟨_, rfl, _, _, _, [], _, [], hW', trodAll_mk1 (shut_bool Try.underlying4 _), trodAll_cons_mk (Below.trod Args.laidOut (by kernel_rfl) (of_decide_eq_true (by kernel_rfl)) h0 bel lt0) (trodAll_cons_mk (Below.trod Args.laidOut (by kernel_rfl) (of_decide_eq_true (by kernel_rfl)) h1 bel lt1) (trodAll_cons_mk (Below.trod Args.laidOut (by kernel_rfl) (of_decide_eq_true (by kernel_rfl)) h2 bel lt2) (trodAll_mk0))), rfl, bel.frame _, fun h => by cases h⟩

theorem over : Rows.groundPlaysRow.holds Try.pinned (OpenSpec.ofChange Rows.groundPlaysSpec) :=
  OpenClaim.holds_of_wide 3 Try.f3 rfl rfl rfl rfl rfl rfl rfl ⟨rfl, rfl, rfl, rfl, rfl⟩ rfl rfl rfl rfl rfl (by kernel_rfl) Try.func3 (by kernel_rfl)
    (of_decide_eq_true (by kernel_rfl)) (by unfold Func.isWrapper; rw [if_neg (of_decide_eq_false (by kernel_rfl))]; exact ⟨rfl, rfl⟩)
    (fun os started H enc _ => lifted os started H enc)

theorem proved : Rows.GroundPlaysSaid :=
  over
end Go.Proofs.Ytnekbbdodhokbaa.groundPlays
