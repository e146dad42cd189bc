/-
  penfoldlaw02.ArenaPlays returns true for every byte and every slice of operations, and changes nothing that was there; no condition.
-/
import Derived.Test.YtpaioclagnmblaaRows
import Derived.Test.YtpaioclagnmblaaArgs
import Derived.Test.YtpaioclagnmblaaPlays
import Derived.Test.YtpaioclagnmblaaMemB
import Derived.Deep.RegionHeld3
namespace Go.Proofs.Ytpaioclagnmblaa.arenaPlays
open Go.ChangeShapes Go.WideShapes Go.ChangeAt Go.RowKit
set_option linter.unusedVariables false

open Arena Mem Ref Plays

set_option maxRecDepth 100000 in
set_option maxHeartbeats 8000000 in
theorem walk (n : Int) (lA : Option Addr) (ln lc : Nat) (lz : Nat → Nat → Int) (w : World) (wn : (Lit.int .u8 n).wf = true) (hl : Args.Recs [.u8, .i64, .i64, .u64, .u64, .u64] w lA ln lz) :
    Calls Try.prog 3 #[.int .u8 n, .slice lA ln lc] w fun e w' => e = .returned (.bool true) ∧ Below w.heap.size w w' := by
  have ⟨n1, n2⟩ := bounds_u8 wn
  have hln := hl.len
  unfold maxLen at hln
  obtain ⟨K, hK⟩ : ∃ K : Nat, n % 21 = (K : Int) := ⟨(n % 21).toNat, by omega⟩
  have hK2 : K ≤ 20 := by omega
  clear wn
  go_enter Try.func3, Try.ntmps3
  go_wp2_with fail
  refine (shown_any _).mono ?_
  rintro e w1 ⟨rfl, k1⟩
  have hs : w.heap.size ≤ w1.heap.size := k1.size
  go_wp2_with fail
  refine (Arena.new_any _ K (by omega)).mono ?_
  rintro e w2 ⟨rfl, h2, k2, z2⟩
  have K2 := k1.trans (k2.mono hs)
  go_wp2_with fail
  refine (Ref.new_any _ K (by omega)).mono ?_
  rintro e w3 ⟨rfl, r3, k3, z3⟩
  have h3 := h2.below k3 (by omega) (by omega)
  have K3 := K2.trans (k3.mono (by omega))
  rw [z2] at r3 z3 ⊢
  have Z3 := Lib.hid z3
  clear z2 z3 h2 k2 k3 K2 k1
  go_wp2_with fail
  try rw [hK]
  clear hK
  go_loopw [10] (fun t wr => ∃ (k : Nat) (f : Nat → Int), k ≤ ln ∧ k ≤ 60 ∧ t = .int .i64 k ∧ Ar wr (w1.heap.size + 1) w1.heap.size K f ∧ Rf wr (w1.heap.size + 2 + 1) (w1.heap.size + 2) K f ∧ Below w.heap.size w wr ∧ w1.heap.size + 4 ≤ wr.heap.size) (fun t _ => 60 - (intOf t).toNat)
  case atStart => exact ⟨0, _, by omega, by omega, rfl, h3, r3, K3, by have := Z3.out; omega⟩
  case round =>
    obtain ⟨k, f, hk1, hk2, rfl, hA, hR, hB, hz⟩ := hrel
    by_cases hlt : k < ln ∧ k < 60
    · obtain ⟨hk3, hk4⟩ := hlt
      obtain ⟨b, o, rfl, hb, hcell⟩ := hl.at_ k hk3
      have q0 : wr.cell? ⟨b, o + k * 6, none⟩ = some (.int .u8 (lz k 0)) := (hB.cell hb).trans (hcell 0 (by decide))
      have q1 : wr.cell? ⟨b, o + k * 6 + 1, none⟩ = some (.int .i64 (lz k 1)) := (hB.cell hb).trans (hcell 1 (by decide))
      have q2 : wr.cell? ⟨b, o + k * 6 + 2, none⟩ = some (.int .i64 (lz k 2)) := (hB.cell hb).trans (hcell 2 (by decide))
      have q3 : wr.cell? ⟨b, o + k * 6 + 3, none⟩ = some (.int .u64 (lz k 3)) := (hB.cell hb).trans (hcell 3 (by decide))
      have q4 : wr.cell? ⟨b, o + k * 6 + 4, none⟩ = some (.int .u64 (lz k 4)) := (hB.cell hb).trans (hcell 4 (by decide))
      have q5 : wr.cell? ⟨b, o + k * 6 + 5, none⟩ = some (.int .u64 (lz k 5)) := (hB.cell hb).trans (hcell 5 (by decide))
      have ⟨v0, v0'⟩ := bounds_u8 (hl.wf k 0)
      have ⟨v1, v1'⟩ := bounds_i64 (hl.wf k 1)
      have ⟨v2, v2'⟩ := bounds_i64 (hl.wf k 2)
      have ⟨v3, v3'⟩ := bounds_u64 (hl.wf k 3)
      have ⟨v4, v4'⟩ := bounds_u64 (hl.wf k 4)
      have ⟨v5, v5'⟩ := bounds_u64 (hl.wf k 5)
      clear hcell
      by_cases e2 : lz k 0 % 8 = 2
      · as_aux_lemma =>
          go_wp2_with fail
          have S1 := st_new hA hR hB hs hz #[.int .u8 (lz k 0), .int .i64 (lz k 1), .int .i64 (lz k 2), .int .u64 (lz k 3), .int .u64 (lz k 4), .int .u64 (lz k 5)]
          generalize wr.alloc (.cells #[.int .u8 (lz k 0), .int .i64 (lz k 1), .int .i64 (lz k 2), .int .u64 (lz k 3), .int .u64 (lz k 4), .int .u64 (lz k 5)] 32) = W1 at *
          clear hA hR hB q0 q1 q2 q3 q4 q5
          obtain ⟨c0, c1, c2, c3, c4, c5⟩ := S1.cells
          refine (a_word S1 v1 v1').mono ?_
          rintro e w' ⟨rfl, rfl⟩
          go_wp2_with fail
          refine (r_word S1 v1 v1').mono ?_
          rintro e w' ⟨rfl, rfl⟩
          go_wp2_with fail
          go_roundw
          case rel => exact ⟨k + 1, _, by omega, by omega, by go_num, S1.a, S1.r, S1.below, by have := S1.size; omega⟩
          case measure => simp [intOf]; omega
      · by_cases e3 : lz k 0 % 8 = 3
        · as_aux_lemma =>
            go_wp2_with fail
            have S1 := st_new hA hR hB hs hz #[.int .u8 (lz k 0), .int .i64 (lz k 1), .int .i64 (lz k 2), .int .u64 (lz k 3), .int .u64 (lz k 4), .int .u64 (lz k 5)]
            generalize wr.alloc (.cells #[.int .u8 (lz k 0), .int .i64 (lz k 1), .int .i64 (lz k 2), .int .u64 (lz k 3), .int .u64 (lz k 4), .int .u64 (lz k 5)] 32) = W1 at *
            clear hA hR hB q0 q1 q2 q3 q4 q5
            obtain ⟨c0, c1, c2, c3, c4, c5⟩ := S1.cells
            refine (a_byte S1).mono ?_
            rintro e w' ⟨rfl, rfl⟩
            go_wp2_with fail
            refine (r_byte S1 v1 v1').mono ?_
            rintro e W2 ⟨rfl, S2⟩
            go_wp2_with fail
            go_roundw
            case rel => exact ⟨k + 1, _, by omega, by omega, by go_num, S2.a, S2.r, S2.below, by have := S2.size; omega⟩
            case measure => simp [intOf]; omega
        · by_cases e5 : lz k 0 % 8 = 5
          · as_aux_lemma =>
              go_wp2_with fail
              have S1 := st_new hA hR hB hs hz #[.int .u8 (lz k 0), .int .i64 (lz k 1), .int .i64 (lz k 2), .int .u64 (lz k 3), .int .u64 (lz k 4), .int .u64 (lz k 5)]
              generalize wr.alloc (.cells #[.int .u8 (lz k 0), .int .i64 (lz k 1), .int .i64 (lz k 2), .int .u64 (lz k 3), .int .u64 (lz k 4), .int .u64 (lz k 5)] 32) = W1 at *
              clear hA hR hB q0 q1 q2 q3 q4 q5
              obtain ⟨c0, c1, c2, c3, c4, c5⟩ := S1.cells
              refine (a_cas S1 v1 v1' v4 v4').mono ?_
              rintro e W2 ⟨rfl, S2⟩
              clear c0 c1 c2 c3 c4 c5
              obtain ⟨c0, c1, c2, c3, c4, c5⟩ := S2.cells
              go_wp2_with fail
              refine (r_cas S2 v1 v1' v4 v4').mono ?_
              rintro e W3 ⟨rfl, S3⟩
              go_wp2_with fail
              go_roundw
              case rel => exact ⟨k + 1, _, by omega, by omega, by go_num, S3.a, S3.r, S3.below, by have := S3.size; omega⟩
              case measure => simp [intOf]; omega
          · by_cases e6 : lz k 0 % 8 = 6
            · as_aux_lemma =>
                go_wp2_with fail
                have S1 := st_new hA hR hB hs hz #[.int .u8 (lz k 0), .int .i64 (lz k 1), .int .i64 (lz k 2), .int .u64 (lz k 3), .int .u64 (lz k 4), .int .u64 (lz k 5)]
                generalize wr.alloc (.cells #[.int .u8 (lz k 0), .int .i64 (lz k 1), .int .i64 (lz k 2), .int .u64 (lz k 3), .int .u64 (lz k 4), .int .u64 (lz k 5)] 32) = W1 at *
                clear hA hR hB q0 q1 q2 q3 q4 q5
                obtain ⟨c0, c1, c2, c3, c4, c5⟩ := S1.cells
                refine (a_claim S1 v1 v1' v3 v3' v4 v4' v2 v2' v5 v5' v3 v3').mono ?_
                rintro e W2 ⟨rfl, S2⟩
                clear c0 c1 c2 c3 c4 c5
                obtain ⟨c0, c1, c2, c3, c4, c5⟩ := S2.cells
                go_wp2_with fail
                refine (r_claim S2 v1 v1' v3 v3' v4 v4' v2 v2' v5 v5' v3 v3').mono ?_
                rintro e W3 ⟨rfl, S3⟩
                go_wp2_with fail
                go_roundw
                case rel => exact ⟨k + 1, _, by omega, by omega, by go_num, S3.a, S3.r, S3.below, by have := S3.size; omega⟩
                case measure => simp [intOf]; omega
            · by_cases e0 : lz k 0 % 8 = 0
              · as_aux_lemma =>
                  go_wp2_with fail
                  have S1 := st_new hA hR hB hs hz #[.int .u8 (lz k 0), .int .i64 (lz k 1), .int .i64 (lz k 2), .int .u64 (lz k 3), .int .u64 (lz k 4), .int .u64 (lz k 5)]
                  generalize wr.alloc (.cells #[.int .u8 (lz k 0), .int .i64 (lz k 1), .int .i64 (lz k 2), .int .u64 (lz k 3), .int .u64 (lz k 4), .int .u64 (lz k 5)] 32) = W1 at *
                  clear hA hR hB q0 q1 q2 q3 q4 q5
                  obtain ⟨c0, c1, c2, c3, c4, c5⟩ := S1.cells
                  have S1d := S1.drew
                  go_region_held3 (fun w' => w'.cell? ⟨wr.heap.size, 1, none⟩ = some (.int .i64 (lz k 1)) ∧ w'.cell? ⟨wr.heap.size, 3, none⟩ = some (.int .u64 (lz k 3)))
                    (first | exact ⟨c1, c3⟩ | exact ⟨d1, d3⟩ | exact ⟨g1, g3⟩)
                    (first
                      | (go_at_call 25; refine (a_put (by assumption) v1 v1' v3 v3').mono ?_; rintro e W2 ⟨rfl, S2⟩; have ⟨d0, d1, d2, d3, d4, d5⟩ := S2.cells)
                      | (go_at_call 26; refine (r_put (by assumption) v1 v1' v3 v3').mono ?_; rintro e W3 ⟨rfl, S3⟩; have ⟨g0, g1, g2, g3, g4, g5⟩ := S3.cells))
                  go_wp2_with fail
                  go_roundw
                  case rel => exact ⟨k + 1, _, by omega, by omega, by go_num, S3.a, S3.r, S3.below, by have := S3.size; omega⟩
                  case measure => simp [intOf]; omega
              · by_cases e1 : lz k 0 % 8 = 1
                · as_aux_lemma =>
                    go_wp2_with fail
                    have S1 := st_new hA hR hB hs hz #[.int .u8 (lz k 0), .int .i64 (lz k 1), .int .i64 (lz k 2), .int .u64 (lz k 3), .int .u64 (lz k 4), .int .u64 (lz k 5)]
                    generalize wr.alloc (.cells #[.int .u8 (lz k 0), .int .i64 (lz k 1), .int .i64 (lz k 2), .int .u64 (lz k 3), .int .u64 (lz k 4), .int .u64 (lz k 5)] 32) = W1 at *
                    clear hA hR hB q0 q1 q2 q3 q4 q5
                    obtain ⟨c0, c1, c2, c3, c4, c5⟩ := S1.cells
                    have S1d := S1.drew
                    go_region_held3 (fun w' => w'.cell? ⟨wr.heap.size, 1, none⟩ = some (.int .i64 (lz k 1)) ∧ w'.cell? ⟨wr.heap.size, 3, none⟩ = some (.int .u64 (lz k 3)))
                      (first | exact ⟨c1, c3⟩ | exact ⟨d1, d3⟩ | exact ⟨g1, g3⟩)
                      (first
                        | (go_at_call 25; refine (a_put (by assumption) v1 v1' v3 v3').mono ?_; rintro e W2 ⟨rfl, S2⟩; have ⟨d0, d1, d2, d3, d4, d5⟩ := S2.cells)
                        | (go_at_call 26; refine (r_put (by assumption) v1 v1' v3 v3').mono ?_; rintro e W3 ⟨rfl, S3⟩; have ⟨g0, g1, g2, g3, g4, g5⟩ := S3.cells))
                    go_wp2_with fail
                    go_roundw
                    case rel => exact ⟨k + 1, _, by omega, by omega, by go_num, S3.a, S3.r, S3.below, by have := S3.size; omega⟩
                    case measure => simp [intOf]; omega
                · by_cases e7 : lz k 0 % 8 = 7
                  · as_aux_lemma =>
                      go_wp2_with fail
                      have S1 := st_new hA hR hB hs hz #[.int .u8 (lz k 0), .int .i64 (lz k 1), .int .i64 (lz k 2), .int .u64 (lz k 3), .int .u64 (lz k 4), .int .u64 (lz k 5)]
                      generalize wr.alloc (.cells #[.int .u8 (lz k 0), .int .i64 (lz k 1), .int .i64 (lz k 2), .int .u64 (lz k 3), .int .u64 (lz k 4), .int .u64 (lz k 5)] 32) = W1 at *
                      clear hA hR hB q0 q1 q2 q3 q4 q5
                      obtain ⟨c0, c1, c2, c3, c4, c5⟩ := S1.cells
                      have S1d := S1.drew
                      go_region_held3 (fun w' => w'.cell? ⟨wr.heap.size, 1, none⟩ = some (.int .i64 (lz k 1)) ∧ w'.cell? ⟨wr.heap.size, 2, none⟩ = some (.int .i64 (lz k 2)))
                        (first | exact ⟨c1, c2⟩ | exact ⟨d1, d2⟩ | exact ⟨g1, g2⟩)
                        (first
                          | (go_at_call 23; refine (a_zero (by assumption) v1 v1' v2 v2').mono ?_; rintro e W2 ⟨rfl, S2⟩; have ⟨d0, d1, d2, d3, d4, d5⟩ := S2.cells)
                          | (go_at_call 24; refine (r_zero (by assumption) v1 v1' v2 v2').mono ?_; rintro e W3 ⟨rfl, S3⟩; have ⟨g0, g1, g2, g3, g4, g5⟩ := S3.cells))
                      go_wp2_with fail
                      go_roundw
                      case rel => exact ⟨k + 1, _, by omega, by omega, by go_num, S3.a, S3.r, S3.below, by have := S3.size; omega⟩
                      case measure => simp [intOf]; omega
                  · as_aux_lemma =>
                      have e4 : lz k 0 % 8 = 4 := by omega
                      clear e2 e3 e5 e6 e0 e1 e7
                      go_wp2_with fail
                      have S1 := st_new hA hR hB hs hz #[.int .u8 (lz k 0), .int .i64 (lz k 1), .int .i64 (lz k 2), .int .u64 (lz k 3), .int .u64 (lz k 4), .int .u64 (lz k 5)]
                      generalize wr.alloc (.cells #[.int .u8 (lz k 0), .int .i64 (lz k 1), .int .i64 (lz k 2), .int .u64 (lz k 3), .int .u64 (lz k 4), .int .u64 (lz k 5)] 32) = W1 at *
                      clear hA hR hB q0 q1 q2 q3 q4 q5
                      obtain ⟨c0, c1, c2, c3, c4, c5⟩ := S1.cells
                      have S1d := S1.drew
                      have hm : bits .and .u64 (lz k 3) 255 = lz k 3 % 256 := by
                        have := mask (lz k 3) 0 v3 v3'
                        simpa using this
                      have m1 : 0 ≤ IntKind.u8.wrap (lz k 3 % 256) := by rw [IntKind.wrap_u8']; omega
                      have m2 : IntKind.u8.wrap (lz k 3 % 256) ≤ 255 := by rw [IntKind.wrap_u8']; omega
                      go_region_held3 (fun w' => w'.cell? ⟨wr.heap.size, 1, none⟩ = some (.int .i64 (lz k 1)) ∧ w'.cell? ⟨wr.heap.size, 3, none⟩ = some (.int .u64 (lz k 3)))
                        (first | exact ⟨c1, c3⟩ | exact ⟨d1, d3⟩ | exact ⟨g1, g3⟩)
                        (first
                          | (go_at_call 17; refine (a_putbyte (by assumption) m1 m2).mono ?_; rintro e W2 ⟨rfl, S2⟩; have ⟨d0, d1, d2, d3, d4, d5⟩ := S2.cells)
                          | (go_at_call 18; refine (r_putbyte (by assumption) v1 v1' m1 m2).mono ?_; rintro e W3 ⟨rfl, S3⟩; have ⟨g0, g1, g2, g3, g4, g5⟩ := S3.cells))
                      go_wp2_with fail
                      go_roundw
                      case rel => exact ⟨k + 1, _, by omega, by omega, by go_num, S3.a, S3.r, S3.below, by have := S3.size; omega⟩
                      case measure => simp [intOf]; omega
    · have hfirst : (k < ln ∧ k = 60) ∨ ¬ k < ln := by omega
      rcases hfirst with ⟨hk3, rfl⟩ | hk3
      all_goals as_aux_lemma =>
        clear hlt
        go_wp2_with fail
        go_loop [30] (fun t => ∃ j : Nat, j ≤ K ∧ t = .int .i64 j) (fun t => K - (intOf t).toNat)
        case atStart => exact ⟨0, by omega, rfl⟩
        case round =>
          obtain ⟨j, hj, rfl⟩ := hrel
          by_cases hlt : j < K
          · have q0 := hR.cell
            have q1 := hR.body.cell hlt
            go_wp2_with fail
            refine (Arena.word_ok _ _ _ K j f _ hA hlt rfl).mono ?_
            rintro e w' ⟨rfl, rfl⟩
            go_wp2_with fail
            go_round
            case rel => exact ⟨j + 1, by omega, by go_num⟩
            case measure => simp [intOf]; omega
          · go_wp2_with fail
            refine (len_any _ _ _ K f hA).mono ?_
            rintro e w' ⟨rfl, rfl⟩
            go_wp2_with fail
            go_ret
            exact ⟨rfl, hB⟩

set_option maxRecDepth 100000 in
theorem lifted (os : Os) (started : os.Started) (H : Type) (enc : TypeId × Value → H) :
    ReturnsInHanded {} Try.checked os 3 .any (Rows.arenaPlaysSpec.pre6 enc Try.prog Try.f3 Rows.arenaPlaysRow.domain false) (Rows.arenaPlaysSpec.post enc Try.prog Try.f3 false true false false) := by
  refine returnsInHanded_of_change (C := Try.checked) Args.own started (by kernel_rfl) Try.func3
    (ChangeSpec.witness6 (enc := enc) (C := Try.checked) false ⟨#[], #[.int .u8 0, .slice none 0 0], []⟩ 8 (by kernel_rfl) (by kernel_rfl) (by kernel_rfl) (by kernel_rfl)) ?_
  intro W base args ds gs before hval0 hW hcnd _
  have hval : ∀ (j : Nat) t v, Try.f3.params[j]? = some t → args[j]? = some v → Value.okWide Try.prog W .any base t v := hval0
  have hW' := hW
  obtain ⟨p, q, hA0, hV, rfl, hfz, hnd⟩ := hW
  have hA : DataW.TrodAll enc Try.prog W 0 (fun _ => true) true Try.f3.params.toList args.toList ds p := hA0
  rw [Try.params3] at hA hval
  obtain ⟨v0, vs0, d0, ds0, p0, q0, hargs, rfl, rfl, h0, r0⟩ := trodAll_cons hA
  obtain ⟨v1, vs1, d1, ds1, p1, q1, rfl, rfl, rfl, h1, r1⟩ := trodAll_cons r0
  obtain ⟨rfl, rfl, rfl⟩ := trodAll_nil r1
  obtain rfl : args = #[v0, v1] := by cases args; simp_all
  obtain ⟨rfl, rfl⟩ := trodVars_none hV
  have lt0 := Args.trod_below h0
  obtain ⟨n, rfl, rfl, rfl, wn⟩ := open_int Try.underlying5 (hval 0 5 v0 rfl rfl) h0
  have lt1 := Args.trod_below h1
  obtain ⟨lA, ln, lc, lz, rfl, hl⟩ := Args.recs_in (ks := [.u8, .i64, .i64, .u64, .u64, .u64]) (e := 32) (by kernel_rfl) Try.underlying32 (by kernel_rfl) (by kernel_rfl) (by decide) (hval 1 22 v1 rfl rfl) h1
  clear hA0 hval0
  refine (walk n lA ln lc lz W wn hl).mono fun e W' ⟨he, bel⟩ => ?_
  subst he
  exact ⟨_, rfl, _, _, _, [], _, [], hW', trodAll_mk1 (shut_bool Try.underlying4 _), trodAll_cons_mk (Below.trod Args.laidOut (by kernel_rfl) (of_decide_eq_true (by kernel_rfl)) h0 bel lt0) (trodAll_cons_mk (Below.trod Args.laidOut (by kernel_rfl) (of_decide_eq_true (by kernel_rfl)) h1 bel lt1) (trodAll_mk0)), rfl, bel.frame _, fun h => by cases h⟩

theorem over : Rows.arenaPlaysRow.holds Try.pinned (OpenSpec.ofChange Rows.arenaPlaysSpec) :=
  OpenClaim.holds_of_wide 3 Try.f3 rfl rfl rfl rfl rfl rfl rfl ⟨rfl, rfl, rfl, rfl, rfl⟩ rfl rfl rfl rfl rfl (by kernel_rfl) Try.func3 (by kernel_rfl)
    (of_decide_eq_true (by kernel_rfl)) (by unfold Func.isWrapper; rw [if_neg (of_decide_eq_false (by kernel_rfl))]; exact ⟨rfl, rfl⟩)
    (fun os started H enc _ => lifted os started H enc)

theorem proved : Rows.ArenaPlaysSaid :=
  over
end Go.Proofs.Ytpaioclagnmblaa.arenaPlays
