/-
  penfoldlaw02.ArenaBytes returns true for every slice of bytes and every integer of 64 bits, and changes nothing that was there; no condition.
-/
import Derived.Test.YtpaioclagnmblaaRows
import Derived.Test.YtpaioclagnmblaaArgs
import Derived.Test.YtpaioclagnmblaaShown
namespace Go.Proofs.Ytpaioclagnmblaa.arenaBytes
open Go.ChangeShapes Go.WideShapes Go.ChangeAt Go.RowKit
set_option linter.unusedVariables false

open Arena Mem
/-- Byte p of what was put: of the first m bytes z p, else 0. -/
def bz (z : Nat → Int) (m p : Nat) : Int := if p < m then z p else 0
/-- The words whose bytes were put, as far as they are. -/
def Made (f : Nat → Int) (z : Nat → Int) (m : Nat) : Prop := ∀ i j, i < 20 → j < 8 → byteV (f i) j = bz z m (8 * i + j)
theorem made_zero (z : Nat → Int) : Made (fun _ => 0) z 0 := fun i j _ _ => by rw [byteV_zero]; unfold bz; rw [if_neg (by omega)]
theorem made_step {f z : Nat → Int} {m : Nat} (h : Made f z m) (hf : Fit f) (z1 : 0 ≤ z m) (z2 : z m ≤ 255) : Made (setF f (m / 8) (putB (f (m / 8)) (m % 8) (z m))) z (m + 1) := by
  intro i j hi hj
  by_cases e : i = m / 8
  · subst e
    rw [setF_same, byte_putB _ _ _ (Nat.mod_lt _ (by decide)) _ hj (hf _).1 (hf _).2 z1 z2]
    by_cases e' : j = m % 8
    · subst e'
      unfold bz
      rw [if_pos rfl, if_pos (by omega), show 8 * (m / 8) + m % 8 = m by omega]
    · rw [if_neg e', h _ _ hi hj]
      unfold bz
      by_cases e2 : 8 * (m / 8) + j < m
      · rw [if_pos e2, if_pos (by omega)]
      · rw [if_neg e2, if_neg (by omega)]
  · rw [setF_other _ _ _ _ e, h _ _ hi hj]
    unfold bz
    by_cases e2 : 8 * i + j < m
    · rw [if_pos e2, if_pos (by omega)]
    · rw [if_neg e2, if_neg (by omega)]
/-- What the inner loop has reckoned when the bytes from j on are taken in. -/
def top (x : Int) (j : Nat) : Int := x / 2 ^ (8 * j)
theorem top_step (x : Int) (j : Nat) (hj : j < 8) (h0 : 0 ≤ x) : top x j = top x (j + 1) * 256 + byteV x j := by
  unfold top byteV
  have e : (2 : Int) ^ (8 * (j + 1)) = 2 ^ (8 * j) * 256 := by rw [show 8 * (j + 1) = 8 * j + 8 by omega, Int.pow_add]; rfl
  rw [e, ← Int.ediv_ediv_of_nonneg (by exact Int.le_of_lt (Int.pow_pos (by decide)))]
  omega
theorem top_le (x : Int) (j : Nat) (h0 : 0 ≤ x) (h1 : x ≤ 18446744073709551615) : 0 ≤ top x j ∧ top x j ≤ 18446744073709551615 := by
  unfold top
  have hp : (0 : Int) < 2 ^ (8 * j) := Int.pow_pos (by decide)
  exact ⟨Int.ediv_nonneg h0 (Int.le_of_lt hp), Int.le_trans (Int.ediv_le_self _ h0) h1⟩
theorem top_all (x : Int) (h0 : 0 ≤ x) (h1 : x ≤ 18446744073709551615) : top x 8 = 0 := by
  unfold top
  exact Int.ediv_eq_zero_of_lt h0 (by show x < 2 ^ 64; omega)
theorem top_step_le (x : Int) (j : Nat) (h0 : 0 ≤ x) (h1 : x ≤ 18446744073709551615) (hj : j < 8) : top x (j + 1) * 256 + byteV x j ≤ 18446744073709551615 := by
  rw [← top_step x j hj h0]
  exact (top_le x j h0 h1).2

set_option maxRecDepth 100000 in
set_option maxHeartbeats 8000000 in
theorem walk (lA : Option Addr) (ln lc : Nat) (lz : Nat → Int) (at_ : Int) (w : World) (hl : Args.Ints .u8 w lA ln lz) (wat_ : (Lit.int .i64 at_).wf = true) :
    Calls Try.prog 9 #[.slice lA ln lc, .int .i64 at_] w fun e w' => e = .returned (.bool true) ∧ Below w.heap.size w w' := by
  have ⟨a1, a2⟩ := bounds_i64 wat_
  have hln := hl.len
  unfold maxLen at hln
  clear wat_
  go_enter Try.func9, Try.ntmps9
  go_wp2_with (go_at_call 10; refine (shown_any _).mono ?_; rintro e w1 ⟨rfl, k1⟩)
  refine (new_at _ _ 20 rfl (by omega)).mono ?_
  rintro e w2 ⟨rfl, h2, k2, z2⟩
  have Z2 := Lib.hid z2
  clear z2
  go_wp2_with fail
  have hs : w.heap.size ≤ w1.heap.size := k1.size
  go_loopw [8] (fun t wr => ∃ (k : Nat) (f : Nat → Int), k ≤ ln ∧ k ≤ 160 ∧ t = .int .i64 k ∧ Made f lz k ∧ Ar wr (w1.heap.size + 1) w1.heap.size 20 f ∧ Below w.heap.size w wr ∧ w.heap.size ≤ wr.heap.size) (fun t _ => 160 - (intOf t).toNat)
  case atStart => exact ⟨0, fun _ => 0, by omega, by omega, rfl, made_zero lz, h2, k1.trans (k2.mono k1.size), by have := Z2.out; omega⟩
  case round =>
    obtain ⟨k, f, hk1, hk2, rfl, hM, hA, hB, hz⟩ := hrel
    by_cases hlt : k < ln ∧ k < 160
    · obtain ⟨hk3, hk4⟩ := hlt
      obtain ⟨b, o, rfl, hb, hcell⟩ := hl.at_ k hk3
      have hc : wr.cell? ⟨b, o + k, none⟩ = some (.int .u8 (lz k)) := (hB.cell hb).trans hcell
      have ⟨z1, z2⟩ := bounds_u8 (hl.wf k)
      clear hcell
      go_wp2_with fail
      refine (putbyte_ok _ _ _ 20 k f _ _ hA (by omega) rfl z1 z2).mono ?_
      rintro e w3 ⟨rfl, h3, g3⟩
      go_wp2_with fail
      go_roundw
      case rel => exact ⟨k + 1, _, by omega, by omega, by go_num, made_step hM hA.fit z1 z2, h3, below_only hB g3 hz hs, Nat.le_trans hz g3.size⟩
      case measure => simp [intOf]; omega
    · have hke : ∀ p, p < 160 → bz lz k p = bz lz ln p := by
        intro p hp
        unfold bz
        by_cases e : p < ln
        · rw [if_pos e, if_pos (by omega)]
        · rw [if_neg e, if_neg (by omega)]
      have HM : Made f lz ln := fun i j hi hj => (hM i j hi hj).trans (hke _ (by omega))
      clear hM hke
      have hfirst : (k < ln ∧ k = 160) ∨ ¬ k < ln := by omega
      rcases hfirst with ⟨hk3, rfl⟩ | hk3
      all_goals
        clear hlt
        go_wp2
        go_loop [9] (fun t => ∃ q : Nat, q ≤ 20 ∧ t = .int .i64 q) (fun t => 20 - (intOf t).toNat)
        case atStart => exact ⟨0, by omega, rfl⟩
        case round =>
          obtain ⟨q, hq, rfl⟩ := hrel
          by_cases hlt : q < 20
          · have ⟨f1, f2⟩ := hA.fit q
            go_wp2_with fail
            refine (word_ok _ _ _ 20 q f _ hA hlt rfl).mono ?_
            rintro e w' ⟨rfl, rfl⟩
            go_wp2_with fail
            go_loop [12, 13] (fun x t => ∃ j : Nat, j ≤ 8 ∧ t = .int .i64 ((j : Int) - 1) ∧ x = .int .u64 (top (f q) j)) (fun _ t => (intOf t + 1).toNat)
            case atStart => exact ⟨8, by omega, rfl, by rw [top_all (f q) f1 f2]⟩
            case round =>
              obtain ⟨j, hj, rfl, rfl⟩ := hrel
              rcases j with _ | p
              · have e0 : top (f q) 0 = f q := by unfold top; simp
                rw [e0]
                clear e0
                go_wp2_with fail
                go_round
                case rel => exact ⟨q + 1, by omega, by go_num⟩
                case measure => simp [intOf]; omega
              · have hp8 : p < 8 := by omega
                have hc1 : ((p + 1 : Nat) : Int) - 1 = (p : Int) := by omega
                rw [hc1]
                clear hc1
                have hv := HM q p hlt hp8
                have hts := top_step (f q) p hp8 f1
                have ⟨t1, t2⟩ := top_le (f q) p f1 f2
                have ⟨t3, t4⟩ := top_le (f q) (p + 1) f1 f2
                have ⟨y1, y2⟩ := byteV_le (f q) p
                have t5 : top (f q) (p + 1) * 256 ≤ 18446744073709551615 := by omega
                by_cases hin : 8 * q + p < ln
                · have hv' : byteV (f q) p = lz (8 * q + p) := by rw [hv]; unfold bz; rw [if_pos hin]
                  have hsum : top (f q) (p + 1) * 256 + lz (8 * q + p) ≤ 18446744073709551615 := by omega
                  have ⟨z1, z2⟩ := bounds_u8 (hl.wf (8 * q + p))
                  have HT := Lib.hid (show top (f q) (p + 1) * 256 + lz (8 * q + p) = top (f q) p by rw [hts, hv'])
                  obtain ⟨b, o, rfl, hb, hcell⟩ := hl.at_ (8 * q + p) hin
                  have hc := (hB.cell (p := ⟨b, o + (8 * q + p), none⟩) hb).trans hcell
                  clear hcell hv hv' hts
                  go_wp2
                  all_goals
                    go_round
                    case rel => exact ⟨p, by omega, rfl, by rw [← HT.out]⟩
                    case measure => simp [intOf] <;> omega
                · have hv' : byteV (f q) p = 0 := by rw [hv]; unfold bz; rw [if_neg hin]
                  have HT := Lib.hid (show top (f q) (p + 1) * 256 = top (f q) p by rw [hts, hv']; omega)
                  clear hv hv' hts
                  go_wp2
                  all_goals
                    go_round
                    case rel => exact ⟨p, by omega, rfl, by rw [← HT.out]⟩
                    case measure => simp [intOf] <;> omega
          · rcases cases_b 20 at_ with ⟨c1, c2, c3, c4, e1⟩ | ⟨c1, c2, c3, c4, e1⟩ | ⟨c1, c2, c3, c4, e1⟩
            all_goals
              rw [show (8 * ((20 : Nat) : Int)) = 160 from rfl] at c2 c4
              have E1 := Lib.hid e1
              clear e1
              go_wp2_with fail
              refine (putbyte_any _ _ _ 20 f _ _ hA (by omega) (by omega)).mono ?_
              rintro e w3 ⟨rfl, h3, g3⟩
              rw [E1.out]
              go_wp2_with fail
              go_ret
              exact ⟨rfl, below_only hB g3 hz hs⟩

set_option maxRecDepth 100000 in
theorem lifted (os : Os) (started : os.Started) (H : Type) (enc : TypeId × Value → H) :
    ReturnsInHanded {} Try.checked os 9 .any (Rows.arenaBytesSpec.pre6 enc Try.prog Try.f9 Rows.arenaBytesRow.domain false) (Rows.arenaBytesSpec.post enc Try.prog Try.f9 false true false false) := by
  refine returnsInHanded_of_change (C := Try.checked) Args.own started (by kernel_rfl) Try.func9
    (ChangeSpec.witness6 (enc := enc) (C := Try.checked) false ⟨#[], #[.slice none 0 0, .int .i64 0], []⟩ 8 (by kernel_rfl) (by kernel_rfl) (by kernel_rfl) (by kernel_rfl)) ?_
  intro W base args ds gs before hval0 hW hcnd _
  have hval : ∀ (j : Nat) t v, Try.f9.params[j]? = some t → args[j]? = some v → Value.okWide Try.prog W .any base t v := hval0
  have hW' := hW
  obtain ⟨p, q, hA0, hV, rfl, hfz, hnd⟩ := hW
  have hA : DataW.TrodAll enc Try.prog W 0 (fun _ => true) true Try.f9.params.toList args.toList ds p := hA0
  rw [Try.params9] at hA hval
  obtain ⟨v0, vs0, d0, ds0, p0, q0, hargs, rfl, rfl, h0, r0⟩ := trodAll_cons hA
  obtain ⟨v1, vs1, d1, ds1, p1, q1, rfl, rfl, rfl, h1, r1⟩ := trodAll_cons r0
  obtain ⟨rfl, rfl, rfl⟩ := trodAll_nil r1
  obtain rfl : args = #[v0, v1] := by cases args; simp_all
  obtain ⟨rfl, rfl⟩ := trodVars_none hV
  have lt0 := Args.trod_below h0
  obtain ⟨lA, ln, lc, lz, rfl, hl⟩ := Args.ints_in (k := .u8) (e := 5) (by kernel_rfl) (by kernel_rfl) (by kernel_rfl) (hval 0 53 v0 rfl rfl) h0
  have lt1 := Args.trod_below h1
  obtain ⟨at_, rfl, rfl, rfl, wat_⟩ := open_int Try.underlying3 (hval 1 3 v1 rfl rfl) h1
  clear hA0 hval0
  refine (walk lA ln lc lz at_ W hl wat_).mono fun e W' ⟨he, bel⟩ => ?_
  subst he
  exact ⟨_, rfl, _, _, _, [], _, [], hW', trodAll_mk1 (shut_bool Try.underlying4 _), trodAll_cons_mk (Below.trod Args.laidOut (by kernel_rfl) (of_decide_eq_true (by kernel_rfl)) h0 bel lt0) (trodAll_cons_mk (Below.trod Args.laidOut (by kernel_rfl) (of_decide_eq_true (by kernel_rfl)) h1 bel lt1) (trodAll_mk0)), rfl, bel.frame _, fun h => by cases h⟩

theorem over : Rows.arenaBytesRow.holds Try.pinned (OpenSpec.ofChange Rows.arenaBytesSpec) :=
  OpenClaim.holds_of_wide 9 Try.f9 rfl rfl rfl rfl rfl rfl rfl ⟨rfl, rfl, rfl, rfl, rfl⟩ rfl rfl rfl rfl rfl (by kernel_rfl) Try.func9 (by kernel_rfl)
    (of_decide_eq_true (by kernel_rfl)) (by unfold Func.isWrapper; rw [if_neg (of_decide_eq_false (by kernel_rfl))]; exact ⟨rfl, rfl⟩)
    (fun os started H enc _ => lifted os started H enc)

theorem proved : Rows.ArenaBytesSaid :=
  over
end Go.Proofs.Ytpaioclagnmblaa.arenaBytes
