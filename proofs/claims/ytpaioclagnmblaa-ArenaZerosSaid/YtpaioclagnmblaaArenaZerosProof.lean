/-
  penfoldlaw02.ArenaZeros returns true for every 20 uint64 and every two integers of 64 bits; no condition.
-/
import Derived.Test.YtpaioclagnmblaaRows
import Derived.Test.YtpaioclagnmblaaArgs
import Derived.Test.YtpaioclagnmblaaFilled
namespace Go.Proofs.Ytpaioclagnmblaa.arenaZeros
open Go.ChangeShapes Go.WideShapes Go.ChangeAt Go.RowKit
set_option linter.unusedVariables false

open Arena Mem
theorem boxed1 {w w1 : World} {z : Nat → Int}
    (k : Below (w.alloc (.cells (cs20 z) 55)).heap.size (w.alloc (.cells (cs20 z) 55)) w1) :
    w1.heap[w.heap.size]? = some (.cells (cs20 z) 55 (0, 0)) ∧ Below w.heap.size w w1 ∧ w.heap.size + 1 ≤ w1.heap.size := by
  have hz := k.size
  have k' := k.block
  rw [size_alloc] at hz k'
  refine ⟨?_, ?_, by omega⟩
  · rw [k' _ (by omega), heap_new]
  · exact ((Below.refl _ _).alloc (Nat.le_refl _) _).trans (k.mono (by simp))
/-- The ways through the law's own test. -/
theorem ways (a n : Int) : (n = 0) ∨ (n < 0) ∨ (0 < n ∧ a < 0) ∨ (0 < n ∧ 160 ≤ a) ∨ (0 < n ∧ 0 ≤ a ∧ a < 160 ∧ ¬ a % 8 = 0) ∨
    (0 < n ∧ 0 ≤ a ∧ a < 160 ∧ a % 8 = 0 ∧ ¬ n ≤ 20 - a / 8) ∨ (0 < n ∧ 0 ≤ a ∧ a < 160 ∧ a % 8 = 0 ∧ n ≤ 20 - a / 8) := by omega
theorem zeroB_no {a n : Int} (h0 : ¬ n = 0) (h : ¬ (0 < n ∧ 0 ≤ a ∧ a < 160 ∧ a % 8 = 0 ∧ n ≤ 20 - a / 8)) : zeroE 20 a n = 1 ∧ ∀ f, zeroF 20 f a n = f := by
  have hb : zeroB 20 a n = false := by
    unfold zeroB okW
    rw [Bool.eq_false_iff]
    intro hh
    simp only [Bool.or_eq_true, Bool.and_eq_true, decide_eq_true_eq] at hh
    apply h
    omega
  exact ⟨by unfold zeroE; rw [hb]; rfl, fun f => by unfold zeroF; rw [hb]; rfl⟩
theorem zeroB_yes {a n : Int} (h1 : 0 < n) (h2 : 0 ≤ a) (h3 : a < 160) (h4 : a % 8 = 0) (h5 : n ≤ 20 - a / 8) : zeroE 20 a n = 0 ∧ ∀ f, zeroF 20 f a n = zeroUp f (a.toNat / 8) n.toNat := by
  have hb : zeroB 20 a n = true := by
    unfold zeroB okW
    simp only [Bool.or_eq_true, Bool.and_eq_true, decide_eq_true_eq]
    omega
  exact ⟨by unfold zeroE; rw [if_pos hb], fun f => by unfold zeroF; rw [if_pos hb]⟩
theorem zeroB_none (a : Int) : zeroE 20 a 0 = 0 ∧ ∀ f, zeroF 20 f a 0 = f := by
  have hb : zeroB 20 a 0 = true := by simp [zeroB]
  exact ⟨by unfold zeroE; rw [if_pos hb], fun f => by unfold zeroF; rw [if_pos hb]; exact zeroUp_none f _⟩

set_option maxRecDepth 100000 in
set_option maxHeartbeats 8000000 in
theorem walk (lz : Nat → Int) (at_ : Int) (n : Int) (w : World) (hl : ∀ i, (Lit.int .u64 (lz i)).wf = true) (wat_ : (Lit.int .i64 at_).wf = true) (wn : (Lit.int .i64 n).wf = true) :
    Calls Try.prog 8 #[.agg (Array.ofFn (n := 20) fun i => .int .u64 (lz i)), .int .i64 at_, .int .i64 n] w fun e w' => e = .returned (.bool true) ∧ Below w.heap.size w w' := by
  have ⟨a1, a2⟩ := bounds_i64 wat_
  have ⟨n1, n2⟩ := bounds_i64 wn
  rw [show (Array.ofFn (n := 20) fun i => Value.int .u64 (lz i)) = cs20 lz from rfl]
  clear wat_ wn
  go_enter Try.func8, Try.ntmps8
  go_wp2_with fail
  refine (shown_any _).mono ?_
  rintro e w1 ⟨rfl, k1⟩
  obtain ⟨H0, K1, z1⟩ := boxed1 k1
  clear k1
  have R0 := cs20_of H0
  have HH := Lib.hid H0
  clear H0
  go_wp2_with (with_reducible refine wpList_load_row rfl 55 (.tmp 3) rfl w.heap.size rfl 55 (cs20 lz) (0, 0) _ HH.out Try.underlying55 rfl (info20 lz) ?_)
  refine (filled_any _ lz hl).mono ?_
  rintro e w2 ⟨rfl, h2, k2, z2⟩
  have R2 := R0.of_block (k2.block _ (by omega))
  have K2 := K1.trans (k2.mono (by omega))
  clear HH R0 k2
  go_wp2_with fail
  refine (zero_any _ _ _ 20 _ at_ n h2 a1 a2 n1 n2).mono ?_
  rintro e w3 ⟨rfl, h3, g3⟩
  have R3 := R2.of_block (g3.block _ (by omega) (by intro e; injection e; omega))
  have K3 := below_only K2 g3 (by omega) (by omega)
  clear R2 K2
  rcases ways at_ n with rfl | c1 | ⟨c1, c2⟩ | ⟨c1, c2⟩ | ⟨c1, c2, c3, c4⟩ | ⟨c1, c2, c3, c4, c5⟩ | ⟨c1, c2, c3, c4, c5⟩
  rotate_right
  · have ⟨e1, e2⟩ := zeroB_yes c1 c2 c3 c4 c5
    rw [e1]
    have h4 := h3
    rw [e2] at h4
    obtain ⟨i, hi⟩ : ∃ i : Nat, at_ = 8 * (i : Int) := ⟨(at_ / 8).toNat, by omega⟩
    obtain ⟨m, hm⟩ : ∃ m : Nat, n = (m : Int) := ⟨n.toNat, by omega⟩
    subst hi hm
    rw [show (8 * (i : Int)).toNat / 8 = i by omega, show ((m : Int)).toNat = m by omega] at h4
    have d1 : (8 * (i : Int) % 8 == 0) = true := by simp
    have d2 : 8 * (i : Int) / 8 = (i : Int) := by omega
    have c6 : (m : Int) ≤ 20 - (i : Int) := by omega
    clear e1 e2 h3 c4 c5
    have d0 : ((m : Int) == 0) = false := by simp; omega
    go_wp2_with fail
    go_loop [11] (fun t => ∃ j : Nat, j ≤ 20 ∧ t = .int .i64 j) (fun t => 20 - (intOf t).toNat)
    case atStart => exact ⟨0, by omega, rfl⟩
    case round =>
      obtain ⟨j, hj, rfl⟩ := hrel
      by_cases hlt : j < 20
      · have q6 : w3.cell? ⟨w.heap.size, j, none⟩ = some (.int .u64 (lz j)) := R3.cell (i := j) hlt
        by_cases hr : i ≤ j ∧ j < i + m
        · have FI := Lib.hid (show zeroUp (upTo lz 20) i m j = 0 from if_pos hr)
          obtain ⟨hr1, hr2⟩ := hr
          have b1 : decide ((i : Int) ≤ (j : Int)) = true := by simp; omega
          have b2 : decide ((j : Int) - (i : Int) < (m : Int)) = true := by simp; omega
          go_wp2_with fail
          refine (word_ok _ _ _ 20 j _ _ h4 hlt (by omega)).mono ?_
          rintro e w' ⟨rfl, rfl⟩
          rw [FI.out]
          go_wp2_with fail
          go_round
          case rel => exact ⟨j + 1, by omega, by go_num⟩
          case measure => simp [intOf]; omega
        · have FI := Lib.hid (show zeroUp (upTo lz 20) i m j = lz j from (if_neg hr).trans (upTo_at lz 20 j hlt))
          by_cases hr1 : i ≤ j
          · have hr2 : i + m ≤ j := by omega
            clear hr
            go_wp2_with fail
            refine (word_ok _ _ _ 20 j _ _ h4 hlt (by omega)).mono ?_
            rintro e w' ⟨rfl, rfl⟩
            rw [FI.out]
            go_wp2_with fail
            go_round
            case rel => exact ⟨j + 1, by omega, by go_num⟩
            case measure => simp [intOf]; omega
          · have hr2 : j < i := by omega
            clear hr hr1
            go_wp2_with fail
            refine (word_ok _ _ _ 20 j _ _ h4 hlt (by omega)).mono ?_
            rintro e w' ⟨rfl, rfl⟩
            rw [FI.out]
            go_wp2_with fail
            go_round
            case rel => exact ⟨j + 1, by omega, by go_num⟩
            case measure => simp [intOf]; omega
      · go_wp2_with fail
        go_ret
        exact ⟨rfl, K3⟩
  · have ⟨e1, e2⟩ := zeroB_none at_
    rw [e1]
    have h4 := h3
    rw [e2] at h4
    clear e1 e2 h3
    go_wp2_with fail
    go_loop [11] (fun t => ∃ j : Nat, j ≤ 20 ∧ t = .int .i64 j) (fun t => 20 - (intOf t).toNat)
    case atStart => exact ⟨0, by omega, rfl⟩
    case round =>
      obtain ⟨j, hj, rfl⟩ := hrel
      by_cases hlt : j < 20
      · have q6 : w3.cell? ⟨w.heap.size, j, none⟩ = some (.int .u64 (lz j)) := R3.cell (i := j) hlt
        have FI := Lib.hid (upTo_at lz 20 j hlt)
        go_wp2_with fail
        refine (word_ok _ _ _ 20 j _ _ h4 hlt (by omega)).mono ?_
        rintro e w' ⟨rfl, rfl⟩
        rw [FI.out]
        go_wp2_with fail
        go_round
        case rel => exact ⟨j + 1, by omega, by go_num⟩
        case measure => simp [intOf]; omega
      · go_wp2_with fail
        go_ret
        exact ⟨rfl, K3⟩
  all_goals
    have ⟨e1, e2⟩ := zeroB_no (a := at_) (n := n) (by omega) (by omega)
    rw [e1]
    have h4 := h3
    rw [e2] at h4
    have d0 : (n == 0) = false := by simp; omega
    have d8 : 0 ≤ at_ → ¬ at_ % 8 = 0 → (at_ % 8 == 0) = false := fun _ h => by simpa using h
    clear e1 e2 h3
    go_wp2_with fail
    go_loop [11] (fun t => ∃ j : Nat, j ≤ 20 ∧ t = .int .i64 j) (fun t => 20 - (intOf t).toNat)
    case atStart => exact ⟨0, by omega, rfl⟩
    case round =>
      obtain ⟨j, hj, rfl⟩ := hrel
      by_cases hlt : j < 20
      · have q6 : w3.cell? ⟨w.heap.size, j, none⟩ = some (.int .u64 (lz j)) := R3.cell (i := j) hlt
        have FI := Lib.hid (upTo_at lz 20 j hlt)
        go_wp2_with fail
        refine (word_ok _ _ _ 20 j _ _ h4 hlt (by omega)).mono ?_
        rintro e w' ⟨rfl, rfl⟩
        rw [FI.out]
        go_wp2_with fail
        go_round
        case rel => exact ⟨j + 1, by omega, by go_num⟩
        case measure => simp [intOf]; omega
      · go_wp2_with fail
        go_ret
        exact ⟨rfl, K3⟩

set_option maxRecDepth 100000 in
theorem lifted (os : Os) (started : os.Started) (H : Type) (enc : TypeId × Value → H) :
    ReturnsInHanded {} Try.checked os 8 .any (Rows.arenaZerosSpec.pre6 enc Try.prog Try.f8 Rows.arenaZerosRow.domain false) (Rows.arenaZerosSpec.post enc Try.prog Try.f8 false true false false) := by
  refine returnsInHanded_of_change (C := Try.checked) Args.own started (by kernel_rfl) Try.func8
    (ChangeSpec.witness6 (enc := enc) (C := Try.checked) false ⟨#[], #[.agg #[.int .u64 0, .int .u64 0, .int .u64 0, .int .u64 0, .int .u64 0, .int .u64 0, .int .u64 0, .int .u64 0, .int .u64 0, .int .u64 0, .int .u64 0, .int .u64 0, .int .u64 0, .int .u64 0, .int .u64 0, .int .u64 0, .int .u64 0, .int .u64 0, .int .u64 0, .int .u64 0], .int .i64 0, .int .i64 0], []⟩ 8 (by kernel_rfl) (by kernel_rfl) (by kernel_rfl) (by kernel_rfl)) ?_
  intro W base args ds gs before hval0 hW hcnd _
  have hval : ∀ (j : Nat) t v, Try.f8.params[j]? = some t → args[j]? = some v → Value.okWide Try.prog W .any base t v := hval0
  have hW' := hW
  obtain ⟨p, q, hA0, hV, rfl, hfz, hnd⟩ := hW
  have hA : DataW.TrodAll enc Try.prog W 0 (fun _ => true) true Try.f8.params.toList args.toList ds p := hA0
  rw [Try.params8] at hA hval
  obtain ⟨v0, vs0, d0, ds0, p0, q0, hargs, rfl, rfl, h0, r0⟩ := trodAll_cons hA
  obtain ⟨v1, vs1, d1, ds1, p1, q1, rfl, rfl, rfl, h1, r1⟩ := trodAll_cons r0
  obtain ⟨v2, vs2, d2, ds2, p2, q2, rfl, rfl, rfl, h2, r2⟩ := trodAll_cons r1
  obtain ⟨rfl, rfl, rfl⟩ := trodAll_nil r2
  obtain rfl : args = #[v0, v1, v2] := by cases args; simp_all
  obtain ⟨rfl, rfl⟩ := trodVars_none hV
  have lt0 := Args.trod_below h0
  obtain ⟨lz, rfl, hl⟩ := Args.arr_in (m := 20) (k := .u64) (e := 30) (by kernel_rfl) (by kernel_rfl) (by kernel_rfl) (by kernel_rfl) (hval 0 55 v0 rfl rfl) h0
  have lt1 := Args.trod_below h1
  obtain ⟨at_, rfl, rfl, rfl, wat_⟩ := open_int Try.underlying3 (hval 1 3 v1 rfl rfl) h1
  have lt2 := Args.trod_below h2
  obtain ⟨n, rfl, rfl, rfl, wn⟩ := open_int Try.underlying3 (hval 2 3 v2 rfl rfl) h2
  clear hA0 hval0
  refine (walk lz at_ n W hl wat_ wn).mono fun e W' ⟨he, bel⟩ => ?_
  subst he
  exact ⟨_, rfl, _, _, _, [], _, [], hW', trodAll_mk1 (shut_bool Try.underlying4 _), trodAll_cons_mk (Below.trod Args.laidOut (by kernel_rfl) (of_decide_eq_true (by kernel_rfl)) h0 bel lt0) (trodAll_cons_mk (Below.trod Args.laidOut (by kernel_rfl) (of_decide_eq_true (by kernel_rfl)) h1 bel lt1) (trodAll_cons_mk (Below.trod Args.laidOut (by kernel_rfl) (of_decide_eq_true (by kernel_rfl)) h2 bel lt2) (trodAll_mk0))), rfl, bel.frame _, fun h => by cases h⟩

theorem over : Rows.arenaZerosRow.holds Try.pinned (OpenSpec.ofChange Rows.arenaZerosSpec) :=
  OpenClaim.holds_of_wide 8 Try.f8 rfl rfl rfl rfl rfl rfl rfl ⟨rfl, rfl, rfl, rfl, rfl⟩ rfl rfl rfl rfl rfl (by kernel_rfl) Try.func8 (by kernel_rfl)
    (of_decide_eq_true (by kernel_rfl)) (by unfold Func.isWrapper; rw [if_neg (of_decide_eq_false (by kernel_rfl))]; exact ⟨rfl, rfl⟩)
    (fun os started H enc _ => lifted os started H enc)

theorem proved : Rows.ArenaZerosSaid :=
  over
end Go.Proofs.Ytpaioclagnmblaa.arenaZeros
