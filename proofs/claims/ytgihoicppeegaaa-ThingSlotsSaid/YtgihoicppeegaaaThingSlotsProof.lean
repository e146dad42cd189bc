/-
  penfoldlaw08.ThingSlots returns true for every slice of heads, and changes nothing that was there; no condition.
-/
import Derived.Test.YtgihoicppeegaaaRows
import Derived.Test.YtgihoicppeegaaaArgs
import Derived.Test.YtgihoicppeegaaaArgsB
import Derived.Test.YtgihoicppeegaaaOne
import Derived.StillTailTactics
import Derived.Deep.QuietTactic
import Derived.BigQuiet
namespace Go.Proofs.Ytgihoicppeegaaa.thingSlots
open Go.ChangeShapes Go.WideShapes Go.ChangeAt Go.RowKit
set_option linter.unusedVariables false

open Thing Arena Mem Ref Held
open Heads (unV firstV)
theorem wr64 {x : Int} (h1 : -9223372036854775808 ≤ x) (h2 : x ≤ 9223372036854775807) : IntKind.i64.wrap x = x := by rw [IntKind.wrap_i64]; omega
theorem wru64 {x : Int} (h1 : 0 ≤ x) (h2 : x ≤ 18446744073709551615) : IntKind.u64.wrap x = x := by rw [wrap_u64]; omega
/-- What the walk carries through the first loops: the row, what the slots of the objects ahead hold, and those of the one in hand up to slot k. -/
structure Fi (w W : World) (N : Nat) (f : Nat → Int) (hs a b : List Hd) (h : Hd) (p k : Nat) (v u : Value) : Prop where
  R : Rw w W N f hs v u
  ahead : Sl f 8 0 a
  own : ∀ j : Nat, j < k → f (p + 2 + j) = 100 * (a.length : Int) + (j : Int) + 1
theorem Fi.drew {w W : World} {N : Nat} {f : Nat → Int} {hs a b : List Hd} {h : Hd} {p k : Nat} {v u : Value} (q : Fi w W N f hs a b h p k v u) : Fi w W.drew N f hs a b h p k v u := ⟨q.R.call (Below.refl _ _).drew, q.ahead, q.own⟩
theorem Fi.put {w W : World} {N : Nat} {f : Nat → Int} {hs a b : List Hd} {h : Hd} {p k : Nat} {v u : Value} {y x : Int} (q : Fi w W N f hs a b h p k v u) (e : hs = a ++ h :: b) (hp : p = 8 + total a) (hk : (k : Int) < h.n) (hr : h.right) (hf : p + h.s ≤ 62) (hy : y = 8 * (p : Int) + 16 + 8 * (k : Int)) (hx : x = 100 * (a.length : Int) + (k : Int) + 1) (x1 : 0 ≤ x) (x2 : x ≤ 18446744073709551615) :
    Calls Try.prog 24 #[.pointer (some ⟨N + 1, 0, none⟩), .int .i64 y, .int .u64 x] W fun z W' => z = .returned (.int .i64 0) ∧ Fi w W' N (setF f (p + 2 + k) x) hs a b h p (k + 1) v u := by
  have hb := hr.bd
  refine (put_ok W _ _ 80 (p + 2 + k) f y x q.R.ar (by omega) (by omega) x1 x2).mono fun z W' ⟨hz, hA, hg⟩ => ⟨hz, q.R.put e (by omega) (by omega) hA hg, ?_, fun j hj => ?_⟩
  · have L := q.R.laid
    rw [e, laid_app] at L
    exact sl_out L.1 q.ahead fun j k1 k2 => setF_other _ _ _ _ (by omega)
  · by_cases ej : j = k
    · subst ej
      rw [setF_same, hx]
    · rw [setF_other _ _ _ _ (by omega)]
      exact q.own j (by omega)

set_option maxRecDepth 100000 in
set_option maxHeartbeats 8000000 in
theorem walk (lA : Option Addr) (ln lc : Nat) (lz : Nat → Nat → Int) (w : World) (hl : Args.PRecs [some .i64, some .i64, some .i64, none, some .i64, some .i64] w lA ln lz) :
    Calls Try.prog 5 #[.slice lA ln lc] w fun e w' => e = .returned (.bool true) ∧ Below w.heap.size w w' := by
  have hln := hl.len
  have hmx : maxLen ≤ 9223372036854775807 := by decide
  go_enter Try.func5, Try.ntmps5
  go_wp2_with fail
  refine (shown_any _).mono ?_
  rintro z w1 ⟨rfl, k1⟩
  go_wp2_with fail
  refine (row_any _ _ _ _ _ (hl.below k1)).mono ?_
  rintro z w2 ⟨hs, f0, v, u, rfl, R0⟩
  obtain ⟨pv, cv, pu, cu, rfl, rfl⟩ := R0.forms
  have R := R0.base k1
  have hlen := R0.len
  clear R0 hl
  generalize w1.heap.size = N at *
  go_wp2_with fail
  go_loopw [9] (fun t wr => ∃ (i : Nat) (f : Nat → Int), i ≤ hs.length ∧ t = .int .i64 i ∧ Sl f 8 0 (hs.take i) ∧ Rw w wr N f hs (.slice pv hs.length cv) (.slice pu hs.length cu)) (fun t _ => hs.length - (intOf t).toNat)
  case atStart => exact ⟨0, f0, by omega, rfl, trivial, R⟩
  case round =>
    clear R
    obtain ⟨i, f, hi, rfl, hS, R⟩ := hrel
    by_cases hlt : i < hs.length
    · obtain ⟨a, b, h, p, g, g', O⟩ := R.one hlt
      have hb := O.right.bd
      have hfit := O.fits
      obtain rfl := O.hv
      obtain rfl := O.hu
      rw [O.take] at hS
      have F0 : Fi w wr N f hs a b h p 0 (.slice (some ⟨g, 0, none⟩) hs.length cv) (.slice (some ⟨g', 0, none⟩) hs.length cu) := ⟨R, hS, fun j hj => absurd hj (Nat.not_lt_zero _)⟩
      have LH := Lib.hid O.split
      have LP := Lib.hid O.at_
      have LL := Lib.hid O.len
      have LT := Lib.hid O.take1
      have LR := Lib.hid O.right
      clear hS O R
      go_wp2_with fail
      go_loopw [10] (fun t wr => ∃ (k : Nat) (f : Nat → Int), (k : Int) ≤ h.n ∧ t = .int .i64 k ∧ Fi w wr N f hs a b h p k (.slice (some ⟨g, 0, none⟩) hs.length cv) (.slice (some ⟨g', 0, none⟩) hs.length cu)) (fun t _ => h.n.toNat - (intOf t).toNat)
      case atStart => exact ⟨0, f, by omega, rfl, F0⟩
      case round =>
        clear F0
        obtain ⟨k, f, hk, rfl, F⟩ := hrel
        have O := F.R.again LH.out LL.out LP.out
        have q := O.q
        have c0 := O.c0
        have c1 := O.c1
        have SV := Lib.hid (O.slot k)
        have F' := F.drew
        by_cases hkn : (k : Int) < h.n
        · have SW : Hid (slotV 80 f (8 * (p : Int)) k = ⟨8 * (p : Int) + 16 + 8 * (k : Int), 0⟩) := Lib.hid (SV.out.trans (if_pos ⟨by omega, hkn⟩))
          have d0 : decide ((k : Int) < h.n) = true := decide_eq_true hkn
          clear SV O
          go_wp2_with fail
          refine (slot_any _ _ _ 80 f _ _ F.R.ar (by omega) (by omega) (by omega) (by omega)).mono ?_
          rintro z w3 ⟨rfl, k3⟩
          rw [SW.out]
          have F3 : Fi w w3 N f hs a b h p k (.slice (some ⟨g, 0, none⟩) hs.length cv) (.slice (some ⟨g', 0, none⟩) hs.length cu) := ⟨F.R.call k3, F.ahead, F.own⟩
          have D3 := F3.drew
          have O3 := F3.R.again LH.out LL.out LP.out
          have q3 := O3.q
          have e0 := O3.c0
          clear O3 F F' q c0 c1 k3
          obtain ⟨P, hP⟩ : ∃ P : Int, 8 * (p : Int) = P := ⟨_, rfl⟩
          obtain ⟨y, hy⟩ : ∃ y : Int, P + 16 + 8 * (k : Int) = y := ⟨_, rfl⟩
          have HY : Hid (y = 8 * (p : Int) + 16 + 8 * (k : Int)) := Lib.hid (by omega)
          have d1 : decide (y < P + 16) = false := decide_eq_false (by omega)
          have d2 : decide (P + 8 * (h.s : Int) < y + 8) = false := decide_eq_false (by omega)
          have y1 : 0 ≤ y ∧ y ≤ 1000 ∧ 0 ≤ P ∧ P ≤ 1000 := by omega
          obtain ⟨y1, y2, y3, y4⟩ := y1
          have HQ : Hid (8 * (p : Int) = P) := Lib.hid hP
          rw [hP, hy]
          rw [hP] at q3
          clear hP hy
          go_wp2_with fail
          have x1 := wr64 (x := P + 16) (by omega) (by omega)
          have x2 := wr64 (x := y + 8) (by omega) (by omega)
          have x3 := wr64 (x := 8 * (h.s : Int)) (by omega) (by omega)
          have x4 := wr64 (x := P + 8 * (h.s : Int)) (by omega) (by omega)
          have x5 := wr64 (x := 100 * (i : Int)) (by omega) (by omega)
          have x6 := wr64 (x := 100 * (i : Int) + (k : Int)) (by omega) (by omega)
          have x7 := wr64 (x := 100 * (i : Int) + (k : Int) + 1) (by omega) (by omega)
          have x8 := wru64 (x := 100 * (i : Int) + (k : Int) + 1) (by omega) (by omega)
          go_still_tail 36, (by kernel_rfl)
          try simp only [x1, d1]
          repeat still_step
          try simp only [x1, x2, x3, x4, d1, d2]
          repeat still_step
          try refine wpStill_nil ?_
          try simp only [x1, x2, x3, x4, x5, x6, x7, x8, d1, d2]
          clear x1 x2 x3 x4 x5 x6 x7 x8
          change wpList _ _ _ _ _ w3.drew
          generalize w3.drew = W3 at *
          go_wp2_with fail
          refine (Fi.put D3 LH.out LP.out hkn LR.out hfit HY.out (by rw [LL.out]) (by omega) (by omega)).mono ?_
          rintro z w4 ⟨rfl, F4⟩
          go_wp2_with fail
          go_roundw
          case rel => exact ⟨k + 1, _, by omega, by go_num, F4⟩
          case measure => simp [intOf]; omega
        · have hkn' : (k : Int) = h.n := by omega
          have d0 : decide ((k : Int) < h.n) = false := decide_eq_false hkn
          clear SV
          go_wp2_with fail
          go_roundw
          case rel =>
            refine ⟨i + 1, f, by omega, by go_num, ?_, F.R⟩
            rw [LT.out, sl_app]
            refine ⟨F.ahead, fun j hj => ?_, trivial⟩
            rw [← LP.out, LL.out]
            have := F.own j (by omega)
            rw [LL.out] at this
            simpa using this
          case measure => simp [intOf]; omega
    · obtain rfl : i = hs.length := by omega
      rw [List.take_length] at hS
      clear hlt hi
      go_wp2_with fail
      go_loopw [13] (fun t wr => ∃ i : Nat, i ≤ hs.length ∧ t = .int .i64 i ∧ Rw w wr N f hs (.slice pv hs.length cv) (.slice pu hs.length cu)) (fun t _ => hs.length - (intOf t).toNat)
      case atStart => exact ⟨0, by omega, rfl, R⟩
      case round =>
        clear R
        obtain ⟨i, hi, rfl, R⟩ := hrel
        by_cases hlt : i < hs.length
        · obtain ⟨a, b, h, p, g, g', O⟩ := R.one hlt
          have hb := O.right.bd
          have hfit := O.fits
          obtain rfl := O.hv
          obtain rfl := O.hu
          have q := O.q
          have AV := Lib.hid O.at_V
          have LH := Lib.hid O.split
          have LP := Lib.hid O.at_
          have LL := Lib.hid O.len
          have SK : ∀ k : Nat, (k : Int) < h.n → f (p + 2 + k) = 100 * (i : Int) + (k : Int) + 1 := by
            have hS' := hS
            rw [O.split, sl_app] at hS'
            have := hS'.2.1
            rw [← O.at_, O.len] at this
            simpa using this
          have HSK := Lib.hid SK
          clear SK O
          go_wp2_with fail
          refine (at_any _ _ _ 80 f _ R.ar (by omega) (by omega)).mono ?_
          rintro z w3 ⟨rfl, k3⟩
          rw [AV.out]
          have S3 := ((St.start wr).call k3).new [.int .i64 (h.s : Int), .int .i64 h.n, .int .i64 h.t, .bool h.d, .int .i64 h.c, .int .i64 h.e] 30
          go_wp2_with fail
          have R3 := R.call S3.below
          have O3 := R3.again LH.out LL.out LP.out
          obtain ⟨ql, r0, r1, r2, r3, r4, r5⟩ := S3.get6 0 rfl
          have c0 := O3.c0
          have c1 := O3.c1
          have c2 := O3.c2
          have c3 := O3.c3
          have c4 := O3.c4
          have c5 := O3.c5
          generalize (w3.alloc (.cells #[.int .i64 (h.s : Int), .int .i64 h.n, .int .i64 h.t, .bool h.d, .int .i64 h.c, .int .i64 h.e] 30)) = W3 at *
          clear O3 S3 k3 R q
          go_quiet (fail)
          have R4 := R3.call (below_drewN (Below.refl _ W3) nq)
          clear R3 r0 r1 r2 r3 r4 r5 c0 c1 c2 c3 c4 c5 ql
          go_wp2_with fail
          go_loopw [16] (fun t wr => ∃ k : Nat, (k : Int) ≤ h.n ∧ t = .int .i64 k ∧ Rw w wr N f hs (.slice (some ⟨g, 0, none⟩) hs.length cv) (.slice (some ⟨g', 0, none⟩) hs.length cu)) (fun t _ => h.n.toNat - (intOf t).toNat)
          case atStart => exact ⟨0, by omega, rfl, R4⟩
          case round =>
            clear R4
            obtain ⟨k, hk, rfl, R⟩ := hrel
            have O := R.again LH.out LL.out LP.out
            have q := O.q
            have c1 := O.c1
            have SV := Lib.hid (O.slot k)
            clear O
            by_cases hkn : (k : Int) < h.n
            · have SW : Hid (slotV 80 f (8 * (p : Int)) k = ⟨8 * (p : Int) + 16 + 8 * (k : Int), 0⟩) := Lib.hid (SV.out.trans (if_pos ⟨by omega, hkn⟩))
              have d0 : decide ((k : Int) < h.n) = true := decide_eq_true hkn
              have HF := Lib.hid (HSK.out k hkn)
              clear SV
              go_wp2_with fail
              refine (slot_any _ _ _ 80 f _ _ R.ar (by omega) (by omega) (by omega) (by omega)).mono ?_
              rintro z w5 ⟨rfl, k5⟩
              rw [SW.out]
              have R5 := R.call k5
              clear R k5 q c1
              go_wp2_with fail
              refine (word_ok _ _ _ 80 (p + 2 + k) f _ R5.ar (by omega) (by omega)).mono ?_
              rintro z w6 ⟨rfl, rfl⟩
              rw [HF.out]
              go_wp2_with fail
              go_roundw
              case rel => exact ⟨k + 1, by omega, by go_num, R5⟩
              case measure => simp [intOf]; omega
            · have d0 : decide ((k : Int) < h.n) = false := decide_eq_false hkn
              clear SV
              go_wp2_with fail
              go_roundw
              case rel => exact ⟨i + 1, by omega, by go_num, R⟩
              case measure => simp [intOf]; omega
        · obtain rfl : i = hs.length := by omega
          go_wp2_with fail
          go_ret
          exact ⟨rfl, R.below⟩

set_option maxRecDepth 100000 in
theorem lifted (os : Os) (started : os.Started) (H : Type) (enc : TypeId × Value → H) :
    ReturnsInHanded {} Try.checked os 5 .any (Rows.thingSlotsSpec.pre6 enc Try.prog Try.f5 Rows.thingSlotsRow.domain false) (Rows.thingSlotsSpec.post enc Try.prog Try.f5 false true false false) := by
  refine returnsInHanded_of_change (C := Try.checked) Args.own started (by kernel_rfl) Try.func5
    (ChangeSpec.witness6 (enc := enc) (C := Try.checked) false ⟨#[], #[.slice none 0 0], []⟩ 8 (by kernel_rfl) (by kernel_rfl) (by kernel_rfl) (by kernel_rfl)) ?_
  intro W base args ds gs before hval0 hW hcnd _
  have hval : ∀ (j : Nat) t v, Try.f5.params[j]? = some t → args[j]? = some v → Value.okWide Try.prog W .any base t v := hval0
  have hW' := hW
  obtain ⟨p, q, hA0, hV, rfl, hfz, hnd⟩ := hW
  have hA : DataW.TrodAll enc Try.prog W 0 (fun _ => true) true Try.f5.params.toList args.toList ds p := hA0
  rw [Try.params5] at hA hval
  obtain ⟨v0, vs0, d0, ds0, p0, q0, hargs, rfl, rfl, h0, r0⟩ := trodAll_cons hA
  obtain ⟨rfl, rfl, rfl⟩ := trodAll_nil r0
  obtain rfl : args = #[v0] := by cases args; simp_all
  obtain ⟨rfl, rfl⟩ := trodVars_none hV
  have lt0 := Args.trod_below h0
  obtain ⟨lA, ln, lc, lz, rfl, hl⟩ := Args.precs_in (ks := [some .i64, some .i64, some .i64, none, some .i64, some .i64]) (e := 30) (by kernel_rfl) Try.underlying30 (by kernel_rfl) (by kernel_rfl) (by decide) (hval 0 51 v0 rfl rfl) h0
  clear hA0 hval0
  refine (walk lA ln lc lz W hl).mono fun e W' ⟨he, bel⟩ => ?_
  subst he
  exact ⟨_, rfl, _, _, _, [], _, [], hW', trodAll_mk1 (shut_bool Try.underlying4 _), trodAll_cons_mk (Below.trod Args.laidOut (by kernel_rfl) (of_decide_eq_true (by kernel_rfl)) h0 bel lt0) (trodAll_mk0), rfl, bel.frame _, fun h => by cases h⟩

theorem over : Rows.thingSlotsRow.holds Try.pinned (OpenSpec.ofChange Rows.thingSlotsSpec) :=
  OpenClaim.holds_of_wide 5 Try.f5 rfl rfl rfl rfl rfl rfl rfl ⟨rfl, rfl, rfl, rfl, rfl⟩ rfl rfl rfl rfl rfl (by kernel_rfl) Try.func5 (by kernel_rfl)
    (of_decide_eq_true (by kernel_rfl)) (by unfold Func.isWrapper; rw [if_neg (of_decide_eq_false (by kernel_rfl))]; exact ⟨rfl, rfl⟩)
    (fun os started H enc _ => lifted os started H enc)

theorem proved : Rows.ThingSlotsSaid :=
  over
end Go.Proofs.Ytgihoicppeegaaa.thingSlots
