/-
  penfoldlaw02.ArenaNew returns true for every two integers of 64 bits; no condition.
-/
import Derived.Test.YtpaioclagnmblaaRows
import Derived.Test.YtpaioclagnmblaaArgs
import Derived.Test.YtpaioclagnmblaaShown
namespace Go.Proofs.Ytpaioclagnmblaa.arenaNew
open Go.ChangeShapes Go.WideShapes Go.ChangeAt Go.RowKit
set_option linter.unusedVariables false

open Arena Mem
theorem cases_at (k : Nat) (a : Int) :
    (0 ≤ a ∧ a < 8 * (k : Int) ∧ decide (0 ≤ a) = true ∧ decide (a < 8 * (k : Int)) = true ∧ (a % 8 == 0) = true ∧ errB k a = 0 ∧ errW k a = 0) ∨
    (0 ≤ a ∧ a < 8 * (k : Int) ∧ decide (0 ≤ a) = true ∧ decide (a < 8 * (k : Int)) = true ∧ (a % 8 == 0) = false ∧ errB k a = 0 ∧ errW k a = 1) ∨
    (a < 0 ∧ a < 8 * (k : Int) ∧ decide (0 ≤ a) = false ∧ decide (a < 8 * (k : Int)) = true ∧ true = true ∧ errB k a = 1 ∧ errW k a = 1) ∨
    (0 ≤ a ∧ 8 * (k : Int) ≤ a ∧ decide (0 ≤ a) = true ∧ decide (a < 8 * (k : Int)) = false ∧ true = true ∧ errB k a = 1 ∧ errW k a = 1) := by
  by_cases h1 : 0 ≤ a
  · by_cases h2 : a < 8 * (k : Int)
    · by_cases h3 : a % 8 = 0
      · exact .inl ⟨h1, h2, decide_eq_true h1, decide_eq_true h2, by simpa using h3, errB_yes (okB_yes h1 h2), errW_yes (okW_yes h1 h2 h3)⟩
      · exact .inr (.inl ⟨h1, h2, decide_eq_true h1, decide_eq_true h2, by simpa using h3, errB_yes (okB_yes h1 h2), errW_no (okW_no (by omega))⟩)
    · exact .inr (.inr (.inr ⟨h1, by omega, decide_eq_true h1, decide_eq_false h2, rfl, errB_no (okB_no (by omega)), errW_no (okW_no (by omega))⟩))
  · exact .inr (.inr (.inl ⟨by omega, by omega, decide_eq_false h1, decide_eq_true (by omega), rfl, errB_no (okB_no (by omega)), errW_no (okW_no (by omega))⟩))

set_option maxRecDepth 100000 in
set_option maxHeartbeats 8000000 in
theorem walk (n : Int) (at_ : Int) (w : World) (wn : (Lit.int .i64 n).wf = true) (wat_ : (Lit.int .i64 at_).wf = true) :
    Calls Try.prog 4 #[.int .i64 n, .int .i64 at_] w fun e w' => e = .returned (.bool true) ∧ Below w.heap.size w w' := by
  have ⟨n1, n2⟩ := bounds_i64 wn
  have ⟨a1, a2⟩ := bounds_i64 wat_
  by_cases hn : 0 ≤ n ∧ n ≤ 65536 ∧ n % 8 = 0
  · obtain ⟨k, rfl⟩ : ∃ k : Nat, n = 8 * (k : Int) := ⟨n.toNat / 8, by omega⟩
    obtain ⟨hn1, hn2, hn3⟩ := hn
    have hk : k ≤ 8192 := by omega
    have HB := Lib.hid (show byteAt k (fun _ => 0) at_ = 0 by unfold byteAt; split <;> simp [byteV_zero])
    have HW := Lib.hid (show wordV k (fun _ => 0) at_ = 0 by unfold wordV; split <;> rfl)
    rcases cases_at k at_ with ⟨c1, c2, c3, c4, c5, e1, e2⟩ | ⟨c1, c2, c3, c4, c5, e1, e2⟩ | ⟨c1, c2, c3, c4, c5, e1, e2⟩ | ⟨c1, c2, c3, c4, c5, e1, e2⟩
    all_goals
      have E1 := Lib.hid e1
      have E2 := Lib.hid e2
      clear e1 e2 hn3 wn wat_
      go_enter Try.func4, Try.ntmps4
      go_wp2_with (go_at_call 10; refine (shown_any _).mono ?_; rintro e w1 ⟨rfl, k1⟩)
      refine (new_any _ k hk).mono ?_
      rintro e w2 ⟨rfl, h2, k2, z2⟩
      clear z2
      go_wp2_with (first
        | (go_at_call 27; refine (len_any _ _ _ _ _ h2).mono ?_; rintro e w' ⟨rfl, rfl⟩)
        | (go_at_call 15; refine (byte_any _ _ _ _ _ _ h2).mono ?_; rintro e w' ⟨rfl, rfl⟩; rw [HB.out, E1.out])
        | (go_at_call 13; refine (word_any _ _ _ _ _ _ h2 a1 a2).mono ?_; rintro e w' ⟨rfl, rfl⟩; rw [HW.out, E2.out]))
      go_ret
      exact ⟨rfl, k1.trans (k2.mono k1.size)⟩
  · rcases (show n < 0 ∨ 65536 < n ∨ (0 ≤ n ∧ n ≤ 65536 ∧ ¬ n % 8 = 0) by omega) with h | h | ⟨h, h', h''⟩
    rotate_left 2
    · have h3 : (n % 8 != 0) = true := by simpa using h''
      have HN := Lib.hid (show n < 0 ∨ 65536 < n ∨ ¬ n % 8 = 0 by omega)
      clear hn wn wat_
      go_enter Try.func4, Try.ntmps4
      go_wp2_with (first
        | (go_at_call 10; refine (shown_any _).mono ?_; rintro e w1 ⟨rfl, k1⟩)
        | (go_at_call 11; refine (new_no _ n HN.out).mono ?_; rintro e w' ⟨rfl, rfl⟩))
      go_ret
      exact ⟨rfl, by assumption⟩
    all_goals
      have hno : n < 0 ∨ 65536 < n ∨ ¬ n % 8 = 0 := by omega
      have HN := Lib.hid hno
      clear hno hn wn wat_
      go_enter Try.func4, Try.ntmps4
      go_wp2_with (first
        | (go_at_call 10; refine (shown_any _).mono ?_; rintro e w1 ⟨rfl, k1⟩)
        | (go_at_call 11; refine (new_no _ n HN.out).mono ?_; rintro e w' ⟨rfl, rfl⟩))
      go_ret
      exact ⟨rfl, by assumption⟩

set_option maxRecDepth 100000 in
theorem lifted (os : Os) (started : os.Started) (H : Type) (enc : TypeId × Value → H) :
    ReturnsInHanded {} Try.checked os 4 .any (Rows.arenaNewSpec.pre6 enc Try.prog Try.f4 Rows.arenaNewRow.domain false) (Rows.arenaNewSpec.post enc Try.prog Try.f4 false true false false) := by
  refine returnsInHanded_of_change (C := Try.checked) Args.own started (by kernel_rfl) Try.func4
    (ChangeSpec.witness6 (enc := enc) (C := Try.checked) false ⟨#[], #[.int .i64 0, .int .i64 0], []⟩ 8 (by kernel_rfl) (by kernel_rfl) (by kernel_rfl) (by kernel_rfl)) ?_
  intro W base args ds gs before hval0 hW hcnd _
  have hval : ∀ (j : Nat) t v, Try.f4.params[j]? = some t → args[j]? = some v → Value.okWide Try.prog W .any base t v := hval0
  have hW' := hW
  obtain ⟨p, q, hA0, hV, rfl, hfz, hnd⟩ := hW
  have hA : DataW.TrodAll enc Try.prog W 0 (fun _ => true) true Try.f4.params.toList args.toList ds p := hA0
  rw [Try.params4] at hA hval
  obtain ⟨v0, vs0, d0, ds0, p0, q0, hargs, rfl, rfl, h0, r0⟩ := trodAll_cons hA
  obtain ⟨v1, vs1, d1, ds1, p1, q1, rfl, rfl, rfl, h1, r1⟩ := trodAll_cons r0
  obtain ⟨rfl, rfl, rfl⟩ := trodAll_nil r1
  obtain rfl : args = #[v0, v1] := by cases args; simp_all
  obtain ⟨rfl, rfl⟩ := trodVars_none hV
  have lt0 := Args.trod_below h0
  obtain ⟨n, rfl, rfl, rfl, wn⟩ := open_int Try.underlying3 (hval 0 3 v0 rfl rfl) h0
  have lt1 := Args.trod_below h1
  obtain ⟨at_, rfl, rfl, rfl, wat_⟩ := open_int Try.underlying3 (hval 1 3 v1 rfl rfl) h1
  clear hA0 hval0
  refine (walk n at_ W wn wat_).mono fun e W' ⟨he, bel⟩ => ?_
  subst he
  exact ⟨_, rfl, _, _, _, [], _, [], hW', trodAll_mk1 (shut_bool Try.underlying4 _), trodAll_cons_mk (Below.trod Args.laidOut (by kernel_rfl) (of_decide_eq_true (by kernel_rfl)) h0 bel lt0) (trodAll_cons_mk (Below.trod Args.laidOut (by kernel_rfl) (of_decide_eq_true (by kernel_rfl)) h1 bel lt1) (trodAll_mk0)), rfl, bel.frame _, fun h => by cases h⟩

theorem over : Rows.arenaNewRow.holds Try.pinned (OpenSpec.ofChange Rows.arenaNewSpec) :=
  OpenClaim.holds_of_wide 4 Try.f4 rfl rfl rfl rfl rfl rfl rfl ⟨rfl, rfl, rfl, rfl, rfl⟩ rfl rfl rfl rfl rfl (by kernel_rfl) Try.func4 (by kernel_rfl)
    (of_decide_eq_true (by kernel_rfl)) (by unfold Func.isWrapper; rw [if_neg (of_decide_eq_false (by kernel_rfl))]; exact ⟨rfl, rfl⟩)
    (fun os started H enc _ => lifted os started H enc)

theorem proved : Rows.ArenaNewSaid :=
  over
end Go.Proofs.Ytpaioclagnmblaa.arenaNew
