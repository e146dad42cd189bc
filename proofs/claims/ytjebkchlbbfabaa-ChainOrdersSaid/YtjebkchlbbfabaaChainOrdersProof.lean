/-
  penfoldlaw09.ChainOrders returns true for every slice of entries and every three bytes, and changes nothing that was there; no condition.
-/
import Derived.Test.YtjebkchlbbfabaaRows
import Derived.Test.YtjebkchlbbfabaaArgs
import Derived.Test.YtjebkchlbbfabaaChF
import Derived.Test.YtjebkchlbbfabaaSt
namespace Go.Proofs.Ytjebkchlbbfabaa.chainOrders
open Go.ChangeShapes Go.WideShapes Go.ChangeAt Go.RowKit
set_option linter.unusedVariables false

open Chain Held
/-- What the walk carries: nothing below has changed, and the row reads as it did. -/
structure K (w W : World) (v : Value) (M : List E) : Prop where
  bel : Below w.heap.size w W
  row : Sr W v M
theorem above_k {w W : World} {v : Value} {M : List E} (h : K w W v M) (a b : Int) : Calls Try.prog 21 #[v, .int .i64 a, .int .i64 b] W fun e W' => e = .returned (.bool (aboveV M a b)) ∧ K w W' v M :=
  (above_any W v M a b h.row).mono fun e W' ⟨he, k⟩ => ⟨he, h.bel.trans (k.mono h.bel.size), h.row.below k⟩
theorem reach_k {w W : World} {v : Value} {M : List E} (h : K w W v M) (a : Int) : Calls Try.prog 17 #[v, .int .i64 a] W fun e W' => e = .returned (.bool (reachV M a)) ∧ K w W' v M :=
  (reach_any W v M a h.row).mono fun e W' ⟨he, k⟩ => ⟨he, h.bel.trans (k.mono h.bel.size), h.row.below k⟩
/-- Which ways the walk may go. -/
theorem ways {M : List E} (hF : Fits M) (h5 : M.length ≤ 5) (a b c : Int) (ha : 0 ≤ a) (hb : 0 ≤ b) : (aboveV M a b = false) ∨ (aboveV M a b = true ∧ (aboveV M b a = false ∨ a = b) ∧ (aboveV M b c = false ∨ aboveV M b c = true ∧ aboveV M a c = true) ∧ (reachV M b = false ∨ reachV M b = true ∧ reachV M a = true)) := by
  cases e1 : aboveV M a b
  · exact .inl rfl
  · refine .inr ⟨rfl, ?_, ?_, ?_⟩
    · cases e2 : aboveV M b a
      · exact .inl rfl
      · exact .inr (above_one hF ha hb e1 e2)
    · cases e2 : aboveV M b c
      · exact .inl rfl
      · exact .inr ⟨rfl, above_trans hF h5 ha hb e1 e2⟩
    · cases e2 : reachV M b
      · exact .inl rfl
      · exact .inr ⟨rfl, above_reach hF ha e2 e1⟩

set_option maxRecDepth 100000 in
set_option maxHeartbeats 8000000 in
theorem walk (lA : Option Addr) (ln lc : Nat) (lz : Nat → Nat → Int) (s0 s1 s2 : Int) (w : World) (hl : Args.PRecs [some .i64, none] w lA ln lz) (hlc : ln ≤ lc ∧ lc ≤ maxLen ∧ (lA = none → lc = 0)) (ws0 : (Lit.int .u8 s0).wf = true) (ws1 : (Lit.int .u8 s1).wf = true) (ws2 : (Lit.int .u8 s2).wf = true) :
    Calls Try.prog 4 #[.slice lA ln lc, .agg #[.int .u8 s0, .int .u8 s1, .int .u8 s2]] w fun e w' => e = .returned (.bool true) ∧ Below w.heap.size w w' := by
  have L0 := came_in hl hlc
  have hln := listOf_len ln lz
  generalize listOf ln lz = L at *
  subst hln
  clear hl hlc
  obtain ⟨hF, h5⟩ := fit_fits L
  have ⟨a1, a2⟩ := bounds_u8 ws0
  have ⟨b1, b2⟩ := bounds_u8 ws1
  have ⟨c1, c2⟩ := bounds_u8 ws2
  clear ws0 ws1 ws2
  have WY := Lib.hid (ways hF h5 (s0 % 8) (s1 % 8) (s2 % 8) (by omega) (by omega))
  have T1 : ∀ a, aboveV (fitV L) a a = true := above_self _
  have T2 : ∀ a, aboveV (fitV L) 0 a = true := above_zero _
  clear hF h5
  go_enter Try.func4, Try.ntmps4
  have S0 := ((St.start w).new [.int .u8 s0, .int .u8 s1, .int .u8 s2] 39)
  have L1 := L0.alloc (.cells #[.int .u8 s0, .int .u8 s1, .int .u8 s2] 39)
  go_wp2_with fail
  refine (shown_any _).mono ?_
  rintro z w1 ⟨rfl, k1⟩
  have S1 := S0.call k1
  have L2 := L1.below k1
  clear S0 L0 L1 k1
  go_wp2_with fail
  refine (fit_any _ _ L L2).mono ?_
  rintro z w2 ⟨v, rfl, M2, k2⟩
  have S2 := S1.call k2
  clear S1 L2 k2
  generalize fitV L = M at *
  obtain ⟨sl, s_0, s_1, s_2⟩ := S2.get3 0 rfl
  have K2 : K w w2 v M := ⟨S2.below, M2⟩
  clear S2 M2
  go_wp2_with fail
  generalize s0 % 8 = a at *
  generalize s1 % 8 = b at *
  generalize s2 % 8 = c at *
  refine (above_k K2 a a).mono ?_
  rintro z w3 ⟨rfl, K3⟩
  rw [T1]
  go_wp2_with fail
  refine (above_k K3 0 a).mono ?_
  rintro z w4 ⟨rfl, K4⟩
  rw [T2]
  clear T1 T2 K2 K3 sl s_0 s_1 s_2 a1 a2 b1 b2 c1 c2
  rcases WY.out with h1 | ⟨h1, h2 | h2, ⟨h3⟩ | ⟨h3, h4⟩, ⟨h6⟩ | ⟨h6, h7⟩⟩
  case inl =>
    clear WY
    cases h6 : reachV M b
    all_goals
      go_wp2_with (first
        | (go_at_call 21; refine (above_k (by assumption) _ _).mono ?_; rintro z w5 ⟨rfl, K5⟩)
        | (go_at_call 17; refine (reach_k (by assumption) _).mono ?_; rintro z w5 ⟨rfl, K5⟩))
      go_ret
      exact ⟨rfl, K5.bel⟩
  all_goals
    clear WY
    try subst h2
    go_wp2_with (first
      | (go_at_call 21; refine (above_k (by assumption) _ _).mono ?_; rintro z w5 ⟨rfl, K5⟩)
      | (go_at_call 17; refine (reach_k (by assumption) _).mono ?_; rintro z w5 ⟨rfl, K5⟩))
    go_ret
    exact ⟨rfl, K5.bel⟩

set_option maxRecDepth 100000 in
theorem lifted (os : Os) (started : os.Started) (H : Type) (enc : TypeId × Value → H) :
    ReturnsInHanded {} Try.checked os 4 .any (Rows.chainOrdersSpec.pre6 enc Try.prog Try.f4 Rows.chainOrdersRow.domain false) (Rows.chainOrdersSpec.post enc Try.prog Try.f4 false true false false) := by
  refine returnsInHanded_of_change (C := Try.checked) Args.own started (by kernel_rfl) Try.func4
    (ChangeSpec.witness6 (enc := enc) (C := Try.checked) false ⟨#[], #[.slice none 0 0, .agg #[.int .u8 0, .int .u8 0, .int .u8 0]], []⟩ 8 (by kernel_rfl) (by kernel_rfl) (by kernel_rfl) (by kernel_rfl)) ?_
  intro W base args ds gs before hval0 hW hcnd _
  have hval : ∀ (j : Nat) t v, Try.f4.params[j]? = some t → args[j]? = some v → Value.okWide Try.prog W .any base t v := hval0
  have hW' := hW
  obtain ⟨p, q, hA0, hV, rfl, hfz, hnd⟩ := hW
  have hA : DataW.TrodAll enc Try.prog W 0 (fun _ => true) true Try.f4.params.toList args.toList ds p := hA0
  rw [Try.params4] at hA hval
  obtain ⟨v0, vs0, d0, ds0, p0, q0, hargs, rfl, rfl, h0, r0⟩ := trodAll_cons hA
  obtain ⟨v1, vs1, d1, ds1, p1, q1, rfl, rfl, rfl, h1, r1⟩ := trodAll_cons r0
  obtain ⟨rfl, rfl, rfl⟩ := trodAll_nil r1
  obtain rfl : args = #[v0, v1] := by cases args; simp_all
  obtain ⟨rfl, rfl⟩ := trodVars_none hV
  have lt0 := Args.trod_below h0
  obtain ⟨lA, ln, lc, lz, rfl, hl, hlc⟩ := Args.precs_cap (ks := [some .i64, none]) (e := 25) (by kernel_rfl) Try.underlying25 (by kernel_rfl) (by kernel_rfl) (by decide) (hval 0 22 v0 rfl rfl) h0
  have lt1 := Args.trod_below h1
  obtain ⟨sz, hv1, hs⟩ := Args.arr_in (m := 3) (k := .u8) (e := 5) (by kernel_rfl) (by kernel_rfl) (by kernel_rfl) (by kernel_rfl) (hval 1 39 v1 rfl rfl) h1
  obtain rfl : v1 = .agg #[.int .u8 (sz 0), .int .u8 (sz 1), .int .u8 (sz 2)] := hv1.trans (by kernel_rfl)
  clear hA0 hval0
  refine (walk lA ln lc lz (sz 0) (sz 1) (sz 2) W hl hlc (hs 0) (hs 1) (hs 2)).mono fun e W' ⟨he, bel⟩ => ?_
  subst he
  exact ⟨_, rfl, _, _, _, [], _, [], hW', trodAll_mk1 (shut_bool Try.underlying4 _), trodAll_cons_mk (Below.trod Args.laidOut (by kernel_rfl) (of_decide_eq_true (by kernel_rfl)) h0 bel lt0) (trodAll_cons_mk (Below.trod Args.laidOut (by kernel_rfl) (of_decide_eq_true (by kernel_rfl)) h1 bel lt1) (trodAll_mk0)), rfl, bel.frame _, fun h => by cases h⟩

theorem over : Rows.chainOrdersRow.holds Try.pinned (OpenSpec.ofChange Rows.chainOrdersSpec) :=
  OpenClaim.holds_of_wide 4 Try.f4 rfl rfl rfl rfl rfl rfl rfl ⟨rfl, rfl, rfl, rfl, rfl⟩ rfl rfl rfl rfl rfl (by kernel_rfl) Try.func4 (by kernel_rfl)
    (of_decide_eq_true (by kernel_rfl)) (by unfold Func.isWrapper; rw [if_neg (of_decide_eq_false (by kernel_rfl))]; exact ⟨rfl, rfl⟩)
    (fun os started H enc _ => lifted os started H enc)

theorem proved : Rows.ChainOrdersSaid :=
  over
end Go.Proofs.Ytjebkchlbbfabaa.chainOrders
