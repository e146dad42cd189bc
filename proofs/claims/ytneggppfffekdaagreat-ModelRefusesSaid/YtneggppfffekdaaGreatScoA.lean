/-
  Contracts of package scopes: has, Ctl, Extent, Free, unmade, an entrance's enter.
-/
import Derived.Test.YtneggppfffekdaaGreatScoM
import Derived.Test.YtneggppfffekdaaGreatCtls
import Derived.Test.YtneggppfffekdaaGreatGrou
namespace Go.Proofs.YtneggppfffekdaaGreat.Sco
open Go.ChangeShapes Go.WideShapes Go.ChangeAt Go.RowKit
open Slic Gm
set_option linter.unusedVariables false
set_option maxRecDepth 8000
attribute [local go_sem ↓] Go.wp_at_zero Go.wp_at_succ

abbrev ptr (B : Nat) : Value := .pointer (some ⟨B, 0, none⟩)
abbrev tellR (r : Ctl.R) : Ending := .returned (.tuple #[.agg #[.int .i64 r.s, .int .i64 r.c, .int .i64 r.p, .int .i64 r.e], .int .i64 r.x])

section
variable {w w' : World} {Y : Fr} {B g K n : Nat} {A S : Int} {F : Fo}
set_option maxHeartbeats 1000000 in
theorem has_any (h : Sc w Y B g K n A S F) (n8 : n ≤ 8) (i : Int) :
    Calls Tryz.prog 89 #[ptr B, .int .i64 i] w fun e w' => e = .returned (.bool (Ctl.withinB i 0 ((n : Int) - 1))) ∧ w = w' := by
  have c0 := h.all
  have wr : IntKind.i64.wrap ((n : Int) - 1) = (n : Int) - 1 := IntWalk.i64_in _ (by omega)
  go_enter Tryz.func89, Tryz.ntmps89
  go_wp2_with (go_at_call 61; refine (Ctl.within_any _ _ _ _).mono ?_; rintro e w' ⟨rfl, rfl⟩)
  go_ret
  exact ⟨rfl, rfl⟩
theorem within_yes {i : Int} (h1 : 0 ≤ i) (h2 : i < n) : Ctl.withinB i 0 ((n : Int) - 1) = true := decide_eq_true (by omega)
theorem within_no {i : Int} (h : i < 0 ∨ (n : Int) ≤ i) : Ctl.withinB i 0 ((n : Int) - 1) = false := decide_eq_false (by omega)

/-- What Ctl and Extent tell. -/
def seeC (R : List Cx) (i : Int) : Ctl.R := if 0 ≤ i then (match R[i.toNat]? with | none => Ctl.no 11 | some x => ⟨x.s, x.c, x.p, x.e, 0⟩) else Ctl.no 11
def seeX (R : List Cx) (i : Int) : Int × Int × Int := if 0 ≤ i then (match R[i.toNat]? with | none => (0, 0, 11) | some x => (x.a, x.z, 0)) else (0, 0, 11)
abbrev tellX (r : Int × Int × Int) : Ending := .returned (.tuple #[.agg #[.int .i64 r.1, .int .i64 r.2.1], .int .i64 r.2.2])
theorem see_out {R : List Cx} {i : Int} (h : i < 0 ∨ (R.length : Int) ≤ i) : seeC R i = Ctl.no 11 ∧ seeX R i = (0, 0, 11) := by
  unfold seeC seeX
  by_cases c : 0 ≤ i
  · rw [if_pos c, if_pos c, List.getElem?_eq_none (by omega)]
    exact ⟨rfl, rfl⟩
  · rw [if_neg c, if_neg c]
    exact ⟨rfl, rfl⟩
theorem see_in {R : List Cx} {k : Nat} {x : Cx} (h : R[k]? = some x) : seeC R (k : Int) = ⟨x.s, x.c, x.p, x.e, 0⟩ ∧ seeX R (k : Int) = (x.a, x.z, 0) := by
  unfold seeC seeX
  rw [if_pos (by omega), if_pos (by omega), Int.toNat_natCast, h]
  exact ⟨rfl, rfl⟩

set_option maxHeartbeats 1000000 in
theorem ctl_any (h : Sc w Y B g K n A S F) (n8 : n ≤ 8) (i : Int) :
    Calls Tryz.prog 56 #[ptr B, .int .i64 i] w fun e w' => e = tellR (seeC F.R i) ∧ Below w.heap.size w w' := by
  have hs := h.below (below_one w (.cells #[.int .i64 0, .int .i64 0, .int .i64 0, .int .i64 0] 64))
  have hB := h.ltB
  have hg := h.ltg
  have c0 := hs.all
  by_cases hi : 0 ≤ i ∧ i < n
  · obtain ⟨k, rfl⟩ : ∃ k : Nat, i = k := ⟨i.toNat, by omega⟩
    have hk : k < n := by omega
    have hw := within_yes (n := n) hi.1 hi.2
    obtain ⟨x, hx⟩ : ∃ x, F.R[k]? = some x := ⟨_, List.getElem?_eq_getElem (by rw [h.len]; exact hk)⟩
    have E := Lib.hid (see_in hx)
    obtain ⟨⟨x0, x1, x2, x3, x4, x5⟩, hf⟩ := hs.at hx
    clear x4 x5 hf hi hx
    go_enter Tryz.func56, Tryz.ntmps56
    go_wp2_with (go_at_call 89; refine (has_any hs n8 _).mono ?_; rintro e w' ⟨rfl, rfl⟩)
    refine bodyPost_ret (v := .tuple #[.agg #[.int .i64 x.s, .int .i64 x.c, .int .i64 x.p, .int .i64 x.e], .int .i64 0]) (by simp [results, Tryz.results56, go_sem]) rfl ⟨?_, ?_⟩
    · rw [E.out.1]
    · first | exact below_one w _ | exact ((Below.refl _ _).alloc (Nat.le_refl _) _).alloc (by simp) _ | exact Gr.bset (Gr.bset (Gr.bset (Gr.bset ((Below.refl _ _).alloc (Nat.le_refl _) _) _ _ (by omega) _) _ _ (by omega) _) _ _ (by omega) _) _ _ (by omega) _
  · have hw := within_no (n := n) (i := i) (by omega)
    have E := Lib.hid (see_out (R := F.R) (i := i) (by rw [h.len]; omega))
    clear hi
    go_enter Tryz.func56, Tryz.ntmps56
    go_wp2_with (go_at_call 89; refine (has_any hs n8 _).mono ?_; rintro e w' ⟨rfl, rfl⟩)
    refine bodyPost_ret (v := .tuple #[.agg #[.int .i64 0, .int .i64 0, .int .i64 0, .int .i64 0], .int .i64 11]) (by simp [results, Tryz.results56, go_sem]) rfl ⟨?_, ?_⟩
    · rw [E.out.1]
      rfl
    · first | exact below_one w _ | exact ((Below.refl _ _).alloc (Nat.le_refl _) _).alloc (by simp) _ | exact Gr.bset (Gr.bset (Gr.bset (Gr.bset ((Below.refl _ _).alloc (Nat.le_refl _) _) _ _ (by omega) _) _ _ (by omega) _) _ _ (by omega) _) _ _ (by omega) _
set_option maxHeartbeats 1000000 in
theorem ext_any (h : Sc w Y B g K n A S F) (n8 : n ≤ 8) (i : Int) :
    Calls Tryz.prog 157 #[ptr B, .int .i64 i] w fun e w' => e = tellX (seeX F.R i) ∧ Below w.heap.size w w' := by
  have hs := h.below (below_one w (.cells #[.int .i64 0, .int .i64 0] 109))
  have hB := h.ltB
  have hg := h.ltg
  have c0 := hs.all
  by_cases hi : 0 ≤ i ∧ i < n
  · obtain ⟨k, rfl⟩ : ∃ k : Nat, i = k := ⟨i.toNat, by omega⟩
    have hk : k < n := by omega
    have hw := within_yes (n := n) hi.1 hi.2
    obtain ⟨x, hx⟩ : ∃ x, F.R[k]? = some x := ⟨_, List.getElem?_eq_getElem (by rw [h.len]; exact hk)⟩
    have E := Lib.hid (see_in hx)
    obtain ⟨⟨x0, x1, x2, x3, x4, x5⟩, hf⟩ := hs.at hx
    clear x0 x1 x2 x3 hf hi hx
    go_enter Tryz.func157, Tryz.ntmps157
    go_wp2_with (go_at_call 89; refine (has_any hs n8 _).mono ?_; rintro e w' ⟨rfl, rfl⟩)
    refine bodyPost_ret (v := .tuple #[.agg #[.int .i64 x.a, .int .i64 x.z], .int .i64 0]) (by simp [results, Tryz.results157, go_sem]) rfl ⟨?_, ?_⟩
    · rw [E.out.2]
    · first | exact below_one w _ | exact ((Below.refl _ _).alloc (Nat.le_refl _) _).alloc (by simp) _ | exact Gr.bset (Gr.bset ((Below.refl _ _).alloc (Nat.le_refl _) _) _ _ (by omega) _) _ _ (by omega) _
  · have hw := within_no (n := n) (i := i) (by omega)
    have E := Lib.hid (see_out (R := F.R) (i := i) (by rw [h.len]; omega))
    clear hi
    go_enter Tryz.func157, Tryz.ntmps157
    go_wp2_with (go_at_call 89; refine (has_any hs n8 _).mono ?_; rintro e w' ⟨rfl, rfl⟩)
    refine bodyPost_ret (v := .tuple #[.agg #[.int .i64 0, .int .i64 0], .int .i64 11]) (by simp [results, Tryz.results157, go_sem]) rfl ⟨?_, ?_⟩
    · rw [E.out.2]
    · first | exact below_one w _ | exact ((Below.refl _ _).alloc (Nat.le_refl _) _).alloc (by simp) _ | exact Gr.bset (Gr.bset ((Below.refl _ _).alloc (Nat.le_refl _) _) _ _ (by omega) _) _ _ (by omega) _
theorem un_cases (s c p e : Int) : (s = 0 ∧ unV s c p e = Ctl.no 11) ∨ (s = 1 ∧ unV s c p e = ⟨0, c, p, (e + 1) % 16777216, 0⟩) ∨ (s ≠ 0 ∧ s ≠ 1 ∧ unV s c p e = Ctl.no 12) := by
  unfold unV
  by_cases h0 : s = 0
  · exact .inl ⟨h0, if_pos h0⟩
  · by_cases h1 : s = 1
    · exact .inr (.inl ⟨h1, by rw [if_neg h0, if_pos h1]⟩)
    · exact .inr (.inr ⟨h0, h1, by rw [if_neg h0, if_neg h1]⟩)
set_option maxHeartbeats 1000000 in
theorem unmade_any (s c p e : Int) (w : World) (e0 : 0 ≤ e) (e1 : e ≤ 16777215) :
    Calls Tryz.prog 146 #[.agg #[.int .i64 s, .int .i64 c, .int .i64 p, .int .i64 e]] w fun z w' => z = tellR (unV s c p e) ∧ Below w.heap.size w w' := by
  rcases un_cases s c p e with ⟨rfl, he⟩ | ⟨rfl, he⟩ | ⟨h0, h1, he⟩
  · have HE := Lib.hid he
    clear he
    go_enter Tryz.func146, Tryz.ntmps146
    go_wp2
    refine bodyPost_ret (v := .tuple #[.agg #[.int .i64 0, .int .i64 0, .int .i64 0, .int .i64 0], .int .i64 11]) (by simp [results, Tryz.results146, go_sem]) rfl ⟨?_, ?_⟩
    · rw [HE.out]
      rfl
    · first | exact below_one w _ | exact ((Below.refl _ _).alloc (Nat.le_refl _) _).alloc (by simp) _ | exact Gr.bset (Gr.bset (Gr.bset (Gr.bset (((Below.refl _ _).alloc (Nat.le_refl _) _).alloc (by simp) _) _ _ (by omega) _) _ _ (by omega) _) _ _ (by omega) _) _ _ (by omega) _
  · have HE := Lib.hid he
    clear he
    have q : Int.tmod (e + 1) 16777216 = (e + 1) % 16777216 := Int.tmod_eq_emod_of_nonneg (by omega)
    go_enter Tryz.func146, Tryz.ntmps146
    go_wp2
    refine bodyPost_ret (v := .tuple #[.agg #[.int .i64 0, .int .i64 c, .int .i64 p, .int .i64 ((e + 1) % 16777216)], .int .i64 0]) (by simp [results, Tryz.results146, go_sem]) rfl ⟨?_, ?_⟩
    · rw [HE.out]
    · first | exact below_one w _ | exact ((Below.refl _ _).alloc (Nat.le_refl _) _).alloc (by simp) _ | exact Gr.bset (Gr.bset (Gr.bset (Gr.bset (Gr.bset (Gr.bset (((Below.refl _ _).alloc (Nat.le_refl _) _).alloc (by simp) _) _ _ (by omega) _) _ _ (by omega) _) _ _ (by omega) _) _ _ (by omega) _) _ _ (by omega) _) _ _ (by omega) _
  · have HE := Lib.hid he
    have q0 : (s == 0) = false := by simpa using h0
    have q1 : (s == 1) = false := by simpa using h1
    clear he h0 h1
    go_enter Tryz.func146, Tryz.ntmps146
    go_wp2
    refine bodyPost_ret (v := .tuple #[.agg #[.int .i64 0, .int .i64 0, .int .i64 0, .int .i64 0], .int .i64 12]) (by simp [results, Tryz.results146, go_sem]) rfl ⟨?_, ?_⟩
    · rw [HE.out]
      rfl
    · first | exact below_one w _ | exact ((Below.refl _ _).alloc (Nat.le_refl _) _).alloc (by simp) _ | exact Gr.bset (Gr.bset (Gr.bset (Gr.bset (((Below.refl _ _).alloc (Nat.le_refl _) _).alloc (by simp) _) _ _ (by omega) _) _ _ (by omega) _) _ _ (by omega) _) _ _ (by omega) _
set_option maxHeartbeats 1000000 in
theorem enterm_any (s c p e f : Int) (w : World) :
    Calls Tryz.prog 148 #[.int .i64 f, .agg #[.int .i64 s, .int .i64 c, .int .i64 p, .int .i64 e]] w fun z w' => z = tellR (Ctl.entV s c p e f) ∧ Below w.heap.size w w' := by
  go_enter Tryz.func148, Tryz.ntmps148
  go_wp2_with fail
  refine (Ctl.enter_any s c p e f _).mono ?_
  rintro z w1 ⟨rfl, k1⟩
  generalize hr : Ctl.entV s c p e f = r at *
  have HR := Lib.hid hr
  clear hr
  have hz : w.heap.size + 1 < w1.heap.size := by have := k1.size; simp at this; omega
  obtain ⟨q1, q2⟩ := Ctl.bcell k1
  have d0 : w1.cell? ⟨w.heap.size + 1, 0, none⟩ = some (.int .i64 0) := by rw [q1 _ _ (by simp; try omega)]; simp [go_sem]
  have d1 : w1.cell? ⟨w.heap.size + 1, 1, none⟩ = some (.int .i64 0) := by rw [q1 _ _ (by simp; try omega)]; simp [go_sem]
  have d2 : w1.cell? ⟨w.heap.size + 1, 2, none⟩ = some (.int .i64 0) := by rw [q1 _ _ (by simp; try omega)]; simp [go_sem]
  have d3 : w1.cell? ⟨w.heap.size + 1, 3, none⟩ = some (.int .i64 0) := by rw [q1 _ _ (by simp; try omega)]; simp [go_sem]
  have f0 : w1.frozen? ⟨w.heap.size + 1, 0, none⟩ = false := by rw [q2 _ _ (by simp; try omega)]; simp [go_sem]
  have f1 : w1.frozen? ⟨w.heap.size + 1, 1, none⟩ = false := by rw [q2 _ _ (by simp; try omega)]; simp [go_sem]
  have f2 : w1.frozen? ⟨w.heap.size + 1, 2, none⟩ = false := by rw [q2 _ _ (by simp; try omega)]; simp [go_sem]
  have f3 : w1.frozen? ⟨w.heap.size + 1, 3, none⟩ = false := by rw [q2 _ _ (by simp; try omega)]; simp [go_sem]
  have K1 : Below w.heap.size w w1 := (((Below.refl _ _).alloc (Nat.le_refl _) _).alloc (by simp) _).trans (k1.mono (by simp; omega))
  clear q1 q2 k1
  go_wp2
  refine bodyPost_ret (v := .tuple #[.agg #[.int .i64 r.s, .int .i64 r.c, .int .i64 r.p, .int .i64 r.e], .int .i64 r.x]) (by simp [results, Tryz.results148, go_sem, d0, d1, d2, d3]) rfl ⟨by rw [HR.out], ?_⟩
  first | exact below_one w _ | exact ((Below.refl _ _).alloc (Nat.le_refl _) _).alloc (by simp) _ | exact Gr.bset (Gr.bset (Gr.bset (Gr.bset (K1) _ _ (by omega) _) _ _ (by omega) _) _ _ (by omega) _) _ _ (by omega) _
end
end Go.Proofs.YtneggppfffekdaaGreat.Sco
