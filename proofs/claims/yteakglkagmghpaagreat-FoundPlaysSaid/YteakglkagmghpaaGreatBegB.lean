/-
  Contracts of package begin: Check, the closure over it, the way out. And the document's Check.
-/
import Derived.Test.YteakglkagmghpaaGreatBegA
namespace Go.Proofs.YteakglkagmghpaaGreat.Beg
open Go.ChangeShapes Go.WideShapes Go.ChangeAt Go.RowKit
open Go.Proofs.YteakglkagmghpaaGreat.Mod Slic
set_option linter.unusedVariables false
set_option linter.unusedSimpArgs false
set_option maxRecDepth 8000
attribute [local go_sem ↓] Go.wp_at_zero Go.wp_at_succ

theorem un_two (h : Int) : Refs.unV h = ⟨0, 0, 0, 18⟩ ∨ ∃ s e a : Int, Refs.unV h = ⟨s, e, a, 0⟩ := by
  unfold Refs.unV
  by_cases hb : Refs.unB h = true
  · rw [if_pos hb]
    exact .inr ⟨_, _, _, rfl⟩
  · rw [if_neg hb]
    exact .inl rfl
def ckEnd (r : Rf3) (c : Int) : Ending := .returned (.tuple #[.agg #[.int .i64 r.s, .int .i64 r.e, .int .i64 r.a], .int .i64 c])
theorem ck_un {n : Int} {L : List Chain.E} {h : Int} (hu : Refs.unV h = ⟨0, 0, 0, 18⟩) : ckEnd (ckR n L h) (ckV n L h) = ckEnd ⟨0, 0, 0⟩ 18 := by
  have e : ckV n L h = 18 := by
    unfold ckV
    rw [hu]
    rfl
  unfold ckR
  rw [e]
  rfl
theorem ck_of {n : Int} {L : List Chain.E} {h s e a : Int} (hu : Refs.unV h = ⟨s, e, a, 0⟩) : ckV n L h = if n ≤ s then 18 else if Chain.reachV L s = false then 20 else 0 := by
  unfold ckV
  rw [hu]
  rfl
theorem ck_no {n : Int} {L : List Chain.E} {h c : Int} (e : ckV n L h = c) (hc : c ≠ 0) : ckEnd (ckR n L h) (ckV n L h) = ckEnd ⟨0, 0, 0⟩ c := by
  unfold ckR
  rw [e, if_neg hc]
theorem ck_yes {n : Int} {L : List Chain.E} {h s e a : Int} (hu : Refs.unV h = ⟨s, e, a, 0⟩) (h0 : ckV n L h = 0) : ckEnd (ckR n L h) (ckV n L h) = ckEnd ⟨s, e, a⟩ 0 := by
  unfold ckR
  rw [h0, if_pos rfl, hu]

set_option maxHeartbeats 4000000 in
theorem refcheck3_any (v : Value) (L : List Chain.E) (n t i j h : Int) (w : World) (hL : Chain.Sr w v L) (h1 : 0 ≤ h) (h2 : h ≤ 18446744073709551615) :
    Calls Tryz.prog 167 #[planV n t i j, v, .int .u64 h] w fun e w' => e = ckEnd (ckR n L h) (ckV n L h) ∧ Below w.heap.size w w' := by
  have S0 := ((Held.St.start w).new [.int .i64 n, .int .i64 t, .int .i64 i, .int .i64 j] 23).new [.int .i64 0, .int .i64 0, .int .i64 0] 154
  simp only [World.size_alloc] at S0
  rcases un_two h with hu | ⟨s, e, a, hu⟩
  · have KK := Lib.hid (ck_un (n := n) (L := L) hu)
    have HU := Lib.hid hu
    clear hu
    go_enter Tryz.func167, Tryz.ntmps167
    go_wp2_with fail
    refine (Refs.refunpack_any h _ h1 h2).mono ?_
    rintro z w1 ⟨rfl, q1⟩
    rw [HU.out]
    have S2 := (S0.call q1).new [.int .i64 0, .int .i64 0, .int .i64 0] 154
    obtain ⟨_, c0, c1, c2⟩ := S2.get3 1 rfl
    have fz := (S2.get 1 rfl).fz
    go_wp2
    refine bodyPost_ret (v := .tuple #[.agg #[.int .i64 0, .int .i64 0, .int .i64 0], .int .i64 18]) (by simp [results, Tryz.results167, go_sem, c0, c1, c2]) rfl ?_
    exact ⟨by rw [KK.out]; rfl, (((S2.below.setCell (S2.get 1 rfl).own _).setCell (S2.get 1 rfl).own _).setCell (S2.get 1 rfl).own _)⟩
  · have CK := Lib.hid (ck_of (n := n) (L := L) hu)
    have CY := Lib.hid (ck_yes (n := n) (L := L) hu)
    have HU := Lib.hid hu
    clear hu
    by_cases hn : n ≤ s
    · have KK := Lib.hid (ck_no (n := n) (L := L) (h := h) (by rw [CK.out, if_pos hn]) (show (18 : Int) ≠ 0 by decide))
      have z1 : decide (n ≤ s) = true := decide_eq_true hn
      clear CK CY
      as_aux_lemma =>
        go_enter Tryz.func167, Tryz.ntmps167
        go_wp2_with fail
        refine (Refs.refunpack_any h _ h1 h2).mono ?_
        rintro z w1 ⟨rfl, q1⟩
        rw [HU.out]
        have S2 := (S0.call q1).new [.int .i64 s, .int .i64 e, .int .i64 a] 154
        obtain ⟨_, c0, c1, c2⟩ := S2.get3 1 rfl
        obtain ⟨_, d0, d1, d2⟩ := S2.get3 0 rfl
        obtain ⟨_, p0, _, _, _⟩ := S2.get4 2 rfl
        have fz := (S2.get 1 rfl).fz
        go_wp2
        refine bodyPost_ret (v := .tuple #[.agg #[.int .i64 0, .int .i64 0, .int .i64 0], .int .i64 18]) (by simp [results, Tryz.results167, go_sem, c0, c1, c2]) rfl ?_
        exact ⟨by rw [KK.out]; rfl, (((S2.below.setCell (S2.get 1 rfl).own _).setCell (S2.get 1 rfl).own _).setCell (S2.get 1 rfl).own _)⟩
    · have z1 : decide (n ≤ s) = false := decide_eq_false hn
      obtain ⟨b, hb⟩ : ∃ b, Chain.reachV L s = b := ⟨_, rfl⟩
      have HB := Lib.hid hb
      cases b with
      | false =>
        have KK := Lib.hid (ck_no (n := n) (L := L) (h := h) (by rw [CK.out, if_neg hn, hb, if_pos rfl]) (show (20 : Int) ≠ 0 by decide))
        clear CK CY hb
        as_aux_lemma =>
          go_enter Tryz.func167, Tryz.ntmps167
          go_wp2_with fail
          refine (Refs.refunpack_any h _ h1 h2).mono ?_
          rintro z w1 ⟨rfl, q1⟩
          rw [HU.out]
          have S2 := (S0.call q1).new [.int .i64 s, .int .i64 e, .int .i64 a] 154
          have hL2 := hL.below S2.below
          obtain ⟨_, d0, d1, d2⟩ := S2.get3 0 rfl
          obtain ⟨_, p0, _, _, _⟩ := S2.get4 2 rfl
          go_wp2_with fail
          refine (Chain.refreach_any _ v L s hL2).mono ?_
          rintro z w3 ⟨rfl, rfl⟩
          rw [HB.out]
          have S3 := S2
          obtain ⟨_, c0, c1, c2⟩ := S3.get3 1 rfl
          have fz := (S3.get 1 rfl).fz
          go_wp2
          refine bodyPost_ret (v := .tuple #[.agg #[.int .i64 0, .int .i64 0, .int .i64 0], .int .i64 20]) (by simp [results, Tryz.results167, go_sem, c0, c1, c2]) rfl ?_
          exact ⟨by rw [KK.out]; rfl, (((S3.below.setCell (S3.get 1 rfl).own _).setCell (S3.get 1 rfl).own _).setCell (S3.get 1 rfl).own _)⟩
      | true =>
        have KK := Lib.hid (CY.out (by rw [CK.out, if_neg hn, hb]; rfl))
        clear CK CY hb
        as_aux_lemma =>
          go_enter Tryz.func167, Tryz.ntmps167
          go_wp2_with fail
          refine (Refs.refunpack_any h _ h1 h2).mono ?_
          rintro z w1 ⟨rfl, q1⟩
          rw [HU.out]
          have S2 := (S0.call q1).new [.int .i64 s, .int .i64 e, .int .i64 a] 154
          have hL2 := hL.below S2.below
          obtain ⟨_, d0, d1, d2⟩ := S2.get3 0 rfl
          obtain ⟨_, p0, _, _, _⟩ := S2.get4 2 rfl
          go_wp2_with fail
          refine (Chain.refreach_any _ v L s hL2).mono ?_
          rintro z w3 ⟨rfl, rfl⟩
          rw [HB.out]
          have S3 := S2
          obtain ⟨_, c0, c1, c2⟩ := S3.get3 1 rfl
          obtain ⟨_, d0, d1, d2⟩ := S3.get3 0 rfl
          have fz := (S3.get 1 rfl).fz
          go_wp2
          refine bodyPost_ret (v := .tuple #[.agg #[.int .i64 s, .int .i64 e, .int .i64 a], .int .i64 0]) (by simp [results, Tryz.results167, go_sem, c0, c1, c2]) rfl ?_
          exact ⟨by rw [KK.out]; rfl, (((S3.below.setCell (S3.get 1 rfl).own _).setCell (S3.get 1 rfl).own _).setCell (S3.get 1 rfl).own _)⟩
end Go.Proofs.YteakglkagmghpaaGreat.Beg
