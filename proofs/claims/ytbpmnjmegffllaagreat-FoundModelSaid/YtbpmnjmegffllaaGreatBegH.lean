/-
  The document: Same.
-/
import Derived.Test.YtbpmnjmegffllaaGreatBegF
import Derived.Test.YtbpmnjmegffllaaGreatFinr
namespace Go.Proofs.YtbpmnjmegffllaaGreat.Beg
open Go.ChangeShapes Go.WideShapes Go.ChangeAt Go.RowKit
open Go.Proofs.YtbpmnjmegffllaaGreat.Mod Slic
set_option linter.unusedVariables false
set_option linter.unusedSimpArgs false
set_option maxRecDepth 100000
attribute [local go_sem ↓] Go.wp_at_zero Go.wp_at_succ

abbrev ansV (c n : Int) (s : Value) : Value := .agg #[.int .i64 c, .int .i64 n, s]
theorem int_at {w : World} {A : Option Addr} {n c : Nat} {S : List Int} (h : Sr Fina.kI w (.slice A n c) S) (i : Nat) (hi : i < S.length) : ∃ g o, A = some ⟨g, o, none⟩ ∧ w.cell? ⟨g, o + i, none⟩ = some (.int .i64 S[i]) := by
  obtain ⟨g, o, e, _, hc⟩ := h.at i hi
  have := hc 0 _ rfl
  rw [show o + (i * Fina.kI.m + 0) = o + i by simp [Fina.kI]] at this
  exact ⟨g, o, e, this⟩
set_option maxHeartbeats 8000000 in
theorem same12_any (c n : Int) (s s' : Value) (S : List Int) (w : World) (h : Sr Fina.kI w s S) (h' : Sr Fina.kI w s' S) : Calls Tryz.prog 24 #[ansV c n s, ansV c n s'] w fun e w' => e = .returned (.bool true) ∧ Below w.heap.size w w' := by
  obtain ⟨A, d, rfl, l1, l2⟩ := h.form
  obtain ⟨A', d', rfl, l3, l4⟩ := h'.form
  unfold maxLen at l2
  obtain ⟨N, hN⟩ : ∃ N, S.length = N := ⟨_, rfl⟩
  have HN := Lib.hid hN
  rw [hN] at h h' l1 l3 ⊢
  clear hN
  have S0 := ((Held.St.start w).new [.int .i64 c, .int .i64 n, .slice A N d] 40).new [.int .i64 c, .int .i64 n, .slice A' N d'] 40
  simp only [World.size_alloc] at S0
  obtain ⟨W, hW⟩ : ∃ W : World, W = (w.alloc (.cells [.int .i64 c, .int .i64 n, .slice A N d].toArray 40)).alloc (.cells [.int .i64 c, .int .i64 n, .slice A' N d'].toArray 40) := ⟨_, rfl⟩
  rw [← hW] at S0
  have B0 := S0.below
  have HB := Lib.hid (h.below B0)
  have HB' := Lib.hid (h'.below B0)
  have x0 := (S0.get 1 rfl).cell 0 _ rfl
  have x1 := (S0.get 1 rfl).cell 1 _ rfl
  have x2 := (S0.get 1 rfl).cell 2 _ rfl
  have y0 := (S0.get 0 rfl).cell 0 _ rfl
  have y1 := (S0.get 0 rfl).cell 1 _ rfl
  have y2 := (S0.get 0 rfl).cell 2 _ rfl
  have lw := (S0.get 0 rfl).lt
  clear S0 h h'
  go_enter Tryz.func24, Tryz.ntmps24
  go_upto_region 1 with (fail)
  rw [show (w.alloc (.cells #[.int .i64 c, .int .i64 n, .slice A N d] 40)).alloc (.cells #[.int .i64 c, .int .i64 n, .slice A' N d'] 40) = W from hW.symm]
  clear hW
  go_wp2_with fail
  go_loopw [5] (fun t wr => ∃ k : Nat, k ≤ N ∧ t = .int .i64 k ∧ Below W.heap.size W wr) (fun t _ => N - (intOf t).toNat)
  case atStart => exact ⟨0, Nat.zero_le _, rfl, Below.refl _ _⟩
  case round =>
    obtain ⟨k, hk, rfl, kb⟩ := hrel
    by_cases hlt : k < N
    · have hk1 : k < S.length := by rw [HN.out]; exact hlt
      have b1 := HB.out.below kb
      have b2 := HB'.out.below kb
      obtain ⟨g, o, rfl, q1⟩ := int_at b1 k hk1
      obtain ⟨g', o', rfl, q2⟩ := int_at b2 k hk1
      generalize S[k] = x at q1 q2
      have z : (x != x) = false := by simp
      have x2 := (kb.cell (p := ⟨w.heap.size, 2, none⟩) (show w.heap.size < W.heap.size by omega)).trans x2
      have y2 := (kb.cell (p := ⟨w.heap.size + 1, 2, none⟩) lw).trans y2
      have k0 : (0 : Int) ≤ (k : Int) := by omega
      have k1 : (k : Int) < (N : Int) := by omega
      clear HB HB' b1 b2
      go_wp2_with fail
      go_region_held3 (fun W' => W'.cell? ⟨w.heap.size, 2, none⟩ = some (.slice (some ⟨g, o, none⟩) N d) ∧ W'.cell? ⟨w.heap.size + 1, 2, none⟩ = some (.slice (some ⟨g', o', none⟩) N d') ∧ W'.cell? ⟨g, o + k, none⟩ = some (.int .i64 x) ∧ W'.cell? ⟨g', o' + k, none⟩ = some (.int .i64 x))
        (exact ⟨x2, y2, q1, q2⟩)
        (fail)
      go_wp2
      go_roundw
      case rel => exact ⟨k + 1, by omega, by go_num, kb.drew⟩
      case measure => simp [intOf]; omega
    · obtain rfl : N = k := by omega
      have x2 := (kb.cell (p := ⟨w.heap.size, 2, none⟩) (show w.heap.size < W.heap.size by omega)).trans x2
      have bb : Below w.heap.size w wr := B0.trans (kb.mono B0.size)
      go_wp2
      go_ret
      exact ⟨rfl, bb⟩
end Go.Proofs.YtbpmnjmegffllaaGreat.Beg
