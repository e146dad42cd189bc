/-
  Package found: words, control words and extents of a scope's block are put.
-/
import Derived.Test.YteakglkagmghpaaGreatFou
namespace Go.Proofs.YteakglkagmghpaaGreat.Fou
open Go.ChangeShapes Go.WideShapes Go.ChangeAt Go.RowKit
open Sco Amem
set_option linter.unusedVariables false
set_option linter.unusedSimpArgs false
set_option maxRecDepth 8000
attribute [local go_sem ↓] Go.wp_at_zero Go.wp_at_succ
variable {P : Pn} {f : Nat → Int}
abbrev blkL (P : Pn) : List Value := [.int .i64 (P.n : Int), .int .i64 P.t, .int .i64 P.i, .int .i64 P.j, .pointer (some ⟨P.B, 0, none⟩)]
theorem ar_lt {w : World} (h : P.ar w f) : ∀ x ∈ [P.g], x < w.heap.size := fun x hx => by
  rw [List.mem_singleton.1 hx]
  exact h.body.lt
theorem ar_at {w w0 : World} {X : List Nat} {b : Nat} {vs : List Value} (A : Held.At w0 w b vs) (h : ∀ x ∈ X, x < w0.heap.size) : b ∉ X := fun e => by
  have := h b e
  have := A.own
  omega

set_option maxHeartbeats 1000000 in
theorem put_ok (w : World) (R : Pr P) (h : P.ar w f) (s q : Nat) (hs : s < P.n) (hq : q ≤ 4) (z : Int) (hz : z = (q : Int)) (x : Int) (x0 : 0 ≤ x) (x1 : x ≤ 18446744073709551615) :
    Calls Tryz.prog 128 #[P.blk, .int .i64 z, .int .i64 (s : Int), .int .u64 x] w fun e w' => e = .returned (.tuple #[]) ∧ P.ar w' (setF f (8 * s + q) x) ∧ Only [P.g] w w' := by
  subst hz
  have S0 := (Lx.start w [P.g] (ar_lt h)).new (blkL P) 174
  have HA := Lib.hid (R.at hs hq)
  obtain ⟨b1, b2, b3, _⟩ := R.b
  have h0 := Ar.keep h (Below.refl _ _ |>.alloc (Nat.le_refl _) (.cells (blkL P).toArray 174))
  go_enter Tryz.func128, Tryz.ntmps128
  go_wp2_with fail
  refine (Plan.at_any _ _ _ _ _ _ _).mono ?_
  rintro e w1 ⟨rfl, k1⟩
  rw [HA.out]
  have S1 := S0.call k1
  have c4 := (S1.get 0 rfl).cell 4 _ rfl
  have h1 := Ar.keep h0 k1
  go_wp2_with fail
  refine (Arena.put_ok _ P.B P.g P.N (8 * s + q) f _ x h1 (by omega) (by omega) x0 x1).mono ?_
  rintro e w2 ⟨rfl, h2, g2⟩
  have S2 := S1.grown g2 (by simp)
  go_wp2
  go_end0
  exact ⟨rfl, h2, S2.only⟩
theorem pack_bound {s c p e : Int} (hr : Ctl.rightB s c p e = true) : 0 ≤ Ctl.packV s c p e ∧ Ctl.packV s c p e ≤ 18446744073709551615 := by
  have := rightI hr
  unfold Ctl.packV
  rw [if_pos hr]
  omega
set_option maxHeartbeats 1000000 in
theorem putctl_ok (w : World) (R : Pr P) (h : P.ar w f) (s : Nat) (hs : s < P.n) (a b c d : Int) (hr : Ctl.rightB a b c d = true) :
    Calls Tryz.prog 119 #[P.blk, .int .i64 (s : Int), .agg #[.int .i64 a, .int .i64 b, .int .i64 c, .int .i64 d]] w fun e w' => e = .returned (.tuple #[]) ∧ P.ar w' (setF f (8 * s) (Ctl.packV a b c d)) ∧ Only [P.g] w w' := by
  have S0 := ((Lx.start w [P.g] (ar_lt h)).new (blkL P) 174).new [.int .i64 a, .int .i64 b, .int .i64 c, .int .i64 d] 64
  simp only [World.size_alloc] at S0
  have h0 := Ar.keep h ((Below.refl _ _ |>.alloc (Nat.le_refl _) (.cells (blkL P).toArray 174)) |>.alloc (by simp) (.cells [.int .i64 a, .int .i64 b, .int .i64 c, .int .i64 d].toArray 64))
  have HE := Lib.hid (show Ctl.packE a b c d = 0 by unfold Ctl.packE; rw [if_pos hr])
  obtain ⟨p0, p1⟩ := pack_bound hr
  go_enter Tryz.func119, Tryz.ntmps119
  go_wp2_with fail
  refine (Ctl.pack_any _ _ _ _ _).mono ?_
  rintro e w1 ⟨rfl, k1⟩
  rw [HE.out]
  have S1 := S0.call k1
  have h1 := Ar.keep h0 k1
  have A1 := S1.get 1 rfl
  have c0 := A1.cell 0 _ rfl
  have c1 := A1.cell 1 _ rfl
  have c2 := A1.cell 2 _ rfl
  have c3 := A1.cell 3 _ rfl
  have c4 := A1.cell 4 _ rfl
  clear A1
  go_wp2_with fail
  refine (put_ok _ R h1 s 0 hs (by omega) _ rfl _ p0 p1).mono ?_
  rintro e w2 ⟨rfl, h2, g2⟩
  have S2 := S1.go g2
  go_wp2
  go_end0
  exact ⟨rfl, h2, S2.only⟩
set_option maxHeartbeats 1000000 in
theorem putext_ok (w : World) (R : Pr P) (h : P.ar w f) (s : Nat) (hs : s < P.n) (a z : Int) (a0 : 0 ≤ a) (a1 : a ≤ 65536) (z0 : 0 ≤ z) (z1 : z ≤ 65536) :
    Calls Tryz.prog 120 #[P.blk, .int .i64 (s : Int), .agg #[.int .i64 a, .int .i64 z]] w fun e w' => e = .returned (.tuple #[]) ∧ P.ar w' (setF (setF f (8 * s + 1) a) (8 * s + 2) z) ∧ Only [P.g] w w' := by
  have S0 := ((Lx.start w [P.g] (ar_lt h)).new (blkL P) 174).new [.int .i64 a, .int .i64 z] 119
  simp only [World.size_alloc] at S0
  have h0 := Ar.keep h ((Below.refl _ _ |>.alloc (Nat.le_refl _) (.cells (blkL P).toArray 174)) |>.alloc (by simp) (.cells [.int .i64 a, .int .i64 z].toArray 119))
  go_enter Tryz.func120, Tryz.ntmps120
  go_wp2_with fail
  refine (put_ok _ R h0 s 1 hs (by omega) _ rfl _ a0 (by omega)).mono ?_
  rintro e w1 ⟨rfl, h1, k1⟩
  have S1 := S0.go k1
  have A1 := S1.get 1 rfl
  have c0 := A1.cell 0 _ rfl
  have c1 := A1.cell 1 _ rfl
  have c2 := A1.cell 2 _ rfl
  have c3 := A1.cell 3 _ rfl
  have c4 := A1.cell 4 _ rfl
  have d1 := (S1.get 0 rfl).cell 1 _ rfl
  clear A1
  go_wp2_with fail
  refine (put_ok _ R h1 s 2 hs (by omega) _ rfl _ z0 (by omega)).mono ?_
  rintro e w2 ⟨rfl, h2, g2⟩
  have S2 := S1.go g2
  go_wp2
  go_end0
  exact ⟨rfl, h2, S2.only⟩
set_option maxHeartbeats 1000000 in
theorem ext_ok (w : World) (R : Pr P) (h : P.ar w f) (s : Nat) (hs : s < P.n) (h1 : f (8 * s + 1) ≤ 65536) (h2 : f (8 * s + 2) ≤ 65536) :
    Calls Tryz.prog 130 #[P.blk, .int .i64 (s : Int)] w fun e w' => e = .returned (.agg #[.int .i64 (f (8 * s + 1)), .int .i64 (f (8 * s + 2))]) ∧ Below w.heap.size w w' := by
  have S0 := ((Held.St.start w).new (blkL P) 174).new [.int .i64 0, .int .i64 0] 119
  simp only [World.size_alloc] at S0
  have h0 := Ar.keep h ((Below.refl _ _ |>.alloc (Nat.le_refl _) (.cells (blkL P).toArray 174)) |>.alloc (by simp) (.cells [.int .i64 0, .int .i64 0].toArray 119))
  have f1 := (h.fit (8 * s + 1)).1
  have f2 := (h.fit (8 * s + 2)).1
  go_enter Tryz.func130, Tryz.ntmps130
  go_wp2_with fail
  refine (word_ok _ R h0 s 1 hs (by omega) _ rfl).mono ?_
  rintro e w1 ⟨rfl, k1⟩
  have S1 := S0.call k1
  have A1 := S1.get 1 rfl
  have c0 := A1.cell 0 _ rfl
  have c1 := A1.cell 1 _ rfl
  have c2 := A1.cell 2 _ rfl
  have c3 := A1.cell 3 _ rfl
  have c4 := A1.cell 4 _ rfl
  clear A1
  go_wp2_with fail
  refine (word_ok _ R (Ar.keep h0 k1) s 2 hs (by omega) _ rfl).mono ?_
  rintro e w2 ⟨rfl, k2⟩
  have S2 := S1.call k2
  have A2 := S2.get 0 rfl
  have d0 := A2.cell 0 _ rfl
  have d1 := A2.cell 1 _ rfl
  have fz := A2.fz
  go_wp2
  refine bodyPost_ret (v := .agg #[.int .i64 (f (8 * s + 1)), .int .i64 (f (8 * s + 2))]) (by simp [results, Tryz.results130, go_sem, d0, d1]) rfl ?_
  exact ⟨rfl, (S2.below.setCell A2.own _).setCell A2.own _⟩
end Go.Proofs.YteakglkagmghpaaGreat.Fou
