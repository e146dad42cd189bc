/-
  The document: Same.
-/
import Derived.Test.YteakglkagmghpaaGreatBegF
import Derived.Test.YteakglkagmghpaaGreatFinr
namespace Go.Proofs.YteakglkagmghpaaGreat.Beg
open Go.ChangeShapes Go.WideShapes Go.ChangeAt Go.RowKit
open Go.Proofs.YteakglkagmghpaaGreat.Mod Slic
set_option linter.unusedVariables false
set_option linter.unusedSimpArgs false
set_option maxRecDepth 100000
attribute [local go_sem ↓] Go.wp_at_zero Go.wp_at_succ

abbrev ansV (c n : Int) (s : Value) : Value := .agg #[.int .i64 c, .int .i64 n, s]
theorem int_at {w : World} {A : Option Addr} {n c : Nat} {S : List Int} (h : Sr Fina.kI w (.slice A n c) S) (i : Nat) (hi : i < S.length) : ∃ g o, A = some ⟨g, o, none⟩ ∧ w.cell? ⟨g, o + i, none⟩ = some (.int .i64 S[i]) := by
  obtain ⟨g, o, e, _, hc⟩ := h.at i hi
  have := hc 0 _ rfl
  rw [show o + (i * Fina.kI.m + 0) = o + i by simp [Fina.kI]] at this
  exact ⟨g, o, e, this⟩
set_option maxHeartbeats 8000000 in
theorem same12_any (c n : Int) (s s' : Value) (S : List Int) (w : World) (h : Sr Fina.kI w s S) (h' : Sr Fina.kI w s' S) : Calls Tryz.prog 15 #[ansV c n s, ansV c n s'] w fun e w' => e = .returned (.bool true) ∧ Below w.heap.size w w' := by
  obtain ⟨A, d, rfl, l1, l2⟩ := h.form
  obtain ⟨A', d', rfl, l3, l4⟩ := h'.form
  unfold maxLen at l2
  obtain ⟨N, hN⟩ : ∃ N, S.length = N := ⟨_, rfl⟩
  have HN := Lib.hid hN
  rw [hN] at h h' l1 l3 ⊢
  clear hN
  have S0 := ((Held.St.start w).new [.int .i64 c, .int .i64 n, .slice A N d] 42).new [.int .i64 c, .int .i64 n, .slice A' N d'] 42
  simp only [World.size_alloc] at S0
  obtain ⟨W, hW⟩ : ∃ W : World, W = (w.alloc (.cells [.int .i64 c, .int .i64 n, .slice A N d].toArray 42)).alloc (.cells [.int .i64 c, .int .i64 n, .slice A' N d'].toArray 42) := ⟨_, rfl⟩
  rw [← hW] at S0
  have B0 := S0.below
  have HB := Lib.hid (h.below B0)
  have HB' := Lib.hid (h'.below B0)
  have x0 := (S0.get 1 rfl).cell 0 _ rfl
  have x1 := (S0.get 1 rfl).cell 1 _ rfl
  have x2 := (S0.get 1 rfl).cell 2 _ rfl
  have y0 := (S0.get 0 rfl).cell 0 _ rfl
  have y1 := (S0.get 0 rfl).cell 1 _ rfl
  have y2 := (S0.get 0 rfl).cell 2 _ rfl
  have lw := (S0.get 0 rfl).lt
  clear S0 h h'
  go_enter Tryz.func15, Tryz.ntmps15
  go_upto_region 1 with (fail)
  rw [show (w.alloc (.cells #[.int .i64 c, .int .i64 n, .slice A N d] 42)).alloc (.cells #[.int .i64 c, .int .i64 n, .slice A' N d'] 42) = W from hW.symm]
  clear hW
  go_wp2_with fail
  go_loopw [5] (fun t wr => ∃ k : Nat, k ≤ N ∧ t = .int .i64 k ∧ Below W.heap.size W wr) (fun t _ => N - (intOf t).toNat)
  case atStart => exact ⟨0, Nat.zero_le _, rfl, Below.refl _ _⟩
  case round =>
    obtain ⟨k, hk, rfl, kb⟩ := hrel
    by_cases hlt : k < N
    · have hk1 : k < S.length := by rw [HN.out]; exact hlt
      have b1 := HB.out.below kb
      have b2 := HB'.out.below kb
      obtain ⟨g, o, rfl, q1⟩ := int_at b1 k hk1
      obtain ⟨g', o', rfl, q2⟩ := int_at b2 k hk1
      generalize S[k] = x at q1 q2
      have z : (x != x) = false := by simp
      have x2 := (kb.cell (p := ⟨w.heap.size, 2, none⟩) (show w.heap.size < W.heap.size by omega)).trans x2
      have y2 := (kb.cell (p := ⟨w.heap.size + 1, 2, none⟩) lw).trans y2
      have k0 : (0 : Int) ≤ (k : Int) := by omega
      have k1 : (k : Int) < (N : Int) := by omega
      clear HB HB' b1 b2
      go_wp2_with fail
      go_region_held3 (fun W' => W'.cell? ⟨w.heap.size, 2, none⟩ = some (.slice (some ⟨g, o, none⟩) N d) ∧ W'.cell? ⟨w.heap.size + 1, 2, none⟩ = some (.slice (some ⟨g', o', none⟩) N d') ∧ W'.cell? ⟨g, o + k, none⟩ = some (.int .i64 x) ∧ W'.cell? ⟨g', o' + k, none⟩ = some (.int .i64 x))
        (exact ⟨x2, y2, q1, q2⟩)
        (fail)
      go_wp2
      go_roundw
      case rel => exact ⟨k + 1, by omega, by go_num, kb.drew⟩
      case measure => simp [intOf]; omega
    · obtain rfl : N = k := by omega
      have x2 := (kb.cell (p := ⟨w.heap.size, 2, none⟩) (show w.heap.size < W.heap.size by omega)).trans x2
      have bb : Below w.heap.size w wr := B0.trans (kb.mono B0.size)
      go_wp2
      go_ret
      exact ⟨rfl, bb⟩
theorem run_call (c : Ca) (W : World) : (Op.equalIn 10000 37 (callV c) (callV c)).run Tryz.prog W = .ok true W := by
  obtain ⟨op, r, h, v, a, b, c⟩ := c
  simp [go_sem]
set_option maxHeartbeats 20000000 in
theorem same3_any (op r h y a b c pc area ra rb : Int) (wo ne at_ top o m : Int) (he d p : Bool) (cd an : Int) (ch li sa as_ ch' li' sa' as' : Value) (L : List Chain.E) (LI SA AS : List Int) (w : World) (hC : Sr kE w ch L) (hI : Sr Fina.kI w li LI) (hS : Sr Fina.kI w sa SA) (hA : Sr Fina.kI w as_ AS) (hC' : Sr kE w ch' L) (hI' : Sr Fina.kI w li' LI) (hS' : Sr Fina.kI w sa' SA) (hA' : Sr Fina.kI w as' AS) :
    Calls Tryz.prog 33 #[runV ⟨⟨op, r, h, y, a, b, c⟩, pc, area, ra, rb, ch, wo, ne, at_, top, li, o, sa, m, he, d, p, cd, an, as_⟩, runV ⟨⟨op, r, h, y, a, b, c⟩, pc, area, ra, rb, ch', wo, ne, at_, top, li', o, sa', m, he, d, p, cd, an, as'⟩] w fun e w' => e = .returned (.bool true) ∧ Below w.heap.size w w' := by
  obtain ⟨A1, d1, rfl, _⟩ := hC.form
  obtain ⟨A2, d2, rfl, _⟩ := hI.form
  obtain ⟨A3, d3, rfl, _⟩ := hS.form
  obtain ⟨A4, d4, rfl, _⟩ := hA.form
  obtain ⟨B1, e1, rfl, _⟩ := hC'.form
  obtain ⟨B2, e2, rfl, _⟩ := hI'.form
  obtain ⟨B3, e3, rfl, _⟩ := hS'.form
  obtain ⟨B4, e4, rfl, _⟩ := hA'.form
  have S0 := ((Held.St.start w).new (runG op r h y a b c pc area ra rb (.slice A1 L.length d1) wo ne at_ top (.slice A2 LI.length d2) o (.slice A3 SA.length d3) m he d p cd an (.slice A4 AS.length d4)) 87).new (runG op r h y a b c pc area ra rb (.slice B1 L.length e1) wo ne at_ top (.slice B2 LI.length e2) o (.slice B3 SA.length e3) m he d p cd an (.slice B4 AS.length e4)) 87
  simp only [World.size_alloc] at S0
  obtain ⟨W, hW⟩ : ∃ W : World, W = (w.alloc (.cells (runG op r h y a b c pc area ra rb (.slice A1 L.length d1) wo ne at_ top (.slice A2 LI.length d2) o (.slice A3 SA.length d3) m he d p cd an (.slice A4 AS.length d4)).toArray 87)).alloc (.cells (runG op r h y a b c pc area ra rb (.slice B1 L.length e1) wo ne at_ top (.slice B2 LI.length e2) o (.slice B3 SA.length e3) m he d p cd an (.slice B4 AS.length e4)).toArray 87) := ⟨_, rfl⟩
  rw [← hW] at S0
  have bI := Lib.hid (Fina.same_self LI)
  have bS := Lib.hid (Fina.same_self SA)
  have bC := Lib.hid (Chain.same_refl L)
  have x11 := (S0.get 1 rfl).cell 11 _ rfl
  have y11 := (S0.get 0 rfl).cell 11 _ rfl
  go_enter Tryz.func33, Tryz.ntmps33
  go_upto_region 1 with (fail)
  rw [show (w.alloc (.cells #[.int .u8 op, .int .u8 r, .int .u8 h, .int .u8 y, .int .i64 a, .int .i64 b, .int .i64 c, .int .i64 pc, .int .i64 area, .int .u64 ra, .int .u64 rb, .slice A1 L.length d1, .int .u64 wo, .int .u64 ne, .int .i64 at_, .int .i64 top, .slice A2 LI.length d2, .int .i64 o, .slice A3 SA.length d3, .int .i64 m, .bool he, .bool d, .bool p, .int .i64 cd, .int .i64 an, .slice A4 AS.length d4] 87)).alloc (.cells #[.int .u8 op, .int .u8 r, .int .u8 h, .int .u8 y, .int .i64 a, .int .i64 b, .int .i64 c, .int .i64 pc, .int .i64 area, .int .u64 ra, .int .u64 rb, .slice B1 L.length e1, .int .u64 wo, .int .u64 ne, .int .i64 at_, .int .i64 top, .slice B2 LI.length e2, .int .i64 o, .slice B3 SA.length e3, .int .i64 m, .bool he, .bool d, .bool p, .int .i64 cd, .int .i64 an, .slice B4 AS.length e4] 87) = W from hW.symm]
  clear hW
  go_wp2_with fail
  refine (Chain.same_any _ _ _ L L (ent_sr (hC.below S0.below)) (ent_sr (hC'.below S0.below))).mono ?_
  rintro z w1 ⟨rfl, k1⟩
  rw [bC.out]
  have S1 := S0.call k1
  have x16 := (S1.get 1 rfl).cell 16 _ rfl
  have y16 := (S1.get 0 rfl).cell 16 _ rfl
  clear x11 y11 S0
  go_wp2_with fail
  refine (Fina.ints_any _ _ _ LI LI (hI.below S1.below) (hI'.below S1.below)).mono ?_
  rintro z w2 ⟨rfl, k2⟩
  rw [bI.out]
  have S2 := S1.call k2
  have x18 := (S2.get 1 rfl).cell 18 _ rfl
  have y18 := (S2.get 0 rfl).cell 18 _ rfl
  clear x16 y16 S1
  go_wp2_with fail
  refine (Fina.ints_any _ _ _ SA SA (hS.below S2.below) (hS'.below S2.below)).mono ?_
  rintro z w3 ⟨rfl, k3⟩
  rw [bS.out]
  have S3 := S2.call k3
  have x23 := (S3.get 1 rfl).cell 23 _ rfl
  have x24 := (S3.get 1 rfl).cell 24 _ rfl
  have x25 := (S3.get 1 rfl).cell 25 _ rfl
  have y23 := (S3.get 0 rfl).cell 23 _ rfl
  have y24 := (S3.get 0 rfl).cell 24 _ rfl
  have y25 := (S3.get 0 rfl).cell 25 _ rfl
  clear x18 y18 S2
  go_wp2_with fail
  refine (same12_any cd an _ _ AS _ (hA.below S3.below) (hA'.below S3.below)).mono ?_
  rintro z w4 ⟨rfl, k4⟩
  have S4 := S3.call k4
  have BB := S4.below
  clear x23 x24 x25 y23 y24 y25 S3
  have q := run_call ⟨op, r, h, y, a, b, c⟩
  have X := S4.get 1 rfl
  have Y := S4.get 0 rfl
  have x0 := X.cell 0 _ rfl
  have y0 := Y.cell 0 _ rfl
  have x1 := X.cell 1 _ rfl
  have y1 := Y.cell 1 _ rfl
  have x2 := X.cell 2 _ rfl
  have y2 := Y.cell 2 _ rfl
  have x3 := X.cell 3 _ rfl
  have y3 := Y.cell 3 _ rfl
  have x4 := X.cell 4 _ rfl
  have y4 := Y.cell 4 _ rfl
  have x5 := X.cell 5 _ rfl
  have y5 := Y.cell 5 _ rfl
  have x6 := X.cell 6 _ rfl
  have y6 := Y.cell 6 _ rfl
  have x7 := X.cell 7 _ rfl
  have y7 := Y.cell 7 _ rfl
  have x8 := X.cell 8 _ rfl
  have y8 := Y.cell 8 _ rfl
  have x9 := X.cell 9 _ rfl
  have y9 := Y.cell 9 _ rfl
  have x10 := X.cell 10 _ rfl
  have y10 := Y.cell 10 _ rfl
  have x12 := X.cell 12 _ rfl
  have y12 := Y.cell 12 _ rfl
  have x13 := X.cell 13 _ rfl
  have y13 := Y.cell 13 _ rfl
  have x14 := X.cell 14 _ rfl
  have y14 := Y.cell 14 _ rfl
  have x15 := X.cell 15 _ rfl
  have y15 := Y.cell 15 _ rfl
  have x17 := X.cell 17 _ rfl
  have y17 := Y.cell 17 _ rfl
  have x19 := X.cell 19 _ rfl
  have y19 := Y.cell 19 _ rfl
  have x20 := X.cell 20 _ rfl
  have y20 := Y.cell 20 _ rfl
  have x21 := X.cell 21 _ rfl
  have y21 := Y.cell 21 _ rfl
  have x22 := X.cell 22 _ rfl
  have y22 := Y.cell 22 _ rfl
  clear X Y S4
  go_wp2
  go_ret
  exact ⟨rfl, BB⟩
end Go.Proofs.YteakglkagmghpaaGreat.Beg
