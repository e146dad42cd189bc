/-
  Two grounds and a row of extents that are held, side by side: what each call, and an append, makes of them.
-/
import Derived.Test.YtnekbbdodhokbaaTurn
import Derived.Test.YtnekbbdodhokbaaRefB
namespace Go.Proofs.Ytnekbbdodhokbaa.Gr
open Go.ChangeShapes Go.WideShapes Go.ChangeAt Go.RowKit Gm
set_option linter.unusedVariables false

abbrev Own (w : World) (base : Nat) (v : Value) (L : List E) : Prop := w.ownsRow base 40 2 v L.length (flat L)
/-- Held extents: a row of one's own in block K. -/
structure Hl (w : World) (base K : Nat) (v : Value) (H : List E) : Prop where
  own : Own w base v H
  blk : v.ownBlock = some K
theorem Hl.lt {w : World} {base K : Nat} {v : Value} {H : List E} (h : Hl w base K v H) : base ≤ K ∧ K < w.heap.size := h.own.lt K h.blk
theorem Hl.kept {w w' : World} {base K : Nat} {v : Value} {H : List E} {row : Option Nat} (h : Hl w base K v H) (k : w.grownBy w' row) (hr : row ≠ some K) : Hl w' base K v H :=
  ⟨h.own.kept k (.inr (by rw [h.blk]; exact fun e => hr e.symm)), h.blk⟩
theorem Hl.below {w w' : World} {base K : Nat} {v : Value} {H : List E} (h : Hl w base K v H) (k : Below w.heap.size w w') : Hl w' base K v H := h.kept (only_below (row := none) k) (by simp)
theorem Hl.start (w : World) (base : Nat) (hb : base ≤ w.heap.size) : Hl (w.alloc (.cells #[] 40)) base w.heap.size (.slice (some ⟨w.heap.size, 0, none⟩) 0 0) [] :=
  ⟨World.ownsRow_lit w #[] 0 hb (by decide) rfl, rfl⟩
theorem Hl.form {w : World} {base K : Nat} {v : Value} {H : List E} (h : Hl w base K v H) : ∃ c, v = .slice (some ⟨K, 0, none⟩) H.length c := by
  rcases h.own.2 with ⟨rfl, _⟩ | ⟨g, cap, cur, rfl, _⟩
  · have := h.blk
    cases this
  · have hb := h.blk
    injection hb with hb
    have hb' : g = K := hb
    subst hb'
    exact ⟨cap, rfl⟩
theorem Hl.cell {w : World} {base K : Nat} {v : Value} {H : List E} (h : Hl w base K v H) {i : Nat} (hi : i < H.length) : w.cell? ⟨K, i * 2, none⟩ = some (.int .i64 (H[i]).1) ∧ w.cell? ⟨K, i * 2 + 1, none⟩ = some (.int .i64 (H[i]).2) := by
  obtain ⟨c, rfl⟩ := h.form
  obtain ⟨g, e, _, h1, h2⟩ := (Ex.own h.own).cell hi
  injection e with e
  injection e with e
  subst e
  exact ⟨h1, h2⟩
/-- One more. -/
theorem Hl.push (w : World) {base K : Nat} {v : Value} {H : List E} (h : Hl w base K v H) (a z : Int) (hl : H.length ≤ 1000) :
    ∃ v' w' K', (Builtin.append_ #[X, X] X #[v, .slice (some ⟨w.heap.size, 0, none⟩) 1 1]).run Try.prog (w.alloc (.cells #[.int .i64 a, .int .i64 z] 40)) = .ok v' w' ∧
      Hl w' base K' v' (H ++ [(a, z)]) ∧ (w.alloc (.cells #[.int .i64 a, .int .i64 z] 40)).grownBy w' (some K) ∧ (K' = K ∨ w.heap.size ≤ K') := by
  have h1 := h.lt
  have ho := h.own.alloc (.cells #[.int .i64 a, .int .i64 z] 40)
  obtain ⟨v1, w1, r1, o1, g1, at1⟩ := app_own _ ho (one_row w a z).sr (by simp; omega) (by simp; omega)
  rw [h.blk] at g1 at1
  obtain ⟨g', cap, rfl, b1, b2⟩ := o1.form (by simp)
  refine ⟨_, w1, g', r1, ⟨o1, rfl⟩, g1, ?_⟩
  rcases at1 with e | e
  · injection e with e
    exact .inl e
  · injection e with e
    have e' : g' = (w.alloc (.cells #[.int .i64 a, .int .i64 z] 40)).heap.size := e
    rw [World.size_alloc] at e'
    exact .inr (by omega)

structure Tu (w wr : World) (B1 B2 K : Nat) (v : Value) (L1 L2 H : List E) : Prop where
  g1 : Gr wr B1 K 80 400 L1
  g2 : Gr wr B2 K 80 400 L2
  hl : Hl wr (B2 + 1) K v H
  below : Below w.heap.size w wr
  b0 : w.heap.size ≤ B1
  b1 : B1 < B2
section
variable {w wr w' : World} {B1 B2 K : Nat} {v : Value} {L1 L2 H : List E}
theorem Tu.bel (h : Tu w wr B1 B2 K v L1 L2 H) (k : Below wr.heap.size wr w') : Tu w w' B1 B2 K v L1 L2 H :=
  ⟨h.g1.below k, h.g2.below k, h.hl.below k, h.below.trans (k.mono h.below.size), h.b0, h.b1⟩
theorem Tu.one (h : Tu w wr B1 B2 K v L1 L2 H) {L' : List E} (hg : Gr w' B1 K 80 400 L') (k : wr.grownBy w' (some B1)) : Tu w w' B1 B2 K v L' L2 H := by
  have hk := h.hl.lt
  have h1 := h.b1
  have h0 := h.b0
  exact ⟨hg, h.g2.apart h.g1 k (by omega), h.hl.kept k (fun e => by injection e with e; omega), below_only2 h.below k h.below.size h0, h0, h1⟩
theorem Tu.two (h : Tu w wr B1 B2 K v L1 L2 H) {L' : List E} (hg : Gr w' B2 K 80 400 L') (k : wr.grownBy w' (some B2)) : Tu w w' B1 B2 K v L1 L' H := by
  have hk := h.hl.lt
  have h1 := h.b1
  have h0 := h.b0
  exact ⟨h.g1.apart h.g2 k (by omega), hg, h.hl.kept k (fun e => by injection e with e; omega), below_only2 h.below k h.below.size (by omega), h0, h1⟩
theorem Tu.push {v' : Value} {K' : Nat} {a z : Int} (h : Tu w wr B1 B2 K v L1 L2 H) (hh : Hl w' (B2 + 1) K' v' (H ++ [(a, z)])) (k : (wr.alloc (.cells #[.int .i64 a, .int .i64 z] 40)).grownBy w' (some K)) (hk' : K' = K ∨ wr.heap.size ≤ K') : Tu w w' B1 B2 K' v' L1 L2 (H ++ [(a, z)]) := by
  have hk := h.hl.lt
  have h1 := h.b1
  have h0 := h.b0
  have hx := h.bel ((Below.refl _ _).alloc (Nat.le_refl _) (.cells #[.int .i64 a, .int .i64 z] 40))
  have kk : wr.grownBy w' (some K) := only_trans (only_alloc (World.grownBy.refl _ _) _) k
  exact ⟨h.g1.grow kk (by omega) hk', h.g2.grow kk (by omega) hk', hh, below_only2 hx.below k hx.below.size (by omega), h0, h1⟩
theorem t_carve1 (h : Tu w wr B1 B2 K v L1 L2 H) (ok : Ok 80 400 L1) (z : Int) (z1 : -9223372036854775808 ≤ z) (z2 : z ≤ 9223372036854775807) :
    Calls Try.prog 14 #[.pointer (some ⟨B1, 0, none⟩), .int .i64 z] wr fun e w' => e = .returned (.tuple #[.int .i64 (carveV z L1), .bool (carveB z L1)]) ∧ Tu w w' B1 B2 K v (carveF z L1) L2 H :=
  (carve_any wr B1 K 80 400 L1 z h.g1 h.hl.lt.2 ok z1 z2).mono fun e w' ⟨he, hg, k⟩ => ⟨he, h.one hg k⟩
theorem t_carve2 (h : Tu w wr B1 B2 K v L1 L2 H) (ok : Ok 80 400 L2) (z : Int) (z1 : -9223372036854775808 ≤ z) (z2 : z ≤ 9223372036854775807) :
    Calls Try.prog 14 #[.pointer (some ⟨B2, 0, none⟩), .int .i64 z] wr fun e w' => e = .returned (.tuple #[.int .i64 (carveV z L2), .bool (carveB z L2)]) ∧ Tu w w' B1 B2 K v L1 (carveF z L2) H :=
  (carve_any wr B2 K 80 400 L2 z h.g2 h.hl.lt.2 ok z1 z2).mono fun e w' ⟨he, hg, k⟩ => ⟨he, h.two hg k⟩
theorem t_give1 (h : Tu w wr B1 B2 K v L1 L2 H) (ok : Ok 80 400 L1) (a z : Int) (a1 : -9223372036854775808 ≤ a) (a2 : a ≤ 9223372036854775807) (z1 : -9223372036854775808 ≤ z) (z2 : z ≤ 9223372036854775807) :
    Calls Try.prog 12 #[.pointer (some ⟨B1, 0, none⟩), .int .i64 a, .int .i64 z] wr fun e w' => e = .returned (.int .i64 (giveE 80 400 L1 a z)) ∧ Tu w w' B1 B2 K v (giveF 80 400 L1 a z) L2 H ∧ wr.grownBy w' (some B1) :=
  (give_any wr B1 K 80 400 L1 a z h.g1 h.hl.lt.2 ok a1 a2 z1 z2).mono fun e w' ⟨he, hg, k⟩ => ⟨he, h.one hg k, k⟩
theorem t_give2 (h : Tu w wr B1 B2 K v L1 L2 H) (ok : Ok 80 400 L2) (a z : Int) (a1 : -9223372036854775808 ≤ a) (a2 : a ≤ 9223372036854775807) (z1 : -9223372036854775808 ≤ z) (z2 : z ≤ 9223372036854775807) :
    Calls Try.prog 12 #[.pointer (some ⟨B2, 0, none⟩), .int .i64 a, .int .i64 z] wr fun e w' => e = .returned (.int .i64 (giveE 80 400 L2 a z)) ∧ Tu w w' B1 B2 K v L1 (giveF 80 400 L2 a z) H ∧ wr.grownBy w' (some B2) :=
  (give_any wr B2 K 80 400 L2 a z h.g2 h.hl.lt.2 ok a1 a2 z1 z2).mono fun e w' ⟨he, hg, k⟩ => ⟨he, h.two hg k, k⟩
end
end Go.Proofs.Ytnekbbdodhokbaa.Gr
