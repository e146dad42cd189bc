/-
  The ground and the document's ground side by side, with an operation's box beside them: what each call makes of them.
-/
import Derived.Test.YtnekbbdodhokbaaRefE
namespace Go.Proofs.Ytnekbbdodhokbaa.Plays
open Go.ChangeShapes Go.WideShapes Go.ChangeAt Go.RowKit Gm Gr Ref
set_option linter.unusedVariables false

structure Both (w wr : World) (B C g N : Nat) (A : Int) (L : List E) (F : Nat → Bool) : Prop where
  gr : Gr wr B g A (8 * (N : Int)) L
  rf : Rf wr C g A N F
  below : Below w.heap.size w wr
  b0 : w.heap.size ≤ B
  b1 : B < g
  b2 : g < C
  b3 : C < wr.heap.size
theorem Both.bel {w wr w' : World} {B C g N : Nat} {A : Int} {L : List E} {F : Nat → Bool} (h : Both w wr B C g N A L F) (k : Below wr.heap.size wr w') : Both w w' B C g N A L F :=
  ⟨h.gr.below k, h.rf.below k, h.below.trans (k.mono h.below.size), h.b0, h.b1, h.b2, Nat.lt_of_lt_of_le h.b3 k.size⟩
theorem Both.alloc {w wr : World} {B C g N : Nat} {A : Int} {L : List E} {F : Nat → Bool} (h : Both w wr B C g N A L F) (o : Obj) : Both w (wr.alloc o) B C g N A L F := h.bel ((Below.refl _ _).alloc (Nat.le_refl _) _)
theorem Both.drew {w wr : World} {B C g N : Nat} {A : Int} {L : List E} {F : Nat → Bool} (h : Both w wr B C g N A L F) : Both w wr.drew B C g N A L F := h.bel (Below.refl _ _).drew
theorem Both.prog {w wr w' : World} {B C g N : Nat} {A : Int} {L L' : List E} {F : Nat → Bool} (h : Both w wr B C g N A L F) (hg : Gr w' B g A (8 * (N : Int)) L') (k : wr.grownBy w' (some B)) : Both w w' B C g N A L' F := by
  have h1 := h.b1
  have h2 := h.b2
  have h3 := h.below.size
  refine ⟨hg, h.rf.kept k (fun e => by injection e with e; omega) (fun e => by injection e with e; omega), h.below.grown k h3 (fun k e => by injection e with e; have := h.b0; omega), h.b0, h.b1, h.b2, Nat.lt_of_lt_of_le h.b3 k.size⟩
theorem Both.ref {w wr w' : World} {B C g N : Nat} {A : Int} {L : List E} {F F' : Nat → Bool} (h : Both w wr B C g N A L F) (hg : Rf w' C g A N F') (k : wr.grownBy w' (some g)) : Both w w' B C g N A L F' := by
  have h1 := h.b1
  have h2 := h.b2
  have h3 := h.below.size
  refine ⟨h.gr.keep k (fun e => by injection e with e; omega) (.inr rfl), hg, h.below.grown k h3 (fun k e => by injection e with e; have := h.b0; omega), h.b0, h.b1, h.b2, Nat.lt_of_lt_of_le h.b3 k.size⟩

/-- With an operation's box: three integers in block b. -/
structure Pl (w wr : World) (B C g N : Nat) (A : Int) (L : List E) (F : Nat → Bool) (b : Nat) (o0 o1 o2 : Int) : Prop where
  both : Both w wr B C g N A L F
  hb : C < b
  hl : b < wr.heap.size
  c0 : wr.cell? ⟨b, 0, none⟩ = some (.int .u8 o0)
  c1 : wr.cell? ⟨b, 1, none⟩ = some (.int .i64 o1)
  c2 : wr.cell? ⟨b, 2, none⟩ = some (.int .i64 o2)
section
variable {w wr : World} {B C g N b : Nat} {A : Int} {L : List E} {F : Nat → Bool} {o0 o1 o2 : Int}
theorem Pl.new (h : Both w wr B C g N A L F) (o0 o1 o2 : Int) (t : TypeId) : Pl w (wr.alloc (.cells #[.int .u8 o0, .int .i64 o1, .int .i64 o2] t)) B C g N A L F wr.heap.size o0 o1 o2 :=
  ⟨h.alloc _, h.b3, by simp, by simp [go_sem], by simp [go_sem], by simp [go_sem]⟩
theorem Pl.drew (h : Pl w wr B C g N A L F b o0 o1 o2) : Pl w wr.drew B C g N A L F b o0 o1 o2 := ⟨h.both.drew, h.hb, h.hl, h.c0, h.c1, h.c2⟩
theorem Pl.step {w' : World} {L' : List E} {F' : Nat → Bool} {row : Nat} (h : Pl w wr B C g N A L F b o0 o1 o2) (k : wr.grownBy w' (some row)) (hr : row ≤ C) (hn : Both w w' B C g N A L' F') : Pl w w' B C g N A L' F' b o0 o1 o2 := by
  have hb := k.block b h.hl (fun e => by injection e with e; have := h.hb; omega)
  exact ⟨hn, h.hb, Nat.lt_of_lt_of_le h.hl k.size, (World.cell?_of_block (w := wr) (w' := w') (a := ⟨b, 0, none⟩) hb).trans h.c0, (World.cell?_of_block (w := wr) (w' := w') (a := ⟨b, 1, none⟩) hb).trans h.c1, (World.cell?_of_block (w := wr) (w' := w') (a := ⟨b, 2, none⟩) hb).trans h.c2⟩
theorem p_give (h : Pl w wr B C g N A L F b o0 o1 o2) (ok : Ok A (8 * (N : Int)) L) (a z : Int) (a1 : -9223372036854775808 ≤ a) (a2 : a ≤ 9223372036854775807) (z1 : -9223372036854775808 ≤ z) (z2 : z ≤ 9223372036854775807) :
    Calls Try.prog 12 #[.pointer (some ⟨B, 0, none⟩), .int .i64 a, .int .i64 z] wr fun e w' => e = .returned (.int .i64 (giveE A (8 * (N : Int)) L a z)) ∧ Pl w w' B C g N A (giveF A (8 * (N : Int)) L a z) F b o0 o1 o2 := by
  have h1 := h.both.b1
  have h2 := h.both.b2
  have h3 := h.both.b3
  exact (Gr.give_any wr B g A _ L a z h.both.gr (by omega) ok a1 a2 z1 z2).mono fun e w' ⟨he, hg, k⟩ => ⟨he, h.step k (by omega) (h.both.prog hg k)⟩
theorem r_give (h : Pl w wr B C g N A L F b o0 o1 o2) (a z : Int) (A0 : 0 ≤ A) (A1 : A ≤ 65536) (A8 : A % 8 = 0) (hN : N ≤ 8192) (a1 : -9223372036854775808 ≤ a) (a2 : a ≤ 9223372036854775807) (z1 : -9223372036854775808 ≤ z) (z2 : z ≤ 9223372036854775807) :
    Calls Try.prog 13 #[.pointer (some ⟨C, 0, none⟩), .int .i64 a, .int .i64 z] wr fun e w' => e = .returned (.int .i64 (giveE A (8 * (N : Int)) (runs A F N) a z)) ∧ Pl w w' B C g N A L (giveW A N F a z) b o0 o1 o2 :=
  (Ref.give_any wr C g N A F a z h.both.rf A0 A1 A8 hN a1 a2 z1 z2).mono fun e w' ⟨he, hg, k⟩ => ⟨he, h.step k (Nat.le_of_lt h.both.b2) (h.both.ref hg k)⟩
theorem p_carve (h : Pl w wr B C g N A L F b o0 o1 o2) (ok : Ok A (8 * (N : Int)) L) (z : Int) (z1 : -9223372036854775808 ≤ z) (z2 : z ≤ 9223372036854775807) :
    Calls Try.prog 14 #[.pointer (some ⟨B, 0, none⟩), .int .i64 z] wr fun e w' => e = .returned (.tuple #[.int .i64 (carveV z L), .bool (carveB z L)]) ∧ Pl w w' B C g N A (carveF z L) F b o0 o1 o2 := by
  have h1 := h.both.b1
  have h2 := h.both.b2
  have h3 := h.both.b3
  exact (Gr.carve_any wr B g A _ L z h.both.gr (by omega) ok z1 z2).mono fun e w' ⟨he, hg, k⟩ => ⟨he, h.step k (by omega) (h.both.prog hg k)⟩
theorem r_carve (h : Pl w wr B C g N A L F b o0 o1 o2) (z : Int) (A0 : 0 ≤ A) (A1 : A ≤ 65536) (A8 : A % 8 = 0) (hN : N ≤ 8192) (z1 : -9223372036854775808 ≤ z) (z2 : z ≤ 9223372036854775807) :
    Calls Try.prog 15 #[.pointer (some ⟨C, 0, none⟩), .int .i64 z] wr fun e w' => e = .returned (.tuple #[.int .i64 (carveV z (runs A F N)), .bool (carveB z (runs A F N))]) ∧ Pl w w' B C g N A L (carveW A z N F) b o0 o1 o2 :=
  (Ref.carve_any wr C g N A F z h.both.rf A0 A1 A8 hN z1 z2).mono fun e w' ⟨he, hg, k⟩ => ⟨he, h.step k (Nat.le_of_lt h.both.b2) (h.both.ref hg k)⟩
end
end Go.Proofs.Ytnekbbdodhokbaa.Plays
