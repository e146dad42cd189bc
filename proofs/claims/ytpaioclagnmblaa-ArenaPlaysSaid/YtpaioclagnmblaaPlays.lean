/-
  Both arenas side by side, and the operation that is carried out in a block of its own (St): the contracts of arena and of the document's own answers over it.
-/
import Derived.Test.YtpaioclagnmblaaRefC
namespace Go.Proofs.Ytpaioclagnmblaa.Plays
open Go.ChangeShapes Go.WideShapes Go.ChangeAt Go.RowKit Mem Arena Ref
set_option linter.unusedVariables false

/-- In world W, of a call that began in w: the arena at block b, the document's at b + 2, the operation's six fields C in block N. -/
structure St (w W : World) (b N K : Nat) (fa fr : Nat → Int) (C : Array Value) : Prop where
  a : Ar W (b + 1) b K fa
  r : Rf W (b + 2 + 1) (b + 2) K fr
  below : Below w.heap.size w W
  blk : W.heap[N]? = some (.cells C 32 (0, 0))
  hb : w.heap.size ≤ b
  hN : b + 4 ≤ N

theorem lt_of_get {W : World} {N : Nat} {o : Obj} (h : W.heap[N]? = some o) : N < W.heap.size := (Array.getElem?_eq_some_iff.1 h).1

section
variable {w W W' : World} {b N K : Nat} {fa fr fa' fr' : Nat → Int} {C : Array Value}
theorem St.size (h : St w W b N K fa fr C) : N < W.heap.size := lt_of_get h.blk
theorem St.drew (h : St w W b N K fa fr C) : St w W.drew b N K fa fr C := ⟨⟨h.a.head.drew, h.a.body.drew, h.a.fit, h.a.len⟩, h.r.drew, h.below.drew, h.blk, h.hb, h.hN⟩
theorem St.onA (h : St w W b N K fa fr C) (k : W.grownBy W' (some b)) (h' : Ar W' (b + 1) b K fa') : St w W' b N K fa' fr C :=
  ⟨h', h.r.kept k (by intro e; injection e; omega) (by intro e; injection e; omega), below_only h.below k (by have := h.size; have := h.hb; have := h.hN; omega) h.hb,
    (k.block N h.size (by intro e; injection e; have := h.hN; omega)).trans h.blk, h.hb, h.hN⟩
theorem St.onR (h : St w W b N K fa fr C) (k : W.grownBy W' (some (b + 2))) (h' : Rf W' (b + 2 + 1) (b + 2) K fr') : St w W' b N K fa fr' C :=
  ⟨h.a.kept k (by intro e; injection e; omega) (by intro e; injection e; omega), h', below_only h.below k (by have := h.size; have := h.hb; have := h.hN; omega) (by have := h.hb; omega),
    (k.block N h.size (by intro e; injection e; have := h.hN; omega)).trans h.blk, h.hb, h.hN⟩
theorem st_new {wr : World} {f : Nat → Int} (hA : Ar wr (b + 1) b K f) (hR : Rf wr (b + 2 + 1) (b + 2) K f) (hB : Below w.heap.size w wr) (h1 : w.heap.size ≤ b) (h2 : b + 4 ≤ wr.heap.size) (C : Array Value) :
    St w (wr.alloc (.cells C 32)) b wr.heap.size K f f C := by
  have k : Below wr.heap.size wr (wr.alloc (.cells C 32)) := (Below.refl _ _).alloc (Nat.le_refl _) _
  refine ⟨hA.below k (by omega) (by omega), hR.below k (by omega) (by omega), hB.alloc (by omega) _, ?_, h1, h2⟩
  show (wr.heap.push _)[wr.heap.size]? = _
  rw [Array.getElem?_push, if_pos rfl]
theorem St.cells {c0 c1 c2 c3 c4 c5 : Value} (h : St w W b N K fa fr #[c0, c1, c2, c3, c4, c5]) :
    W.cell? ⟨N, 0, none⟩ = some c0 ∧ W.cell? ⟨N, 1, none⟩ = some c1 ∧ W.cell? ⟨N, 2, none⟩ = some c2 ∧ W.cell? ⟨N, 3, none⟩ = some c3 ∧ W.cell? ⟨N, 4, none⟩ = some c4 ∧ W.cell? ⟨N, 5, none⟩ = some c5 :=
  ⟨cell_of_row W N 0 _ _ _ h.blk, cell_of_row W N 1 _ _ _ h.blk, cell_of_row W N 2 _ _ _ h.blk, cell_of_row W N 3 _ _ _ h.blk, cell_of_row W N 4 _ _ _ h.blk, cell_of_row W N 5 _ _ _ h.blk⟩

variable {a x y z v1 v2 : Int} (h : St w W b N K fa fr C) (a1 : -9223372036854775808 ≤ a) (a2 : a ≤ 9223372036854775807)
include h

theorem a_byte : Calls Try.prog 15 #[.pointer (some ⟨b + 1, 0, none⟩), .int .i64 a] W fun e W' => e = .returned (.tuple #[.int .u8 (byteAt K fa a), .int .i64 (errB K a)]) ∧ W = W' := Arena.byte_any W _ _ K fa a h.a
theorem a_putbyte (x1 : 0 ≤ x) (x2 : x ≤ 255) : Calls Try.prog 17 #[.pointer (some ⟨b + 1, 0, none⟩), .int .i64 a, .int .u8 x] W fun e W' => e = .returned (.int .i64 (errB K a)) ∧ St w W' b N K (putBF K fa a x) fr C :=
  (Arena.putbyte_any W _ _ K fa a x h.a x1 x2).mono fun _ _ ⟨he, hw, hg⟩ => ⟨he, h.onA hg hw⟩
include a1 a2
theorem a_word : Calls Try.prog 13 #[.pointer (some ⟨b + 1, 0, none⟩), .int .i64 a] W fun e W' => e = .returned (.tuple #[.int .u64 (wordV K fa a), .int .i64 (errW K a)]) ∧ W = W' := Arena.word_any W _ _ K fa a h.a a1 a2
theorem r_word : Calls Try.prog 14 #[.pointer (some ⟨b + 2 + 1, 0, none⟩), .int .i64 a] W fun e W' => e = .returned (.tuple #[.int .u64 (wordV K fr a), .int .i64 (errW K a)]) ∧ W = W' := Ref.word_any W _ _ K fr a h.r a1 a2
theorem r_byte : Calls Try.prog 16 #[.pointer (some ⟨b + 2 + 1, 0, none⟩), .int .i64 a] W fun e W' => e = .returned (.tuple #[.int .u8 (byteAt K fr a), .int .i64 (errB K a)]) ∧ St w W' b N K fa fr C :=
  (Ref.byte_any W _ _ K fr a h.r a1 a2).mono fun _ _ ⟨he, hw, hg⟩ => ⟨he, h.onR hg hw⟩
theorem r_putbyte (x1 : 0 ≤ x) (x2 : x ≤ 255) : Calls Try.prog 18 #[.pointer (some ⟨b + 2 + 1, 0, none⟩), .int .i64 a, .int .u8 x] W fun e W' => e = .returned (.int .i64 (errB K a)) ∧ St w W' b N K fa (putBF K fr a x) C :=
  (Ref.putbyte_any W _ _ K fr a x h.r a1 a2 x1 x2).mono fun _ _ ⟨he, hw, hg⟩ => ⟨he, h.onR hg hw⟩
theorem a_put (x1 : 0 ≤ x) (x2 : x ≤ 18446744073709551615) : Calls Try.prog 25 #[.pointer (some ⟨b + 1, 0, none⟩), .int .i64 a, .int .u64 x] W fun e W' => e = .returned (.int .i64 (errW K a)) ∧ St w W' b N K (putF K fa a x) fr C :=
  (Arena.put_any W _ _ K fa a x h.a a1 a2 x1 x2).mono fun _ _ ⟨he, hw, hg⟩ => ⟨he, h.onA hg hw⟩
theorem r_put (x1 : 0 ≤ x) (x2 : x ≤ 18446744073709551615) : Calls Try.prog 26 #[.pointer (some ⟨b + 2 + 1, 0, none⟩), .int .i64 a, .int .u64 x] W fun e W' => e = .returned (.int .i64 (errW K a)) ∧ St w W' b N K fa (putF K fr a x) C :=
  (Ref.put_any W _ _ K fr a x h.r a1 a2 x1 x2).mono fun _ _ ⟨he, hw, hg⟩ => ⟨he, h.onR hg hw⟩
theorem a_cas (x1 : 0 ≤ x) (x2 : x ≤ 18446744073709551615) : Calls Try.prog 19 #[.pointer (some ⟨b + 1, 0, none⟩), .int .i64 a, .int .u64 y, .int .u64 x] W fun e W' => e = .returned (.tuple #[.bool (casB K fa a y), .int .i64 (errW K a)]) ∧ St w W' b N K (casF K fa a y x) fr C :=
  (Arena.cas_any W _ _ K fa a y x h.a a1 a2 x1 x2).mono fun _ _ ⟨he, hw, hg⟩ => ⟨he, h.onA hg hw⟩
theorem r_cas (x1 : 0 ≤ x) (x2 : x ≤ 18446744073709551615) : Calls Try.prog 20 #[.pointer (some ⟨b + 2 + 1, 0, none⟩), .int .i64 a, .int .u64 y, .int .u64 x] W fun e W' => e = .returned (.tuple #[.bool (casB K fr a y), .int .i64 (errW K a)]) ∧ St w W' b N K fa (casF K fr a y x) C :=
  (Ref.cas_any W _ _ K fr a y x h.r a1 a2 x1 x2).mono fun _ _ ⟨he, hw, hg⟩ => ⟨he, h.onR hg hw⟩
theorem a_zero (x1 : -9223372036854775808 ≤ x) (x2 : x ≤ 9223372036854775807) : Calls Try.prog 23 #[.pointer (some ⟨b + 1, 0, none⟩), .int .i64 a, .int .i64 x] W fun e W' => e = .returned (.int .i64 (zeroE K a x)) ∧ St w W' b N K (zeroF K fa a x) fr C :=
  (Arena.zero_any W _ _ K fa a x h.a a1 a2 x1 x2).mono fun _ _ ⟨he, hw, hg⟩ => ⟨he, h.onA hg hw⟩
theorem r_zero (x1 : -9223372036854775808 ≤ x) (x2 : x ≤ 9223372036854775807) : Calls Try.prog 24 #[.pointer (some ⟨b + 2 + 1, 0, none⟩), .int .i64 a, .int .i64 x] W fun e W' => e = .returned (.int .i64 (zeroE K a x)) ∧ St w W' b N K fa (zeroF K fr a x) C :=
  (Ref.zero_any W _ _ K fr a x h.r a1 a2 x1 x2).mono fun _ _ ⟨he, hw, hg⟩ => ⟨he, h.onR hg hw⟩
theorem a_claim (x1 : 0 ≤ x) (x2 : x ≤ 18446744073709551615) (y1 : 0 ≤ y) (y2 : y ≤ 18446744073709551615) (z1 : -9223372036854775808 ≤ z) (z2 : z ≤ 9223372036854775807) (p1 : 0 ≤ v1) (p2 : v1 ≤ 18446744073709551615) (p3 : 0 ≤ v2) (p4 : v2 ≤ 18446744073709551615) :
    Calls Try.prog 21 #[.pointer (some ⟨b + 1, 0, none⟩), .int .i64 a, .int .u64 x, .int .u64 y, .int .i64 z, .int .u64 v1, .int .u64 v2] W fun e W' =>
      e = .returned (.tuple #[.int .u64 (claimV K fa a x y z), .bool (claimB K fa a x y z), .int .i64 (claimE K fa a x y z)]) ∧ St w W' b N K (claimF K fa a x y z v1 v2) fr C :=
  (Arena.claim_any W _ _ K fa a x y z v1 v2 h.a a1 a2 x1 x2 y1 y2 z1 z2 p1 p2 p3 p4).mono fun _ _ ⟨he, hw, hg⟩ => ⟨he, h.onA hg hw⟩
theorem r_claim (x1 : 0 ≤ x) (x2 : x ≤ 18446744073709551615) (y1 : 0 ≤ y) (y2 : y ≤ 18446744073709551615) (z1 : -9223372036854775808 ≤ z) (z2 : z ≤ 9223372036854775807) (p1 : 0 ≤ v1) (p2 : v1 ≤ 18446744073709551615) (p3 : 0 ≤ v2) (p4 : v2 ≤ 18446744073709551615) :
    Calls Try.prog 22 #[.pointer (some ⟨b + 2 + 1, 0, none⟩), .int .i64 a, .int .u64 x, .int .u64 y, .int .i64 z, .int .u64 v1, .int .u64 v2] W fun e W' =>
      e = .returned (.tuple #[.int .u64 (claimV K fr a x y z), .bool (claimB K fr a x y z), .int .i64 (claimE K fr a x y z)]) ∧ St w W' b N K fa (claimF K fr a x y z v1 v2) C :=
  (Ref.claim_any W _ _ K fr a x y z v1 v2 h.r a1 a2 x1 x2 y1 y2 z1 z2 p1 p2 p3 p4).mono fun _ _ ⟨he, hw, hg⟩ => ⟨he, h.onR hg hw⟩
end
end Go.Proofs.Ytpaioclagnmblaa.Plays
