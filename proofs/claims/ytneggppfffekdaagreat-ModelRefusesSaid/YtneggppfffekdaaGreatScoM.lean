/-
  The forest of scopes in memory: kinds of rows; what changes but so many blocks; the struct with its ground, and the row of records.
-/
import Derived.Test.YtneggppfffekdaaGreatBase
import Derived.Test.YtneggppfffekdaaGreatSco
import Derived.Test.YtneggppfffekdaaGreatGrou
namespace Go.Proofs.YtneggppfffekdaaGreat.Sco
open Go.ChangeShapes Go.WideShapes Go.ChangeAt Go.RowKit
open Slic Gm
set_option linter.unusedVariables false
set_option maxRecDepth 8000

def kD : Kd Cx := { X := 107, T := 157, m := 6, by_ := 48, z := .agg #[.int .i64 0, .int .i64 0, .int .i64 0, .int .i64 0, .int .i64 0, .int .i64 0], enc := fun x => [.int .i64 x.s, .int .i64 x.c, .int .i64 x.p, .int .i64 x.e, .int .i64 x.a, .int .i64 x.z], len := fun _ => rfl, one := fun _ u h => by simp at h; rcases h with rfl | rfl | rfl | rfl | rfl | rfl <;> rfl, pos := by decide, small := by decide, zs := rfl, under := by kernel_rfl, info := by kernel_rfl, elem := by kernel_rfl }
def kC : Kd Cx := { X := 67, T := 64, m := 4, by_ := 32, z := .agg #[.int .i64 0, .int .i64 0, .int .i64 0, .int .i64 0], enc := fun x => [.int .i64 x.s, .int .i64 x.c, .int .i64 x.p, .int .i64 x.e], len := fun _ => rfl, one := fun _ u h => by simp at h; rcases h with rfl | rfl | rfl | rfl <;> rfl, pos := by decide, small := by decide, zs := rfl, under := by kernel_rfl, info := by kernel_rfl, elem := by kernel_rfl }
def kX : Kd Cx := { X := 68, T := 109, m := 2, by_ := 16, z := .agg #[.int .i64 0, .int .i64 0], enc := fun x => [.int .i64 x.a, .int .i64 x.z], len := fun _ => rfl, one := fun _ u h => by simp at h; rcases h with rfl | rfl <;> rfl, pos := by decide, small := by decide, zs := rfl, under := by kernel_rfl, info := by kernel_rfl, elem := by kernel_rfl }

/-- Nothing changes but these blocks, and new ones. -/
structure Only (X : List Nat) (w w' : World) : Prop where
  os : w'.os = w.os
  tape : w'.tape = w.tape
  output : w'.output = w.output
  size : w.heap.size ≤ w'.heap.size
  block : ∀ i, i < w.heap.size → i ∉ X → w'.heap[i]? = w.heap[i]?
theorem Only.refl (X : List Nat) (w : World) : Only X w w := ⟨rfl, rfl, rfl, Nat.le_refl _, fun _ _ _ => rfl⟩
theorem Only.trans {X : List Nat} {a b c : World} (h : Only X a b) (k : Only X b c) : Only X a c :=
  ⟨k.os.trans h.os, k.tape.trans h.tape, k.output.trans h.output, Nat.le_trans h.size k.size, fun i hi hx => (k.block i (Nat.lt_of_lt_of_le hi h.size) hx).trans (h.block i hi hx)⟩
theorem Only.mono {X Y : List Nat} {a b : World} (h : Only X a b) (k : ∀ x ∈ X, x ∈ Y) : Only Y a b := ⟨h.os, h.tape, h.output, h.size, fun i hi hx => h.block i hi fun e => hx (k i e)⟩
theorem Only.below {X : List Nat} {a b : World} (h : Below a.heap.size a b) : Only X a b := ⟨h.os, h.tape, h.output, h.size, fun i hi _ => h.block i hi⟩
theorem Only.grown {X : List Nat} {a b : World} {g : Nat} (h : a.grownBy b (some g)) (hg : g ∈ X) : Only X a b := ⟨h.os, h.tape, h.output, h.size, fun i hi hx => h.block i hi fun e => by injection e with e; exact hx (e ▸ hg)⟩
theorem Only.put {X : List Nat} (w : World) (g o : Nat) (v : Value) (hg : g ∈ X) : Only X w (w.setCell ⟨g, o, none⟩ v) :=
  Only.grown (g := g) ⟨rfl, rfl, rfl, by simp, fun k _ hk => heap_setCell_other w ⟨g, o, none⟩ k v (fun e => hk (by simp [e]))⟩ hg
theorem Only.below_of {X : List Nat} {N : Nat} {w0 w w' : World} (h : Only X w w') (k : Below N w0 w) (hN : N ≤ w.heap.size) (hX : ∀ x ∈ X, N ≤ x) : Below N w0 w' :=
  ⟨h.os.trans k.os, h.tape.trans k.tape, h.output.trans k.output, Nat.le_trans k.size h.size, fun i hi => (h.block i (by omega) (fun e => by have := hX i e; omega)).trans (k.block i hi)⟩
theorem Only.cell {X : List Nat} {w w' : World} (h : Only X w w') {b : Nat} (hb : b < w.heap.size) (hx : b ∉ X) (o : Nat) : w'.cell? ⟨b, o, none⟩ = w.cell? ⟨b, o, none⟩ := by
  simp only [World.cell?, h.block b hb hx]
theorem Only.frozen {X : List Nat} {w w' : World} (h : Only X w w') {b : Nat} (hb : b < w.heap.size) (hx : b ∉ X) (o : Nat) : w'.frozen? ⟨b, o, none⟩ = w.frozen? ⟨b, o, none⟩ := by
  simp only [World.frozen?, h.block b hb hx]

/-- A block's type. -/
def isT (w : World) (b : Nat) (t : TypeId) : Prop := ∃ cs, w.heap[b]? = some (.cells cs t (0, 0))
theorem isT.ne {w : World} {b b' : Nat} {t t' : TypeId} (h : isT w b t) (h' : isT w b' t') (hne : (t == t') = false) : b ≠ b' := by
  rintro rfl
  obtain ⟨c, h⟩ := h
  obtain ⟨c', h'⟩ := h'
  rw [h] at h'
  injection h' with h'
  injection h' with _ h'
  subst h'
  simp at hne
theorem isT.row {w : World} {b n : Nat} {t : TypeId} {f : Nat → Value} (h : w.rowIs b t n f) : isT w b t := by
  obtain ⟨c, h, _⟩ := h
  exact ⟨c, h⟩
theorem isT.own {α : Type} {K : Kd α} {w : World} {base g n c : Nat} {L : List α} (h : Own K w base (.slice (some ⟨g, 0, none⟩) n c) L) : isT w g K.T := by
  rcases h.2 with ⟨e, _⟩ | ⟨g', cap, cur, e, _, hg, _⟩
  · cases e
  · injection e with e
    injection e with e
    injection e with e
    subst e
    exact ⟨cur, hg⟩

/-- What the struct lies at the beginning of: a block of this type with so many cells; and what the other cells are. -/
structure Fr where
  T : TypeId
  m : Nat
  f : Nat → Value
  fits : 4 ≤ m
  ne : (T == 109) = false
  nr : (T == 157) = false
/-- A forest of its own. -/
def yS : Fr := ⟨113, 4, fun _ => undef, by decide, by decide, by decide⟩
/-- The struct: its row of records, and its ground. -/
def ly (Y : Fr) (g n : Nat) : Gr.Ly := ⟨Y.T, Y.m, 1, fun i => if i = 0 then .slice (some ⟨g, 0, none⟩) n n else Y.f i, Y.fits, Y.ne⟩
structure Sc (w : World) (Y : Fr) (B g K n : Nat) (A S : Int) (F : Fo) : Prop where
  len : F.R.length = n
  gr : Gr.Gr w (ly Y g n) B K A S F.L
  row : Own kD w 0 (.slice (some ⟨g, 0, none⟩) n n) F.R
section
variable {w w' : World} {Y : Fr} {B g K n : Nat} {A S : Int} {F : Fo}
theorem Sc.tB (h : Sc w Y B g K n A S F) : isT w B Y.T := by
  obtain ⟨v, hr, _⟩ := h.gr
  exact isT.row hr
theorem Sc.tg (h : Sc w Y B g K n A S F) : isT w g 157 := isT.own h.row
theorem Sc.ne (h : Sc w Y B g K n A S F) : B ≠ g := h.tB.ne h.tg Y.nr
theorem Sc.ltB (h : Sc w Y B g K n A S F) : B < w.heap.size := h.gr.lt
theorem Sc.ltg (h : Sc w Y B g K n A S F) : g < w.heap.size := (h.row.lt g rfl).2
/-- The row, as the struct has it. -/
theorem Sc.all (h : Sc w Y B g K n A S F) : w.cell? ⟨B, 0, none⟩ = some (.slice (some ⟨g, 0, none⟩) n n) := by
  obtain ⟨v, hr, _⟩ := h.gr
  have := hr.cell (i := 0) (Nat.lt_of_lt_of_le (by decide) Y.fits)
  rw [Gr.Ly.hdf _ _ _ _ (.inl (show 0 < 1 by decide))] at this
  exact this
theorem Sc.at (h : Sc w Y B g K n A S F) {i : Nat} {x : Cx} (hx : F.R[i]? = some x) :
    (w.cell? ⟨g, i * 6, none⟩ = some (.int .i64 x.s) ∧ w.cell? ⟨g, i * 6 + 1, none⟩ = some (.int .i64 x.c) ∧ w.cell? ⟨g, i * 6 + 2, none⟩ = some (.int .i64 x.p) ∧ w.cell? ⟨g, i * 6 + 3, none⟩ = some (.int .i64 x.e) ∧ w.cell? ⟨g, i * 6 + 4, none⟩ = some (.int .i64 x.a) ∧ w.cell? ⟨g, i * 6 + 5, none⟩ = some (.int .i64 x.z)) ∧ ∀ o, w.frozen? ⟨g, o, none⟩ = false := by
  obtain ⟨hi, hx⟩ := List.getElem?_eq_some_iff.1 hx
  have hr := h.row
  rw [← h.len] at hr
  obtain ⟨g', c, e, _, _, _, _, hf, hc⟩ := hr.form (by omega)
  injection e with e
  injection e with e
  injection e with e
  subst e
  have hq := fun j u => hc i j u hi
  rw [hx] at hq
  exact ⟨⟨hq 0 _ rfl, hq 1 _ rfl, hq 2 _ rfl, hq 3 _ rfl, hq 4 _ rfl, hq 5 _ rfl⟩, hf⟩
theorem own_block {α : Type} {Q : Kd α} {w w' : World} {base g n c : Nat} {L : List α} (h : Own Q w base (.slice (some ⟨g, 0, none⟩) n c) L) (k : w'.heap[g]? = w.heap[g]?) : Own Q w' base (.slice (some ⟨g, 0, none⟩) n c) L := by
  refine ⟨h.1, ?_⟩
  rcases h.2 with hn | ⟨g', cap, cur, e, hb, hgg, rest⟩
  · exact .inl hn
  · refine .inr ⟨g', cap, cur, e, hb, ?_, rest⟩
    injection e with e
    injection e with e
    injection e with e
    subst e
    exact k.trans hgg
theorem Sc.only_gr {X : List Nat} (h : Sc w Y B g K n A S F) (k : Only X w w') (hB : B ∉ X) (hX : ∀ x ∈ X, x = K ∨ ∃ t, isT w x t ∧ (t == 109) = false) : Gr.Gr w' (ly Y g n) B K A S F.L := by
  · obtain ⟨v, a, b, c, d, t⟩ := h.gr
    have hv : ∀ q, v.ownBlock = some q → q ∉ X := by
      intro q hq hqX
      rcases hX q hqX with rfl | ⟨t', ⟨cs, e1⟩, e2⟩
      · exact d hq
      · obtain ⟨cs', fz, e3⟩ := t q hq
        rw [e1] at e3
        injection e3 with e3
        injection e3 with _ e3
        subst e3
        simp at e2
    exact ⟨v, a.of_block (k.block B a.lt hB), b.keep k.size fun q hq => k.block q (b.lt hq) (hv q hq), c, d, t.keep fun q hq => k.block q (b.lt hq) (hv q hq)⟩
theorem Sc.only {X : List Nat} (h : Sc w Y B g K n A S F) (k : Only X w w') (hB : B ∉ X) (hg : g ∉ X) (hX : ∀ x ∈ X, x = K ∨ ∃ t, isT w x t ∧ (t == 109) = false) : Sc w' Y B g K n A S F := by
  refine ⟨h.len, ?_, ?_⟩
  · exact h.only_gr k hB hX
  · exact own_block h.row (k.block g h.ltg hg)
theorem Sc.below (h : Sc w Y B g K n A S F) (k : Below w.heap.size w w') : Sc w' Y B g K n A S F :=
  h.only (X := []) (Only.below k) List.not_mem_nil List.not_mem_nil (fun x hx => absurd hx List.not_mem_nil)
theorem Sc.alloc' (h : Sc w Y B g K n A S F) (o : Obj) : Sc (w.alloc o) Y B g K n A S F := h.below (below_one w o)
/-- The ground alone has changed. -/
theorem Sc.ground {L' : List E} (h : Sc w Y B g K n A S F) (hg : Gr.Gr w' (ly Y g n) B K A S L') (k : w.grownBy w' (some B)) : Sc w' Y B g K n A S ⟨F.R, L'⟩ :=
  ⟨h.len, hg, own_block h.row (k.block g h.ltg (fun e => by injection e with e; exact h.ne e.symm))⟩
/-- A stretch of stores into the row, and into what is new: what has changed since. -/
structure Cg (w0 w : World) (g n : Nat) (R : List Cx) : Prop where
  lt : g < w0.heap.size
  len : R.length = n
  only : Only [g] w0 w
  row : Own kD w 0 (.slice (some ⟨g, 0, none⟩) n n) R
theorem Sc.cg (h : Sc w Y B g K n A S F) : Cg w w g n F.R := ⟨h.ltg, h.len, Only.refl _ _, h.row⟩
theorem Cg.call {w0 w w' : World} {g n : Nat} {R : List Cx} (h : Cg w0 w g n R) (k : Below w.heap.size w w') : Cg w0 w' g n R :=
  ⟨h.lt, h.len, h.only.trans (Only.below k), own_block h.row (k.block g (Nat.lt_of_lt_of_le h.lt h.only.size))⟩
theorem Cg.alloc {w0 w : World} {g n : Nat} {R : List Cx} (h : Cg w0 w g n R) (o : Obj) : Cg w0 (w.alloc o) g n R := h.call (below_one w o)
theorem Cg.drew {w0 w : World} {g n : Nat} {R : List Cx} (h : Cg w0 w g n R) : Cg w0 w.drew g n R := h.call (Below.refl _ _).drew
theorem Cg.loc {w0 w : World} {g n : Nat} {R : List Cx} (h : Cg w0 w g n R) {b : Nat} (hb : w0.heap.size ≤ b) (o : Nat) (v : Value) : Cg w0 (w.setCell ⟨b, o, none⟩ v) g n R := by
  have hg := h.lt
  have hk : ∀ k, k < w0.heap.size → (w.setCell ⟨b, o, none⟩ v).heap[k]? = w.heap[k]? := fun k hk => heap_setCell_other w ⟨b, o, none⟩ k v (by show k ≠ b; omega)
  exact ⟨hg, h.len, ⟨h.only.os, h.only.tape, h.only.output, by simpa [World.setCell] using h.only.size, fun i hi hx => (hk i hi).trans (h.only.block i hi hx)⟩, own_block h.row (hk g hg)⟩
theorem Cg.put {w0 w : World} {g n : Nat} {R : List Cx} (h : Cg w0 w g n R) (i j : Nat) {x : Cx} (y : Cx) (v : Value) (hx : R[i]? = some x) (hj : j < 6) (hy : kD.enc y = (kD.enc x).set j v) : Cg w0 (w.setCell ⟨g, i * 6 + j, none⟩ v) g n (R.set i y) := by
  obtain ⟨hi, hx⟩ := List.getElem?_eq_some_iff.1 hx
  refine ⟨h.lt, by rw [List.length_set]; exact h.len, h.only.trans (Only.put w g _ v (by simp)), ?_⟩
  have hr := h.row
  have e := h.len
  subst e
  exact (hr.put i j hi hj y v (by rw [hx]; exact hy)).1
theorem set_read {R : List Cx} {i : Nat} {x : Cx} (h : R[i]? = some x) (y : Cx) : (R.set i y)[i]? = some y := set_get (List.getElem?_eq_some_iff.1 h).1
/-- A word is stored. -/
theorem Cg.put4 {w0 w : World} {g n : Nat} {R : List Cx} (h : Cg w0 w g n R) (i : Nat) {x : Cx} (hx : R[i]? = some x) (s c p e : Int) :
    Cg w0 ((((w.setCell ⟨g, i * 6, none⟩ (.int .i64 s)).setCell ⟨g, i * 6 + 1, none⟩ (.int .i64 c)).setCell ⟨g, i * 6 + 2, none⟩ (.int .i64 p)).setCell ⟨g, i * 6 + 3, none⟩ (.int .i64 e)) g n (R.set i ⟨s, c, p, e, x.a, x.z⟩) := by
  have h1 := h.put i 0 ⟨s, x.c, x.p, x.e, x.a, x.z⟩ (.int .i64 s) hx (by decide) rfl
  have h2 := h1.put i 1 ⟨s, c, x.p, x.e, x.a, x.z⟩ (.int .i64 c) (set_read hx _) (by decide) rfl
  rw [List.set_set] at h2
  have h3 := h2.put i 2 ⟨s, c, p, x.e, x.a, x.z⟩ (.int .i64 p) (set_read hx _) (by decide) rfl
  rw [List.set_set] at h3
  have h4 := h3.put i 3 ⟨s, c, p, e, x.a, x.z⟩ (.int .i64 e) (set_read hx _) (by decide) rfl
  rw [List.set_set] at h4
  exact h4
/-- An extent is stored. -/
theorem Cg.put2 {w0 w : World} {g n : Nat} {R : List Cx} (h : Cg w0 w g n R) (i : Nat) {x : Cx} (hx : R[i]? = some x) (a z : Int) :
    Cg w0 ((w.setCell ⟨g, i * 6 + 4, none⟩ (.int .i64 a)).setCell ⟨g, i * 6 + 5, none⟩ (.int .i64 z)) g n (R.set i ⟨x.s, x.c, x.p, x.e, a, z⟩) := by
  have h1 := h.put i 4 ⟨x.s, x.c, x.p, x.e, a, x.z⟩ (.int .i64 a) hx (by decide) rfl
  have h2 := h1.put i 5 ⟨x.s, x.c, x.p, x.e, a, z⟩ (.int .i64 z) (set_read hx _) (by decide) rfl
  rw [List.set_set] at h2
  exact h2
/-- A state is stored. -/
theorem Cg.put1 {w0 w : World} {g n : Nat} {R : List Cx} (h : Cg w0 w g n R) (i : Nat) {x : Cx} (hx : R[i]? = some x) (s : Int) :
    Cg w0 (w.setCell ⟨g, i * 6, none⟩ (.int .i64 s)) g n (R.set i ⟨s, x.c, x.p, x.e, x.a, x.z⟩) :=
  h.put i 0 ⟨s, x.c, x.p, x.e, x.a, x.z⟩ (.int .i64 s) hx (by decide) rfl
theorem Sc.of_cg {R : List Cx} (h : Sc w Y B g K n A S F) (k : Cg w w' g n R) : Sc w' Y B g K n A S ⟨R, F.L⟩ :=
  ⟨k.len, h.only_gr k.only (by simp; exact h.ne) (fun x hx => .inr ⟨157, (List.mem_singleton.1 hx).symm ▸ h.tg, by decide⟩), k.row⟩

/-- One cell of a record is stored. -/
theorem Sc.put (h : Sc w Y B g K n A S F) (i j : Nat) {x : Cx} (y : Cx) (v : Value) (hx : F.R[i]? = some x) (hj : j < 6) (hy : kD.enc y = (kD.enc x).set j v) : Sc (w.setCell ⟨g, i * 6 + j, none⟩ v) Y B g K n A S ⟨F.R.set i y, F.L⟩ := by
  have G : Only [g] w (w.setCell ⟨g, i * 6 + j, none⟩ v) := Only.put w g _ v (by simp)
  obtain ⟨hi, hx⟩ := List.getElem?_eq_some_iff.1 hx
  refine ⟨by show (F.R.set i y).length = n; rw [List.length_set]; exact h.len, ?_, ?_⟩
  · exact (h.only_gr G (by simp; exact h.ne) (fun x hx => .inr ⟨157, (List.mem_singleton.1 hx).symm ▸ h.tg, by decide⟩))
  · have hr := h.row
    have e := h.len
    subst e
    exact (hr.put i j hi hj y v (by rw [hx]; exact hy)).1
end
end Go.Proofs.YtneggppfffekdaaGreat.Sco
