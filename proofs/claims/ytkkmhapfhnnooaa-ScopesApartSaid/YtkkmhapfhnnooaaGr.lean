/-
  What memory says of a row of extents (Ex) and of a ground (Gr): the struct in block B, its row of free extents in a block that is neither B nor K; kept by whatever changes other blocks; what an append makes of such a row.
-/
import Derived.Test.YtkkmhapfhnnooaaProg
import Derived.Test.YtkkmhapfhnnooaaGm
import Derived.WalkKit
import Derived.ProofKit
import Derived.OpenShut
import Derived.IntWalk
import Derived.Lib.Hide
import Derived.Deep.OwnRows
import Derived.Deep.AppendSrc
import Derived.Deep.Upon
import Derived.Laws.OwnMore
import Derived.Maps.AppendAt
import Derived.OwnWalk
import Derived.Deep.QuietTactic
import Derived.BigQuiet
import Derived.Deep.RegionHeld3
import Derived.Deep.DrawnRows
namespace Go.Proofs.Ytkkmhapfhnnooaa.Gr
open Go.ChangeShapes Go.WideShapes Go.ChangeAt Go.RowKit Gm
set_option linter.unusedVariables false

theorem ret_int {k : IntKind} {a b : Int} (h : a = b) : Ending.returned (.int k a) = .returned (.int k b) := by rw [h]
theorem ret_bool {a b : Bool} (h : a = b) : Ending.returned (.bool a) = .returned (.bool b) := by rw [h]
theorem only_drew {a w : World} {row : Option Nat} (h : a.grownBy w row) : a.grownBy w.drew row := ⟨h.os, h.tape, h.output, h.size, h.block⟩
theorem only_drewN {a w : World} {row : Option Nat} (h : a.grownBy w row) (n : Nat) : a.grownBy (w.drewN n) row := ⟨h.os, h.tape, h.output, h.size, h.block⟩
theorem only_trans {a b c : World} {row : Option Nat} (h : a.grownBy b row) (k : b.grownBy c row) : a.grownBy c row :=
  ⟨k.os.trans h.os, k.tape.trans h.tape, k.output.trans h.output, Nat.le_trans h.size k.size, fun i hi hne => (k.block i (Nat.lt_of_lt_of_le hi h.size) hne).trans (h.block i hi hne)⟩
theorem only_wide {a b : World} {row : Option Nat} (h : a.grownBy b none) : a.grownBy b row := ⟨h.os, h.tape, h.output, h.size, fun i hi _ => h.block i hi (by simp)⟩
theorem only_setCell {a w : World} {g : Nat} (h : a.grownBy w (some g)) (o : Nat) (u : Value) : a.grownBy (w.setCell ⟨g, o, none⟩ u) (some g) :=
  ⟨h.os, h.tape, h.output, by simpa [World.setCell] using h.size, fun i hi hne => (Below.heap_setCell w ⟨g, o, none⟩ u i (by rintro rfl; exact hne rfl)).trans (h.block i hi hne)⟩
theorem only_below {a b : World} {row : Option Nat} (h : Below a.heap.size a b) : a.grownBy b row := ⟨h.os, h.tape, h.output, h.size, fun i hi _ => h.block i hi⟩
theorem below_only {a b : World} (h : a.grownBy b none) : Below a.heap.size a b := ⟨h.os, h.tape, h.output, h.size, fun i hi => h.block i hi (by simp)⟩
theorem only_alloc {a w : World} {row : Option Nat} (h : a.grownBy w row) (o : Obj) : a.grownBy (w.alloc o) row :=
  ⟨h.os, h.tape, h.output, Nat.le_trans h.size (by simp), fun i hi hne => (Below.heap_alloc w o i (Nat.lt_of_lt_of_le hi h.size)).trans (h.block i hi hne)⟩

/-- A row of extents: nil, or a row from a block's beginning on. -/
def Ex (w : World) (v : Value) (L : List E) : Prop :=
  (v = .slice none 0 0 ∧ L = []) ∨ ∃ g c, v = .slice (some ⟨g, 0, none⟩) L.length c ∧ L.length ≤ c ∧ c ≤ maxLen ∧ g < w.heap.size ∧
    ∀ i (h : i < L.length), w.cell? ⟨g, i * 2, none⟩ = some (.int .i64 (L[i]).1) ∧ w.cell? ⟨g, i * 2 + 1, none⟩ = some (.int .i64 (L[i]).2)

def flat (L : List E) : List Value := L.flatMap fun e => [.int .i64 e.1, .int .i64 e.2]
theorem flat_len : ∀ L : List E, (flat L).length = L.length * 2
  | [] => rfl
  | e :: r => by simp [flat, List.flatMap_cons] at *; have := flat_len r; simp [flat] at this; omega
theorem flat_append (L M : List E) : flat (L ++ M) = flat L ++ flat M := by simp [flat]
theorem flat_cons (e : E) (r : List E) : flat (e :: r) = .int .i64 e.1 :: .int .i64 e.2 :: flat r := by simp [flat]
theorem flat_get : ∀ (L : List E) (i : Nat) (h : i < L.length), (flat L)[i * 2]? = some (.int .i64 (L[i]).1) ∧ (flat L)[i * 2 + 1]? = some (.int .i64 (L[i]).2)
  | [], i, h => by simp at h
  | e :: r, 0, h => by rw [flat_cons]; exact ⟨rfl, rfl⟩
  | e :: r, i + 1, h => by
    obtain ⟨h1, h2⟩ := flat_get r i (by simpa using h)
    rw [flat_cons, show (i + 1) * 2 = i * 2 + 1 + 1 by omega]
    simpa using ⟨h1, h2⟩
theorem flat_one (L : List E) : ∀ u ∈ flat L, u.oneCell' = true := by
  intro u hu
  obtain ⟨e, _, he⟩ := List.mem_flatMap.1 hu
  have : u = .int .i64 e.1 ∨ u = .int .i64 e.2 := by simpa using he
  rcases this with rfl | rfl <;> rfl
theorem flat_cells {w : World} {g o : Nat} {L : List E} (h : ∀ i (h : i < L.length), w.cell? ⟨g, o + i * 2, none⟩ = some (.int .i64 (L[i]).1) ∧ w.cell? ⟨g, o + i * 2 + 1, none⟩ = some (.int .i64 (L[i]).2)) :
    ∀ j u, (flat L)[j]? = some u → w.cell? ((⟨g, o, none⟩ : Addr).add j) = some u := by
  intro j u hu
  have hj : j < (flat L).length := by
    rcases Nat.lt_or_ge j (flat L).length with c | c
    · exact c
    · rw [List.getElem?_eq_none c] at hu; cases hu
  rw [flat_len] at hj
  rw [Addr.add_lit]
  have hi : j / 2 < L.length := by omega
  obtain ⟨f1, f2⟩ := flat_get L (j / 2) hi
  obtain ⟨c1, c2⟩ := h (j / 2) hi
  rcases Nat.mod_two_eq_zero_or_one j with e | e
  · have : j = j / 2 * 2 := by omega
    rw [← this] at f1 c1
    rw [f1] at hu
    rw [c1]
    exact hu
  · have : j = j / 2 * 2 + 1 := by omega
    rw [← this] at f2
    rw [show o + j / 2 * 2 + 1 = o + j by omega] at c2
    rw [f2] at hu
    rw [c2]
    exact hu

theorem Ex.nil (w : World) : Ex w (.slice none 0 0) [] := .inl ⟨rfl, rfl⟩
theorem Ex.form {w : World} {v : Value} {L : List E} (h : Ex w v L) : ∃ A c, v = .slice A L.length c := by
  rcases h with ⟨rfl, rfl⟩ | ⟨g, c, rfl, _⟩
  · exact ⟨_, _, rfl⟩
  · exact ⟨_, _, rfl⟩
theorem Ex.at_ {w : World} {v : Value} {L : List E} (h : Ex w v L) (hn : 0 < L.length) : ∃ g c, v = .slice (some ⟨g, 0, none⟩) L.length c ∧ L.length ≤ c ∧ c ≤ maxLen ∧ g < w.heap.size ∧
    ∀ i (h : i < L.length), w.cell? ⟨g, i * 2, none⟩ = some (.int .i64 (L[i]).1) ∧ w.cell? ⟨g, i * 2 + 1, none⟩ = some (.int .i64 (L[i]).2) := by
  rcases h with ⟨rfl, rfl⟩ | h
  · simp at hn
  · exact h
theorem Ex.lt {w : World} {v : Value} {L : List E} (h : Ex w v L) {g : Nat} (hg : v.ownBlock = some g) : g < w.heap.size := by
  rcases h with ⟨rfl, rfl⟩ | ⟨g', c, rfl, _, _, hlt, _⟩
  · cases hg
  · injection hg with hg
    subst hg
    exact hlt
theorem Ex.keep {w w' : World} {v : Value} {L : List E} (h : Ex w v L) (hs : w.heap.size ≤ w'.heap.size) (k : ∀ g, v.ownBlock = some g → w'.heap[g]? = w.heap[g]?) : Ex w' v L := by
  rcases h with ⟨rfl, rfl⟩ | ⟨g, c, rfl, h1, h2, hlt, hc⟩
  · exact .nil _
  · have hb := k g rfl
    refine .inr ⟨g, c, rfl, h1, h2, by omega, fun i hi => ?_⟩
    have h1 := World.cell?_of_block (w := w) (w' := w') (a := ⟨g, i * 2, none⟩) hb
    have h2 := World.cell?_of_block (w := w) (w' := w') (a := ⟨g, i * 2 + 1, none⟩) hb
    exact ⟨h1.trans (hc i hi).1, h2.trans (hc i hi).2⟩
theorem Ex.kept {w w' : World} {v : Value} {L : List E} {row : Option Nat} (h : Ex w v L) (k : w.grownBy w' row) (hr : ∀ g, v.ownBlock = some g → row ≠ some g) : Ex w' v L :=
  h.keep k.size fun g hg => k.block g (h.lt hg) fun e => hr g hg e.symm
theorem Ex.below {w w' : World} {v : Value} {L : List E} (h : Ex w v L) (k : Below w.heap.size w w') : Ex w' v L := h.keep k.size fun g hg => k.block g (h.lt hg)
theorem Ex.drew {w : World} {v : Value} {L : List E} (h : Ex w v L) : Ex w.drew v L := h.keep (Nat.le_refl _) fun _ _ => rfl
theorem Ex.drewN {w : World} {v : Value} {L : List E} (h : Ex w v L) (n : Nat) : Ex (w.drewN n) v L := h.keep (Nat.le_refl _) fun _ _ => rfl
theorem Ex.alloc {w : World} {v : Value} {L : List E} (h : Ex w v L) (o : Obj) : Ex (w.alloc o) v L := h.keep (by simp) fun g hg => Below.heap_alloc w o g (h.lt hg)
theorem Ex.setCell {w : World} {v : Value} {L : List E} (h : Ex w v L) {p : Addr} (hp : v.ownBlock ≠ some p.block) (u : Value) : Ex (w.setCell p u) v L :=
  h.keep (by simp [World.setCell]) fun g hg => Below.heap_setCell w p u g (by rintro rfl; exact hp hg)
theorem Ex.own {w : World} {base : Nat} {v : Value} {L : List E} (h : w.ownsRow base 46 2 v L.length (flat L)) : Ex w v L := by
  rcases h.2 with ⟨rfl, h0⟩ | ⟨g, cap, cur, rfl, _, hg, h1, h2, _⟩
  · exact .inl ⟨rfl, List.eq_nil_of_length_eq_zero h0⟩
  · refine .inr ⟨g, cap, rfl, h1, h2, (h.lt g rfl).2, fun i hi => ?_⟩
    have hc := h.cells (g := g) rfl
    have f := flat_get L i hi
    have c1 := hc _ _ f.1
    have c2 := hc _ _ f.2
    rw [Addr.add_lit, Nat.zero_add] at c1 c2
    exact ⟨c1, c2⟩

/-- A row's block holds extents. -/
def Ty (w : World) (v : Value) : Prop := ∀ g, v.ownBlock = some g → ∃ cs fz, w.heap[g]? = some (.cells cs 46 fz)
theorem Ty.keep {w w' : World} {v : Value} (h : Ty w v) (k : ∀ g, v.ownBlock = some g → w'.heap[g]? = w.heap[g]?) : Ty w' v := fun g hg => by
  obtain ⟨cs, fz, e⟩ := h g hg
  exact ⟨cs, fz, (k g hg).trans e⟩
theorem Ty.own {w : World} {base : Nat} {v : Value} {n : Nat} {xs : List Value} (h : w.ownsRow base 46 2 v n xs) : Ty w v := by
  intro g hg
  rcases h.2 with ⟨rfl, _⟩ | ⟨g', cap, cur, rfl, _, e, _⟩
  · cases hg
  · injection hg with hg
    have hg' : g' = g := hg
    subst hg'
    exact ⟨_, _, e⟩

/-- Where a ground's struct lies: in a block of this type with so many cells, from this one on; and what the other cells are. -/
structure Ly where
  T : TypeId
  n : Nat
  o : Nat
  f : Nat → Value
  fits : o + 3 ≤ n
  ne : (T == 46) = false
def Ly.hd (Y : Ly) (A S : Int) (v : Value) : Nat → Value := fun i => if i = Y.o then .int .i64 A else if i = Y.o + 1 then .int .i64 S else if i = Y.o + 2 then v else Y.f i
theorem Ly.hd0 (Y : Ly) (A S : Int) (v : Value) : Y.hd A S v Y.o = .int .i64 A := if_pos rfl
theorem Ly.hd1 (Y : Ly) (A S : Int) (v : Value) : Y.hd A S v (Y.o + 1) = .int .i64 S := by
  unfold Ly.hd
  rw [if_neg (by omega), if_pos rfl]
theorem Ly.hd2 (Y : Ly) (A S : Int) (v : Value) : Y.hd A S v (Y.o + 2) = v := by
  unfold Ly.hd
  rw [if_neg (by omega), if_neg (by omega), if_pos rfl]
theorem Ly.hdf (Y : Ly) (A S : Int) (v : Value) {i : Nat} (h : i < Y.o ∨ Y.o + 3 ≤ i) : Y.hd A S v i = Y.f i := by
  unfold Ly.hd
  rw [if_neg (by omega), if_neg (by omega), if_neg (by omega)]
theorem Ly.cell0 {Y : Ly} {w : World} {B : Nat} {A S : Int} {v : Value} (h : w.rowIs B Y.T Y.n (Y.hd A S v)) : w.cell? ⟨B, Y.o, none⟩ = some (.int .i64 A) := by
  have := h.cell (i := Y.o) (by have := Y.fits; omega)
  rw [Y.hd0] at this
  exact this
theorem Ly.cell1 {Y : Ly} {w : World} {B : Nat} {A S : Int} {v : Value} (h : w.rowIs B Y.T Y.n (Y.hd A S v)) : w.cell? ⟨B, Y.o + 1, none⟩ = some (.int .i64 S) := by
  have := h.cell (i := Y.o + 1) (by have := Y.fits; omega)
  rw [Y.hd1] at this
  exact this
theorem Ly.cell2 {Y : Ly} {w : World} {B : Nat} {A S : Int} {v : Value} (h : w.rowIs B Y.T Y.n (Y.hd A S v)) : w.cell? ⟨B, Y.o + 2, none⟩ = some v := by
  have := h.cell (i := Y.o + 2) (by have := Y.fits; omega)
  rw [Y.hd2] at this
  exact this
/-- A ground of its own. -/
def y0 : Ly := ⟨75, 3, 0, fun _ => undef, by decide, by decide⟩
def Gr (w : World) (Y : Ly) (B K : Nat) (A S : Int) (L : List E) : Prop :=
  ∃ v, w.rowIs B Y.T Y.n (Y.hd A S v) ∧ Ex w v L ∧ v.ownBlock ≠ some B ∧ v.ownBlock ≠ some K ∧ Ty w v

theorem Gr.lt {w : World} {Y : Ly} {B K : Nat} {A S : Int} {L : List E} (h : Gr w Y B K A S L) : B < w.heap.size := by
  obtain ⟨v, h1, _⟩ := h
  exact h1.lt
theorem Gr.keep0 {w w' : World} {Y : Ly} {B K : Nat} {A S : Int} {L : List E} {row : Option Nat} (h : Gr w Y B K A S L) (k : w.grownBy w' row) (h1 : row ≠ some B) (h2 : ∀ v g, w.rowIs B Y.T Y.n (Y.hd A S v) → v.ownBlock = some g → v.ownBlock ≠ some K → Ty w v → row ≠ some g) : Gr w' Y B K A S L := by
  obtain ⟨v, a, b, c, d, t⟩ := h
  exact ⟨v, a.of_block (k.block B a.lt fun e => h1 e.symm), b.kept k fun g hg => h2 v g a hg d t, c, d, t.keep fun g hg => k.block g (b.lt hg) fun e => h2 v g a hg d t e.symm⟩
theorem Gr.keep {w w' : World} {Y : Ly} {B K : Nat} {A S : Int} {L : List E} {row : Option Nat} (h : Gr w Y B K A S L) (k : w.grownBy w' row) (h1 : row ≠ some B) (h2 : row = none ∨ row = some K) : Gr w' Y B K A S L := by
  refine h.keep0 k h1 fun v g _ hg hK _ => ?_
  rcases h2 with rfl | rfl
  · simp
  · intro e
    exact hK (hg.trans e.symm)
theorem Gr.below {w w' : World} {Y : Ly} {B K : Nat} {A S : Int} {L : List E} (h : Gr w Y B K A S L) (k : Below w.heap.size w w') : Gr w' Y B K A S L :=
  h.keep (only_below (row := none) k) (by simp) (.inl rfl)
theorem Gr.drew {w : World} {Y : Ly} {B K : Nat} {A S : Int} {L : List E} (h : Gr w Y B K A S L) : Gr w.drew Y B K A S L := h.below (Below.refl _ _).drew
theorem Gr.alloc {w : World} {Y : Ly} {B K : Nat} {A S : Int} {L : List E} (h : Gr w Y B K A S L) (o : Obj) : Gr (w.alloc o) Y B K A S L := h.below ((Below.refl _ _).alloc (Nat.le_refl _) _)
/-- Another block that the row does not lie in: one that is not there yet. -/
theorem Gr.other {w : World} {Y : Ly} {B K K' : Nat} {A S : Int} {L : List E} (h : Gr w Y B K A S L) (hk : w.heap.size ≤ K') : Gr w Y B K' A S L := by
  obtain ⟨v, a, b, c, d, t⟩ := h
  exact ⟨v, a, b, c, (fun e => by have := b.lt e; omega), t⟩
/-- The row beside it grows, in its block or in a new one. -/
theorem Gr.grow {w w' : World} {Y : Ly} {B K K' : Nat} {A S : Int} {L : List E} (h : Gr w Y B K A S L) (k : w.grownBy w' (some K)) (h1 : B ≠ K) (h2 : K' = K ∨ w.heap.size ≤ K') : Gr w' Y B K' A S L := by
  rcases h2 with rfl | h2
  · exact h.keep k (fun e => by injection e with e; exact h1 e.symm) (.inr rfl)
  · obtain ⟨v, a, b, c, d, t⟩ := h.keep k (fun e => by injection e with e; exact h1 e.symm) (.inr rfl)
    obtain ⟨v', a', b', _⟩ := h
    refine ⟨v, a, b, c, fun e => ?_, t⟩
    have e1 := Ly.cell2 a
    have e2 := (World.cell?_of_block (w := w) (w' := w') (a := ⟨B, Y.o + 2, none⟩) (k.block B a'.lt (fun e => by injection e with e; exact h1 e))).trans (Ly.cell2 a')
    rw [e1] at e2
    injection e2 with e2
    have e3 : v = v' := e2
    subst e3
    have := b'.lt e
    omega
/-- What is done to another ground. -/
theorem Gr.apart {w w' : World} {Y Y' : Ly} {B B' K K' : Nat} {A S A' S' : Int} {L L' : List E} (h : Gr w Y B K A S L) (h' : Gr w Y' B' K' A' S' L') (k : w.grownBy w' (some B')) (hne : B ≠ B') : Gr w' Y B K A S L := by
  refine h.keep0 k (fun e => by injection e with e; exact hne e.symm) fun v g _ hg _ t e => ?_
  injection e with e
  subst e
  obtain ⟨cs, fz, e1⟩ := t _ hg
  obtain ⟨v', ⟨c, hc, _⟩, _⟩ := h'
  rw [e1] at hc
  injection hc with hc
  injection hc with _ ht
  have hn := Y'.ne
  rw [← ht] at hn
  exact absurd hn (by decide)

theorem info_ext : (Try.prog.info? 46).map (fun i => (i.zero, i.size, i.bytes)) = some (some (.agg #[.int .i64 0, .int .i64 0]), 2, 16) := by kernel_rfl
theorem under_exts : Try.prog.underlying 50 = some (.slice 46) := by kernel_rfl
end Go.Proofs.Ytkkmhapfhnnooaa.Gr
