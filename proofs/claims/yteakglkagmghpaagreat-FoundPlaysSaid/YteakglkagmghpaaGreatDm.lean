/-
  The document's model in memory: the struct as one row of 43 cells, its scopes, objects, slots and entries; the same plain states as the program's.
-/
import Derived.Test.YteakglkagmghpaaGreatModq
import Derived.Test.YteakglkagmghpaaGreatScoH
namespace Go.Proofs.YteakglkagmghpaaGreat.Mod
open Go.ChangeShapes Go.WideShapes Go.ChangeAt Go.RowKit
open Slic Sco
set_option linter.unusedVariables false
set_option linter.unusedSimpArgs false
/-- An object of the document's, with where its slots lie. -/
def kO : Kd (Ob × Tri) := { X := 53, T := 78, m := 5, by_ := 56, z := .agg #[.int .i64 0, .int .i64 0, .int .i64 0, .slice none 0 0, .bool false], enc := fun x => [.int .i64 x.1.s, .int .i64 x.1.a, .int .i64 x.1.tag, sl3 x.2, .bool x.1.d], len := fun _ => rfl, one := fun _ u h => by simp at h; rcases h with rfl | rfl | rfl | rfl | rfl <;> rfl, pos := by decide, small := by decide, zs := rfl, under := by kernel_rfl, info := by kernel_rfl, elem := by kernel_rfl }
/-- What stays of the document's model. -/
structure Dx where
  D : Nat
  n : Nat
  nt : Nat
  I : Int
  H : Int
  A : Int
  N : Nat
  f : Value
  FF : List (List Fina.O)
  P : Pl
/-- What moves. -/
structure Dp where
  o : Tri
  c : Nat → Tri
  s : List Tri
  Y : Nat → Bool
def dcell (X : Dx) (p : Dp) (m : Mo) (j : Nat) : Value :=
  if j = 0 then .int .i64 (X.n : Int) else if j = 1 then .int .i64 (X.nt : Int) else if j = 2 then .int .i64 X.I else if j = 3 then .int .i64 X.H
  else if j = 4 then X.f else if j = 5 then ptrD X.P else if j = 6 then sl3 p.o
  else if j < 15 then .int .u64 (m.ar ((j - 7 : Nat) : Int)).g else if j < 23 then .int .i64 (m.ar ((j - 15 : Nat) : Int)).u
  else if j < 39 then .int .u64 ((m.th ((j - 23) / 4)).r ((j - 23) % 4)) else sl3 (p.c (j - 39))
structure Rm (w : World) (X : Dx) (p : Dp) (m : Mo) : Prop where
  hd : w.rowIs X.D 60 43 (dcell X p m)
  rs : Rs w X.P X.n X.A X.N m.F.R p.Y
  rl : m.F.L = Gm.runs X.A p.Y X.N
  ob : Slic.Own kO w 0 (sl3 p.o) (m.O.zip p.s)
  ln : p.s.length = m.O.length
  sl : ∀ (i : Nat) o t, m.O[i]? = some o → p.s[i]? = some t → Slic.Own Fina.kU w 0 (sl3 t) o.sl
  ap : p.s.Pairwise fun a b => Mod.ob a = none ∨ Mod.ob a ≠ Mod.ob b
  en : ∀ t, t < 4 → Slic.Own kE w 0 (sl3 (p.c t)) (m.ents t)
  fi : FRows w X.f X.FF
/-- The blocks that the document's calls may write. -/
def dw (X : Dx) (p : Dp) (b : Nat) : Prop := b = X.D ∨ b = X.P.gc ∨ b = X.P.gx ∨ b = X.P.gw ∨ Mod.ob p.o = some b ∨ ∃ t ∈ p.s, Mod.ob t = some b
section
variable {w w' : World} {X : Dx} {p : Dp} {m : Mo} {Z : Fx} {k : Nat}
theorem Rm.at (h : Rm w X p m) {j : Nat} (hj : j < 43) {v : Value} (e : dcell X p m j = v) : w.cell? ⟨X.D, j, none⟩ = some v := by rw [← e]; exact h.hd.cell hj
theorem Rm.c0 (h : Rm w X p m) : w.cell? ⟨X.D, 0, none⟩ = some (.int .i64 (X.n : Int)) := h.at (by omega) rfl
theorem Rm.c4 (h : Rm w X p m) : w.cell? ⟨X.D, 4, none⟩ = some X.f := h.at (by omega) rfl
theorem Rm.c5 (h : Rm w X p m) : w.cell? ⟨X.D, 5, none⟩ = some (ptrD X.P) := h.at (by omega) rfl
theorem Rm.c6 (h : Rm w X p m) : w.cell? ⟨X.D, 6, none⟩ = some (sl3 p.o) := h.at (by omega) rfl
theorem Rm.gate (h : Rm w X p m) {s : Nat} (hs : s < 8) : w.cell? ⟨X.D, 7 + s, none⟩ = some (.int .u64 (m.ar (s : Int)).g) := h.at (by omega) (by
  unfold dcell
  rw [if_neg (by omega), if_neg (by omega), if_neg (by omega), if_neg (by omega), if_neg (by omega), if_neg (by omega), if_neg (by omega), if_pos (by omega), Nat.add_sub_cancel_left])
theorem Rm.reg (h : Rm w X p m) {t i : Nat} (ht : t < 4) (hi : i < 4) : w.cell? ⟨X.D, 23 + t * 4 + i, none⟩ = some (.int .u64 ((m.th t).r i)) := h.at (by omega) (by
  unfold dcell
  rw [if_neg (by omega), if_neg (by omega), if_neg (by omega), if_neg (by omega), if_neg (by omega), if_neg (by omega), if_neg (by omega), if_neg (by omega), if_neg (by omega), if_pos (by omega), show (23 + t * 4 + i - 23) / 4 = t by omega, show (23 + t * 4 + i - 23) % 4 = i by omega])
theorem Rm.keep (h : Rm w X p m) (k : Below w.heap.size w w') : Rm w' X p m where
  hd := h.hd.of_block (k.block _ h.hd.lt)
  rs := h.rs.below k
  rl := h.rl
  ob := h.ob.below k
  ln := h.ln
  sl := fun i o t h1 h2 => (h.sl i o t h1 h2).below k
  ap := h.ap
  en := fun t ht => (h.en t ht).below k
  fi := h.fi.types (X := []) (Only.below k) (fun x hx => absurd hx List.not_mem_nil) (fun x hx => absurd hx List.not_mem_nil)
theorem Rm.alloc (h : Rm w X p m) (o : Obj) : Rm (w.alloc o) X p m := h.keep (below_one w o)
theorem Rm.drew (h : Rm w X p m) : Rm w.drew X p m := h.keep (Below.refl _ _).drew
/-- An object as it lies. -/
theorem Rm.objAt (h : Rm w X p m) {i : Nat} {o : Ob} (ho : m.O[i]? = some o) : ∃ (g : Nat) (c : Nat) (t : Tri), p.o = (some ⟨g, 0, none⟩, m.O.length, c) ∧ p.s[i]? = some t ∧ g < w.heap.size ∧ w.cell? ⟨g, i * 5, none⟩ = some (.int .i64 o.s) ∧ w.cell? ⟨g, i * 5 + 1, none⟩ = some (.int .i64 o.a) ∧ w.cell? ⟨g, i * 5 + 2, none⟩ = some (.int .i64 o.tag) ∧ w.cell? ⟨g, i * 5 + 3, none⟩ = some (sl3 t) ∧ w.cell? ⟨g, i * 5 + 4, none⟩ = some (.bool o.d) ∧ ∀ x, w.frozen? ⟨g, x, none⟩ = false := by
  obtain ⟨hi, e⟩ := List.getElem?_eq_some_iff.1 ho
  have ht : p.s[i]? = some (p.s[i]'(by rw [h.ln]; exact hi)) := List.getElem?_eq_getElem _
  have hz : (m.O.zip p.s).length = m.O.length := by rw [List.length_zip, h.ln, Nat.min_self]
  have hg : (m.O.zip p.s)[i]? = some (o, p.s[i]'(by rw [h.ln]; exact hi)) := by
    rw [List.getElem?_zip_eq_some]
    exact ⟨ho, ht⟩
  obtain ⟨hi', e'⟩ := List.getElem?_eq_some_iff.1 hg
  obtain ⟨g, c, e1, _, e2, _, _, hf, hc⟩ := h.ob.form (by omega)
  rw [hz] at e1
  have e3 : p.o = (some ⟨g, 0, none⟩, m.O.length, c) := by
    injection e1 with a b d
    exact Prod.ext a (Prod.ext b d)
  have hq := fun j u => hc i j u hi'
  rw [e'] at hq
  exact ⟨g, c, _, e3, ht, e2, hq 0 _ rfl, hq 1 _ rfl, hq 2 _ rfl, hq 3 _ rfl, hq 4 _ rfl, hf⟩
theorem Rm.len (h : Rm w X p m) : ∃ A c, sl3 p.o = .slice A m.O.length c := by
  have hz : (m.O.zip p.s).length = m.O.length := by rw [List.length_zip, h.ln, Nat.min_self]
  obtain ⟨A, c, e, _⟩ := h.ob.sr
  rw [hz] at e
  exact ⟨A, c, e⟩
end
end Go.Proofs.YteakglkagmghpaaGreat.Mod
