/-
  The contract of slices.Backward over words, and of the function that it hands back: it tells each place and its word, the last one first.
-/
import Derived.Test.YteakglkagmghpaaGreatModp
import Derived.RangeFuncNested
import Derived.RangeFuncBound
import Derived.RangeFuncCalls
import Derived.RangeFuncLeaves
import Derived.RangeFuncBox
import Derived.Shelf.Abstract
import Derived.Shelf.RegionOpen
import Derived.OwnWalkIn
import Derived.TacticsInMore
import Derived.LoopNIn
import Derived.LoopIn
import Derived.Maps.AppendAt
import Derived.Maps.OwnIn
import Derived.Stop.RegionWithIn
import Derived.Sort.CutIn
namespace Go.Proofs.YteakglkagmghpaaGreat.Mod
open Go.ChangeShapes Go.WideShapes Go.ChangeAt Go.RowKit Go.Shelf
open Slic Sco
set_option linter.unusedVariables false
set_option maxRecDepth 8000
set_option linter.unusedSimpArgs false
set_option maxRecDepth 8000
attribute [local go_sem] Oper.semAt_some

/-- What a round keeps: the iterator's box, and the row. -/
structure Kq (bb : Nat) (y : Tri) (A B : World) : Prop where
  size : A.heap.size ≤ B.heap.size
  box : B.heap[bb]? = A.heap[bb]?
  row : ∀ q, ob y = some q → B.heap[q]? = A.heap[q]?
theorem Kq.trans {bb : Nat} {y : Tri} {A B C : World} (h : Kq bb y A B) (k : Kq bb y B C) : Kq bb y A C := ⟨Nat.le_trans h.size k.size, k.box.trans h.box, fun q e => (k.row q e).trans (h.row q e)⟩
theorem Kq.below {bb : Nat} {y : Tri} {A B : World} (h : Below A.heap.size A B) (hb : bb < A.heap.size) (hy : ∀ q, ob y = some q → q < A.heap.size) : Kq bb y A B := ⟨h.size, h.block bb hb, fun q e => h.block q (hy q e)⟩
/-- The iterator's box, and the row that it reads. -/
structure Iq (W : World) (bb : Nat) (y : Tri) (L : List Int) : Prop where
  box : Boxed W bb 48 (sl3 y)
  row : Slic.Own Fina.kU W 0 (sl3 y) L
theorem Iq.lt {W : World} {bb : Nat} {y : Tri} {L : List Int} (h : Iq W bb y L) : bb < W.heap.size := h.box.lt
theorem Iq.kept {W W' : World} {bb : Nat} {y : Tri} {L : List Int} (h : Iq W bb y L) (k : Kq bb y W W') : Iq W' bb y L := ⟨k.box.trans h.box, own_keep h.row k.row⟩
end Go.Proofs.YteakglkagmghpaaGreat.Mod

/-
  Finalizers one behind the other, in plain mathematics: what the objects of some handles are behind it, what was said, how many.
-/
namespace Go.Proofs.YteakglkagmghpaaGreat.Mod
open Sco
set_option linter.unusedVariables false
set_option maxRecDepth 8000

end Go.Proofs.YteakglkagmghpaaGreat.Mod

/-
  Contract of package model: finalize.
-/
namespace Go.Proofs.YteakglkagmghpaaGreat.Mod
open Go.ChangeShapes Go.WideShapes Go.ChangeAt Go.RowKit Go.Shelf
open Slic Sco
set_option linter.unusedVariables false
set_option maxRecDepth 8000
set_option linter.unusedSimpArgs false
set_option maxRecDepth 8000
attribute [local go_sem] Oper.semAt_some

def Fok (FF : List (List Fina.O)) : Prop := ∀ L ∈ FF, Fina.okO L ∧ Fina.okL L ∧ L.length ≤ 8
theorem Fok.of {FF : List (List Fina.O)} (h : Fok FF) (n : Int) : Fina.okO (Fina.ofV FF n) ∧ Fina.okL (Fina.ofV FF n) ∧ (Fina.ofV FF n).length ≤ 8 := by
  unfold Fina.ofV
  split
  · rename_i c
    unfold Fina.inB at c
    have c := of_decide_eq_true c
    have hl : n.toNat < FF.length := by omega
    rw [List.getD_eq_getElem?_getD, List.getElem?_eq_getElem hl]
    exact h _ (List.getElem_mem hl)
  · exact ⟨fun o ho => (by cases ho), fun o ho => (by cases ho), Nat.zero_le _⟩
/-- What the calls that take a scope's objects ask of a model: this is so between them, too. -/
structure Lv (Z : Fx) (k : Nat) (m : Mo) : Prop where
  n8 : Z.n ≤ 8
  lenR : m.F.R.length = Z.n
  nA : m.A.length = Z.n
  cnt : m.O.length ≤ k
  hne : m.O.Pairwise fun o p => o.h ≠ p.h
  rt : Rt m
  sl6 : ∀ o ∈ m.O, o.sl.length ≤ 6
theorem Lv.scope {Z : Fx} {k : Nat} {m : Mo} (v : Lv Z k m) {i : Nat} (hi : i < Z.n) : ∃ (x : Cx) (a : Ar), m.F.R[i]? = some x ∧ m.A[i]? = some a := by
  have h1 := v.lenR
  have h2 := v.nA
  exact ⟨m.F.R[i], m.A[i], List.getElem?_eq_getElem (by omega), List.getElem?_eq_getElem (by omega)⟩
section
variable {w0 w w' : World} {Z : Fx} {m : Mo} {bx : Bx} {k : Nat}
/-- An answer whose row is one's own. -/
def DidO (w0 : World) (Z : Fx) (bx : Bx) (r : Re2) (e : Ending) (w' : World) : Prop := ∃ x : Tri, e = .returned (anV r.1.c r.1.n (sl3 x)) ∧ Slic.Own Fina.kI w' 0 (sl3 x) r.1.said ∧ Mw w0 w' Z r.2 bx
theorem pair_of_map {O P : List Ob} (h : P.map Ob.h = O.map Ob.h) (hd : O.Pairwise fun o p => o.h ≠ p.h) : P.Pairwise fun o p => o.h ≠ p.h := by
  have h1 : (O.map Ob.h).Pairwise (fun a b => a ≠ b) := List.pairwise_map.2 hd
  rw [← h] at h1
  exact List.pairwise_map.1 h1
end
end Go.Proofs.YteakglkagmghpaaGreat.Mod

/-
  Contract of package model: empty.
-/
namespace Go.Proofs.YteakglkagmghpaaGreat.Mod
open Go.ChangeShapes Go.WideShapes Go.ChangeAt Go.RowKit Go.Shelf
open Slic Sco
set_option linter.unusedVariables false
set_option maxRecDepth 8000
set_option linter.unusedSimpArgs false
set_option maxRecDepth 8000
attribute [local go_sem] Oper.semAt_some

section
variable {w0 w w' : World} {Z : Fx} {H : Hp} {G : Gs} {m : Mo} {bx : Bx} {k : Nat}
end
end Go.Proofs.YteakglkagmghpaaGreat.Mod

/-
  Contract of package model: leave, exit.
-/
namespace Go.Proofs.YteakglkagmghpaaGreat.Mod
open Go.ChangeShapes Go.WideShapes Go.ChangeAt Go.RowKit Go.Shelf
open Slic Sco
set_option linter.unusedVariables false
set_option maxRecDepth 8000
set_option linter.unusedSimpArgs false
set_option maxRecDepth 8000
attribute [local go_sem] Oper.semAt_some

theorem fin1_h (FF : List (List Fina.O)) (s : Int) (o : Ob) : (fin1 FF s o).h = o.h ∧ (fin1 FF s o).s = o.s ∧ (fin1 FF s o).e = o.e ∧ (fin1 FF s o).a = o.a ∧ (fin1 FF s o).sl.length = o.sl.length := by
  unfold fin1
  split
  · exact ⟨rfl, rfl, rfl, rfl, (Fina.walk_len _ _ _).1⟩
  · exact ⟨rfl, rfl, rfl, rfl, rfl⟩
section
variable {w0 w w' : World} {Z : Fx} {H : Hp} {G : Gs} {m : Mo} {bx : Bx} {k : Nat}
theorem Lv.fins (v : Lv Z k m) (FF : List (List Fina.O)) (s : Int) : Lv Z k ⟨m.F, m.O.map (fin1 FF s), m.A, m.T⟩ where
  n8 := v.n8
  lenR := v.lenR
  nA := v.nA
  cnt := by rw [List.length_map]; exact v.cnt
  hne := by
    refine pair_of_map (O := m.O) ?_ v.hne
    rw [List.map_map]
    exact List.map_congr_left fun o _ => (fin1_h FF s o).1
  rt := fun o ho => by
    obtain ⟨q, hq, rfl⟩ := List.mem_map.1 ho
    obtain ⟨_, e1, e2, e3, _⟩ := fin1_h FF s q
    rw [e1, e2, e3]
    exact v.rt q hq
  sl6 := fun o ho => by
    obtain ⟨q, hq, rfl⟩ := List.mem_map.1 ho
    rw [(fin1_h FF s q).2.2.2.2]
    exact v.sl6 q hq
theorem DidO.plain {c n : Int} {e : Ending} (he : e = .returned (anV c n nil0)) (h : Mw w0 w' Z m bx) : DidO w0 Z bx (⟨c, n, []⟩, m) e w' := ⟨(none, 0, 0), he, Slic.Own.nil _ _, h⟩
/-- A row of what was said stays when a local block is stored into. -/
theorem own_local {b : Nat} {cs : Array Value} {t : TypeId} {W W' : World} {v : Value} {L : List Int} (o : Slic.Own Fina.kI W 0 v L) (hb : W.heap[b]? = some (.cells cs t (0, 0))) (ht : (t == Fina.kI.T) = false) (k : Only [b] W W') : Slic.Own Fina.kI W' 0 v L :=
  own_types o k fun x hx => by rw [List.mem_singleton.1 hx]; exact (isT.of hb).no ht
end
end Go.Proofs.YteakglkagmghpaaGreat.Mod

/-
  Contract of package model: exit.
-/
namespace Go.Proofs.YteakglkagmghpaaGreat.Mod
open Go.ChangeShapes Go.WideShapes Go.ChangeAt Go.RowKit Go.Shelf
open Slic Sco
set_option linter.unusedVariables false
set_option maxRecDepth 8000
set_option linter.unusedSimpArgs false
set_option maxRecDepth 8000
attribute [local go_sem] Oper.semAt_some

section
variable {w0 w w' : World} {Z : Fx} {H : Hp} {G : Gs} {m : Mo} {bx : Bx} {k : Nat}
end
end Go.Proofs.YteakglkagmghpaaGreat.Mod

/-
  Contract of package model: which registers a call names, and whether one of them is none.
-/
namespace Go.Proofs.YteakglkagmghpaaGreat.Mod
open Go.ChangeShapes Go.WideShapes Go.ChangeAt Go.RowKit Go.Shelf
open Slic Sco
set_option linter.unusedVariables false
set_option maxRecDepth 8000
set_option linter.unusedSimpArgs false
set_option maxRecDepth 8000
attribute [local go_sem] Oper.semAt_some

end Go.Proofs.YteakglkagmghpaaGreat.Mod

/-
  Contract of package model: answer, Do.
-/
namespace Go.Proofs.YteakglkagmghpaaGreat.Mod
open Go.ChangeShapes Go.WideShapes Go.ChangeAt Go.RowKit Go.Shelf
open Slic Sco
set_option linter.unusedVariables false
set_option maxRecDepth 8000
set_option linter.unusedSimpArgs false
set_option maxRecDepth 8000
attribute [local go_sem] Oper.semAt_some

/-- What was said, as a row of one's own; or nothing was. -/
def SrO (w : World) (v : Value) (L : List Int) : Prop := Slic.Own Fina.kI w 0 v L ∨ (L = [] ∧ Sr Fina.kI w v L)
theorem SrO.sr {w : World} {v : Value} {L : List Int} (h : SrO w v L) : Sr Fina.kI w v L := h.elim (fun o => o.sr) (fun o => o.2)
theorem SrO.local {W W' : World} {b : Nat} {cs : Array Value} {t : TypeId} {v : Value} {L : List Int} (o : SrO W v L) (hb : W.heap[b]? = some (.cells cs t (0, 0))) (ht : (t == Fina.kI.T) = false) (k : Only [b] W W') : SrO W' v L := by
  rcases o with o | ⟨rfl, o⟩
  · exact .inl (own_local o hb ht k)
  · exact .inr ⟨rfl, sr_empty o⟩
/-- An answer. -/
def Did2 (w0 : World) (Z : Fx) (bx : Bx) (r : Re2) (e : Ending) (w' : World) : Prop := ∃ v, e = .returned (anV r.1.c r.1.n v) ∧ SrO w' v r.1.said ∧ Mw w0 w' Z r.2 bx
theorem Did2.plain {w0 w' : World} {Z : Fx} {bx : Bx} {c n : Int} {m : Mo} {e : Ending} (he : e = .returned (anV c n nil0)) (h : Mw w0 w' Z m bx) : Did2 w0 Z bx (⟨c, n, []⟩, m) e w' := ⟨nil0, he, .inl (Slic.Own.nil _ _), h⟩
section
variable {w0 w w' : World} {Z : Fx} {H : Hp} {G : Gs} {m : Mo} {bx : Bx} {k : Nat}
/-- A call as a value. -/
abbrev caA (c : Ca) : Array Value := #[.int .u8 c.op, .int .u8 c.r, .int .u8 c.h, .int .u8 c.v, .int .i64 c.a, .int .i64 c.b, .int .i64 c.c]
end
end Go.Proofs.YteakglkagmghpaaGreat.Mod

/-
  Contract of package model: Slots.
-/
namespace Go.Proofs.YteakglkagmghpaaGreat.Mod
open Go.ChangeShapes Go.WideShapes Go.ChangeAt Go.RowKit Go.Shelf
open Slic Sco
set_option linter.unusedVariables false
set_option maxRecDepth 8000
set_option linter.unusedSimpArgs false
set_option maxRecDepth 8000
attribute [local go_sem] Oper.semAt_some

/-- An object's slots, and whether there is one. -/
def slotsV (m : Mo) (x : Int) : List Int × Bool := match m.obs x with | none => ([], false) | some o => (o.sl, true)
section
variable {w0 w w' : World} {Z : Fx} {m : Mo} {bx : Bx} {k : Nat}
end
end Go.Proofs.YteakglkagmghpaaGreat.Mod

/-
  Contract of package model: own.
-/
namespace Go.Proofs.YteakglkagmghpaaGreat.Mod
open Go.ChangeShapes Go.WideShapes Go.ChangeAt Go.RowKit Go.Shelf
open Slic Sco
set_option linter.unusedVariables false
set_option maxRecDepth 8000
set_option linter.unusedSimpArgs false
set_option maxRecDepth 8000
attribute [local go_sem] Oper.semAt_some

end Go.Proofs.YteakglkagmghpaaGreat.Mod

/-
  A model that is new: the forest is copied into its block.
-/
namespace Go.Proofs.YteakglkagmghpaaGreat.Mod
open Go.ChangeShapes Go.WideShapes Go.ChangeAt Go.RowKit
open Slic Sco
set_option linter.unusedVariables false
set_option maxRecDepth 8000

/-- Rows of threads and of areas that are made. -/
theorem thr_made (n : Nat) : (List.replicate n th0).zip (List.replicate n ((none, 0, 0) : Tri)) = List.replicate n (th0, (none, 0, 0)) := by
  rw [List.zip_replicate']
theorem are_made (n : Nat) : (List.replicate n ar0).zip (List.replicate n ((none, 0, 0) : Tri)) = List.replicate n (ar0, (none, 0, 0)) := by
  rw [List.zip_replicate']
/-- A model that is new, from what lies in memory. -/
theorem made_any {w W : World} {Z : Fx} (k : Below w.heap.size w W) (hs : Sc W Z.fr Z.B Z.g Z.B Z.n Z.A Z.S (Sco.start Z.n Z.A Z.S Z.I Z.J)) (hf : FRows W (sl3 Z.fv) Z.FF)
    (ht : Slic.Own kT W 0 (.slice (some ⟨Z.bt, 0, none⟩) Z.nt Z.nt) (List.replicate Z.nt (th0, (none, 0, 0)))) (ha : Slic.Own kA W 0 (.slice (some ⟨Z.ba, 0, none⟩) Z.n Z.n) (List.replicate Z.n (ar0, (none, 0, 0)))) (hm : Mp W Z.bm 0 (fun _ => none))
    (b1 : w.heap.size ≤ Z.B) (b2 : w.heap.size ≤ Z.g) (b3 : w.heap.size ≤ Z.bt) (b4 : w.heap.size ≤ Z.ba) (b5 : w.heap.size ≤ Z.bm) : Mw w W Z (newM Z.n Z.nt Z.A Z.S Z.I Z.J) [] := by
  have rep : ∀ {α : Type} {n i : Nat} {a x : α}, (List.replicate n a)[i]? = some x → x = a := fun {α n i a x} h => by
    rw [List.getElem?_replicate] at h
    split at h
    · injection h with h
      exact h.symm
    · cases h
  refine ⟨⟨List.replicate Z.nt (none, 0, 0), List.replicate Z.n (none, 0, 0), []⟩, ⟨?_, k, ?_, fun x hx => absurd hx List.not_mem_nil, by simp⟩⟩
  · exact {
      sc := hs
      fins := hf
      nA := List.length_replicate ..
      nT := List.length_replicate ..
      tml := List.length_replicate ..
      aml := List.length_replicate ..
      oml := rfl
      thr := by rw [show (Mo.gs (newM Z.n Z.nt Z.A Z.S Z.I Z.J) []).T = List.replicate Z.nt th0 from rfl, thr_made]; exact ht
      ent := fun i t x h1 h2 => by
        rw [rep h2, rep h1]
        exact Slic.Own.nil _ _
      ars := by rw [show (Mo.gs (newM Z.n Z.nt Z.A Z.S Z.I Z.J) []).A = List.replicate Z.n ar0 from rfl, are_made]; exact ha
      hnd := fun i x h => by
        rw [rep h]
        exact Slic.Own.nil _ _
      obj := fun i o p h => by cases i <;> cases h
      slo := fun i o p h => by cases i <;> cases h
      map := hm
      dAA := fun i j x y b h1 _ e _ => by
        rw [rep h1] at e
        cases e
      dO := List.Pairwise.nil
      dAO := fun x _ p hp => absurd hp List.not_mem_nil }
  · intro b hb
    rcases hb with e | e | e | e | e | ⟨x, hx, e⟩ | ⟨p, hp, _⟩
    · omega
    · omega
    · omega
    · omega
    · omega
    · rw [(List.mem_replicate.1 hx).2] at e
      cases e
    · cases hp
end Go.Proofs.YteakglkagmghpaaGreat.Mod

/-
  Contract of package model: New.
-/
namespace Go.Proofs.YteakglkagmghpaaGreat.Mod
open Go.ChangeShapes Go.WideShapes Go.ChangeAt Go.RowKit Go.Shelf
open Slic Sco
set_option linter.unusedVariables false
set_option maxRecDepth 8000
set_option linter.unusedSimpArgs false
set_option maxRecDepth 8000
attribute [local go_sem] Oper.semAt_some

theorem thr_cells (n : Nat) (h : n ≤ 4) : (madeCells #[.int .u64 0, .int .u64 0, .int .u64 0, .int .u64 0, .slice none 0 0] (n * 5)).toList = kT.flat (List.replicate n (th0, (none, 0, 0))) := by
  rcases n with _ | _ | _ | _ | _ | n
  all_goals first | omega | kernel_rfl | rfl
theorem are_cells (n : Nat) (h : n ≤ 8) : (madeCells #[.int .u64 0, .int .i64 0, .slice none 0 0] (n * 3)).toList = kA.flat (List.replicate n (ar0, (none, 0, 0))) := by
  rcases n with _ | _ | _ | _ | _ | _ | _ | _ | _ | n
  all_goals first | omega | kernel_rfl | rfl
theorem thr_own (W : World) (b n : Nat) (hb : b ≤ W.heap.size) (hn : n ≤ 4) : Slic.Own kT (W.alloc (.cells (madeCells #[.int .u64 0, .int .u64 0, .int .u64 0, .int .u64 0, .slice none 0 0] (n * 5)) 133)) b (.slice (some ⟨W.heap.size, 0, none⟩) n n) (List.replicate n (th0, (none, 0, 0))) :=
  Slic.Own.lit W b hb _ _ (thr_cells n hn) (by rw [List.length_replicate]; unfold maxLen; omega) n (by rw [List.length_replicate])
theorem are_own (W : World) (b n : Nat) (hb : b ≤ W.heap.size) (hn : n ≤ 8) : Slic.Own kA (W.alloc (.cells (madeCells #[.int .u64 0, .int .i64 0, .slice none 0 0] (n * 3)) 150)) b (.slice (some ⟨W.heap.size, 0, none⟩) n n) (List.replicate n (ar0, (none, 0, 0))) :=
  Slic.Own.lit W b hb _ _ (are_cells n hn) (by rw [List.length_replicate]; unfold maxLen; omega) n (by rw [List.length_replicate])
/-- The worlds behind what is made. -/
def tW (n : Nat) (W : World) : World := W.alloc (.cells (madeCells #[.int .u64 0, .int .u64 0, .int .u64 0, .int .u64 0, .slice none 0 0] (n * 5)) 133)
def aW (n : Nat) (W : World) : World := W.alloc (.cells (madeCells #[.int .u64 0, .int .i64 0, .slice none 0 0] (n * 3)) 150)
def mW (W : World) : World := W.alloc (.map #[] 0)
theorem mW_size (W : World) : (mW W).heap.size = W.heap.size + 1 := by simp [mW]
theorem call_below {W W0 W1 : World} {b : Nat} (k : Below W.heap.size W W1) (h : Below b W0 W) (hb : b ≤ W.heap.size) : Below b W0 W1 := h.trans (k.mono hb)
theorem oG {W0 W : World} {o : Obj} (h : Below W0.heap.size W0 W) : Below W0.heap.size W0 (W.alloc o) := h.alloc h.size o
/-- What New tells. -/
def NewP (w : World) (n nt : Nat) (A S I J : Int) (FF : List (List Fina.O)) (e : Ending) (w' : World) : Prop := ∃ Z : Fx, e = .returned (.tuple #[ptr Z.B, .int .i64 0]) ∧ Z.n = n ∧ Z.nt = nt ∧ Z.A = A ∧ Z.S = S ∧ Z.I = I ∧ Z.J = J ∧ Z.FF = FF ∧ Mw w w' Z (newM Z.n Z.nt Z.A Z.S Z.I Z.J) []
set_option maxHeartbeats 1000000 in
/-- All that New lays. -/
theorem new_end {w w3 W Wo w4 : World} {g n nt bt ba bm : Nat} {x y : Tri} {Hs : List Tri} {A S I J : Int} {FF : List (List Fina.O)} (hn : n ≤ 8) (hnt : nt ≤ 4)
    (hs : ∀ (w1 : World) (Y : Fr) (B' : Nat), Below w3.heap.size w3 w1 → w3.heap.size ≤ B' → w1.rowIs B' Y.T Y.m ((ly Y g n).hd A S (sl3 x)) → Sc w1 Y B' g B' n A S (Sco.start n A S I J))
    (hg : w.heap.size ≤ g) (h3 : Below w.heap.size w w3)
    (O4 : Slic.Own Fina.kR w4 Wo.heap.size (sl3 y) Hs) (hl4 : Hs.length = FF.length) (R4 : ∀ (i : Nat) (h : i < Hs.length) (h' : i < FF.length), Slic.Own Fina.kF w4 Wo.heap.size (sl3 Hs[i]) FF[i])
    (k4 : Below w4.heap.size w4 W) (kt : ∃ Wt : World, Below (tW nt Wt).heap.size (tW nt Wt) W ∧ Below w3.heap.size w3 Wt ∧ bt = Wt.heap.size) (ka : ∃ Wa : World, Below (aW n Wa).heap.size (aW n Wa) W ∧ Below w3.heap.size w3 Wa ∧ ba = Wa.heap.size)
    (km : ∃ Wm : World, Below (mW Wm).heap.size (mW Wm) W ∧ Below w3.heap.size w3 Wm ∧ bm = Wm.heap.size) (k : Below w3.heap.size w3 W) :
    NewP w n nt A S I J FF (.returned (.tuple #[.pointer (some ⟨W.heap.size, 0, none⟩), .int .i64 0])) (W.alloc (.cells #[.slice (some ⟨g, 0, none⟩) n n, .int .i64 A, .int .i64 S, sl3 x, sl3 y, .slice (some ⟨bt, 0, none⟩) nt nt, .slice (some ⟨ba, 0, none⟩) n n, .map (some bm)] 128)) := by
  obtain ⟨Wt, kt, kt0, rfl⟩ := kt
  obtain ⟨Wa, ka, ka0, rfl⟩ := ka
  obtain ⟨Wm, km, km0, rfl⟩ := km
  have kt0 := kt0.size
  have ka0 := ka0.size
  have km0 := km0.size
  have kW := below_one W (.cells #[.slice (some ⟨g, 0, none⟩) n n, .int .i64 A, .int .i64 S, sl3 x, sl3 y, .slice (some ⟨Wt.heap.size, 0, none⟩) nt nt, .slice (some ⟨Wa.heap.size, 0, none⟩) n n, .map (some Wm.heap.size)] 128)
  have s3 := h3.size
  have sW := k.size
  refine ⟨⟨W.heap.size, g, Wt.heap.size, Wa.heap.size, Wm.heap.size, n, nt, A, S, I, J, y, FF⟩, rfl, rfl, rfl, rfl, rfl, rfl, rfl, rfl, ?_⟩
  have q4 := call_below kW k4 k4.size
  refine made_any (Z := ⟨W.heap.size, g, Wt.heap.size, Wa.heap.size, Wm.heap.size, n, nt, A, S, I, J, y, FF⟩) (call_below kW (h3.trans (k.mono s3)) (by omega)) (hs _ _ _ (call_below kW k (by omega)) sW ?_) ⟨Hs, (O4.below q4).zero (Nat.zero_le _), hl4, fun i h h' => ((R4 i h h').below q4).zero (Nat.zero_le _)⟩ ?_ ?_ ?_ (by show w.heap.size ≤ W.heap.size; omega) hg (by show w.heap.size ≤ Wt.heap.size; omega) (by show w.heap.size ≤ Wa.heap.size; omega) (by show w.heap.size ≤ Wm.heap.size; omega)
  · refine World.rowIs_alloc W _ _ _ (fun i hi => ?_)
    have hi : i < 8 := hi
    rcases (show i = 0 ∨ i = 1 ∨ i = 2 ∨ i = 3 ∨ i = 4 ∨ i = 5 ∨ i = 6 ∨ i = 7 by omega) with rfl | rfl | rfl | rfl | rfl | rfl | rfl | rfl
    all_goals rfl
  · exact (thr_own Wt 0 nt (Nat.zero_le _) hnt).below (call_below kW kt kt.size)
  · exact (are_own Wa 0 n (Nat.zero_le _) hn).below (call_below kW ka ka.size)
  · refine (Mp.made Wm).block ?_
    have := call_below kW km km.size
    exact this.block _ (by rw [mW_size]; omega)
end Go.Proofs.YteakglkagmghpaaGreat.Mod

/-
  What is so of every state of a model is so behind each call.
-/
namespace Go.Proofs.YteakglkagmghpaaGreat.Mod
open Sco
set_option linter.unusedVariables false
set_option maxRecDepth 8000
set_option linter.unusedSimpArgs false

theorem cou_set {i : Int} {y : Th} : ∀ {T : List Th} {t : Nat}, t < T.length → cou (T.set t y) i + (T.getD t th0).c.countP (Chain.hit i) = cou T i + y.c.countP (Chain.hit i)
  | [], t, h => absurd h (by simp)
  | x :: T, 0, h => by
    simp only [cou, List.set_cons_zero, List.map_cons, List.sum_cons, List.getD_cons_zero]
    omega
  | x :: T, t + 1, h => by
    have := cou_set (i := i) (y := y) (T := T) (t := t) (by simpa using h)
    simp only [cou, List.set_cons_succ, List.map_cons, List.sum_cons, List.getD_cons_succ] at *
    omega
theorem cou_cons (x : Th) (T : List Th) (i : Int) : cou (x :: T) i = x.c.countP (Chain.hit i) + cou T i := by
  simp only [cou, List.map_cons, List.sum_cons]
theorem hit_pos {L : List Chain.E} {i : Int} : Chain.inP L i ↔ 0 < L.countP (Chain.hit i) := by
  rw [Chain.inP_iff, List.any_eq_true, List.countP_pos_iff]
theorem cou_zero {i : Int} : ∀ {T : List Th}, cou T i = 0 → ∀ y ∈ T, ¬ Chain.inP y.c i
  | [], _, y, hy => absurd hy List.not_mem_nil
  | x :: T, h, y, hy => by
    rw [cou_cons] at h
    rcases List.mem_cons.1 hy with rfl | hy
    · rw [hit_pos]
      omega
    · exact cou_zero (by omega) y hy
theorem gset {α : Type} {R : List α} {k i : Nat} {y x : α} (h : (R.set k y)[i]? = some x) : (i = k ∧ x = y ∧ k < R.length) ∨ (i ≠ k ∧ R[i]? = some x) := by
  rw [List.getElem?_set] at h
  split at h
  · rename_i e
    split at h
    · injection h with h
      exact .inl ⟨e.symm, h.symm, by assumption⟩
    · cases h
  · rename_i e
    exact .inr ⟨fun q => e q.symm, h⟩
theorem gset_other {α : Type} {R : List α} {k i : Nat} {y : α} (h : i ≠ k) : (R.set k y)[i]? = R[i]? := by
  rw [List.getElem?_set, if_neg (fun e => h e.symm)]
theorem set_self {α : Type} {R : List α} {k : Nat} {y : α} (h : R[k]? = some y) : R.set k y = R := by
  obtain ⟨h1, rfl⟩ := List.getElem?_eq_some_iff.1 h
  exact List.set_getElem_self h1
section
variable {Z : Fx} {k : Nat} {m : Mo}
theorem Iv.mono (v : Iv Z k m) {k' : Nat} (h : k ≤ k') : Iv Z k' m := ⟨v.f, v.nA, v.nT, v.nt, v.im, v.hp, Nat.le_trans v.cnt h, v.reg, v.ent, v.par, v.cou, v.are, v.obj, v.ord⟩
theorem Iv.own_t (v : Iv Z k m) {t : Nat} (ht : t < Z.nt) : m.T.getD t th0 = m.th t := rfl
/-- One thread is another: what is counted stays. -/
theorem Iv.thr (v : Iv Z k m) {t : Nat} (ht : t < Z.nt) (y : Th) (hr : ∀ i, wf64 (y.r i)) (he : y.c.length ≤ 6 ∧ Chain.Fits y.c ∧ ∀ e ∈ y.c, 0 ≤ e.1 ∧ e.1 < (Z.n : Int))
    (hp : ∀ i : Int, Chain.inP y.c i → Chain.inP (m.ents t) i ∧ Chain.parV y.c i = Chain.parV (m.ents t) i) (hc : ∀ i : Int, 1 ≤ i → y.c.countP (Chain.hit i) = (m.ents t).countP (Chain.hit i)) : Iv Z k ⟨m.F, m.O, m.A, m.T.set t y⟩ := by
  have tm := v.th_mem ht
  have hl : t < m.T.length := by rw [v.nT]; exact ht
  refine ⟨v.f, v.nA, (List.length_set ..).trans v.nT, v.nt, v.im, v.hp, v.cnt, fun z hz => ?_, fun z hz => ?_, fun z hz i hi => ?_, fun i x hi hx => ?_, v.are, v.obj, v.ord⟩
  · rcases List.mem_or_eq_of_mem_set hz with hz | rfl
    · exact v.reg z hz
    · exact hr
  · rcases List.mem_or_eq_of_mem_set hz with hz | rfl
    · exact v.ent z hz
    · exact he
  · rcases List.mem_or_eq_of_mem_set hz with hz | rfl
    · exact v.par z hz i hi
    · obtain ⟨h1, h2⟩ := hp i hi
      obtain ⟨x, q1, q2, q3⟩ := v.par _ tm i h1
      exact ⟨x, q1, q2, q3.trans h2.symm⟩
  · obtain ⟨a, b⟩ := v.cou i x hi hx
    refine ⟨a, ?_⟩
    have := cou_set (i := (i : Int)) (y := y) hl
    have h2 := hc i (by omega)
    rw [v.own_t ht] at this
    unfold Mo.ents at h2
    rw [b]
    show (Mod.cou m.T i : Int) = (Mod.cou (m.T.set t y) i : Int)
    omega
theorem Iv.setReg (v : Iv Z k m) {t : Nat} (ht : t < Z.nt) (i x : Int) (hx : wf64 x) : Iv Z k (m.setReg t i x) := by
  refine v.thr ht ⟨setR (m.th t).r i.toNat x, (m.th t).c⟩ (fun j => ?_) (show _ ∧ _ from v.ent (m.th t) (v.th_mem ht)) (fun i hi => ⟨hi, rfl⟩) (fun _ _ => rfl)
  show wf64 (if j = i.toNat then x else (m.th t).r j)
  split
  · exact hx
  · exact v.reg _ (v.th_mem ht) j
/-- Objects are what they were, but for slots. -/
theorem Iv.mapO (v : Iv Z k m) (g : Ob → Ob) (hg : ∀ o ∈ m.O, (g o).s = o.s ∧ (g o).e = o.e ∧ (g o).a = o.a ∧ (g o).tag = o.tag ∧ (g o).sl.length = o.sl.length ∧ ∀ x ∈ (g o).sl, wf64 x) : Iv Z k ⟨m.F, m.O.map g, m.A, m.T⟩ := by
  refine ⟨v.f, v.nA, v.nT, v.nt, v.im, v.hp, by rw [List.length_map]; exact v.cnt, v.reg, v.ent, v.par, v.cou, v.are, fun o ho => ?_, ?_⟩
  · obtain ⟨p, hp, rfl⟩ := List.mem_map.1 ho
    obtain ⟨g1, g2, g3, g4, g5, g6⟩ := hg p hp
    rw [g1, g2, g3, g4, g5]
    obtain ⟨h0, x, a, q1, q2, q3, q4, q5, q6, q7, _, q9⟩ := v.obj p hp
    exact ⟨h0, x, a, q1, q2, q3, q4, q5, q6, q7, g6, q9⟩
  · refine List.pairwise_map.2 (List.Pairwise.imp_of_mem ?_ v.ord)
    intro o p ho hp h e
    obtain ⟨g1, _, g3, _⟩ := hg o ho
    obtain ⟨g1', _, g3', _⟩ := hg p hp
    rw [g3, g3']
    exact h (by rw [← g1, ← g1']; exact e)
/-- A scope's word is another; who is within goes along. -/
theorem Iv.step (v : Iv Z k m) {s : Nat} {x x' : Cx} {m' : Mo} (hs : 1 ≤ s) (hx : m.F.R[s]? = some x) (hF : Inv Z.n Z.A Z.S Z.I Z.J m'.F) (hR : m'.F.R = m.F.R.set s x') (h3 : x'.s ≠ 3)
    (hT : m'.T.length = m.T.length) (hr : ∀ y ∈ m'.T, ∀ i, wf64 (y.r i)) (he : ∀ y ∈ m'.T, y.c.length ≤ 6 ∧ Chain.Fits y.c ∧ ∀ e ∈ y.c, 0 ≤ e.1 ∧ e.1 < (Z.n : Int))
    (hp : ∀ y ∈ m'.T, ∀ i : Int, Chain.inP y.c i → i ≠ s → ∃ z ∈ m.T, Chain.inP z.c i ∧ Chain.parV z.c i = Chain.parV y.c i)
    (hq : ∀ y ∈ m'.T, Chain.inP y.c s → x'.s = 2 ∧ x'.p = Chain.parV y.c s) (hc : x'.c = (Mod.cou m'.T s : Int)) (hc' : ∀ i : Nat, i ≠ s → 1 ≤ i → Mod.cou m'.T i = Mod.cou m.T i)
    (hA : (m'.A = m.A ∧ m'.O = m.O ∧ x'.s = 2 ∧ x'.e = x.e ∧ x'.a = x.a ∧ x'.z = x.z) ∨ (m'.A = m.A.set s ar0 ∧ m'.O = m.O.filter (fun o => !decide (o.s = (s : Int))) ∧ 0 ≤ x'.z)) : Iv Z k m' := by
  have hk : s < m.F.R.length := (List.getElem?_eq_some_iff.1 hx).1
  have nO : m'.O = m.O ∨ m'.O = m.O.filter (fun o => !decide (o.s = (s : Int))) := hA.elim (fun h => .inl h.2.1) (fun h => .inr h.2.1)
  refine ⟨hF, ?_, hT.trans v.nT, v.nt, v.im, v.hp, ?_, hr, he, fun y hy i hi => ?_, fun i y hi hy => ?_, fun i y a hy ha => ?_, fun o ho => ?_, ?_⟩
  · rcases hA with h | h
    · rw [h.1]; exact v.nA
    · rw [h.1, List.length_set]; exact v.nA
  · rcases nO with h | h
    · rw [h]; exact v.cnt
    · rw [h]
      exact Nat.le_trans (List.length_filter_le _ _) v.cnt
  · rw [hR]
    have h1 := Chain.fits_range (he y hy).2.1 i hi
    by_cases e : i = s
    · subst e
      obtain ⟨q1, q2⟩ := hq y hy hi
      exact ⟨x', by rw [Int.toNat_natCast]; exact set_get hk, q1, q2⟩
    · obtain ⟨z, hz, q1, q2⟩ := hp y hy i hi e
      obtain ⟨u, u1, u2, u3⟩ := v.par z hz i q1
      exact ⟨u, by rw [set_other (by omega)]; exact u1, u2, u3.trans q2⟩
  · rw [hR] at hy
    rcases get_set hy with ⟨rfl, rfl, _⟩ | ⟨hne, hy⟩
    · exact ⟨h3, hc⟩
    · obtain ⟨a, b⟩ := v.cou i y hi hy
      exact ⟨a, by rw [hc' i hne hi]; exact b⟩
  · rw [hR] at hy
    rcases hA with ⟨a1, _, a2, a3, a4, a5⟩ | ⟨a1, _, a2⟩
    · rw [a1] at ha
      rcases get_set hy with ⟨rfl, rfl, _⟩ | ⟨hne, hy⟩
      · obtain ⟨q1, q2, q3, q4, q5⟩ := v.are i x a hx ha
        exact ⟨q1, q2, q3, by omega, fun c => absurd a2 c⟩
      · exact v.are i y a hy ha
    · rw [a1] at ha
      rcases get_set hy with ⟨rfl, rfl, _⟩ | ⟨hne, hy⟩
      · rcases gset ha with ⟨_, rfl, _⟩ | ⟨hne, _⟩
        · exact ⟨⟨Int.le_refl 0, by decide⟩, Int.le_refl 0, by decide, a2, fun _ => ⟨rfl, rfl⟩⟩
        · exact absurd rfl hne
      · rw [gset_other hne] at ha
        exact v.are i y a hy ha
  · rcases hA with ⟨a1, b1, a2, a3, a4, a5⟩ | ⟨a1, b1, a2⟩
    · rw [b1] at ho
      obtain ⟨h0, y, a, q1, q2, q3, q4, q⟩ := v.obj o ho
      rw [a1, hR]
      by_cases e : o.s.toNat = s
      · have : y = x := by rw [e, hx] at q1; injection q1 with q1; exact q1.symm
        subst this
        exact ⟨h0, x', a, by rw [e]; exact set_get hk, q2, by rw [a3]; exact q3, by rw [a4]; exact q4, by rw [a4]; exact q⟩
      · exact ⟨h0, y, a, by rw [set_other e]; exact q1, q2, q3, q4, q⟩
    · rw [b1] at ho
      obtain ⟨ho, hne⟩ := List.mem_filter.1 ho
      have hne' : ¬ o.s = (s : Int) := by simpa using hne
      obtain ⟨h0, y, a, q1, q2, q⟩ := v.obj o ho
      rw [a1, hR]
      exact ⟨h0, y, a, by rw [set_other (by omega)]; exact q1, by rw [gset_other (by omega)]; exact q2, q⟩
  · rcases nO with h | h
    · rw [h]; exact v.ord
    · rw [h]
      exact v.ord.filter _
theorem Iv.none_of (v : Iv Z k m) {s : Nat} {x : Cx} (hs : 1 ≤ s) (hx : m.F.R[s]? = some x) (h2 : x.s ≠ 2) : (Mod.cou m.T s) = 0 ∧ m.A.set s ar0 = m.A ∧ m.O.filter (fun o => !decide (o.s = (s : Int))) = m.O := by
  have hk : s < m.F.R.length := (List.getElem?_eq_some_iff.1 hx).1
  obtain ⟨c1, c2⟩ := v.cou s x hs hx
  have hr := rightI (v.f.right s x hx)
  obtain ⟨x', a, hx', ha⟩ := v.scope (i := s) (by have := v.f.len; omega)
  obtain rfl : x' = x := by rw [hx] at hx'; injection hx' with h; exact h.symm
  obtain ⟨_, _, _, _, q5⟩ := v.are s x' a hx ha
  obtain ⟨u0, g0⟩ := q5 h2
  refine ⟨by omega, ?_, ?_⟩
  · have : a = ar0 := by
      obtain ⟨g, u⟩ := a
      have e1 : u = 0 := u0
      have e2 : g = 0 := g0
      subst e1 e2
      rfl
    subst this
    exact set_self ha
  · refine List.filter_eq_self.2 fun o ho => ?_
    obtain ⟨h0, y, b, p1, p2, p3, p4, p5, p6, _⟩ := v.obj o ho
    by_cases e : o.s = (s : Int)
    · exfalso
      rw [e, Int.toNat_natCast] at p1 p2
      rw [hx] at p1
      rw [ha] at p2
      injection p1 with p1
      injection p2 with p2
      subst p1 p2
      omega
    · simp [e]
/-- A scope that nobody is within is another. -/
theorem Iv.idle (v : Iv Z k m) {s : Nat} {x x' : Cx} {F : Fo} (hs : 1 ≤ s) (hx : m.F.R[s]? = some x) (h2 : x.s ≠ 2) (hF : Inv Z.n Z.A Z.S Z.I Z.J F) (hR : F.R = m.F.R.set s x') (h3 : x'.s ≠ 3) (h4 : x'.s ≠ 2) : Iv Z k ⟨F, m.O, m.A, m.T⟩ := by
  obtain ⟨c0, a0, o0⟩ := v.none_of hs hx h2
  have hk : s < m.F.R.length := (List.getElem?_eq_some_iff.1 hx).1
  have hx' : F.R[s]? = some x' := by rw [hR]; exact set_get hk
  have hr := rightI (hF.right s x' hx')
  refine v.step (m' := ⟨F, m.O, m.A, m.T⟩) hs hx hF hR h3 rfl v.reg v.ent (fun y hy i hi _ => ⟨y, hy, hi, rfl⟩) (fun y hy hi => absurd hi (cou_zero c0 y hy)) ?_ (fun _ _ _ => rfl) (.inr ⟨a0.symm, o0.symm, ?_⟩)
  · show x'.c = (Mod.cou m.T s : Int)
    omega
  · rcases hF.ext s x' hx' hs with ⟨_, _, e⟩ | ⟨_, e, _⟩ <;> omega
theorem Iv.create (v : Iv Z k m) (z : Int) : Iv Z k (createM m z).2 := by
  have hF := v.f.create z
  show Iv Z k ⟨(createV m.F z).F, m.O, m.A, m.T⟩
  have hp := v.f.fr_pos
  revert hF
  unfold createV
  split
  · exact fun _ => v
  · split
    · exact fun _ => v
    · rename_i x hl
      split
      · intro hF
        have := fr_at hl
        exact v.idle hp hl (by omega) hF rfl (by show (1 : Int) ≠ 3; decide) (by show (1 : Int) ≠ 2; decide)
      · exact fun _ => v
theorem Iv.destroy (v : Iv Z k m) (i : Int) : Iv Z k (destroyM m i).2 := by
  have hF := v.f.destroy i
  show Iv Z k ⟨(destroyV m.F i).F, m.O, m.A, m.T⟩
  revert hF
  unfold destroyV
  split
  · exact fun _ => v
  · rename_i x hl
    obtain ⟨h1, h2, h3⟩ := look_in hl
    split
    · exact fun _ => v
    · split
      · intro hF
        exact v.idle (by omega) h3 (by omega) hF rfl (by show (0 : Int) ≠ 3; decide) (by show (0 : Int) ≠ 2; decide)
      · exact fun _ => v
theorem cnt_snoc (L : List Chain.E) (e : Chain.E) (i : Int) : (L ++ [e]).countP (Chain.hit i) = L.countP (Chain.hit i) + (if Chain.hit i e = true then 1 else 0) := by
  rw [List.countP_append, List.countP_cons, List.countP_nil, Nat.zero_add]
theorem turn_ok {F : Fo} {i : Int} {f : Cx → Ctl.R} : (turnV F i f).x = 0 → ∃ x, Sco.look F.R i = some x ∧ (f x).x = 0 ∧ turnV F i f = ⟨0, 0, decide ((f x).s = 3), ⟨F.R.set i.toNat (x.turn (f x)), F.L⟩⟩ := by
  unfold turnV
  cases Sco.look F.R i with
  | none => exact fun h => absurd h (by show ¬ (11 : Int) = 0; decide)
  | some x =>
    by_cases h0 : (f x).x = 0
    · exact fun _ => ⟨x, rfl, h0, by simp only [h0, if_true]⟩
    · simp only [h0, if_false]
      exact fun h => absurd h (by first | exact h0 | exact not_false)
theorem Iv.enter (v : Iv Z k m) {t : Nat} (ht : t < Z.nt) (i : Int) : Iv Z k (enterV m t i).2 := by
  unfold enterV
  split
  · exact v
  · split
    · exact v
    · rename_i hpu
      split
      · exact v
      · rename_i hx0
        have hx0 : (turnV m.F i (enF (Chain.areaV (m.ents t)))).x = 0 := Decidable.not_not.1 hx0
        obtain ⟨x, hl, h0, e⟩ := turn_ok hx0
        have hF := v.f.turn i (fine_en (Chain.areaV (m.ents t)))
        rw [e] at hF ⊢
        obtain ⟨h1, h2, h3⟩ := look_in hl
        obtain ⟨s, rfl⟩ : ∃ s : Nat, i = s := ⟨i.toNat, by omega⟩
        rw [Int.toNat_natCast] at h3 hF ⊢
        have n8 := v.n8
        have hlen := v.f.len
        have hn : (s : Int) < (Z.n : Int) := by omega
        have hs : 1 ≤ s := by omega
        have hl6 : (m.ents t).length < 6 := by
          have : ¬ (Chain.pushE (m.ents t) ≠ 0) := hpu
          unfold Chain.pushE at this
          split at this
          · exact absurd (by decide) this
          · omega
        have tm := v.th_mem ht
        have hl' : t < m.T.length := by rw [v.nT]; exact ht
        obtain ⟨c1, c2⟩ := v.cou s x hs h3
        obtain ⟨f, hf⟩ : ∃ f, f = Chain.areaV (m.ents t) := ⟨_, rfl⟩
        obtain ⟨x', hx', p1, p2, p3, p4, p5, p6, p7⟩ : ∃ x' : Cx, x' = x.turn (enF (Chain.areaV (m.ents t)) x) ∧ x'.s = 2 ∧ x'.p = f ∧ x'.e = x.e ∧ x'.a = x.a ∧ x'.z = x.z ∧ x'.c = x.c + 1 ∧ (x.s = 2 → x.p = f) := by
          rw [← hf] at h0 ⊢
          refine ⟨_, rfl, ?_⟩
          have hr := rightI (v.f.right _ x h3)
          have hx : (enF f x) = Ctl.entV x.s x.c x.p x.e f := rfl
          rw [hx] at h0 ⊢
          unfold Cx.turn
          rcases Ctl.ent_cases x.s x.c x.p x.e f with ⟨hr, he⟩ | ⟨hr, hf, he⟩ | ⟨hr, f1, f2, h1, he⟩ | ⟨hr, f1, f2, h1, he⟩ | ⟨hr, f1, f2, h1, he⟩ | ⟨hr, f1, f2, h1, hp, he⟩ | ⟨hr, f1, f2, h1, h2, h3, he⟩ | ⟨hr, f1, f2, h1, h2, hc1, hc2, he⟩
          all_goals rw [he] at h0 ⊢
          · exact absurd h0 (by decide)
          · exact absurd h0 (by decide)
          · exact absurd h0 (by decide)
          · exact absurd h0 (by decide)
          · exact ⟨rfl, rfl, rfl, rfl, rfl, by show (1 : Int) = x.c + 1; omega, fun c => by omega⟩
          · exact absurd h0 (by decide)
          · exact absurd h0 (by decide)
          · exact ⟨rfl, rfl, rfl, rfl, rfl, rfl, fun _ => h2⟩
        rw [← hx'] at hF ⊢
        have hin : ∀ y ∈ m.T, Chain.inP y.c (s : Int) → x.s = 2 ∧ x.p = f ∧ f = Chain.parV y.c (s : Int) := by
          intro y hy hi
          obtain ⟨u, u1, u2, u3⟩ := v.par y hy _ hi
          rw [Int.toNat_natCast, h3] at u1
          injection u1 with u1
          subst u1
          exact ⟨u2, p7 u2, (p7 u2).symm.trans u3⟩
        have hok : Chain.okE (m.ents t) ((s : Int), true) = true := by
          unfold Chain.okE
          by_cases c : Chain.inP (m.ents t) (s : Int)
          · obtain ⟨_, _, e3⟩ := hin _ tm c
            have e4 : Chain.parV (m.ents t) (s : Int) = Chain.areaV (m.ents t) := by rw [← hf]; exact e3.symm
            simp [e4]
            omega
          · simp [Chain.par_none c]
            omega
        refine v.step (m' := Mo.setEnt ⟨⟨m.F.R.set s x', m.F.L⟩, m.O, m.A, m.T⟩ t (m.ents t ++ [((s : Int), true)])) hs h3 hF rfl (by omega) (List.length_set ..) (fun y hy => ?_) (fun y hy => ?_) (fun y hy i hi hne => ?_) (fun y hy hi => ?_) ?_ (fun i hne hi => ?_) (.inl ⟨rfl, rfl, p1, p3, p4, p5⟩)
        · rcases List.mem_or_eq_of_mem_set hy with hy | rfl
          · exact v.reg y hy
          · exact fun i => v.reg (m.th t) tm i
        · rcases List.mem_or_eq_of_mem_set hy with hy | rfl
          · exact v.ent y hy
          · refine ⟨by show (m.ents t ++ [((s : Int), true)]).length ≤ 6; rw [List.length_append]; simp; omega, Chain.Fits.snoc (v.fit ht) (by show (0 : Int) ≤ s; omega) (by show (s : Int) ≤ 7; omega) hok, fun e he => ?_⟩
            rcases List.mem_append.1 he with he | he
            · exact (v.ent _ tm).2.2 e he
            · rw [List.mem_singleton.1 he]
              exact ⟨by show (0 : Int) ≤ s; omega, hn⟩
        · rcases List.mem_or_eq_of_mem_set hy with hy | rfl
          · exact ⟨y, hy, hi, rfl⟩
          · have hi' : Chain.inP (m.ents t) i := by
              by_cases c : Chain.inP (m.ents t) i
              · exact c
              · refine absurd hi (Chain.app_no c ?_)
                show (true && (s : Int) == i) = false
                simp
                omega
            exact ⟨m.th t, tm, hi', (Chain.par_app_in hi').symm⟩
        · refine ⟨p1, p2.trans ?_⟩
          rcases List.mem_or_eq_of_mem_set hy with hy | rfl
          · exact (hin y hy hi).2.2
          · show f = Chain.parV (m.ents t ++ [((s : Int), true)]) (s : Int)
            by_cases c : Chain.inP (m.ents t) (s : Int)
            · rw [Chain.par_app_in c]
              exact (hin _ tm c).2.2
            · rw [(Chain.app_new c (by simp [Chain.hit])).2.2]
              exact hf
        · have := cou_set (i := (s : Int)) (y := ⟨(m.th t).r, m.ents t ++ [((s : Int), true)]⟩) hl'
          rw [v.own_t ht, show (Th.c ⟨(m.th t).r, m.ents t ++ [((s : Int), true)]⟩) = m.ents t ++ [((s : Int), true)] from rfl, cnt_snoc, if_pos (by simp [Chain.hit])] at this
          show x'.c = (Mod.cou (m.T.set t ⟨(m.th t).r, m.ents t ++ [((s : Int), true)]⟩) (s : Int) : Int)
          unfold Mo.ents at this ⊢
          omega
        · have := cou_set (i := (i : Int)) (y := ⟨(m.th t).r, m.ents t ++ [((s : Int), true)]⟩) hl'
          rw [v.own_t ht, show (Th.c ⟨(m.th t).r, m.ents t ++ [((s : Int), true)]⟩) = m.ents t ++ [((s : Int), true)] from rfl, cnt_snoc, if_neg (by simp [Chain.hit]; omega)] at this
          show Mod.cou (m.T.set t ⟨(m.th t).r, m.ents t ++ [((s : Int), true)]⟩) (i : Int) = Mod.cou m.T (i : Int)
          unfold Mo.ents at this ⊢
          omega
theorem Iv.inn (v : Iv Z k m) {t : Nat} (ht : t < Z.nt) (i : Int) : Iv Z k (inV m t i).2 := by
  unfold inV
  split
  · exact v
  · rename_i hi
    have hi : 0 ≤ i ∧ i < (m.A.length : Int) := by simpa using hi
    rw [v.nA] at hi
    split
    · exact v
    · rename_i hre
      split
      · exact v
      · rename_i hpu
        have hl6 : (m.ents t).length < 6 := by
          have : ¬ (Chain.pushE (m.ents t) ≠ 0) := hpu
          unfold Chain.pushE at this
          split at this
          · exact absurd (by decide) this
          · omega
        have n8 := v.n8
        have tm := v.th_mem ht
        refine v.thr ht ⟨(m.th t).r, m.ents t ++ [(i, false)]⟩ (fun i => v.reg (m.th t) tm i) ⟨by show (m.ents t ++ [(i, false)]).length ≤ 6; rw [List.length_append]; simp; omega, Chain.Fits.snoc (v.fit ht) hi.1 (by show i ≤ 7; omega) ?_, fun e he => ?_⟩ (fun j hj => ?_) (fun j _ => ?_)
        · unfold Chain.okE
          have : Chain.reachV (m.ents t) i = true := by simpa using hre
          simp [this]
        · rcases List.mem_append.1 he with he | he
          · exact (v.ent _ tm).2.2 e he
          · rw [List.mem_singleton.1 he]
            exact hi
        · have hj' : Chain.inP (m.ents t) j := by
            by_cases c : Chain.inP (m.ents t) j
            · exact c
            · exact absurd hj (Chain.app_no c rfl)
          exact ⟨hj', Chain.par_app_in hj'⟩
        · show (m.ents t ++ [(i, false)]).countP (Chain.hit j) = _
          rw [cnt_snoc]
          rfl
theorem fits_snoc {L : List Chain.E} (h : Chain.Fits L) (hne : L.length ≠ 0) : ∃ L0 e, L = L0 ++ [e] ∧ Chain.Fits L0 := by
  cases h with
  | nil => exact absurd rfl hne
  | @snoc L0 e h _ _ _ => exact ⟨L0, e, rfl, h⟩
theorem look_at {R : List Cx} {s : Nat} (hs : 1 ≤ s) : Sco.look R (s : Int) = R[s]? := by
  unfold Sco.look
  rw [if_pos (by omega), Int.toNat_natCast]
/-- The last one leaves, and what becomes of it. -/
theorem last_turn {F : Fo} {s : Nat} {x : Cx} (hs : 1 ≤ s) (hx : F.R[s]? = some x) (hr : Ctl.rightB x.s x.c x.p x.e = true) (h2 : x.s = 2) (h1 : x.c = 1) :
    turnV F s leF = ⟨0, 0, true, ⟨F.R.set s ⟨3, 0, x.p, x.e, x.a, x.z⟩, F.L⟩⟩ ∧ (turnV ⟨F.R.set s ⟨3, 0, x.p, x.e, x.a, x.z⟩, F.L⟩ s hoF).F = F ∧
    (turnV ⟨F.R.set s ⟨3, 0, x.p, x.e, x.a, x.z⟩, F.L⟩ s opF).F = ⟨F.R.set s ⟨1, 0, -1, (x.e + 1) % 16777216, x.a, x.z⟩, F.L⟩ := by
  have hk : s < F.R.length := (List.getElem?_eq_some_iff.1 hx).1
  have hb := rightI hr
  have r3 : Ctl.rightB 3 0 x.p x.e = true := decide_eq_true (by omega)
  have e1 : leF x = ⟨3, 0, x.p, x.e, 0⟩ := by
    show Ctl.leV x.s x.c x.p x.e = _
    unfold Ctl.leV
    rw [if_pos hr, if_pos h2, if_pos h1]
  have e2 : hoF ⟨3, 0, x.p, x.e, x.a, x.z⟩ = ⟨2, 1, x.p, x.e, 0⟩ := by
    show Ctl.hoV 3 0 x.p x.e = _
    unfold Ctl.hoV
    rw [if_pos r3, if_pos rfl]
  have e3 : opF ⟨3, 0, x.p, x.e, x.a, x.z⟩ = ⟨1, 0, -1, (x.e + 1) % 16777216, 0⟩ := by
    show Ctl.opV 3 0 x.p x.e = _
    unfold Ctl.opV
    rw [if_pos r3, if_pos rfl]
  have hy : (F.R.set s ⟨3, 0, x.p, x.e, x.a, x.z⟩)[s]? = some ⟨3, 0, x.p, x.e, x.a, x.z⟩ := set_get hk
  refine ⟨?_, ?_, ?_⟩
  · unfold turnV
    rw [look_at hs, hx]
    dsimp only
    rw [e1, if_pos rfl, Int.toNat_natCast]
    rfl
  · unfold turnV
    dsimp only
    rw [look_at hs, hy]
    dsimp only
    rw [e2, if_pos rfl, Int.toNat_natCast]
    dsimp only
    rw [List.set_set]
    have : (Cx.turn ⟨3, 0, x.p, x.e, x.a, x.z⟩ ⟨2, 1, x.p, x.e, 0⟩) = x := by
      obtain ⟨a, b, c, d, e, f⟩ := x
      simp only at h2 h1
      subst h2 h1
      rfl
    rw [this, set_self hx]
  · unfold turnV
    dsimp only
    rw [look_at hs, hy]
    dsimp only
    rw [e3, if_pos rfl, Int.toNat_natCast]
    dsimp only
    rw [List.set_set]
    rfl
theorem fin1_keep (FF : List (List Fina.O)) (s : Int) (o : Ob) (h : ∀ x ∈ o.sl, wf64 x) : (fin1 FF s o).s = o.s ∧ (fin1 FF s o).e = o.e ∧ (fin1 FF s o).a = o.a ∧ (fin1 FF s o).tag = o.tag ∧ (fin1 FF s o).sl.length = o.sl.length ∧ ∀ x ∈ (fin1 FF s o).sl, wf64 x := by
  unfold fin1
  split
  · refine ⟨rfl, rfl, rfl, rfl, (Fina.walk_len _ _ _).1, fun x hx => ?_⟩
    rcases Fina.walk_mem _ _ _ x hx with rfl | hx
    · exact ⟨Int.le_refl 0, by decide⟩
    · exact h x hx
  · exact ⟨rfl, rfl, rfl, rfl, rfl, h⟩
theorem Iv.osl (v : Iv Z k m) {o : Ob} (ho : o ∈ m.O) : ∀ x ∈ o.sl, wf64 x := by
  obtain ⟨_, x, a, _, _, _, _, _, _, _, h, _⟩ := v.obj o ho
  exact h
theorem Iv.exit (v : Iv Z k m) (FF : List (List Fina.O)) {t : Nat} (ht : t < Z.nt) : Iv Z k (exitV FF m t).2 := by
  unfold exitV
  split
  · exact v
  · rename_i hpo
    have hne : (m.ents t).length ≠ 0 := by
      have : ¬ (Chain.popE (m.ents t) ≠ 0) := hpo
      unfold Chain.popE at this
      split at this
      · exact absurd (by decide) this
      · assumption
    have tm := v.th_mem ht
    have hl' : t < m.T.length := by rw [v.nT]; exact ht
    obtain ⟨L0, e, hL, hf⟩ := fits_snoc (v.fit ht) hne
    have hl0 : L0.length ≤ 6 := by
      have := v.l6 ht
      rw [hL, List.length_append] at this
      omega
    have hr0 : ∀ e' ∈ L0, 0 ≤ e'.1 ∧ e'.1 < (Z.n : Int) := fun e' he => (v.ent _ tm).2.2 e' (by
      show e' ∈ m.ents t
      rw [hL]
      exact List.mem_append_left _ he)
    have hpar : ∀ i : Int, Chain.inP L0 i → Chain.inP (m.ents t) i ∧ Chain.parV L0 i = Chain.parV (m.ents t) i := fun i hi => by
      rw [hL]
      exact ⟨Chain.inP_app hi, (Chain.par_app_in hi).symm⟩
    have hcnt : ∀ i : Int, (m.ents t).countP (Chain.hit i) = L0.countP (Chain.hit i) + (if Chain.hit i e = true then 1 else 0) := fun i => by rw [hL, cnt_snoc]
    rw [hL, Chain.last_snoc, List.dropLast_concat]
    split
    · rename_i he
      refine v.thr ht ⟨(m.th t).r, L0⟩ (fun i => v.reg (m.th t) tm i) ⟨hl0, hf, hr0⟩ hpar (fun i _ => ?_)
      rw [hcnt, if_neg (by simp [Chain.hit, he])]
      rfl
    · rename_i he
      split
      · exact v
      · rename_i hx0
        have hx0 : (turnV m.F e.1 leF).x = 0 := Decidable.not_not.1 hx0
        obtain ⟨x, hl, h0, eq⟩ := turn_ok hx0
        obtain ⟨h1, h2, h3⟩ := look_in hl
        obtain ⟨i, b⟩ := e
        have he : b = true := by simpa using he
        subst he
        dsimp only at *
        obtain ⟨s, rfl⟩ : ∃ s : Nat, i = s := ⟨i.toNat, by omega⟩
        rw [Int.toNat_natCast] at h3
        have hs : 1 ≤ s := by omega
        have hF := v.f.turn (s : Int) fine_le
        have hr := v.f.right _ x h3
        obtain ⟨c1, c2⟩ := v.cou s x hs h3
        have hs2 : Mod.cou (m.T.set t ⟨(m.th t).r, L0⟩) (s : Int) + 1 = Mod.cou m.T (s : Int) := by
          have := cou_set (i := (s : Int)) (y := ⟨(m.th t).r, L0⟩) hl'
          have h2 := hcnt (s : Int)
          rw [if_pos (by simp [Chain.hit])] at h2
          rw [v.own_t ht] at this
          unfold Mo.ents at h2
          have e3 : (Th.c ⟨(m.th t).r, L0⟩) = L0 := rfl
          rw [e3] at this
          omega
        have hs3 : ∀ j : Nat, j ≠ s → 1 ≤ j → Mod.cou (m.T.set t ⟨(m.th t).r, L0⟩) (j : Int) = Mod.cou m.T (j : Int) := fun j hj _ => by
          have := cou_set (i := (j : Int)) (y := ⟨(m.th t).r, L0⟩) hl'
          have h2 := hcnt (j : Int)
          rw [if_neg (by simp [Chain.hit]; omega)] at h2
          rw [v.own_t ht] at this
          unfold Mo.ents at h2
          have e3 : (Th.c ⟨(m.th t).r, L0⟩) = L0 := rfl
          rw [e3] at this
          omega
        have hreg : ∀ y ∈ m.T.set t ⟨(m.th t).r, L0⟩, ∀ i, wf64 (y.r i) := fun y hy => by
          rcases List.mem_or_eq_of_mem_set hy with hy | rfl
          · exact v.reg y hy
          · exact fun i => v.reg (m.th t) tm i
        have hent : ∀ y ∈ m.T.set t ⟨(m.th t).r, L0⟩, y.c.length ≤ 6 ∧ Chain.Fits y.c ∧ ∀ e ∈ y.c, 0 ≤ e.1 ∧ e.1 < (Z.n : Int) := fun y hy => by
          rcases List.mem_or_eq_of_mem_set hy with hy | rfl
          · exact v.ent y hy
          · exact ⟨hl0, hf, hr0⟩
        have hpp : ∀ y ∈ m.T.set t ⟨(m.th t).r, L0⟩, ∀ i : Int, Chain.inP y.c i → ∃ z ∈ m.T, Chain.inP z.c i ∧ Chain.parV z.c i = Chain.parV y.c i := fun y hy i hi => by
          rcases List.mem_or_eq_of_mem_set hy with hy | rfl
          · exact ⟨y, hy, hi, rfl⟩
          · exact ⟨_, tm, (hpar i hi).1, (hpar i hi).2.symm⟩
        have hb := rightI hr
        have hx : leF x = Ctl.leV x.s x.c x.p x.e := rfl
        have e0 : Ctl.leV x.s x.c x.p x.e = if x.s = 2 then (if x.c = 1 then ⟨3, 0, x.p, x.e, 0⟩ else ⟨2, x.c - 1, x.p, x.e, 0⟩) else Ctl.no 11 := by unfold Ctl.leV; rw [if_pos hr]
        have hst : x.s = 2 := by
          by_cases q : x.s = 2
          · exact q
          · rw [hx, e0, if_neg q] at h0
            exact absurd h0 (by decide)
        by_cases h1c : x.c = 1
        · obtain ⟨t1, t2, t3⟩ := last_turn hs h3 hr hst h1c
          rw [t1]
          dsimp only
          rw [if_neg (by simp)]
          unfold lastV
          split
          · rw [t2]
            exact v.mapO _ fun o ho => fin1_keep FF _ o (v.osl ho)
          · rw [t3]
            have hF' := hF.turn (s : Int) fine_op
            rw [t1, t3] at hF'
            rw [Int.toNat_natCast]
            have hd : (m.ents t).dropLast = L0 := by rw [hL, List.dropLast_concat]
            rw [hd]
            refine v.step (m' := Mo.setEnt ⟨⟨m.F.R.set s ⟨1, 0, -1, (x.e + 1) % 16777216, x.a, x.z⟩, m.F.L⟩, m.O.filter (fun o => !decide (o.s = (s : Int))), m.A.set s ar0, m.T⟩ t L0) hs h3 hF' rfl (by show (1 : Int) ≠ 3; decide) (List.length_set ..) hreg hent (fun y hy i hi _ => hpp y hy i hi) (fun y hy hi => ?_) ?_ hs3 (.inr ⟨rfl, rfl, ?_⟩)
            · exact absurd hi (cou_zero (show Mod.cou (m.T.set t ⟨(m.th t).r, L0⟩) (s : Int) = 0 by omega) y hy)
            · show (0 : Int) = (Mod.cou (m.T.set t ⟨(m.th t).r, L0⟩) (s : Int) : Int)
              omega
            · obtain ⟨_, _, q, _⟩ := v.live h3 hst
              exact q
        · have t1 : turnV m.F (s : Int) leF = ⟨0, 0, false, ⟨m.F.R.set s ⟨2, x.c - 1, x.p, x.e, x.a, x.z⟩, m.F.L⟩⟩ := by
            rw [eq, hx, e0, if_pos hst, if_neg h1c, Int.toNat_natCast]
            rfl
          rw [t1] at hF ⊢
          dsimp only
          rw [if_pos rfl]
          refine v.step (m' := Mo.setEnt ⟨⟨m.F.R.set s ⟨2, x.c - 1, x.p, x.e, x.a, x.z⟩, m.F.L⟩, m.O, m.A, m.T⟩ t L0) hs h3 hF rfl (by show (2 : Int) ≠ 3; decide) (List.length_set ..) hreg hent (fun y hy i hi _ => hpp y hy i hi) (fun y hy hi => ?_) ?_ hs3 (.inl ⟨rfl, rfl, rfl, rfl, rfl, rfl⟩)
          · refine ⟨rfl, ?_⟩
            obtain ⟨z, hz, z1, z2⟩ := hpp y hy _ hi
            obtain ⟨u, u1, u2, u3⟩ := v.par z hz _ z1
            rw [Int.toNat_natCast, h3] at u1
            injection u1 with u1
            subst u1
            exact u3.trans z2
          · show x.c - 1 = (Mod.cou (m.T.set t ⟨(m.th t).r, L0⟩) (s : Int) : Int)
            omega
/-- What a scope has beside the forest is another. -/
theorem Iv.setA (v : Iv Z k m) {s : Nat} {x : Cx} {a b : Ar} (hx : m.F.R[s]? = some x) (ha : m.A[s]? = some a) (h2 : x.s = 2) (hg : wf64 b.g) (hu : a.u ≤ b.u) (h8 : b.u % 8 = 0) (hz : b.u ≤ x.z) : Iv Z k ⟨m.F, m.O, m.A.set s b, m.T⟩ := by
  obtain ⟨q1, q2, q3, q4, q5⟩ := v.are s x a hx ha
  have hk : s < m.A.length := (List.getElem?_eq_some_iff.1 ha).1
  refine ⟨v.f, (List.length_set ..).trans v.nA, v.nT, v.nt, v.im, v.hp, v.cnt, v.reg, v.ent, v.par, v.cou, fun i y c hy hc => ?_, fun o ho => ?_, v.ord⟩
  · rcases gset hc with ⟨rfl, rfl, _⟩ | ⟨hne, hc⟩
    · rw [hx] at hy
      injection hy with hy
      subst hy
      exact ⟨hg, by omega, h8, hz, fun c => absurd h2 c⟩
    · exact v.are i y c hy hc
  · obtain ⟨h0, y, c, p1, p2, p3, p4, p5, p6, p⟩ := v.obj o ho
    by_cases e : o.s.toNat = s
    · rw [e, hx] at p1
      rw [e, ha] at p2
      injection p1 with p1
      injection p2 with p2
      subst p1 p2
      exact ⟨h0, x, b, by rw [e]; exact hx, by rw [e, List.getElem?_set, if_pos rfl, if_pos hk], p3, p4, p5, by omega, p⟩
    · exact ⟨h0, y, c, p1, by rw [gset_other e]; exact p2, p3, p4, p5, p6, p⟩
/-- One object more. -/
theorem Iv.addO (v : Iv Z k m) (o : Ob) (x : Cx) (a : Ar) (h0 : 0 ≤ o.s) (hx : m.F.R[o.s.toNat]? = some x) (ha : m.A[o.s.toNat]? = some a) (he : o.e = x.e) (h1 : x.a ≤ o.a) (h8 : o.a % 8 = 0) (h2 : o.a + 16 ≤ x.a + a.u) (hl : o.sl.length ≤ 6) (hw : ∀ y ∈ o.sl, wf64 y) (t0 : 0 ≤ o.tag) (t7 : o.tag ≤ 7)
    (hord : ∀ p ∈ m.O, p.s = o.s → p.a + 16 ≤ o.a) : Iv Z (k + 1) ⟨m.F, m.O ++ [o], m.A, m.T⟩ := by
  refine ⟨v.f, v.nA, v.nT, v.nt, v.im, v.hp, by rw [List.length_append]; have := v.cnt; simp; omega, v.reg, v.ent, v.par, v.cou, v.are, fun p hp => ?_, ?_⟩
  · rcases List.mem_append.1 hp with hp | hp
    · exact v.obj p hp
    · rw [List.mem_singleton.1 hp]
      exact ⟨h0, x, a, hx, ha, he, h1, h8, h2, hl, hw, t0, t7⟩
  · refine List.pairwise_append.2 ⟨v.ord, List.pairwise_singleton _ _, fun p hp q hq e => ?_⟩
    rw [List.mem_singleton.1 hq] at e ⊢
    exact hord p hp e
theorem Iv.hwf (v : Iv Z k m) {o : Ob} (ho : o ∈ m.O) : wf64 o.h := by
  obtain ⟨c1, c2, c3, c4, c5, c6, c7⟩ := Refs.rbounds (v.rt o ho)
  unfold wf64 Ob.h Refs.handle
  omega
/-- An object that is made. -/
theorem Iv.put (v : Iv Z k m) {t : Nat} (ht : t < Z.nt) (c : Ca) (h1 : (Heads.wordsV c.a c.b).err = 0) (h2 : 0 ≤ c.c ∧ c.c ≤ 7) (h3 : roomX m (Chain.areaV (m.ents t)) ((Heads.wordsV c.a c.b).n * 8) = 0) :
    Iv Z (k + 1) (putOb m (newOb m (Chain.areaV (m.ents t)) c) ((Heads.wordsV c.a c.b).n * 8)) := by
  obtain ⟨x, a, s0, sn, hx, ha, hst⟩ := v.area ht
  obtain ⟨l1, l2, l3, l4, l5, l6, l7, l8⟩ := v.live hx hst
  obtain ⟨g1, u1, u2, u3, u4⟩ := v.are _ x a hx ha
  have ea : m.ar (Chain.areaV (m.ents t)) = a := by
    unfold Mo.ar
    rw [List.getD_eq_getElem?_getD, ha]
    rfl
  generalize Chain.areaV (m.ents t) = s at *
  obtain ⟨n, rfl⟩ : ∃ n : Nat, s = n := ⟨s.toNat, by omega⟩
  rw [Int.toNat_natCast] at hx ha
  obtain ⟨sc, sx⟩ := see_in hx
  unfold roomX at h3
  rw [ea, sx] at h3
  unfold newOb roomA putOb
  dsimp only
  rw [ea, sc, sx]
  dsimp only at h3 ⊢
  unfold Heads.wordsV at h1 h3 ⊢
  by_cases hm : Heads.mayB c.a c.b = true
  · rw [if_pos hm] at h3 ⊢
    obtain ⟨a0, a6, b1, b2⟩ := of_decide_eq_true hm
    dsimp only at h3 ⊢
    have hz : a.u + (2 + c.a + (c.b + 7) / 8) * 8 ≤ x.z := by
      split at h3
      · exact absurd h3 (by decide)
      · omega
    have v1 := v.setA (s := n) (b := ⟨a.g, a.u + (2 + c.a + (c.b + 7) / 8) * 8⟩) hx ha hst g1 (by show a.u ≤ a.u + _; omega) (by show (a.u + _) % 8 = 0; omega) hz
    rw [Int.toNat_natCast]
    refine v1.addO ⟨(n : Int), x.e, x.a + a.u, List.replicate c.a.toNat 0, c.c, false⟩ x ⟨a.g, a.u + (2 + c.a + (c.b + 7) / 8) * 8⟩ (by show (0 : Int) ≤ n; omega) (by rw [Int.toNat_natCast]; exact hx) (by rw [Int.toNat_natCast]; show (m.A.set n _)[n]? = _; rw [List.getElem?_set, if_pos rfl, if_pos (List.getElem?_eq_some_iff.1 ha).1]) rfl (by show x.a ≤ x.a + a.u; omega) (by show (x.a + a.u) % 8 = 0; omega) (by show x.a + a.u + 16 ≤ x.a + (a.u + _); omega) (by show (List.replicate c.a.toNat (0 : Int)).length ≤ 6; rw [List.length_replicate]; omega) (fun y hy => ?_) h2.1 h2.2 (fun p hp e => ?_)
    · have : y = 0 := List.eq_of_mem_replicate hy
      subst this
      exact ⟨Int.le_refl 0, by decide⟩
    · have e : p.s = (n : Int) := e
      obtain ⟨h0, y, b, p1, p2, p3, p4, p5, p6, _⟩ := v.obj p hp
      rw [e, Int.toNat_natCast] at p1 p2
      rw [hx] at p1
      rw [ha] at p2
      injection p1 with p1
      injection p2 with p2
      subst p1 p2
      show p.a + 16 ≤ x.a + a.u
      omega
  · rw [if_neg hm] at h1
    exact absurd h1 (by decide)
theorem Iv.alloc (v : Iv Z k m) {t : Nat} (ht : t < Z.nt) (c : Ca) : Iv Z (k + 1) (allocV m t c).2 := by
  unfold allocV
  split
  · exact v.mono (Nat.le_succ k)
  · rename_i h1
    split
    · exact v.mono (Nat.le_succ k)
    · rename_i h3
      have v1 := v.put ht c (by omega) (by omega) (Decidable.not_not.1 h3)
      exact v1.setReg ht _ _ (v1.hwf (List.mem_append_right _ List.mem_cons_self))
theorem obs_mem {m : Mo} {h : Int} {o : Ob} (e : m.obs h = some o) : o ∈ m.O := List.mem_of_find?_eq_some e
theorem getD_mem (L : List Int) (i : Nat) : L.getD i 0 = 0 ∨ L.getD i 0 ∈ L := by
  rw [List.getD_eq_getElem?_getD]
  cases h : L[i]? with
  | none => exact .inl rfl
  | some x => exact .inr (List.mem_of_getElem? h)
theorem Iv.slot (v : Iv Z k m) (h b : Int) : wf64 (slotOf m h b) := by
  unfold slotOf
  cases e : m.obs h with
  | none => exact (show wf64 0 from ⟨Int.le_refl 0, by decide⟩)
  | some o =>
    rcases getD_mem o.sl b.toNat with q | q
    · show wf64 (o.sl.getD b.toNat 0)
      rw [q]
      exact ⟨Int.le_refl 0, by decide⟩
    · exact v.osl (obs_mem e) _ q
theorem Iv.load (v : Iv Z k m) {t : Nat} (ht : t < Z.nt) (c : Ca) : Iv Z k (loadV m t c).2 := by
  unfold loadV
  split
  · exact v
  · exact v.setReg ht _ _ (v.slot _ _)
theorem Iv.store (v : Iv Z k m) {t : Nat} (ht : t < Z.nt) (c : Ca) : Iv Z k (storeV m t c).2 := by
  unfold storeV
  split
  · exact v
  · split
    · exact v
    · refine v.mapO _ fun o ho => ?_
      unfold putSlot
      split
      · refine ⟨rfl, rfl, rfl, rfl, List.length_set .., fun x hx => ?_⟩
        rcases List.mem_or_eq_of_mem_set hx with hx | rfl
        · exact v.osl ho x hx
        · exact v.wreg ht _
      · exact ⟨rfl, rfl, rfl, rfl, rfl, v.osl ho⟩
theorem Iv.arI (v : Iv Z k m) (i : Int) : wf64 (m.ar i).g := by
  unfold Mo.ar
  rw [List.getD_eq_getElem?_getD]
  cases e : m.A[i.toNat]? with
  | none => exact (show wf64 0 from ⟨Int.le_refl 0, by decide⟩)
  | some a =>
    have h1 := (List.getElem?_eq_some_iff.1 e).1
    obtain ⟨x, a', hx, ha⟩ := v.scope (i := i.toNat) (by rw [← v.nA]; exact h1)
    obtain rfl : a = a' := by rw [e] at ha; injection ha
    exact (v.are _ x a hx ha).1
theorem Iv.look (v : Iv Z k m) {t : Nat} (ht : t < Z.nt) (c : Ca) : Iv Z k (lookV m t c).2 := by
  unfold lookV
  split
  · exact v
  · exact v.setReg ht _ _ (v.arI _)
theorem Iv.gate (v : Iv Z k m) {t : Nat} (ht : t < Z.nt) (c : Ca) : Iv Z k (gateV m t c).2 := by
  unfold gateV
  split
  · exact v
  · rename_i h1
    split
    · exact v
    · have h1 : reachX m (m.ents t) c.a = 0 := Decidable.not_not.1 h1
      unfold reachX at h1
      split at h1
      · exact absurd h1 (by decide)
      · rename_i hb
        split at h1
        · exact absurd h1 (by decide)
        · rename_i hr
          have hb : 1 ≤ c.a ∧ c.a < (m.A.length : Int) := by
            have : scopeB m c.a = true := by simpa using hb
            exact of_decide_eq_true this
          have hr : Chain.reachV (m.ents t) c.a = true := by simpa using hr
          rcases Chain.reach_iff.1 hr with e | e
          · omega
          · obtain ⟨x, hx, hs, _⟩ := v.par _ (v.th_mem ht) _ e
            obtain ⟨x', a, hx', ha⟩ := v.scope (i := c.a.toNat) (by have := v.nA; omega)
            have ea : m.ar c.a = a := by
              unfold Mo.ar
              rw [List.getD_eq_getElem?_getD, ha]
              rfl
            obtain ⟨g1, u1, u2, u3, u4⟩ := v.are _ x a hx ha
            rw [ea]
            exact v.setA hx ha hs (v.wreg ht _) (Int.le_refl _) u2 u3
/-- What is so of every state is so behind each call. -/
theorem Iv.does (v : Iv Z k m) (FF : List (List Fina.O)) {t : Nat} (ht : t < Z.nt) (c : Ca) : Iv Z (k + 1) (doM FF m t c).2 := by
  have v' := v.mono (Nat.le_succ k)
  unfold doM
  by_cases h0 : badC c = true
  · rw [if_pos h0]
    exact v'
  rw [if_neg h0]
  by_cases h1 : c.op = 0
  · rw [if_pos h1]
    exact v'
  rw [if_neg h1]
  by_cases h2 : c.op = 1
  · rw [if_pos h2]
    refine v'.setReg ht _ _ ?_
    have e : IntKind.u64.wrap c.a = c.a % 18446744073709551616 := by simp [IntKind.wrap, IntKind.bits, IntKind.signed]
    rw [e]
    unfold wf64
    omega
  rw [if_neg h2]
  by_cases h3 : c.op = 2
  · rw [if_pos h3]
    exact v'.create _
  rw [if_neg h3]
  by_cases h4 : c.op = 3
  · rw [if_pos h4]
    exact v'.destroy _
  rw [if_neg h4]
  by_cases h5 : c.op = 4
  · rw [if_pos h5]
    exact v'.enter ht _
  rw [if_neg h5]
  by_cases h6 : c.op = 5
  · rw [if_pos h6]
    exact v'.exit FF ht
  rw [if_neg h6]
  by_cases h7 : c.op = 6
  · rw [if_pos h7]
    exact v'.inn ht _
  rw [if_neg h7]
  by_cases h8 : c.op = 7
  · rw [if_pos h8]
    exact v.alloc ht c
  rw [if_neg h8]
  by_cases h9 : c.op = 8
  · rw [if_pos h9]
    exact v'.load ht c
  rw [if_neg h9]
  by_cases h10 : c.op = 9
  · rw [if_pos h10]
    exact v'.store ht c
  rw [if_neg h10]
  by_cases h11 : c.op = 10
  · rw [if_pos h11]
    exact v'.look ht c
  rw [if_neg h11]
  by_cases h12 : c.op = 11
  · rw [if_pos h12]
    exact v'.gate ht c
  · rw [if_neg h12]
    exact v'
end
end Go.Proofs.YteakglkagmghpaaGreat.Mod

/-
  What the laws of a model say of one call, in plain mathematics: counts; what a refusal leaves; what is another thread's.
-/
namespace Go.Proofs.YteakglkagmghpaaGreat.Mod
open Sco
set_option linter.unusedVariables false
set_option maxRecDepth 8000
set_option linter.unusedSimpArgs false
section
variable {Z : Fx} {k : Nat} {m : Mo}
/-- What is refused leaves all but what a finalizer that holds does. -/
def Same3 (m m' : Mo) : Prop := m'.F = m.F ∧ m'.A = m.A ∧ m'.T = m.T
theorem Same3.refl (m : Mo) : Same3 m m := ⟨rfl, rfl, rfl⟩
end
end Go.Proofs.YteakglkagmghpaaGreat.Mod
