/-
  The laws' steps, as one row of cells; what a law carries behind such a call.
-/
import Derived.Test.YtbpmnjmegffllaaFouK
namespace Go.Proofs.Ytbpmnjmegffllaa.Fou
open Go.ChangeShapes Go.WideShapes Go.ChangeAt Go.RowKit
open Go.Proofs.Ytbpmnjmegffllaa.Mod Sco Amem Beg Gm
set_option linter.unusedVariables false
set_option linter.unusedSimpArgs false
set_option maxRecDepth 8000
variable {P : Pn} {f : Nat → Int} {F : Fo} {G : Nat} {w w' : World}
/-- What a law's step comes to: the told Run's cells, whether it is done, the words and the forest. -/
def StF (n : Nat) (f : Nat → Int) (F : Fo) (mk : Bool) (v : Int) (CS : List Value) (d : Bool) (f' : Nat → Int) (F' : Fo) : Prop :=
  CS[0]? = some (.int .u8 (if mk = true then 2 else 3)) ∧ CS[4]? = some (.int .i64 (opA mk v)) ∧
  ((d = true ∧ opB n mk v = true ∧ f' = opW f F mk v ∧ F' = (opR F mk v).F ∧ CS[7]? = some (.int .i64 1) ∧ CS[23]? = some (.int .i64 (opR F mk v).x) ∧ CS[24]? = some (.int .i64 (opR F mk v).v)) ∨
   (d = false ∧ opB n mk v = false ∧ f' = f ∧ F' = F ∧ CS[7]? = some (.int .i64 0)))
def StepsE (w : World) (P : Pn) (G : Nat) (f : Nat → Int) (F : Fo) (mk : Bool) (v : Int) (e : Ending) (w' : World) : Prop :=
  ∃ CS d f' F', e = .returned (.tuple #[.agg CS.toArray, .bool d]) ∧ CS.length = 26 ∧ (∀ u ∈ CS, u.oneCell' = true) ∧ Fd w' P G f' F' ∧ Only [P.g, G] w w' ∧ StF P.n f F mk v CS d f' F'
theorem steps_agg (w : World) (R : Pr P) (h : Fd w P G f F) (mk : Bool) (k : Int) (k1 : -9223372036854775808 ≤ k) (k2 : k ≤ 9223372036854775807) :
    Calls Try.prog 18 #[P.plan, .pointer (some ⟨P.B, 0, none⟩), .pointer (some ⟨G, 0, none⟩), .agg #[.bool mk, .int .i64 k]] w (StepsE w P G f F mk k) := by
  refine (steps_any w R h mk k k1 k2).mono ?_
  rintro e w' (⟨hB, a, b, c, d, rfl, h6, k6, o1, o2, o3, o4⟩ | ⟨hB, a, rfl, h6, k6, o1⟩)
  · exact ⟨(ofT (opC mk k) ⟨0, 1⟩ 0 0 0 (opR F mk k).x (opR F mk k).v a b c d).cells, true, _, _, rfl, rfl, cells_one o1 o2 o3 o4, h6, k6, rfl, rfl, .inl ⟨rfl, hB, rfl, rfl, rfl, rfl, rfl⟩⟩
  · exact ⟨(ofR (opC mk k) ⟨11, 0⟩ 0 0 0 a).cells, false, _, _, rfl, rfl, cells_one o1 rfl rfl rfl, h6, k6, rfl, rfl, .inr ⟨rfl, hB, rfl, rfl, rfl⟩⟩
theorem there_len {w0 W : World} {b m : Nat} {vs : List Value} (A : Held.At w0 W b vs) (h : vs.length = m) : W.there b 0 m := h ▸ at_there A
section
variable {w0 : World} {L : List (Nat × List Value)}
/-- A local block of type Run is stored into as a whole. -/
theorem Wk.fill {b : Nat} {vs : List Value} (S : Wk w0 w ((b, vs) :: L) P G f F) (tb : isT w b 53) (us : List Value) (h : us.length = vs.length) : Wk w0 (w.setCells b 0 us) ((b, us) :: L) P G f F :=
  ⟨St.fill S.st us h, fd_local S.fd tb (by decide) (by decide) (by decide) (by decide) (fill_only _ _ _), S.og, S.oG, fun y hy => by
    rcases List.mem_cons.1 hy with rfl | hy
    · exact S.ap (b, vs) (by simp)
    · exact S.ap y (by simp [hy])⟩
theorem Wk.notin {b : Nat} {vs : List Value} (S : Wk w0 w ((b, vs) :: L) P G f F) : b ∉ [P.g, G] := fun e => by
  have := S.ap (b, vs) (by simp)
  rcases List.mem_cons.1 e with e | e
  · exact this.1 e
  · exact this.2 (List.mem_singleton.1 e)
theorem Wk.sub {x : Nat × List Value} (S : Wk w0 w (x :: L) P G f F) : Wk w0 w L P G f F := ⟨St.sub S.st (List.sublist_cons_self x L), S.fd, S.og, S.oG, fun y hy => S.ap y (by simp [hy])⟩
/-- Behind 'r, done := steps(..)'. -/
def StR (w0 w5 : World) (L : List (Nat × List Value)) (P : Pn) (G : Nat) (f : Nat → Int) (F : Fo) (mk : Bool) (v : Int) (s dv : Value) (wx : World) : Prop :=
  ∃ gB CS d f' F', s = .pointer (some ⟨gB, 0, none⟩) ∧ dv = .bool d ∧ Wk w0 wx ((gB, CS) :: L) P G f' F' ∧ StF P.n f F mk v CS d f' F' ∧ Only [P.g, G] w5 wx ∧ w5.heap.size ≤ gB
/-- A local block of a law is stored into: it is of a type of its own. -/
theorem Wk.put {T : TypeId} (S : Wk w0 w L P G f F) (i k : Nat) {b : Nat} {vs : List Value} (h : L[i]? = some (b, vs)) (tb : isT w b T) (e1 : (T == 98) = false) (e2 : (T == 60) = false) (e3 : (T == 89) = false) (e4 : (T == 5) = false) (v : Value) (hk : k < vs.length) :
    Wk w0 (w.setCell ⟨b, k, none⟩ v) (L.set i (b, vs.set k v)) P G f F :=
  ⟨S.st.put i k h v hk, fd_local S.fd tb e1 e2 e3 e4 (Only.put w b k v (by simp)), S.og, S.oG, fun y hy => by
    rcases List.mem_or_eq_of_mem_set hy with hy | rfl
    · exact S.ap y hy
    · exact S.ap (b, vs) (List.mem_of_getElem? h)⟩
/-- Another block of one's own is written. -/
theorem Wk.other {b : Nat} {T : TypeId} (S : Wk w0 w L P G f F) (k : Only [b] w w') (tb : isT w b T) (e1 : (T == 98) = false) (e2 : (T == 60) = false) (e3 : (T == 89) = false) (e4 : (T == 5) = false) (hb : w0.heap.size ≤ b) (hn : ∀ y ∈ L, y.1 ≠ b) : Wk w0 w' L P G f F :=
  ⟨st_only S.st k (fun x hx => by rw [List.mem_singleton.1 hx]; exact hb) (fun y hy e => hn y hy (List.mem_singleton.1 e)), fd_local S.fd tb e1 e2 e3 e4 k, S.og, S.oG, S.ap⟩
theorem only_fill {X : List Nat} {a c : World} (h : Only X a c) {b : Nat} (hb : a.heap.size ≤ b) (us : List Value) : Only X a (c.setCells b 0 us) := by
  have q := fill_only c b us
  exact ⟨q.os.trans h.os, q.tape.trans h.tape, q.output.trans h.output, Nat.le_trans h.size q.size, fun i hi hx => (q.block i (Nat.lt_of_lt_of_le hi h.size) (fun e => by rw [List.mem_singleton.1 e] at hi; omega)).trans (h.block i hi hx)⟩
/-- A row of one's own, kept. -/
theorem row_go {X : List Nat} {b n : Nat} {T : TypeId} {h : Nat → Value} (r : w.rowIs b T n h) (k : Only X w w') (hx : b ∉ X) : w'.rowIs b T n h := r.of_block (k.block b r.lt hx)
theorem row_call {b n : Nat} {T : TypeId} {h : Nat → Value} (r : w.rowIs b T n h) (k : Below w.heap.size w w') : w'.rowIs b T n h := r.of_block (k.block b r.lt)
theorem keepS {W : World} {bP b o : Nat} {n t i j v : Int} {mk : Bool} (S : Held.St w0 W L) (A : Held.At w0 W bP [.int .i64 n, .int .i64 t, .int .i64 i, .int .i64 j]) (hb : b < w0.heap.size) (x0 : w0.cell? ⟨b, o, none⟩ = some (.bool mk)) (x1 : w0.cell? ⟨b, o + 1, none⟩ = some (.int .i64 v)) :
    (W.cell? ⟨bP, 0, none⟩ = some (.int .i64 n) ∧ W.cell? ⟨bP, 1, none⟩ = some (.int .i64 t) ∧ W.cell? ⟨bP, 2, none⟩ = some (.int .i64 i) ∧ W.cell? ⟨bP, 3, none⟩ = some (.int .i64 j)) ∧ W.cell? ⟨b, o, none⟩ = some (.bool mk) ∧ W.cell? ⟨b, o + 1, none⟩ = some (.int .i64 v) :=
  ⟨plan4 A, (S.below.cell (p := ⟨b, o, none⟩) hb).trans x0, (S.below.cell (p := ⟨b, o + 1, none⟩) hb).trans x1⟩
end
end Go.Proofs.Ytbpmnjmegffllaa.Fou
