/-
  The laws' calls of layer 14, one behind the other: what each makes of the forest; the row of them that comes in.
-/
import Derived.Test.YteakglkagmghpaaFouJ
import Derived.Laws.Tables
namespace Go.Proofs.Yteakglkagmghpaa.Fou
open Go.ChangeShapes Go.WideShapes Go.ChangeAt Go.RowKit
open Go.Proofs.Yteakglkagmghpaa.Mod Sco Amem Beg Gm
set_option linter.unusedVariables false
set_option linter.unusedSimpArgs false
set_option maxRecDepth 8000
variable {P : Pn} {f : Nat → Int} {F : Fo} {G : Nat} {w w' : World}
/-- A call of the row that came in. -/
theorem op_at {A : Option Addr} {n : Nat} {z : Nat → Nat → Int} (h : Args.PRecs [none, some .i64] w A n z) (i : Nat) (hi : i < n) : ∃ b o mk, A = some ⟨b, o, none⟩ ∧ b < w.heap.size ∧ w.cell? ⟨b, o + i * 2, none⟩ = some (.bool mk) ∧ w.cell? ⟨b, o + (i * 2 + 1), none⟩ = some (.int .i64 (z i 1)) ∧ -9223372036854775808 ≤ z i 1 ∧ z i 1 ≤ 9223372036854775807 := by
  obtain ⟨b, o, e, hb, hc⟩ := h.at_ i hi
  have h0 := hc 0 (by decide)
  have h1 := hc 1 (by decide)
  have hw := h.wf i 1
  exact ⟨b, o, _, e, hb, h0, h1, Held.bounds_i64 hw⟩
end Go.Proofs.Yteakglkagmghpaa.Fou

/-
  The laws' steps, as one row of cells; what a law carries behind such a call.
-/
namespace Go.Proofs.Yteakglkagmghpaa.Fou
open Go.ChangeShapes Go.WideShapes Go.ChangeAt Go.RowKit
open Go.Proofs.Yteakglkagmghpaa.Mod Sco Amem Beg Gm
set_option linter.unusedVariables false
set_option linter.unusedSimpArgs false
set_option maxRecDepth 8000
variable {P : Pn} {f : Nat → Int} {F : Fo} {G : Nat} {w w' : World}
/-- What a law's step comes to: the told Run's cells, whether it is done, the words and the forest. -/
def StF (n : Nat) (f : Nat → Int) (F : Fo) (mk : Bool) (v : Int) (CS : List Value) (d : Bool) (f' : Nat → Int) (F' : Fo) : Prop :=
  CS[0]? = some (.int .u8 (if mk = true then 2 else 3)) ∧ CS[4]? = some (.int .i64 (opA mk v)) ∧
  ((d = true ∧ opB n mk v = true ∧ f' = opW f F mk v ∧ F' = (opR F mk v).F ∧ CS[7]? = some (.int .i64 1) ∧ CS[23]? = some (.int .i64 (opR F mk v).x) ∧ CS[24]? = some (.int .i64 (opR F mk v).v)) ∨
   (d = false ∧ opB n mk v = false ∧ f' = f ∧ F' = F ∧ CS[7]? = some (.int .i64 0)))
def StepsE (w : World) (P : Pn) (G : Nat) (f : Nat → Int) (F : Fo) (mk : Bool) (v : Int) (e : Ending) (w' : World) : Prop :=
  ∃ CS d f' F', e = .returned (.tuple #[.agg CS.toArray, .bool d]) ∧ CS.length = 26 ∧ (∀ u ∈ CS, u.oneCell' = true) ∧ Fd w' P G f' F' ∧ Only [P.g, G] w w' ∧ StF P.n f F mk v CS d f' F'
theorem steps_agg (w : World) (R : Pr P) (h : Fd w P G f F) (mk : Bool) (k : Int) (k1 : -9223372036854775808 ≤ k) (k2 : k ≤ 9223372036854775807) :
    Calls Try.prog 22 #[P.plan, .pointer (some ⟨P.B, 0, none⟩), .pointer (some ⟨G, 0, none⟩), .agg #[.bool mk, .int .i64 k]] w (StepsE w P G f F mk k) := by
  refine (steps_any w R h mk k k1 k2).mono ?_
  rintro e w' (⟨hB, a, b, c, d, rfl, h6, k6, o1, o2, o3, o4⟩ | ⟨hB, a, rfl, h6, k6, o1⟩)
  · exact ⟨(ofT (opC mk k) ⟨0, 1⟩ 0 0 0 (opR F mk k).x (opR F mk k).v a b c d).cells, true, _, _, rfl, rfl, cells_one o1 o2 o3 o4, h6, k6, rfl, rfl, .inl ⟨rfl, hB, rfl, rfl, rfl, rfl, rfl⟩⟩
  · exact ⟨(ofR (opC mk k) ⟨11, 0⟩ 0 0 0 a).cells, false, _, _, rfl, rfl, cells_one o1 rfl rfl rfl, h6, k6, rfl, rfl, .inr ⟨rfl, hB, rfl, rfl, rfl⟩⟩
section
variable {w0 : World} {L : List (Nat × List Value)}
/-- A local block of type Run is stored into as a whole. -/
theorem Wk.fill {b : Nat} {vs : List Value} (S : Wk w0 w ((b, vs) :: L) P G f F) (tb : isT w b 37) (us : List Value) (h : us.length = vs.length) : Wk w0 (w.setCells b 0 us) ((b, us) :: L) P G f F :=
  ⟨St.fill S.st us h, fd_local S.fd tb (by decide) (by decide) (by decide) (by decide) (fill_only _ _ _), S.og, S.oG, fun y hy => by
    rcases List.mem_cons.1 hy with rfl | hy
    · exact S.ap (b, vs) (by simp)
    · exact S.ap y (by simp [hy])⟩
theorem Wk.sub {x : Nat × List Value} (S : Wk w0 w (x :: L) P G f F) : Wk w0 w L P G f F := ⟨St.sub S.st (List.sublist_cons_self x L), S.fd, S.og, S.oG, fun y hy => S.ap y (by simp [hy])⟩
/-- A local block of a law is stored into: it is of a type of its own. -/
theorem Wk.put {T : TypeId} (S : Wk w0 w L P G f F) (i k : Nat) {b : Nat} {vs : List Value} (h : L[i]? = some (b, vs)) (tb : isT w b T) (e1 : (T == 117) = false) (e2 : (T == 76) = false) (e3 : (T == 108) = false) (e4 : (T == 5) = false) (v : Value) (hk : k < vs.length) :
    Wk w0 (w.setCell ⟨b, k, none⟩ v) (L.set i (b, vs.set k v)) P G f F :=
  ⟨S.st.put i k h v hk, fd_local S.fd tb e1 e2 e3 e4 (Only.put w b k v (by simp)), S.og, S.oG, fun y hy => by
    rcases List.mem_or_eq_of_mem_set hy with hy | rfl
    · exact S.ap y hy
    · exact S.ap (b, vs) (List.mem_of_getElem? h)⟩
theorem row_call {b n : Nat} {T : TypeId} {h : Nat → Value} (r : w.rowIs b T n h) (k : Below w.heap.size w w') : w'.rowIs b T n h := r.of_block (k.block b r.lt)
theorem keepS {W : World} {bP b o : Nat} {n t i j v : Int} {mk : Bool} (S : Held.St w0 W L) (A : Held.At w0 W bP [.int .i64 n, .int .i64 t, .int .i64 i, .int .i64 j]) (hb : b < w0.heap.size) (x0 : w0.cell? ⟨b, o, none⟩ = some (.bool mk)) (x1 : w0.cell? ⟨b, o + 1, none⟩ = some (.int .i64 v)) :
    (W.cell? ⟨bP, 0, none⟩ = some (.int .i64 n) ∧ W.cell? ⟨bP, 1, none⟩ = some (.int .i64 t) ∧ W.cell? ⟨bP, 2, none⟩ = some (.int .i64 i) ∧ W.cell? ⟨bP, 3, none⟩ = some (.int .i64 j)) ∧ W.cell? ⟨b, o, none⟩ = some (.bool mk) ∧ W.cell? ⟨b, o + 1, none⟩ = some (.int .i64 v) :=
  ⟨plan4 A, (S.below.cell (p := ⟨b, o, none⟩) hb).trans x0, (S.below.cell (p := ⟨b, o + 1, none⟩) hb).trans x1⟩
end
end Go.Proofs.Yteakglkagmghpaa.Fou

/-
  The laws' rows of words; what a law's call puts.
-/
namespace Go.Proofs.Yteakglkagmghpaa.Fou
open Go.ChangeShapes Go.WideShapes Go.ChangeAt Go.RowKit
open Go.Proofs.Yteakglkagmghpaa.Mod Sco Amem Beg Gm
set_option linter.unusedVariables false
set_option linter.unusedSimpArgs false
set_option maxRecDepth 100000
attribute [local go_sem ↓] Go.wp_at_zero Go.wp_at_succ
variable {P : Pn} {f : Nat → Int} {F : Fo} {G : Nat} {w w' : World}
end Go.Proofs.Yteakglkagmghpaa.Fou

/-
  Plain mathematics for ScopesApart: how often each word is counted; scopes of which none is entered; all that is free when all are unmade.
-/
namespace Go.Proofs.Yteakglkagmghpaa.Sco
open Gm Go.ChangeShapes Go.WideShapes Go.ChangeAt Go.RowKit
set_option linter.unusedVariables false
set_option linter.unusedSimpArgs false

/-- Whether a point is in an extent, as a count. -/
def inC (a z p : Int) : Int := if a ≤ p ∧ p < a + z then 1 else 0
theorem inC_bd (a z p : Int) : 0 ≤ inC a z p ∧ inC a z p ≤ 1 := by
  unfold inC
  split <;> omega
def cX : List Cx → Int → Int
  | [], _ => 0
  | x :: r, p => inC x.a x.z p + cX r p
def cL : List E → Int → Int
  | [], _ => 0
  | e :: r, p => inC e.1 e.2 p + cL r p
theorem cX_app (l m : List Cx) (p : Int) : cX (l ++ m) p = cX l p + cX m p := by
  induction l with
  | nil => simp [cX]
  | cons x r ih => simp only [List.cons_append, cX, ih]; omega
theorem cL_app (l m : List E) (p : Int) : cL (l ++ m) p = cL l p + cL m p := by
  induction l with
  | nil => simp [cL]
  | cons x r ih => simp only [List.cons_append, cL, ih]; omega
theorem cL_bd (l : List E) (p : Int) : 0 ≤ cL l p ∧ cL l p ≤ l.length := by
  induction l with
  | nil => simp [cL]
  | cons x r ih =>
    have := inC_bd x.1 x.2 p
    simp only [cL, List.length_cons]
    omega
/-- Of scopes from 1 to one less than k. -/
def cntR (R : List Cx) (k : Nat) (p : Int) : Int := cX ((R.take k).drop 1) p
def cntL (L : List E) (k : Nat) (p : Int) : Int := cL (L.take k) p
theorem cntR_one (R : List Cx) (p : Int) : cntR R 1 p = 0 := by
  unfold cntR
  rw [List.drop_eq_nil_of_le (by rw [List.length_take]; omega)]
  rfl
theorem cntR_next {R : List Cx} {k : Nat} {x : Cx} (hk : 1 ≤ k) (hx : R[k]? = some x) (p : Int) : cntR R (k + 1) p = cntR R k p + inC x.a x.z p := by
  obtain ⟨hl, hx⟩ := List.getElem?_eq_some_iff.1 hx
  unfold cntR
  rw [List.take_succ_eq_append_getElem hl, List.drop_append_of_le_length (by rw [List.length_take]; omega), cX_app, hx]
  simp [cX]
theorem cntL_next {L : List E} {k : Nat} (hk : k < L.length) (p : Int) : cntL L (k + 1) p = cntL L k p + inC (L[k]).1 (L[k]).2 p := by
  unfold cntL
  rw [List.take_succ_eq_append_getElem hk, cL_app]
  simp [cL]
theorem cntL_bd (L : List E) (k : Nat) (p : Int) : 0 ≤ cntL L k p ∧ cntL L k p ≤ k := by
  unfold cntL
  have := cL_bd (L.take k) p
  have h : (L.take k).length ≤ k := by rw [List.length_take]; omega
  omega
/-- Of so many words from a place on. -/
def pin (a : Int) (m : Nat) (p : Int) : Int := inC a (8 * (m : Int)) p
theorem pin_zero (a p : Int) : pin a 0 p = 0 := by
  unfold pin inC
  rw [if_neg (by omega)]
theorem pin_next {A a : Int} {v m u : Nat} (ha : a = A + 8 * (v : Int)) : pin a (m + 1) (A + 8 * (u : Int)) = if u = v + m then pin a m (A + 8 * (u : Int)) + 1 else pin a m (A + 8 * (u : Int)) := by
  unfold pin inC
  by_cases e : u = v + m
  · rw [if_pos e, if_pos (by omega), if_neg (by omega)]
    rfl
  · rw [if_neg e]
    by_cases c : a ≤ A + 8 * (u : Int) ∧ A + 8 * (u : Int) < a + 8 * (m : Int)
    · rw [if_pos c, if_pos (by omega)]
    · rw [if_neg c, if_neg (by omega)]
theorem pin_at {A a : Int} {v m : Nat} (ha : a = A + 8 * (v : Int)) : pin a m (A + 8 * ((v + m : Nat) : Int)) = 0 := by
  unfold pin inC
  rw [if_neg (by omega)]
theorem pin_all {a z p : Int} {m : Nat} (h : z = 8 * (m : Int)) : pin a m p = inC a z p := by
  unfold pin
  rw [h]

theorem cX_none {l : List Cx} {p : Int} (h : ∀ (i : Nat) (x : Cx), l[i]? = some x → ¬ (x.a ≤ p ∧ p < x.a + x.z)) : cX l p = 0 := by
  induction l with
  | nil => rfl
  | cons x r ih =>
    have h0 := h 0 x rfl
    have := ih (fun i y hy => h (i + 1) y (by simpa using hy))
    simp only [cX, this]
    unfold inC
    rw [if_neg h0]
    rfl
theorem cX_once {l : List Cx} {p : Int} (h : ∃ (i : Nat) (x : Cx), l[i]? = some x ∧ x.a ≤ p ∧ p < x.a + x.z) (no : ∀ (i j : Nat) (x y : Cx), l[i]? = some x → l[j]? = some y → (x.a ≤ p ∧ p < x.a + x.z) → (y.a ≤ p ∧ p < y.a + y.z) → i = j) : cX l p = 1 := by
  induction l with
  | nil =>
    obtain ⟨i, x, hx, _⟩ := h
    simp at hx
  | cons x r ih =>
    by_cases c : x.a ≤ p ∧ p < x.a + x.z
    · have : cX r p = 0 := cX_none (fun i y hy q => by
        have := no 0 (i + 1) x y rfl (by simpa using hy) c q
        omega)
      simp only [cX, this]
      unfold inC
      rw [if_pos c]
      rfl
    · have : cX r p = 1 := ih (by
        obtain ⟨i, y, hy, q⟩ := h
        cases i with
        | zero =>
          have e : x = y := by simpa using hy
          subst e
          exact absurd q c
        | succ i => exact ⟨i, y, by simpa using hy, q⟩) (fun i j y u hy hu q1 q2 => by
          have := no (i + 1) (j + 1) y u (by simpa using hy) (by simpa using hu) q1 q2
          omega)
      simp only [cX, this]
      unfold inC
      rw [if_neg c]
      rfl
theorem cL_none {l : List E} {p : Int} (h : ¬ Mem p l) : cL l p = 0 := by
  induction l with
  | nil => rfl
  | cons e r ih =>
    rw [mem_cons] at h
    have := ih (fun m => h (.inr m))
    simp only [cL, this]
    unfold inC
    rw [if_neg (fun q => h (.inl q))]
    rfl
theorem cL_once : ∀ {l : List E} {lo p : Int}, Norm lo l → Mem p l → cL l p = 1
  | [], _, p, _, m => absurd m (mem_nil p)
  | e :: r, lo, p, h, m => by
    obtain ⟨h1, h2, h3⟩ := h
    by_cases c : e.1 ≤ p ∧ p < e.1 + e.2
    · have : cL r p = 0 := cL_none (fun q => by have := h3.ge q; omega)
      simp only [cL, this]
      unfold inC
      rw [if_pos c]
      rfl
    · have : cL r p = 1 := cL_once h3 ((mem_cons.1 m).resolve_left c)
      simp only [cL, this]
      unfold inC
      rw [if_neg c]
      rfl
section
variable {n : Nat} {A S I J : Int} {F : Fo}
/-- Each word of the heap is counted once. -/
theorem Inv.once (h : Inv n A S I J F) {p : Int} (h1 : A ≤ p) (h2 : p < A + S) : cntR F.R n p + cntL F.L F.L.length p = 1 := by
  have eR : cntR F.R n p = cX (F.R.drop 1) p := by unfold cntR; rw [← h.len, List.take_length]
  have eL : cntL F.L F.L.length p = cL F.L p := by unfold cntL; rw [List.take_length]
  rw [eR, eL]
  have dr : ∀ (i : Nat) (x : Cx), (F.R.drop 1)[i]? = some x → F.R[i + 1]? = some x := fun i x hx => by
    rw [List.getElem?_drop] at hx
    rw [Nat.add_comm]
    exact hx
  by_cases m : Mem p F.L
  · rw [cL_once h.ok.norm m, cX_none (fun i x hx q => h.apartL (i + 1) x p (dr i x hx) (by omega) q.1 q.2 m)]
    rfl
  · rw [cL_none m]
    rcases h.cover p h1 h2 with q | ⟨i, x, hx, hi, q1, q2⟩
    · exact absurd q m
    · rw [cX_once ⟨i - 1, x, by rw [List.getElem?_drop, show 1 + (i - 1) = i by omega]; exact hx, q1, q2⟩ (fun i j x y hx hy p1 p2 => by
        rcases Nat.lt_trichotomy i j with c | c | c
        · exact absurd p2 (h.apart (i + 1) (j + 1) x y p (dr i x hx) (dr j y hy) (by omega) (by omega) (by omega) p1.1 p1.2)
        · exact c
        · exact absurd p2 (h.apart (i + 1) (j + 1) x y p (dr i x hx) (dr j y hy) (by omega) (by omega) (by omega) p1.1 p1.2))]
      rfl
def cs128 : Array Value := Array.replicate 128 (.int .i64 0)
theorem cs128_size : cs128.size = 128 := by simp [cs128]
theorem built128 : Try.prog.built 79 [] = some cs128 := by kernel_rfl
theorem info128 : (Try.prog.info? 79).map (fun i => (i.zero, i.size)) = some (some (.agg cs128), 128) := by kernel_rfl
theorem one128 : cs128.all (·.oneCell') = true := by kernel_rfl

set_option maxRecDepth 20000 in
theorem wpList_b128 {ops : Array Oper} {rest : List Oper} {o : Oper} {a : Act} {w : World} {Q : Exit → Act → World → Prop} (hg : o.guard = none) (ho : o.op = .build 79 #[])
    (h : wpList Try.prog ops Q rest (a.put o.dst (.agg cs128)) w) : wpList Try.prog ops Q (o :: rest) a w := by
  refine wpList_build hg 79 #[] ho ?_ ?_
  · simp only [List.map_toArray, List.map_nil, built128]
    rfl
  · simp only [List.map_toArray, List.map_nil, built128]
    exact h
set_option maxRecDepth 20000 in
theorem run_a128 (w : World) : (Instr.alloc 79 true (.tuple #[])).run Try.prog w = .ok (.pointer (some ⟨w.heap.size, 0, none⟩)) (w.alloc (.cells cs128 79)) := by
  have h := info128
  cases hi : Try.prog.info? 79 with
  | none => rw [hi] at h; cases h
  | some i =>
    rw [hi] at h
    injection h with h
    injection h with h1 h2
    simp [Instr.alloc, zeroValue, typeInfo, hi, h1, newVar, newRow, Value.cells]
theorem wpList_a128 {ops : Array Oper} {rest : List Oper} {o : Oper} {a : Act} {w : World} {Q : Exit → Act → World → Prop} (hg : o.guard = none) (ho : o.op = .alloc 79)
    (h : wpList Try.prog ops Q rest (a.put o.dst (.pointer (some ⟨w.heap.size, 0, none⟩))) (w.alloc (.cells cs128 79))) : wpList Try.prog ops Q (o :: rest) a w := by
  refine wpList_plain hg fun K hK => ?_
  unfold Oper.wp execOp
  simp only [ho, Sem.run_bind, Sem.run_pure, Result.andThen_ok, run_a128]
  exact hK _ _ h
set_option maxRecDepth 20000 in
theorem wpList_s128 {ops : Array Oper} {rest : List Oper} {o : Oper} {a : Act} {w : World} {Q : Exit → Act → World → Prop} (hg : o.guard = none) (x y : Operand) (ho : o.op = .store 79 x y)
    (hx : a.eval x = .pointer (some ⟨w.heap.size, 0, none⟩)) (hy : a.eval y = .agg cs128)
    (h : wpList Try.prog ops Q rest (a.put o.dst undef) ((w.alloc (.cells cs128 79)).setRow w.heap.size cs128)) : wpList Try.prog ops Q (o :: rest) a (w.alloc (.cells cs128 79)) := by
  refine wpList_store_row hg 79 x y ho w.heap.size cs128 hx hy 79 cs128 (heap_alloc_new w _) ?_ rfl one128 h
  rw [cs128_size]
  have h := info128
  cases hi : Try.prog.info? 79 with
  | none => rw [hi] at h; cases h
  | some i =>
    rw [hi] at h
    injection h with h
    injection h with h1 h2
    show some i.size = some 128
    rw [h2]
theorem row128 (w : World) : ((w.alloc (.cells cs128 79)).setRow w.heap.size cs128).rowIs w.heap.size 79 128 (fun _ => .int .i64 0) :=
  ⟨cs128, setRow_heap _ _ cs128 cs128 _ _ (heap_alloc_new w _), cs128_size, fun i hi => by simp [cs128, hi]⟩
theorem grown128 (w : World) : w.grownBy ((w.alloc (.cells cs128 79)).setRow w.heap.size cs128) none :=
  ⟨rfl, rfl, rfl, by simp, fun k hk _ => (setRow_other _ _ k _ (by omega)).trans (Below.heap_alloc w _ k hk)⟩
end
end Go.Proofs.Yteakglkagmghpaa.Sco

/-
  FoundWhole's rows: what is free, and behind it what each scope has that is not free; how often each word is in them.
-/
namespace Go.Proofs.Yteakglkagmghpaa.Fou
open Go.ChangeShapes Go.WideShapes Go.ChangeAt Go.RowKit
open Go.Proofs.Yteakglkagmghpaa.Mod Sco Amem Beg Gm
set_option linter.unusedVariables false
set_option linter.unusedSimpArgs false
set_option maxRecDepth 8000
/-- Extents, as a kind. -/
def kP : Slic.Kd E := { X := 68, T := 76, m := 2, by_ := 16, z := .agg #[.int .i64 0, .int .i64 0], enc := fun e => [.int .i64 e.1, .int .i64 e.2], len := fun _ => rfl, one := fun _ u h => by simp at h; rcases h with rfl | rfl <;> rfl, pos := by decide, small := by decide, zs := rfl, under := by kernel_rfl, info := by kernel_rfl, elem := by kernel_rfl }
theorem ex_sr {w : World} {V : Option Addr} {L : List E} {c : Nat} (h : Gr.Ex w (.slice V L.length c) L) : Slic.Sr kP w (.slice V L.length c) L := by
  rcases h with ⟨e, rfl⟩ | ⟨g, c', e, h1, h2, h3, h4⟩
  · injection e with e1 e2 e3
    subst e1 e3
    exact ⟨none, 0, rfl, Nat.le_refl _, Nat.zero_le _, fun _ => rfl, fun h => absurd h (by simp)⟩
  · injection e with e1 e2 e3
    subst e1 e3
    refine ⟨_, c, rfl, h1, h2, fun e => (by cases e), fun _ => ⟨g, 0, rfl, h3, fun i j u hi hu => ?_⟩⟩
    have h5 := h4 i hi
    rw [Nat.zero_add]
    cases j with
    | zero => obtain rfl := Option.some.inj hu; exact h5.1
    | succ j =>
      cases j with
      | zero => obtain rfl := Option.some.inj hu; exact h5.2
      | succ j => cases hu
/-- What the scopes ahead of the k-th one have that are not free, the immortal one left out. -/
def exs (R : List Cx) (k : Nat) : List E := (((R.take k).drop 1).filter (fun x => decide (x.s ≠ 0))).map fun x => (x.a, x.z)
theorem exs_one (R : List Cx) : exs R 1 = [] := by
  unfold exs
  cases R with
  | nil => rfl
  | cons x r => rfl
theorem exs_next {R : List Cx} {k : Nat} {x : Cx} (hk : 1 ≤ k) (hx : R[k]? = some x) : exs R (k + 1) = exs R k ++ (if x.s = 0 then [] else [(x.a, x.z)]) := by
  obtain ⟨hl, e⟩ := List.getElem?_eq_some_iff.1 hx
  unfold exs
  rw [List.take_succ_eq_append_getElem hl, e, List.drop_append_of_le_length (by rw [List.length_take]; omega), List.filter_append, List.map_append]
  congr 1
  by_cases h : x.s = 0
  · rw [if_pos h]
    simp [h]
  · rw [if_neg h]
    simp [h]
theorem exs_len (R : List Cx) (k : Nat) : (exs R k).length ≤ k := by
  unfold exs
  rw [List.length_map]
  refine Nat.le_trans (List.length_filter_le _ _) ?_
  rw [List.length_drop, List.length_take]
  omega
theorem cl_exs {n : Nat} {A S I J : Int} {F : Fo} (h : Inv n A S I J F) (p : Int) : ∀ k, 1 ≤ k → k ≤ n → cL (exs F.R k) p = cntR F.R k p := by
  intro k h1 hk
  induction k with
  | zero => omega
  | succ k ih =>
    by_cases h0 : k = 0
    · subst h0
      rw [exs_one, cntR_one]
      rfl
    · obtain ⟨x, hx⟩ : ∃ x, F.R[k]? = some x := ⟨_, List.getElem?_eq_getElem (by rw [h.len]; omega)⟩
      rw [exs_next (by omega) hx, cL_app, ih (by omega) (by omega), cntR_next (by omega) hx]
      congr 1
      rcases h.ext k x hx (by omega) with ⟨e, ea, ez⟩ | ⟨e, _⟩
      · rw [if_pos e, ea, ez]
        show (0 : Int) = inC 0 0 p
        unfold inC
        rw [if_neg (by omega)]
      · rw [if_neg e]
        show inC x.a x.z p + 0 = inC x.a x.z p
        omega
def rowsW (n : Nat) (F : Fo) : List E := F.L ++ exs F.R n
theorem rows_once {n : Nat} {A S I J : Int} {F : Fo} (h : Inv n A S I J F) {p : Int} (h1 : A ≤ p) (h2 : p < A + S) : cL (rowsW n F) p = 1 := by
  unfold rowsW
  rw [cL_app, cl_exs h p n h.n1 (Nat.le_refl _)]
  have := h.once h1 h2
  unfold cntL at this
  rw [List.take_length] at this
  omega
theorem exs_mem {n : Nat} {A S I J : Int} {F : Fo} (h : Inv n A S I J F) {e : E} {k : Nat} (he : e ∈ exs F.R k) : A ≤ e.1 ∧ e.1 % 8 = 0 ∧ 8 ≤ e.2 ∧ e.2 % 8 = 0 ∧ e.1 + e.2 ≤ A + S := by
  unfold exs at he
  obtain ⟨x, hx, rfl⟩ := List.mem_map.1 he
  obtain ⟨hx, hs⟩ := List.mem_filter.1 hx
  have hs : x.s ≠ 0 := by simpa using hs
  obtain ⟨j, hj⟩ := List.getElem?_of_mem hx
  rw [List.getElem?_drop, List.getElem?_take] at hj
  split at hj
  · rcases h.ext (1 + j) x hj (by omega) with ⟨e, _⟩ | ⟨_, z0, z8, a8, l1, l2⟩
    · exact absurd e hs
    · exact ⟨l1, a8, by show 8 ≤ x.z; omega, z8, l2⟩
  · cases hj
theorem rowsW_at {n : Nat} {A S I J : Int} {F : Fo} (h : Inv n A S I J F) {j : Nat} (hj : j < (rowsW n F).length) : A ≤ ((rowsW n F)[j]).1 ∧ ((rowsW n F)[j]).1 % 8 = 0 ∧ 8 ≤ ((rowsW n F)[j]).2 ∧ ((rowsW n F)[j]).2 % 8 = 0 ∧ ((rowsW n F)[j]).1 + ((rowsW n F)[j]).2 ≤ A + S := by
  have hm : (rowsW n F)[j] ∈ F.L ++ exs F.R n := List.getElem_mem hj
  rcases List.mem_append.1 hm with m | m
  · obtain ⟨k, hk, e⟩ := List.getElem_of_mem m
    rw [← e]
    have := h.ok.at_ hk
    omega
  · exact exs_mem h m
theorem rowsW_len {n : Nat} {A S I J : Int} {F : Fo} (h : Inv n A S I J F) : (rowsW n F).length ≤ F.L.length + n := by
  unfold rowsW
  rw [List.length_append]
  have := exs_len F.R n
  omega
end Go.Proofs.Yteakglkagmghpaa.Fou
