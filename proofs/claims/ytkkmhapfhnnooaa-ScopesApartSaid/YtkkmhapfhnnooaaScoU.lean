/-
  What all scopes are and have, as the law sees it (seen): forty-eight numbers, built, made, stored and loaded as a whole.
-/
import Derived.Test.YtkkmhapfhnnooaaScoT
import Derived.Laws.Tables
namespace Go.Proofs.Ytkkmhapfhnnooaa.Sco
open Go.ChangeShapes Go.WideShapes Go.ChangeAt Go.RowKit
open Slic Gm
set_option linter.unusedVariables false
set_option linter.unusedSimpArgs false
attribute [local go_sem ↓] Go.wp_at_zero Go.wp_at_succ

def cs48 : Array Value := Array.replicate 48 (.int .i64 0)
theorem cs48_size : cs48.size = 48 := by simp [cs48]
theorem built48 : Try.prog.built 63 [] = some cs48 := by kernel_rfl
theorem info48 : (Try.prog.info? 63).map (fun i => (i.zero, i.size)) = some (some (.agg cs48), 48) := by kernel_rfl
theorem one48 : cs48.all (·.oneCell') = true := by kernel_rfl

theorem wpList_b48 {ops : Array Oper} {rest : List Oper} {o : Oper} {a : Act} {w : World} {Q : Exit → Act → World → Prop} (hg : o.guard = none) (ho : o.op = .build 63 #[])
    (h : wpList Try.prog ops Q rest (a.put o.dst (.agg cs48)) w) : wpList Try.prog ops Q (o :: rest) a w := by
  refine wpList_build hg 63 #[] ho ?_ ?_
  · simp only [List.map_toArray, List.map_nil, built48]
    rfl
  · simp only [List.map_toArray, List.map_nil, built48]
    exact h
set_option maxRecDepth 20000 in
theorem run_a48 (w : World) : (Instr.alloc 63 true (.tuple #[])).run Try.prog w = .ok (.pointer (some ⟨w.heap.size, 0, none⟩)) (w.alloc (.cells cs48 63)) := by
  have h := info48
  cases hi : Try.prog.info? 63 with
  | none => rw [hi] at h; cases h
  | some i =>
    rw [hi] at h
    injection h with h
    injection h with h1 h2
    simp [Instr.alloc, zeroValue, typeInfo, hi, h1, newVar, newRow, Value.cells]
theorem wpList_a48 {ops : Array Oper} {rest : List Oper} {o : Oper} {a : Act} {w : World} {Q : Exit → Act → World → Prop} (hg : o.guard = none) (ho : o.op = .alloc 63)
    (h : wpList Try.prog ops Q rest (a.put o.dst (.pointer (some ⟨w.heap.size, 0, none⟩))) (w.alloc (.cells cs48 63))) : wpList Try.prog ops Q (o :: rest) a w := by
  refine wpList_plain hg fun K hK => ?_
  unfold Oper.wp execOp
  simp only [ho, Sem.run_bind, Sem.run_pure, Result.andThen_ok, run_a48]
  exact hK _ _ h

theorem size48 : (Try.prog.info? 63).map (·.size) = some 48 := by kernel_rfl
/-- A whole All is stored over another one. -/
theorem wpList_s48 {ops : Array Oper} {rest : List Oper} {o : Oper} {a : Act} {w : World} {Q : Exit → Act → World → Prop} (hg : o.guard = none) (x y : Operand) (ho : o.op = .store 63 x y) (b : Nat) (cs old : Array Value)
    (hx : a.eval x = .pointer (some ⟨b, 0, none⟩)) (hy : a.eval y = .agg cs) (hb : w.heap[b]? = some (.cells old 63 (0, 0))) (h0 : old.size = 48) (h1 : cs.size = 48) (hone : cs.all (·.oneCell') = true)
    (h : wpList Try.prog ops Q rest (a.put o.dst undef) (w.setRow b cs)) : wpList Try.prog ops Q (o :: rest) a w :=
  wpList_store_row hg 63 x y ho b cs hx hy 63 old hb (by rw [size48, h1]) (by rw [h0, h1]) hone h
set_option maxRecDepth 20000 in
theorem wpList_l48 {ops : Array Oper} {rest : List Oper} {o : Oper} {a : Act} {w : World} {Q : Exit → Act → World → Prop} (hg : o.guard = none) (x : Operand) (ho : o.op = .load 63 x) (b : Nat) (cs : Array Value)
    (hx : a.eval x = .pointer (some ⟨b, 0, none⟩)) (hb : w.heap[b]? = some (.cells cs 63 (0, 0))) (h1 : cs.size = 48)
    (h : wpList Try.prog ops Q rest (a.put o.dst (.agg cs)) w) : wpList Try.prog ops Q (o :: rest) a w :=
  wpList_load_row hg 63 x ho b hx 63 cs (0, 0) _ hb Try.underlying63 rfl (by rw [size48, h1]) h

/-- Where scopes up to a were seen, and extents up to b. -/
def cv (R : List Cx) (i t : Nat) : Value := match R[i]? with | none => .int .i64 0 | some x => if t = 0 then .int .i64 x.s else if t = 1 then .int .i64 x.c else if t = 2 then .int .i64 x.p else .int .i64 x.e
def xv (R : List Cx) (i t : Nat) : Value := match R[i]? with | none => .int .i64 0 | some x => if t = 0 then .int .i64 x.a else .int .i64 x.z
def cell2 (R : List Cx) (a b j : Nat) : Value := if j < 32 then (if j / 4 < a then cv R (j / 4) (j % 4) else .int .i64 0) else (if (j - 32) / 2 < b then xv R ((j - 32) / 2) ((j - 32) % 2) else .int .i64 0)
def allA (R : List Cx) : Array Value := Array.ofFn (n := 48) fun j => cell2 R R.length R.length j
theorem allA_size (R : List Cx) : (allA R).size = 48 := by simp [allA]
theorem allA_get (R : List Cx) (j : Nat) (h : j < 48) : (allA R)[j]? = some (cell2 R R.length R.length j) := by simp [allA, h]
theorem cv_one (R : List Cx) (i t : Nat) : (cv R i t).oneCell' = true := by
  unfold cv
  split
  · rfl
  · split
    · rfl
    · split
      · rfl
      · split <;> rfl
theorem xv_one (R : List Cx) (i t : Nat) : (xv R i t).oneCell' = true := by
  unfold xv
  split
  · rfl
  · split <;> rfl
theorem cell2_one (R : List Cx) (a b j : Nat) : (cell2 R a b j).oneCell' = true := by
  unfold cell2
  split
  · split
    · exact cv_one R _ _
    · rfl
  · split
    · exact xv_one R _ _
    · rfl
theorem allA_one (R : List Cx) : (allA R).all (·.oneCell') = true := by
  rw [Array.all_eq_true]
  intro i hi
  simp only [allA, Array.getElem_ofFn]
  exact cell2_one R _ _ i
theorem allA_row {w : World} {b : Nat} {R : List Cx} (h : w.rowIs b 63 48 (cell2 R R.length R.length)) : w.heap[b]? = some (.cells (allA R) 63 (0, 0)) := by
  obtain ⟨c, hb, hs, hc⟩ := h
  have e : c = allA R := by
    apply Array.ext_getElem?
    intro i
    by_cases hi : i < 48
    · rw [hc i hi, allA_get R i hi]
    · rw [Array.getElem?_eq_none (by omega), Array.getElem?_eq_none (by rw [allA_size]; omega)]
  rw [e] at hb
  exact hb
theorem row_allA {w : World} {b : Nat} {R : List Cx} (h : w.heap[b]? = some (.cells (allA R) 63 (0, 0))) : w.rowIs b 63 48 (cell2 R R.length R.length) := ⟨_, h, allA_size R, fun i hi => allA_get R i hi⟩
theorem row48 {w : World} {b : Nat} (R : List Cx) (h : w.heap[b]? = some (.cells cs48 63 (0, 0))) : w.rowIs b 63 48 (cell2 R 0 0) :=
  ⟨_, h, cs48_size, fun i hi => by simp [cs48, hi, cell2]⟩
/-- A word is seen. -/
theorem row_c {w : World} {b i : Nat} {R : List Cx} {x : Cx} (h : w.rowIs b 63 48 (cell2 R i i)) (hx : R[i]? = some x) (hi : i < 8) :
    ((((w.setCell ⟨b, i * 4, none⟩ (.int .i64 x.s)).setCell ⟨b, i * 4 + 1, none⟩ (.int .i64 x.c)).setCell ⟨b, i * 4 + 2, none⟩ (.int .i64 x.p)).setCell ⟨b, i * 4 + 3, none⟩ (.int .i64 x.e)).rowIs b 63 48 (cell2 R (i + 1) i) := by
  refine ((((h.set (i * 4) _).set (i * 4 + 1) _).set (i * 4 + 2) _).set (i * 4 + 3) _).congr fun j hj => ?_
  have hcv : ∀ t, cv R i t = if t = 0 then .int .i64 x.s else if t = 1 then .int .i64 x.c else if t = 2 then .int .i64 x.p else .int .i64 x.e := fun t => by unfold cv; rw [hx]
  by_cases e3 : j = i * 4 + 3
  · subst e3
    simp only [if_true]
    unfold cell2
    rw [if_pos (by omega), if_pos (by omega), show (i * 4 + 3) / 4 = i by omega, show (i * 4 + 3) % 4 = 3 by omega, hcv]
    rfl
  · by_cases e2 : j = i * 4 + 2
    · subst e2
      simp only [e3, if_false, if_true]
      unfold cell2
      rw [if_pos (by omega), if_pos (by omega), show (i * 4 + 2) / 4 = i by omega, show (i * 4 + 2) % 4 = 2 by omega, hcv]
      rfl
    · by_cases e1 : j = i * 4 + 1
      · subst e1
        simp only [e3, e2, if_false, if_true]
        unfold cell2
        rw [if_pos (by omega), if_pos (by omega), show (i * 4 + 1) / 4 = i by omega, show (i * 4 + 1) % 4 = 1 by omega, hcv]
        rfl
      · by_cases e0 : j = i * 4
        · subst e0
          simp only [e3, e2, e1, if_false, if_true]
          unfold cell2
          rw [if_pos (by omega), if_pos (by omega), show i * 4 / 4 = i by omega, show i * 4 % 4 = 0 by omega, hcv]
          rfl
        · simp only [e3, e2, e1, e0, if_false]
          unfold cell2
          by_cases c : j < 32
          · rw [if_pos c, if_pos c]
            by_cases d : j / 4 < i
            · rw [if_pos d, if_pos (by omega)]
            · rw [if_neg d, if_neg (by omega)]
          · rw [if_neg c, if_neg c]
/-- An extent is seen. -/
theorem row_x {w : World} {b i : Nat} {R : List Cx} {x : Cx} (h : w.rowIs b 63 48 (cell2 R (i + 1) i)) (hx : R[i]? = some x) (hi : i < 8) :
    ((w.setCell ⟨b, 32 + i * 2, none⟩ (.int .i64 x.a)).setCell ⟨b, 32 + i * 2 + 1, none⟩ (.int .i64 x.z)).rowIs b 63 48 (cell2 R (i + 1) (i + 1)) := by
  refine ((h.set (32 + i * 2) _).set (32 + i * 2 + 1) _).congr fun j hj => ?_
  have hxv : ∀ t, xv R i t = if t = 0 then .int .i64 x.a else .int .i64 x.z := fun t => by unfold xv; rw [hx]
  by_cases e1 : j = 32 + i * 2 + 1
  · subst e1
    simp only [if_true]
    unfold cell2
    rw [if_neg (by omega), if_pos (by omega), show (32 + i * 2 + 1 - 32) / 2 = i by omega, show (32 + i * 2 + 1 - 32) % 2 = 1 by omega, hxv]
    rfl
  · by_cases e0 : j = 32 + i * 2
    · subst e0
      simp only [e1, if_false, if_true]
      unfold cell2
      rw [if_neg (by omega), if_pos (by omega), show (32 + i * 2 - 32) / 2 = i by omega, show (32 + i * 2 - 32) % 2 = 0 by omega, hxv]
      rfl
    · simp only [e1, e0, if_false]
      unfold cell2
      by_cases c : j < 32
      · rw [if_pos c, if_pos c]
      · rw [if_neg c, if_neg c]
        by_cases d : (j - 32) / 2 < i
        · rw [if_pos d, if_pos (by omega)]
        · rw [if_neg d, if_neg (by omega)]
end Go.Proofs.Ytkkmhapfhnnooaa.Sco
