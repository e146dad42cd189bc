/-
  The array of a hundred and twenty-eight counts that ScopesApart makes: built, made and stored as a whole.
-/
import Derived.Test.YtkkmhapfhnnooaaScoK
import Derived.Laws.Tables
namespace Go.Proofs.Ytkkmhapfhnnooaa.Sco
open Go.ChangeShapes Go.WideShapes Go.ChangeAt Go.RowKit
set_option linter.unusedVariables false

def cs128 : Array Value := Array.replicate 128 (.int .i64 0)
theorem cs128_size : cs128.size = 128 := by simp [cs128]
theorem built128 : Try.prog.built 58 [] = some cs128 := by kernel_rfl
theorem info128 : (Try.prog.info? 58).map (fun i => (i.zero, i.size)) = some (some (.agg cs128), 128) := by kernel_rfl
theorem one128 : cs128.all (·.oneCell') = true := by kernel_rfl

set_option maxRecDepth 20000 in
theorem wpList_b128 {ops : Array Oper} {rest : List Oper} {o : Oper} {a : Act} {w : World} {Q : Exit → Act → World → Prop} (hg : o.guard = none) (ho : o.op = .build 58 #[])
    (h : wpList Try.prog ops Q rest (a.put o.dst (.agg cs128)) w) : wpList Try.prog ops Q (o :: rest) a w := by
  refine wpList_build hg 58 #[] ho ?_ ?_
  · simp only [List.map_toArray, List.map_nil, built128]
    rfl
  · simp only [List.map_toArray, List.map_nil, built128]
    exact h
set_option maxRecDepth 20000 in
theorem run_a128 (w : World) : (Instr.alloc 58 true (.tuple #[])).run Try.prog w = .ok (.pointer (some ⟨w.heap.size, 0, none⟩)) (w.alloc (.cells cs128 58)) := by
  have h := info128
  cases hi : Try.prog.info? 58 with
  | none => rw [hi] at h; cases h
  | some i =>
    rw [hi] at h
    injection h with h
    injection h with h1 h2
    simp [Instr.alloc, zeroValue, typeInfo, hi, h1, newVar, newRow, Value.cells]
theorem wpList_a128 {ops : Array Oper} {rest : List Oper} {o : Oper} {a : Act} {w : World} {Q : Exit → Act → World → Prop} (hg : o.guard = none) (ho : o.op = .alloc 58)
    (h : wpList Try.prog ops Q rest (a.put o.dst (.pointer (some ⟨w.heap.size, 0, none⟩))) (w.alloc (.cells cs128 58))) : wpList Try.prog ops Q (o :: rest) a w := by
  refine wpList_plain hg fun K hK => ?_
  unfold Oper.wp execOp
  simp only [ho, Sem.run_bind, Sem.run_pure, Result.andThen_ok, run_a128]
  exact hK _ _ h
set_option maxRecDepth 20000 in
theorem wpList_s128 {ops : Array Oper} {rest : List Oper} {o : Oper} {a : Act} {w : World} {Q : Exit → Act → World → Prop} (hg : o.guard = none) (x y : Operand) (ho : o.op = .store 58 x y)
    (hx : a.eval x = .pointer (some ⟨w.heap.size, 0, none⟩)) (hy : a.eval y = .agg cs128)
    (h : wpList Try.prog ops Q rest (a.put o.dst undef) ((w.alloc (.cells cs128 58)).setRow w.heap.size cs128)) : wpList Try.prog ops Q (o :: rest) a (w.alloc (.cells cs128 58)) := by
  refine wpList_store_row hg 58 x y ho w.heap.size cs128 hx hy 58 cs128 (heap_alloc_new w _) ?_ rfl one128 h
  rw [cs128_size]
  have h := info128
  cases hi : Try.prog.info? 58 with
  | none => rw [hi] at h; cases h
  | some i =>
    rw [hi] at h
    injection h with h
    injection h with h1 h2
    show some i.size = some 128
    rw [h2]
theorem row128 (w : World) : ((w.alloc (.cells cs128 58)).setRow w.heap.size cs128).rowIs w.heap.size 58 128 (fun _ => .int .i64 0) :=
  ⟨cs128, setRow_heap _ _ cs128 cs128 _ _ (heap_alloc_new w _), cs128_size, fun i hi => by simp [cs128, hi]⟩
theorem grown128 (w : World) : w.grownBy ((w.alloc (.cells cs128 58)).setRow w.heap.size cs128) none :=
  ⟨rfl, rfl, rfl, by simp, fun k hk _ => (setRow_other _ _ k _ (by omega)).trans (Below.heap_alloc w _ k hk)⟩
end Go.Proofs.Ytkkmhapfhnnooaa.Sco
