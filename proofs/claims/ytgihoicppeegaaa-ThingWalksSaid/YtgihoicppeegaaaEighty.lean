/-
  The array of eighty words that ThingCuts makes: built, made and stored as a whole.
-/
import Derived.Test.YtgihoicppeegaaaOne
import Derived.Laws.Tables
namespace Go.Proofs.Ytgihoicppeegaaa.Thing
open Go.ChangeShapes Go.WideShapes Go.ChangeAt Go.RowKit
set_option linter.unusedVariables false

def cs80 : Array Value := Array.replicate 80 (.int .u64 0)
theorem cs80_size : cs80.size = 80 := by simp [cs80]
theorem built80 : Try.prog.built 64 [] = some cs80 := by kernel_rfl
theorem info80 : (Try.prog.info? 64).map (fun i => (i.zero, i.size)) = some (some (.agg cs80), 80) := by kernel_rfl
theorem one80 : cs80.all (·.oneCell') = true := by kernel_rfl

theorem wpList_b80 {ops : Array Oper} {rest : List Oper} {o : Oper} {a : Act} {w : World} {Q : Exit → Act → World → Prop} (hg : o.guard = none) (ho : o.op = .build 64 #[])
    (h : wpList Try.prog ops Q rest (a.put o.dst (.agg cs80)) w) : wpList Try.prog ops Q (o :: rest) a w := by
  refine wpList_build hg 64 #[] ho ?_ ?_
  · simp only [List.map_toArray, List.map_nil, built80]
    rfl
  · simp only [List.map_toArray, List.map_nil, built80]
    exact h
theorem run_a80 (w : World) : (Instr.alloc 64 true (.tuple #[])).run Try.prog w = .ok (.pointer (some ⟨w.heap.size, 0, none⟩)) (w.alloc (.cells cs80 64)) := by
  have h := info80
  cases hi : Try.prog.info? 64 with
  | none => rw [hi] at h; cases h
  | some i =>
    rw [hi] at h
    injection h with h
    injection h with h1 h2
    simp [Instr.alloc, zeroValue, typeInfo, hi, h1, newVar, newRow, Value.cells]
theorem wpList_a80 {ops : Array Oper} {rest : List Oper} {o : Oper} {a : Act} {w : World} {Q : Exit → Act → World → Prop} (hg : o.guard = none) (ho : o.op = .alloc 64)
    (h : wpList Try.prog ops Q rest (a.put o.dst (.pointer (some ⟨w.heap.size, 0, none⟩))) (w.alloc (.cells cs80 64))) : wpList Try.prog ops Q (o :: rest) a w := by
  refine wpList_plain hg fun K hK => ?_
  unfold Oper.wp execOp
  simp only [ho, Sem.run_bind, Sem.run_pure, Result.andThen_ok, run_a80]
  exact hK _ _ h
theorem wpList_s80 {ops : Array Oper} {rest : List Oper} {o : Oper} {a : Act} {w : World} {Q : Exit → Act → World → Prop} (hg : o.guard = none) (x y : Operand) (ho : o.op = .store 64 x y)
    (hx : a.eval x = .pointer (some ⟨w.heap.size, 0, none⟩)) (hy : a.eval y = .agg cs80)
    (h : wpList Try.prog ops Q rest (a.put o.dst undef) ((w.alloc (.cells cs80 64)).setRow w.heap.size cs80)) : wpList Try.prog ops Q (o :: rest) a (w.alloc (.cells cs80 64)) := by
  refine wpList_store_row hg 64 x y ho w.heap.size cs80 hx hy 64 cs80 (heap_alloc_new w _) ?_ rfl one80 h
  rw [cs80_size]
  have h := info80
  cases hi : Try.prog.info? 64 with
  | none => rw [hi] at h; cases h
  | some i =>
    rw [hi] at h
    injection h with h
    injection h with h1 h2
    show some i.size = some 80
    rw [h2]
theorem row80 (w : World) : ((w.alloc (.cells cs80 64)).setRow w.heap.size cs80).rowIs w.heap.size 64 80 (fun _ => .int .u64 0) :=
  ⟨cs80, setRow_heap _ _ cs80 cs80 _ _ (heap_alloc_new w _), cs80_size, fun i hi => by simp [cs80, hi]⟩
theorem grown80 (w : World) : w.grownBy ((w.alloc (.cells cs80 64)).setRow w.heap.size cs80) none :=
  ⟨rfl, rfl, rfl, by simp, fun k hk _ => (setRow_other _ _ k _ (by omega)).trans (Below.heap_alloc w _ k hk)⟩
end Go.Proofs.Ytgihoicppeegaaa.Thing
