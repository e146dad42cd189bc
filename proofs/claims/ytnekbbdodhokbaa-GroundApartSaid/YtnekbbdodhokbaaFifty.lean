/-
  The array of fifty bools that GroundApart makes: built, made and stored as a whole.
-/
import Derived.Test.YtnekbbdodhokbaaApart
import Derived.Laws.Tables
namespace Go.Proofs.Ytnekbbdodhokbaa.Gr
open Go.ChangeShapes Go.WideShapes Go.ChangeAt Go.RowKit Gm
set_option linter.unusedVariables false

def cs50 : Array Value := Array.replicate 50 (.bool false)
theorem cs50_size : cs50.size = 50 := by simp [cs50]
theorem built50 : Try.prog.built 43 [] = some cs50 := by kernel_rfl
theorem info50 : (Try.prog.info? 43).map (fun i => (i.zero, i.size)) = some (some (.agg cs50), 50) := by kernel_rfl
theorem one50 : cs50.all (·.oneCell') = true := by kernel_rfl

theorem wpList_b50 {ops : Array Oper} {rest : List Oper} {o : Oper} {a : Act} {w : World} {Q : Exit → Act → World → Prop} (hg : o.guard = none) (ho : o.op = .build 43 #[])
    (h : wpList Try.prog ops Q rest (a.put o.dst (.agg cs50)) w) : wpList Try.prog ops Q (o :: rest) a w := by
  refine wpList_build hg 43 #[] ho ?_ ?_
  · simp only [List.map_toArray, List.map_nil, built50]
    rfl
  · simp only [List.map_toArray, List.map_nil, built50]
    exact h
theorem run_a50 (w : World) : (Instr.alloc 43 true (.tuple #[])).run Try.prog w = .ok (.pointer (some ⟨w.heap.size, 0, none⟩)) (w.alloc (.cells cs50 43)) := by
  have h := info50
  cases hi : Try.prog.info? 43 with
  | none => rw [hi] at h; cases h
  | some i =>
    rw [hi] at h
    injection h with h
    injection h with h1 h2
    simp [Instr.alloc, zeroValue, typeInfo, hi, h1, newVar, newRow, Value.cells]
theorem wpList_a50 {ops : Array Oper} {rest : List Oper} {o : Oper} {a : Act} {w : World} {Q : Exit → Act → World → Prop} (hg : o.guard = none) (ho : o.op = .alloc 43)
    (h : wpList Try.prog ops Q rest (a.put o.dst (.pointer (some ⟨w.heap.size, 0, none⟩))) (w.alloc (.cells cs50 43))) : wpList Try.prog ops Q (o :: rest) a w := by
  refine wpList_plain hg fun K hK => ?_
  unfold Oper.wp execOp
  simp only [ho, Sem.run_bind, Sem.run_pure, Result.andThen_ok, run_a50]
  exact hK _ _ h
theorem wpList_s50 {ops : Array Oper} {rest : List Oper} {o : Oper} {a : Act} {w : World} {Q : Exit → Act → World → Prop} (hg : o.guard = none) (x y : Operand) (ho : o.op = .store 43 x y)
    (hx : a.eval x = .pointer (some ⟨w.heap.size, 0, none⟩)) (hy : a.eval y = .agg cs50)
    (h : wpList Try.prog ops Q rest (a.put o.dst undef) ((w.alloc (.cells cs50 43)).setRow w.heap.size cs50)) : wpList Try.prog ops Q (o :: rest) a (w.alloc (.cells cs50 43)) := by
  refine wpList_store_row hg 43 x y ho w.heap.size cs50 hx hy 43 cs50 (heap_alloc_new w _) ?_ rfl one50 h
  rw [cs50_size]
  have h := info50
  cases hi : Try.prog.info? 43 with
  | none => rw [hi] at h; cases h
  | some i =>
    rw [hi] at h
    injection h with h
    injection h with h1 h2
    show some i.size = some 50
    rw [h2]
theorem row50 (w : World) : ((w.alloc (.cells cs50 43)).setRow w.heap.size cs50).rowIs w.heap.size 43 50 (fun _ => .bool false) :=
  ⟨cs50, setRow_heap _ _ cs50 cs50 _ _ (heap_alloc_new w _), cs50_size, fun i hi => by simp [cs50, hi]⟩
theorem grown50 (w : World) : w.grownBy ((w.alloc (.cells cs50 43)).setRow w.heap.size cs50) none :=
  ⟨rfl, rfl, rfl, by simp, fun k hk _ => (setRow_other _ _ k _ (by omega)).trans (Below.heap_alloc w _ k hk)⟩
end Go.Proofs.Ytnekbbdodhokbaa.Gr
