/-
  Contracts of fin's kindOf, rightOp, rightProgram, Right, and of the document's in, one, Right.
-/
import Derived.Test.YtapbhcpcechccaaFinaM
import Derived.Laws.Tables
import Derived.Laws.EntriesVeiled
namespace Go.Proofs.Ytapbhcpcechccaa.Fina
open Go.ChangeShapes Go.WideShapes Go.ChangeAt Go.RowKit
open Slic
set_option linter.unusedVariables false

/-- The five kinds, laid one behind the other. -/
def ks : Array Value := #[.int .i64 99, .int .i64 0, .bool false, .bool false, .func (.func 32) #[] #[],
  .int .i64 5, .int .i64 0, .bool true, .bool false, .func (.func 33) #[] #[],
  .int .i64 5, .int .i64 5, .bool true, .bool true, .func (.func 34) #[] #[],
  .int .i64 5, .int .i64 8, .bool true, .bool false, .func (.func 35) #[] #[],
  .int .i64 0, .int .i64 0, .bool false, .bool false, .func (.func 36) #[] #[]]
theorem info_ks : (Try.prog.info? 59).map (·.size) = some ks.size := by kernel_rfl
theorem one_ks : ks.all (·.oneCell') = true := by kernel_rfl
theorem wpList_ks {ops : Array Oper} {rest : List Oper} {o : Oper} {a : Act} {w : World} {rc zs : Array Value} {Q : Exit → Act → World → Prop} (hg : o.guard = none) (x y : Operand) (ho : o.op = .store 59 x y)
    (hx : a.eval x = .pointer (some ⟨w.heap.size + 1, 0, none⟩)) (hy : a.eval y = .agg ks) (hz : zs.size = ks.size)
    (h : ∀ W, W.heap.size = w.heap.size + 2 → Below w.heap.size w W → (∀ k, W.cell? ⟨w.heap.size + 1, k, none⟩ = ks[k]?) → (∀ k, W.cell? ⟨w.heap.size, k, none⟩ = rc[k]?) → (∀ k, W.frozen? ⟨w.heap.size, k, none⟩ = false) → wpList Try.prog ops Q rest (a.put o.dst undef) W) :
    wpList Try.prog ops Q (o :: rest) a ((w.alloc (.cells rc 55)).alloc (.cells zs 59)) := by
  have e : (w.alloc (.cells rc 55)).heap.size = w.heap.size + 1 := by simp
  have hb := heap_alloc_new (w.alloc (.cells rc 55)) (.cells zs 59)
  rw [e] at hb
  have ho2 : ((w.alloc (.cells rc 55)).alloc (.cells zs 59)).heap[w.heap.size]? = some (.cells rc 55 (0, 0)) := by
    rw [Below.heap_alloc _ _ _ (by rw [e]; omega)]
    exact heap_alloc_new w _
  refine wpList_store_row hg 59 x y ho (w.heap.size + 1) ks hx hy 59 zs hb info_ks hz one_ks (h _ ?_ ?_ ?_ ?_ ?_)
  · simp [World.setRow]
  · refine ⟨rfl, rfl, rfl, by simp [World.setRow]; omega, fun k hk => ?_⟩
    rw [setRow_other _ _ k _ (by omega)]
    exact (Below.heap_alloc _ _ k (by rw [e]; omega)).trans (Below.heap_alloc w _ k hk)
  · exact fun k => cell_setRow_same _ _ k zs ks _ _ hb
  · intro k
    have hb' := (setRow_other ((w.alloc (.cells rc 55)).alloc (.cells zs 59)) (w.heap.size + 1) w.heap.size ks (by omega)).trans ho2
    exact cell_of_row _ w.heap.size k rc _ _ hb'
  · intro k
    have hb' := (setRow_other ((w.alloc (.cells rc 55)).alloc (.cells zs 59)) (w.heap.size + 1) w.heap.size ks (by omega)).trans ho2
    exact frozen_of_row _ w.heap.size k rc _ hb'

/-- Which kind an op is of. -/
def Kinds (op : Int) (w : World) (e : Ending) (w' : World) : Prop :=
  ((op = 0 ∧ e = .returned (.tuple #[.agg #[.int .i64 99, .int .i64 0, .bool false, .bool false, .func (.func 32) #[] #[]], .bool true])) ∨
   (op = 1 ∧ e = .returned (.tuple #[.agg #[.int .i64 5, .int .i64 0, .bool true, .bool false, .func (.func 33) #[] #[]], .bool true])) ∨
   (op = 2 ∧ e = .returned (.tuple #[.agg #[.int .i64 5, .int .i64 5, .bool true, .bool true, .func (.func 34) #[] #[]], .bool true])) ∨
   (op = 3 ∧ e = .returned (.tuple #[.agg #[.int .i64 5, .int .i64 8, .bool true, .bool false, .func (.func 35) #[] #[]], .bool true])) ∨
   (op = 4 ∧ e = .returned (.tuple #[.agg #[.int .i64 0, .int .i64 0, .bool false, .bool false, .func (.func 36) #[] #[]], .bool true])) ∨
   (5 ≤ op ∧ e = .returned (.tuple #[.agg #[.int .i64 0, .int .i64 0, .bool false, .bool false, .nilFunc], .bool false]))) ∧ Below w.heap.size w w'
set_option maxRecDepth 100000 in
set_option maxHeartbeats 2000000 in
theorem kind_any (op : Int) (w : World) (h0 : 0 ≤ op) (h1 : op ≤ 255) : Calls Try.prog 30 #[.int .u8 op] w (Kinds op w) := by
  by_cases h5 : 5 ≤ op
  · go_enter Try.func30, Try.ntmps30
    go_wp2_with (refine wpList_ks (o := ⟨none, _, _, _, _, _⟩) rfl (.tmp 4) (.tmp 10) rfl rfl rfl rfl ?_)
    intro W hz hB hc hr hf
    have r0 := hr 0
    have r1 := hr 1
    have r2 := hr 2
    have r3 := hr 3
    have r4 := hr 4
    have f0 := hf 0
    have f1 := hf 1
    have f2 := hf 2
    have f3 := hf 3
    have f4 := hf 4
    simp at r0 r1 r2 r3 r4
    clear hr hf hc
    have HZ := Lib.hid hz
    clear hz
    go_wp2
    refine bodyPost_ret (v := .tuple #[.agg #[.int .i64 0, .int .i64 0, .bool false, .bool false, .nilFunc], .bool false]) (by simp [results, Try.results30, go_sem, r0, r1, r2, r3, r4]) rfl ⟨.inr (.inr (.inr (.inr (.inr ⟨h5, rfl⟩)))), ?_⟩
    exact ((((hB.setCell (Nat.le_refl _) _).setCell (Nat.le_refl _) _).setCell (Nat.le_refl _) _).setCell (Nat.le_refl _) _).setCell (Nat.le_refl _) _
  · have : op = 0 ∨ op = 1 ∨ op = 2 ∨ op = 3 ∨ op = 4 := by omega
    clear h0 h1 h5
    rcases this with rfl | rfl | rfl | rfl | rfl
    · go_enter Try.func30, Try.ntmps30
      go_wp2_with (refine wpList_ks (o := ⟨none, _, _, _, _, _⟩) rfl (.tmp 4) (.tmp 10) rfl rfl rfl rfl ?_)
      intro W hz hB hc hr hf
      have r0 := hr 0
      have r1 := hr 1
      have r2 := hr 2
      have r3 := hr 3
      have r4 := hr 4
      have f0 := hf 0
      have f1 := hf 1
      have f2 := hf 2
      have f3 := hf 3
      have f4 := hf 4
      have d0 := (hc 0).trans rfl
      have d1 := (hc 1).trans rfl
      have d2 := (hc 2).trans rfl
      have d3 := (hc 3).trans rfl
      have d4 := (hc 4).trans rfl
      simp [ks] at r0 r1 r2 r3 r4 d0 d1 d2 d3 d4
      clear hr hf hc
      have HZ := Lib.hid hz
      clear hz
      go_wp2
      refine bodyPost_ret (v := .tuple #[.agg #[.int .i64 99, .int .i64 0, .bool false, .bool false, .func (.func 32) #[] #[]], .bool true]) (by simp [results, Try.results30, go_sem, r0, r1, r2, r3, r4]) rfl ⟨.inl ⟨rfl, rfl⟩, ?_⟩
      exact ((((hB.setCell (Nat.le_refl _) _).setCell (Nat.le_refl _) _).setCell (Nat.le_refl _) _).setCell (Nat.le_refl _) _).setCell (Nat.le_refl _) _
    · go_enter Try.func30, Try.ntmps30
      go_wp2_with (refine wpList_ks (o := ⟨none, _, _, _, _, _⟩) rfl (.tmp 4) (.tmp 10) rfl rfl rfl rfl ?_)
      intro W hz hB hc hr hf
      have r0 := hr 0
      have r1 := hr 1
      have r2 := hr 2
      have r3 := hr 3
      have r4 := hr 4
      have f0 := hf 0
      have f1 := hf 1
      have f2 := hf 2
      have f3 := hf 3
      have f4 := hf 4
      have d0 := (hc 5).trans rfl
      have d1 := (hc 6).trans rfl
      have d2 := (hc 7).trans rfl
      have d3 := (hc 8).trans rfl
      have d4 := (hc 9).trans rfl
      simp [ks] at r0 r1 r2 r3 r4 d0 d1 d2 d3 d4
      clear hr hf hc
      have HZ := Lib.hid hz
      clear hz
      go_wp2
      refine bodyPost_ret (v := .tuple #[.agg #[.int .i64 5, .int .i64 0, .bool true, .bool false, .func (.func 33) #[] #[]], .bool true]) (by simp [results, Try.results30, go_sem, r0, r1, r2, r3, r4]) rfl ⟨.inr (.inl ⟨rfl, rfl⟩), ?_⟩
      exact ((((hB.setCell (Nat.le_refl _) _).setCell (Nat.le_refl _) _).setCell (Nat.le_refl _) _).setCell (Nat.le_refl _) _).setCell (Nat.le_refl _) _
    · go_enter Try.func30, Try.ntmps30
      go_wp2_with (refine wpList_ks (o := ⟨none, _, _, _, _, _⟩) rfl (.tmp 4) (.tmp 10) rfl rfl rfl rfl ?_)
      intro W hz hB hc hr hf
      have r0 := hr 0
      have r1 := hr 1
      have r2 := hr 2
      have r3 := hr 3
      have r4 := hr 4
      have f0 := hf 0
      have f1 := hf 1
      have f2 := hf 2
      have f3 := hf 3
      have f4 := hf 4
      have d0 := (hc 10).trans rfl
      have d1 := (hc 11).trans rfl
      have d2 := (hc 12).trans rfl
      have d3 := (hc 13).trans rfl
      have d4 := (hc 14).trans rfl
      simp [ks] at r0 r1 r2 r3 r4 d0 d1 d2 d3 d4
      clear hr hf hc
      have HZ := Lib.hid hz
      clear hz
      go_wp2
      refine bodyPost_ret (v := .tuple #[.agg #[.int .i64 5, .int .i64 5, .bool true, .bool true, .func (.func 34) #[] #[]], .bool true]) (by simp [results, Try.results30, go_sem, r0, r1, r2, r3, r4]) rfl ⟨.inr (.inr (.inl ⟨rfl, rfl⟩)), ?_⟩
      exact ((((hB.setCell (Nat.le_refl _) _).setCell (Nat.le_refl _) _).setCell (Nat.le_refl _) _).setCell (Nat.le_refl _) _).setCell (Nat.le_refl _) _
    · go_enter Try.func30, Try.ntmps30
      go_wp2_with (refine wpList_ks (o := ⟨none, _, _, _, _, _⟩) rfl (.tmp 4) (.tmp 10) rfl rfl rfl rfl ?_)
      intro W hz hB hc hr hf
      have r0 := hr 0
      have r1 := hr 1
      have r2 := hr 2
      have r3 := hr 3
      have r4 := hr 4
      have f0 := hf 0
      have f1 := hf 1
      have f2 := hf 2
      have f3 := hf 3
      have f4 := hf 4
      have d0 := (hc 15).trans rfl
      have d1 := (hc 16).trans rfl
      have d2 := (hc 17).trans rfl
      have d3 := (hc 18).trans rfl
      have d4 := (hc 19).trans rfl
      simp [ks] at r0 r1 r2 r3 r4 d0 d1 d2 d3 d4
      clear hr hf hc
      have HZ := Lib.hid hz
      clear hz
      go_wp2
      refine bodyPost_ret (v := .tuple #[.agg #[.int .i64 5, .int .i64 8, .bool true, .bool false, .func (.func 35) #[] #[]], .bool true]) (by simp [results, Try.results30, go_sem, r0, r1, r2, r3, r4]) rfl ⟨.inr (.inr (.inr (.inl ⟨rfl, rfl⟩))), ?_⟩
      exact ((((hB.setCell (Nat.le_refl _) _).setCell (Nat.le_refl _) _).setCell (Nat.le_refl _) _).setCell (Nat.le_refl _) _).setCell (Nat.le_refl _) _
    · go_enter Try.func30, Try.ntmps30
      go_wp2_with (refine wpList_ks (o := ⟨none, _, _, _, _, _⟩) rfl (.tmp 4) (.tmp 10) rfl rfl rfl rfl ?_)
      intro W hz hB hc hr hf
      have r0 := hr 0
      have r1 := hr 1
      have r2 := hr 2
      have r3 := hr 3
      have r4 := hr 4
      have f0 := hf 0
      have f1 := hf 1
      have f2 := hf 2
      have f3 := hf 3
      have f4 := hf 4
      have d0 := (hc 20).trans rfl
      have d1 := (hc 21).trans rfl
      have d2 := (hc 22).trans rfl
      have d3 := (hc 23).trans rfl
      have d4 := (hc 24).trans rfl
      simp [ks] at r0 r1 r2 r3 r4 d0 d1 d2 d3 d4
      clear hr hf hc
      have HZ := Lib.hid hz
      clear hz
      go_wp2
      refine bodyPost_ret (v := .tuple #[.agg #[.int .i64 0, .int .i64 0, .bool false, .bool false, .func (.func 36) #[] #[]], .bool true]) (by simp [results, Try.results30, go_sem, r0, r1, r2, r3, r4]) rfl ⟨.inr (.inr (.inr (.inr (.inl ⟨rfl, rfl⟩)))), ?_⟩
      exact ((((hB.setCell (Nat.le_refl _) _).setCell (Nat.le_refl _) _).setCell (Nat.le_refl _) _).setCell (Nat.le_refl _) _).setCell (Nat.le_refl _) _
end Go.Proofs.Ytapbhcpcechccaa.Fina
