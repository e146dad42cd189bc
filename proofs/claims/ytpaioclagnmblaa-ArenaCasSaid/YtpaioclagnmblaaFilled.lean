/-
  penfoldlaw02.filled: an arena of 20 words, each the one that is told, in new memory.
-/
import Derived.Test.YtpaioclagnmblaaShown
namespace Go.Proofs.Ytpaioclagnmblaa.Arena
open Go.ChangeShapes Go.WideShapes Go.ChangeAt Go.RowKit Mem
set_option linter.unusedVariables false

def upTo (z : Nat → Int) (k : Nat) : Nat → Int := fun i => if i < k then z i else 0
theorem upTo_none (z : Nat → Int) : upTo z 0 = fun _ => 0 := by funext i; unfold upTo; rw [if_neg (by omega)]
theorem upTo_step (z : Nat → Int) (k : Nat) : setF (upTo z k) k (z k) = upTo z (k + 1) := by
  funext j
  unfold setF upTo
  by_cases e : j = k
  · subst e
    rw [if_pos rfl, if_pos (by omega)]
  · rw [if_neg e]
    by_cases e' : j < k
    · rw [if_pos e', if_pos (by omega)]
    · rw [if_neg e', if_neg (by omega)]
theorem upTo_at (z : Nat → Int) (k i : Nat) (h : i < k) : upTo z k i = z i := if_pos h
/-- The cells of an array of 20 words. -/
def cs20 (z : Nat → Int) : Array Value := Array.ofFn (n := 20) fun i => .int .u64 (z i)
theorem cs20_row (w : World) (z : Nat → Int) : (w.alloc (.cells (cs20 z) 55)).rowIs w.heap.size 55 20 (fun i => .int .u64 (z i)) := by
  have hs : (cs20 z).size = 20 := by simp [cs20]
  have h := World.rowIs_alloc w (cs20 z) 55 (fun i => .int .u64 (z i)) (fun i hi => by simp [cs20, Array.getElem?_ofFn]; omega)
  rw [hs] at h
  exact h

theorem size_alloc (w : World) (o : Obj) : (w.alloc o).heap.size = w.heap.size + 1 := by simp

set_option maxHeartbeats 400000 in
theorem filled_any (w : World) (z : Nat → Int) (hz : ∀ i, (Lit.int .u64 (z i)).wf = true) :
    Calls Try.prog 28 #[.agg (cs20 z)] w fun e w' => e = .returned (.pointer (some ⟨w.heap.size + 2, 0, none⟩)) ∧ Ar w' (w.heap.size + 2) (w.heap.size + 1) 20 (upTo z 20) ∧ Below w.heap.size w w' ∧ w.heap.size + 3 ≤ w'.heap.size := by
  go_enter Try.func28, Try.ntmps28
  go_wp2_with fail
  have r0 := cs20_row w z
  have b0 : Below w.heap.size w (w.alloc (.cells (cs20 z) 55)) := (Below.refl _ _).alloc (Nat.le_refl _) _
  refine (new_at _ _ 20 rfl (by omega)).mono ?_
  rintro e w1 ⟨rfl, h1, k1, z1⟩
  rw [size_alloc] at h1 k1 z1
  rw [size_alloc]
  have Z1 := Lib.hid z1
  have R1 := r0.of_block (k1.block _ (by omega))
  have B1 := b0.trans (k1.mono (by omega))
  clear z1 k1 r0 b0
  go_wp2_with fail
  go_loopw [5] (fun t wr => ∃ k : Nat, k ≤ 20 ∧ t = .int .i64 k ∧ Ar wr (w.heap.size + 1 + 1) (w.heap.size + 1) 20 (upTo z k) ∧ w1.grownBy wr (some (w.heap.size + 1))) (fun t _ => 20 - (intOf t).toNat)
  case atStart => exact ⟨0, by omega, rfl, by rw [upTo_none]; exact h1, World.grownBy.refl _ _⟩
  case round =>
    obtain ⟨k, hk, rfl, hA, hG⟩ := hrel
    by_cases hlt : k < 20
    · have hc : wr.cell? ⟨w.heap.size, k, none⟩ = some (.int .u64 (z k)) := (R1.of_block (hG.block _ (by have := Z1.out; omega) (by intro e; injection e; omega))).cell (i := k) hlt
      have ⟨z1, z2⟩ := bounds_u64 (hz k)
      go_wp2_with fail
      refine (put_ok _ _ _ 20 k _ _ (z k) hA hlt (by omega) z1 z2).mono ?_
      rintro e w2 ⟨rfl, h2, g2⟩
      go_wp2_with fail
      go_roundw
      case rel => exact ⟨k + 1, by omega, by go_num, by rw [← upTo_step]; exact h2, only_trans hG g2⟩
      case measure => simp [intOf]; omega
    · obtain rfl : k = 20 := by omega
      go_wp2_with fail
      go_ret
      exact ⟨rfl, hA, below_only B1 hG (by have := Z1.out; omega) (by omega), by have := hG.size; have := Z1.out; omega⟩

theorem info20 (z : Nat → Int) : (Try.prog.info? 55).map (·.size) = some (cs20 z).size := by
  rw [show (cs20 z).size = 20 by simp [cs20]]
  kernel_rfl
theorem cs20_of {w : World} {b : Nat} {z : Nat → Int} (h : w.heap[b]? = some (.cells (cs20 z) 55 (0, 0))) : w.rowIs b 55 20 (fun i => .int .u64 (z i)) :=
  ⟨cs20 z, h, by simp [cs20], fun i hi => by simp [cs20, hi]⟩
theorem heap_new (w : World) (o : Obj) : (w.alloc o).heap[w.heap.size]? = some o := by
  show (w.heap.push o)[w.heap.size]? = _
  rw [Array.getElem?_push, if_pos rfl]
end Go.Proofs.Ytpaioclagnmblaa.Arena
