/-
  Contracts of plan.Heap and Size.
-/
import Derived.Test.YtkkmhapfhnnooaaPlanB
namespace Go.Proofs.Ytkkmhapfhnnooaa.Plan
open Go.ChangeShapes Go.WideShapes Go.ChangeAt Go.RowKit
set_option linter.unusedVariables false

theorem cell_old {w : World} {o : Obj} {b k : Nat} (h : b < w.heap.size) : (w.alloc o).cell? ⟨b, k, none⟩ = w.cell? ⟨b, k, none⟩ := ((Below.refl w.heap.size w).alloc (Nat.le_refl _) o).cell (p := ⟨b, k, none⟩) h

/-- What Heap carries over the call of end: its box (block b), its result (block c) and the immortal extent (block d). -/
structure Hs (w0 w : World) (b c d : Nat) (h a n : Int) : Prop where
  below : Below w0.heap.size w0 w
  lb : b < w.heap.size
  lc : c < w.heap.size
  ld : d < w.heap.size
  b3 : w.cell? ⟨b, 3, none⟩ = some (.int .i64 h)
  d0 : w.cell? ⟨d, 0, none⟩ = some (.int .i64 a)
  d1 : w.cell? ⟨d, 1, none⟩ = some (.int .i64 n)
  c0 : w.cell? ⟨c, 0, none⟩ = some (.int .i64 0)
  c1 : w.cell? ⟨c, 1, none⟩ = some (.int .i64 0)
  fz : ∀ o, w.frozen? ⟨c, o, none⟩ = false
theorem Hs.call {w0 w w' : World} {b c d : Nat} {h a n : Int} (H : Hs w0 w b c d h a n) (k : Below w.heap.size w w') : Hs w0 w' b c d h a n :=
  ⟨H.below.trans (k.mono H.below.size), Nat.lt_of_lt_of_le H.lb k.size, Nat.lt_of_lt_of_le H.lc k.size, Nat.lt_of_lt_of_le H.ld k.size, (k.cell (p := ⟨b, 3, none⟩) H.lb).trans H.b3, (k.cell (p := ⟨d, 0, none⟩) H.ld).trans H.d0, (k.cell (p := ⟨d, 1, none⟩) H.ld).trans H.d1, (k.cell (p := ⟨c, 0, none⟩) H.lc).trans H.c0, (k.cell (p := ⟨c, 1, none⟩) H.lc).trans H.c1, fun o => (k.frozen (p := ⟨c, o, none⟩) H.lc).trans (H.fz o)⟩
theorem Hs.lift {f : FuncId} {args : Array Value} {w0 w : World} {b c d : Nat} {h a n : Int} {r : Ending} (H : Hs w0 w b c d h a n) (k : Calls Try.prog f args w fun e w' => e = r ∧ Below w.heap.size w w') :
    Calls Try.prog f args w fun e w' => e = r ∧ Hs w0 w' b c d h a n := k.mono fun e w' ⟨he, k⟩ => ⟨he, H.call k⟩

set_option maxHeartbeats 1000000 in
theorem heap_any (s t i h : Int) (w : World) :
    Calls Try.prog 38 #[.agg #[.int .i64 s, .int .i64 t, .int .i64 i, .int .i64 h]] w fun z w' => z = .returned (.tuple #[.agg #[.int .i64 (heapV s t i h).at_, .int .i64 (heapV s t i h).size], .int .i64 (heapV s t i h).err]) ∧ Below w.heap.size w w' := by
  by_cases hr : rightB s t i h = true
  · obtain ⟨b1, b2, b3, b4, b5, b6, b7, b8, b9, b10⟩ := rbounds hr
    have HI : Hid (immV s t i h = ⟨64 * s, i, 0⟩) := Lib.hid (by unfold immV; rw [if_pos hr])
    have HR := Lib.hid hr
    go_enter Try.func38, Try.ntmps38
    go_wp2_with fail
    refine (imm_any _ _ _ _ _).mono ?_
    rintro z w1 ⟨rfl, k1⟩
    rw [HI.out]
    obtain ⟨q1, q2⟩ := bcell k1
    have hz : w.heap.size + 1 < w1.heap.size := by have := k1.size; simp at this; omega
    have a3 : w1.cell? ⟨w.heap.size, 3, none⟩ = some (.int .i64 h) := by rw [q1 _ _ (by simp; try omega)]; simp [go_sem]
    have c0 : w1.cell? ⟨w.heap.size + 1, 0, none⟩ = some (.int .i64 0) := by rw [q1 _ _ (by simp; try omega)]; simp [go_sem]
    have c1 : w1.cell? ⟨w.heap.size + 1, 1, none⟩ = some (.int .i64 0) := by rw [q1 _ _ (by simp; try omega)]; simp [go_sem]
    go_wp2_with fail
    have H0 : Hs w (w1.alloc (.cells #[.int .i64 (64 * s), .int .i64 i] 46)) w.heap.size (w.heap.size + 1) w1.heap.size h (64 * s) i := by
      have kV : Below w1.heap.size w1 (w1.alloc (.cells #[.int .i64 (64 * s), .int .i64 i] 46)) := (Below.refl _ _).alloc (Nat.le_refl _) _
      have KV := (((Below.refl _ w).alloc (Nat.le_refl _) _).alloc (by simp) _).trans ((k1.mono (by simp; omega)).trans (kV.mono (by omega)))
      exact ⟨KV, by simp; omega, by simp; omega, by simp, (kV.cell (p := ⟨_, 3, none⟩) (by simp; omega)).trans a3, by simp [go_sem], by simp [go_sem], (kV.cell (p := ⟨_, 0, none⟩) hz).trans c0, (kV.cell (p := ⟨_, 1, none⟩) hz).trans c1, fun o => (kV.frozen (p := ⟨_, o, none⟩) hz).trans ((q2 _ _ (by simp)).trans (by simp))⟩
    generalize w1.alloc (.cells #[.int .i64 (64 * s), .int .i64 i] 46) = V at *
    clear a3 c0 c1 q1 q2 k1
    have D0 := H0.call (Below.refl _ _).drew
    obtain ⟨g0, g1, g2, g3, g4, g5, g6, g7, g8, g9⟩ := H0
    go_region_held3 (fun w' => w'.cell? ⟨w.heap.size, 3, none⟩ = some (.int .i64 h) ∧ w'.cell? ⟨w1.heap.size, 0, none⟩ = some (.int .i64 (64 * s)) ∧ w'.cell? ⟨w1.heap.size, 1, none⟩ = some (.int .i64 i))
      (first | exact ⟨g4, g5, g6⟩ | exact ⟨r4, r5, r6⟩ | exact ⟨by simp [go_sem, r4], by simp [go_sem, r5], by simp [go_sem, r6]⟩)
      (first | (go_at_call 65; refine (D0.lift (end_any _ _ _ (by omega) (by omega) (by omega) (by omega))).mono ?_; rintro z w2 ⟨rfl, H2⟩; have ⟨r0, r1, r2, r3, r4, r5, r6, r7, r8, r9⟩ := H2))
    go_wp2
    refine bodyPost_ret (v := .tuple #[.agg #[.int .i64 (64 * s + i), .int .i64 h], .int .i64 0]) (by simp [results, Try.results38, go_sem, r7, r8]) rfl ⟨retX ?_, ?_⟩
    · unfold heapV; rw [if_pos HR.out]
    · exact (r0.setCell (by simp) _).setCell (by simp) _
  · have hf : rightB s t i h = false := by simpa using hr
    have HI : Hid (immV s t i h = ⟨0, 0, 1⟩) := Lib.hid (by unfold immV; rw [if_neg hr])
    have HR := Lib.hid hr
    clear hr
    go_enter Try.func38, Try.ntmps38
    go_wp2_with fail
    refine (imm_any _ _ _ _ _).mono ?_
    rintro z w1 ⟨rfl, k1⟩
    rw [HI.out]
    obtain ⟨q1, q2⟩ := bcell k1
    have hz : w.heap.size + 1 < w1.heap.size := by have := k1.size; simp at this; omega
    have c0 : w1.cell? ⟨w.heap.size + 1, 0, none⟩ = some (.int .i64 0) := by rw [q1 _ _ (by simp; try omega)]; simp [go_sem]
    have c1 : w1.cell? ⟨w.heap.size + 1, 1, none⟩ = some (.int .i64 0) := by rw [q1 _ _ (by simp; try omega)]; simp [go_sem]
    go_wp2
    refine bodyPost_ret (v := .tuple #[.agg #[.int .i64 0, .int .i64 0], .int .i64 1]) (by simp [results, Try.results38, go_sem, c0, c1, cell_old, hz]) rfl ⟨retX ?_, ?_⟩
    · unfold heapV; rw [if_neg HR.out]
    · exact (((((((Below.refl _ _).alloc (Nat.le_refl _) _).alloc (by simp) _).trans (k1.mono (by simp; omega))).setCell (by simp) _).setCell (by simp) _).alloc (by simp; omega) _)

end Go.Proofs.Ytkkmhapfhnnooaa.Plan
