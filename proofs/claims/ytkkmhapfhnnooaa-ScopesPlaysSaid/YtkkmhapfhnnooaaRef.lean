/-
  Contracts of the document's own answers for layer 4 (penfoldref04), over the invariant Rf (words, free or not, in one row): New, Extents, set.
-/
import Derived.Test.YtkkmhapfhnnooaaShown
import Derived.Laws.MakeOwn
import Derived.Laws.Entries
import Derived.Deep.AppendLies
namespace Go.Proofs.Ytkkmhapfhnnooaa.Ref
open Go.ChangeShapes Go.WideShapes Go.ChangeAt Go.RowKit Gm Gr
set_option linter.unusedVariables false
set_option linter.unusedSimpArgs false

def rh (A : Int) (g n : Nat) : Nat → Value := fun i => if i = 0 then .int .i64 A else .slice (some ⟨g, 0, none⟩) n n
structure Rf (w : World) (C g : Nat) (A : Int) (n : Nat) (F : Nat → Bool) : Prop where
  head : w.rowIs C 92 2 (rh A g n)
  body : w.rowIs g 4 n (fun i => .bool (F i))
theorem rows_ne {w : World} {a b : Nat} {s t : TypeId} {m n : Nat} {f g : Nat → Value} (h : w.rowIs a s m f) (k : w.rowIs b t n g) (hne : s ≠ t) : a ≠ b := by
  rintro rfl
  obtain ⟨c, hc, _⟩ := h
  obtain ⟨d, hd, _⟩ := k
  rw [hc] at hd
  injection hd with hd
  injection hd with _ ht
  exact hne ht
section
variable {w w' : World} {C g n : Nat} {A : Int} {F : Nat → Bool}
theorem Rf.ne (h : Rf w C g A n F) : C ≠ g := rows_ne h.head h.body (by decide)
theorem Rf.c0 (h : Rf w C g A n F) : w.cell? ⟨C, 0, none⟩ = some (.int .i64 A) := h.head.cell (i := 0) (by omega)
theorem Rf.c1 (h : Rf w C g A n F) : w.cell? ⟨C, 1, none⟩ = some (.slice (some ⟨g, 0, none⟩) n n) := h.head.cell (i := 1) (by omega)
theorem Rf.below (h : Rf w C g A n F) (k : Below w.heap.size w w') : Rf w' C g A n F := ⟨h.head.of_block (k.block C h.head.lt), h.body.of_block (k.block g h.body.lt)⟩
theorem Rf.kept {row : Option Nat} (h : Rf w C g A n F) (k : w.grownBy w' row) (h1 : row ≠ some C) (h2 : row ≠ some g) : Rf w' C g A n F :=
  ⟨h.head.of_block (k.block C h.head.lt (fun e => h1 e.symm)), h.body.of_block (k.block g h.body.lt (fun e => h2 e.symm))⟩
theorem Rf.drew (h : Rf w C g A n F) : Rf w.drew C g A n F := ⟨h.head.drew, h.body.drew⟩
theorem Rf.alloc (h : Rf w C g A n F) (o : Obj) : Rf (w.alloc o) C g A n F := ⟨h.head.alloc o, h.body.alloc o⟩
theorem Rf.set (h : Rf w C g A n F) (i : Nat) (x : Bool) : Rf (w.setCell ⟨g, i, none⟩ (.bool x)) C g A n (fun j => if j = i then x else F j) := by
  refine ⟨h.head.setOther h.ne _, (h.body.set i _).congr fun j _ => ?_⟩
  by_cases e : j = i
  · simp [e]
  · simp [e]
theorem Rf.congr {G : Nat → Bool} (h : Rf w C g A n F) (e : ∀ i, i < n → F i = G i) : Rf w C g A n G := ⟨h.head, h.body.congr fun i hi => by rw [e i hi]⟩
end

theorem info_bool : (Try.prog.info? 4).map (fun i => (i.zero, i.size, i.bytes)) = some (some (.bool false), 1, 1) := by kernel_rfl
theorem under_bools : Try.prog.underlying 90 = some (.slice 4) := by kernel_rfl
theorem make_bools (k : Nat) (hk : k ≤ 8192) (W : World) : (Instr.makeSlice 90 (.int .i64 (k : Int)) (.int .i64 (k : Int))).run Try.prog W =
    .ok (.slice (some ⟨W.heap.size, 0, none⟩) k k) (W.alloc (.cells (madeCells #[.bool false] k) 4)) := by
  obtain ⟨i0, hi, hz0, hz1, hz2⟩ := info_parts info_bool
  have h := run_make (P := Try.prog) W 90 4 i0 (.bool false) under_bools hi hz0 .i64 .i64 (k : Int) (k : Int) (by omega) (by omega) (by rw [hz2]; omega) (by omega)
  rw [hz1, Nat.mul_one, show (k : Int).toNat = k by omega] at h
  exact h
theorem new_end (w : World) (A : Int) (k : Nat) :
    Rf ((w.alloc (.cells (madeCells #[.bool false] k) 4)).alloc (.cells #[.int .i64 A, .slice (some ⟨w.heap.size, 0, none⟩) k k] 92)) (w.heap.size + 1) w.heap.size A k (setW (fun _ => false) 0 0 true) := by
  have e : (w.alloc (.cells (madeCells #[.bool false] k) 4)).heap.size = w.heap.size + 1 := by simp
  refine ⟨?_, ((World.rowIs_made w (.bool false) k 4).alloc _).congr fun i _ => by rw [setW_zero]⟩
  have := World.rowIs_alloc (w.alloc (.cells (madeCells #[.bool false] k) 4)) #[.int .i64 A, .slice (some ⟨w.heap.size, 0, none⟩) k k] 92 (rh A w.heap.size k)
    (fun i hi => by
      have hi' : i < 2 := hi
      have : i = 0 ∨ i = 1 := by omega
      rcases this with rfl | rfl <;> rfl)
  rw [e] at this
  exact this

set_option maxHeartbeats 1000000 in
theorem new_any (w : World) (A : Int) (n : Nat) (hn : n ≤ 8192) :
    Calls Try.prog 41 #[.int .i64 A, .int .i64 (8 * (n : Int))] w fun e w' => e = .returned (.pointer (some ⟨w.heap.size + 1, 0, none⟩)) ∧ Rf w' (w.heap.size + 1) w.heap.size A n (fun _ => true) ∧ Below w.heap.size w w' ∧ w.heap.size + 2 ≤ w'.heap.size := by
  have hmk := make_bools n hn
  have hd : 8 * (n : Int) / 8 = (n : Int) := by omega
  have R0 := new_end w A n
  have B0 : Below w.heap.size w ((w.alloc (.cells (madeCells #[.bool false] n) 4)).alloc (.cells #[.int .i64 A, .slice (some ⟨w.heap.size, 0, none⟩) n n] 92)) := ((Below.refl _ _).alloc (Nat.le_refl _) _).alloc (by simp) _
  have z0 : w.heap.size + 2 ≤ ((w.alloc (.cells (madeCells #[.bool false] n) 4)).alloc (.cells #[.int .i64 A, .slice (some ⟨w.heap.size, 0, none⟩) n n] 92)).heap.size := by simp
  go_enter Try.func41, Try.ntmps41
  go_wp2_with fail
  generalize (w.alloc (.cells (madeCells #[.bool false] n) 4)).alloc (.cells #[.int .i64 A, .slice (some ⟨w.heap.size, 0, none⟩) n n] 92) = W0 at *
  go_loopw [6] (fun t wr => ∃ k : Nat, k ≤ n ∧ t = .int .i64 k ∧ Rf wr (w.heap.size + 1) w.heap.size A n (setW (fun _ => false) 0 k true) ∧ Below w.heap.size w wr ∧ w.heap.size + 2 ≤ wr.heap.size) (fun t _ => n - (intOf t).toNat)
  case atStart => exact ⟨0, by omega, rfl, R0, B0, z0⟩
  case round =>
    obtain ⟨k, hk, rfl, hR, hB, hz⟩ := hrel
    have x1 := hR.c1
    by_cases hlt : k < n
    · have y := hR.body.cell hlt
      have f := hR.body.frozen k
      go_wp2
      go_roundw
      case rel => exact ⟨k + 1, by omega, by go_num, (hR.set k true).congr fun i _ => by have := setW_step (fun _ => false) 0 k i true; rw [Nat.zero_add] at this; exact this, bset hB _ _ (Nat.le_refl _) _, by simpa [World.setCell] using hz⟩
      case measure => simp [intOf]; omega
    · obtain rfl : k = n := by omega
      go_wp2
      go_ret
      exact ⟨rfl, hR.congr fun i hi => by unfold setW; rw [if_pos (by omega)], hB, hz⟩

theorem flat_set (M : List E) (x s t : Int) : (flat (M ++ [(x, s)])).set (M.length * 2 + 1) (.int .i64 t) = flat (M ++ [(x, t)]) := by
  rw [flat_append, flat_append, List.set_append_right _ _ (by rw [flat_len]; omega), flat_len]
  rw [show M.length * 2 + 1 - M.length * 2 = 1 by omega]
  rfl
/-- The last one of a row of one's own is made greater. -/
theorem grown_last {w : World} {base g cap : Nat} {M : List E} {x s t : Int} (h : w.ownsRow base 46 2 (.slice (some ⟨g, 0, none⟩) (M.length + 1) cap) (M.length + 1) (flat (M ++ [(x, s)]))) :
    (w.setCell ⟨g, M.length * 2 + 1, none⟩ (.int .i64 t)).ownsRow base 46 2 (.slice (some ⟨g, 0, none⟩) (M.length + 1) cap) (M.length + 1) (flat (M ++ [(x, t)])) := by
  have := (h.stored (M.length * 2 + 1) (.int .i64 t)).1
  rw [flat_set] at this
  exact this
theorem last_cell {w : World} {base g cap : Nat} {M : List E} {x s : Int} (h : w.ownsRow base 46 2 (.slice (some ⟨g, 0, none⟩) (M.length + 1) cap) (M.length + 1) (flat (M ++ [(x, s)]))) :
    w.cell? ⟨g, M.length * 2 + 1, none⟩ = some (.int .i64 s) := by
  rw [h.cellAt _ (by omega)]
  have := (flat_get (M ++ [(x, s)]) M.length (by simp)).2
  rw [this]
  simp

theorem runs_no {A : Int} {F : Nat → Bool} {i : Nat} (h : F i = false) : runs A F (i + 1) = runs A F i := by simp [runs, h]
theorem runs_new {A : Int} {F : Nat → Bool} {i : Nat} (h : F i = true) (k : i = 0 ∨ F (i - 1) = false) : runs A F (i + 1) = runs A F i ++ [(A + 8 * (i : Int), 8)] := by simp only [runs, h, if_true, k]
theorem runs_more {A : Int} {F : Nat → Bool} {i : Nat} (h : F i = true) (k : ¬ (i = 0 ∨ F (i - 1) = false)) : ∃ M x s, runs A F i = M ++ [(x, s)] ∧ runs A F (i + 1) = M ++ [(x, s + 8)] := by
  have hf : F (i - 1) = true := by
    cases hx : F (i - 1) with
    | true => rfl
    | false => exact absurd (.inr hx) k
  obtain ⟨M, e, h1, _⟩ := (runs_ok A F i).last (by omega) hf
  refine ⟨M, e.1, e.2, h1, ?_⟩
  have : runs A F (i + 1) = grow (runs A F i) := by simp only [runs, h, if_true, k, if_false]
  rw [this, h1, grow_snoc]
end Go.Proofs.Ytkkmhapfhnnooaa.Ref
