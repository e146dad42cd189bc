/-
  The document's New.
-/
import Derived.Test.YtbpmnjmegffllaaEe
namespace Go.Proofs.Ytbpmnjmegffllaa.Mod
open Go.ChangeShapes Go.WideShapes Go.ChangeAt Go.RowKit
open Slic Sco
set_option linter.unusedVariables false
set_option linter.unusedSimpArgs false
set_option maxRecDepth 100000
attribute [local go_sem ↓] Go.wp_at_zero Go.wp_at_succ
theorem new_ar (n nt : Nat) (A S I J : Int) (s : Int) : (newM n nt A S I J).ar s = ar0 := by
  unfold Mo.ar newM
  dsimp only
  rw [List.getD_eq_getElem?_getD, List.getElem?_replicate]
  split <;> rfl
theorem new_th (n nt : Nat) (A S I J : Int) (t : Nat) : (newM n nt A S I J).th t = th0 := by
  unfold Mo.th newM
  dsimp only
  rw [List.getD_eq_getElem?_getD, List.getElem?_replicate]
  split <;> rfl
def p0 : Dp := ⟨(none, 0, 0), fun _ => (none, 0, 0), [], fun _ => true⟩
/-- The cells of a new model. -/
def newC (n nt I H : Int) (f pt : Value) (j : Nat) : Value :=
  if j = 0 then .int .i64 n else if j = 1 then .int .i64 nt else if j = 2 then .int .i64 I else if j = 3 then .int .i64 H
  else if j = 4 then f else if j = 5 then pt else if j = 6 then .slice none 0 0
  else if j < 15 then .int .u64 0 else if j < 23 then .int .i64 0 else if j < 39 then .int .u64 0 else .slice none 0 0
theorem new_cells (X : Dx) (n nt : Nat) (A S I J : Int) : dcell X p0 (newM n nt A S I J) = newC (X.n : Int) (X.nt : Int) X.I X.H X.f (ptrD X.P) := by
  funext j
  unfold dcell newC
  rw [new_ar, new_ar, new_th]
  rfl
theorem new_runs (n N : Nat) (A I J : Int) : (newM n 1 A (8 * (N : Int)) I J).F.L = Gm.runs A (fun _ => true) N := start_runs n N A I J
abbrev cells43 (n nt I H : Int) (f pt : Value) : List Value := [.int .i64 n, .int .i64 nt, .int .i64 I, .int .i64 H, f, pt, .slice none 0 0, .int .u64 0, .int .u64 0, .int .u64 0, .int .u64 0, .int .u64 0, .int .u64 0, .int .u64 0, .int .u64 0, .int .i64 0, .int .i64 0, .int .i64 0, .int .i64 0, .int .i64 0, .int .i64 0, .int .i64 0, .int .i64 0, .int .u64 0, .int .u64 0, .int .u64 0, .int .u64 0, .int .u64 0, .int .u64 0, .int .u64 0, .int .u64 0, .int .u64 0, .int .u64 0, .int .u64 0, .int .u64 0, .int .u64 0, .int .u64 0, .int .u64 0, .int .u64 0, .slice none 0 0, .slice none 0 0, .slice none 0 0, .slice none 0 0]
theorem cells_new (n nt I H : Int) (f pt : Value) : cells43 n nt I H f pt = (List.range 43).map (newC n nt I H f pt) := rfl
theorem row_new43 (W : World) (n nt I H : Int) (f pt : Value) : (W.alloc (.cells (cells43 n nt I H f pt).toArray 78)).rowIs W.heap.size 78 43 (newC n nt I H f pt) :=
  World.rowIs_alloc W (cells43 n nt I H f pt).toArray 78 _ (fun i hi => by
    have hi' : i < 43 := hi
    rw [List.getElem?_toArray, cells_new, List.getElem?_map, List.getElem?_range hi']
    rfl)
set_option maxHeartbeats 4000000 in
theorem refnew12_any (w : World) (n N nt : Nat) (i : Int) (fA : Option Addr) (fl fc : Nat) (FF : List (List Fina.O)) (hr : Plan.rightB (n : Int) (nt : Int) i (8 * (N : Int)) = true) (hf : FRows w (.slice fA fl fc) FF) :
    Calls Try.prog 22 #[.agg #[.int .i64 (n : Int), .int .i64 (nt : Int), .int .i64 i, .int .i64 (8 * (N : Int))], .slice fA fl fc] w fun e w' => ∃ X : Dx, e = .returned (ptrX X) ∧ Rm w' X p0 (newM n nt (64 * (n : Int) + i) (8 * (N : Int)) (64 * (n : Int)) i) ∧ X.n = n ∧ X.nt = nt ∧ X.A = 64 * (n : Int) + i ∧ X.N = N ∧ X.FF = FF ∧ Below w.heap.size w w' ∧ (∀ b, dw X p0 b → w.heap.size ≤ b) := by
  have S0 := (Held.St.start w).new [.int .i64 (n : Int), .int .i64 (nt : Int), .int .i64 i, .int .i64 (8 * (N : Int))] 23
  have SD := S0.drew
  go_enter Try.func22, Try.ntmps22
  go_upto_region 1 with (fail)
  refine wp_region_held_drew (S := fun W' => W'.cell? ⟨w.heap.size, 0, none⟩ = some (.int .i64 (n : Int)) ∧ W'.cell? ⟨w.heap.size, 1, none⟩ = some (.int .i64 (nt : Int)) ∧ W'.cell? ⟨w.heap.size, 2, none⟩ = some (.int .i64 i) ∧ W'.cell? ⟨w.heap.size, 3, none⟩ = some (.int .i64 (8 * (N : Int)))) (by kernel_rfl) ?_ (fun hHeld => ?_)
  · exact (SD.get4 0 rfl).2
  refine wpAnyH_take (i := 0) (oi := ⟨some 5, _, _, _, _, _⟩) (v := ?_) rfl (by kernel_rfl) (by kernel_rfl) (by kernel_rfl) (fun _ _ _ h => h) (Or.inl ⟨by kernel_rfl, ?_⟩) (by assumption) ?_
  rotate_left
  · intro w hSw
    try dsimp only at hSw
    first | (go_simp; done) | (go_simp; with_reducible rfl) | with_reducible rfl
  simp only [Act.put, List.setIfInBounds_toArray, List.set_cons_zero, List.set_cons_succ]
  refine wpAnyH_take (i := 1) (oi := ⟨some 6, _, _, _, _, _⟩) (v := ?_) rfl (by kernel_rfl) (by kernel_rfl) (by kernel_rfl) (fun _ _ _ h => h) (Or.inl ⟨by kernel_rfl, ?_⟩) (by assumption) ?_
  rotate_left
  · intro w hSw
    try dsimp only at hSw
    first | (go_simp; done) | (go_simp; with_reducible rfl) | with_reducible rfl
  simp only [Act.put, List.setIfInBounds_toArray, List.set_cons_zero, List.set_cons_succ]
  refine wpAnyH_take (i := 2) (oi := ⟨some 7, _, _, _, _, _⟩) (v := ?_) rfl (by kernel_rfl) (by kernel_rfl) (by kernel_rfl) (fun _ _ _ h => h) (Or.inl ⟨by kernel_rfl, ?_⟩) (by assumption) ?_
  rotate_left
  · intro w hSw
    try dsimp only at hSw
    first | (go_simp; done) | (go_simp; with_reducible rfl) | with_reducible rfl
  simp only [Act.put, List.setIfInBounds_toArray, List.set_cons_zero, List.set_cons_succ]
  refine wpAnyH_ready (rs := [3]) (by kernel_rfl) (by simp) ?_
  refine AllReadyH.cons (o := ⟨some 8, _, _, _, _, _⟩) rfl (fun K hK => ?_) AllReadyH.nil
  go_simp
  refine (Sco.refnew_any _ n N (nt : Int) i hr).mono ?_
  rintro e w2 ⟨P, rfl, rs, k2, l1, l2, l3, l4, l5⟩
  have S2 := SD.call k2
  refine hK.out _ _ ?_ (fun hHeld => ?_)
  · exact (S2.get4 0 rfl).2
  clear hK K
  refine wpAnyH_take (i := 4) (oi := ⟨some 9, _, _, _, _, _⟩) (v := ?_) rfl (by kernel_rfl) (by kernel_rfl) (by kernel_rfl) (fun _ _ _ h => h) (Or.inl ⟨by kernel_rfl, ?_⟩) (by assumption) ?_
  rotate_left
  · intro w hSw
    try dsimp only at hSw
    first | (go_simp; done) | (go_simp; with_reducible rfl) | with_reducible rfl
  simp only [Act.put, List.setIfInBounds_toArray, List.set_cons_zero, List.set_cons_succ]
  have RW := row_new43 w2 (n : Int) (nt : Int) i (8 * (N : Int)) (.slice fA fl fc) (ptrD P)
  have S3 := S2.call ((Below.refl _ _).alloc (Nat.le_refl _) (.cells (cells43 (n : Int) (nt : Int) i (8 * (N : Int)) (.slice fA fl fc) (ptrD P)).toArray 78))
  refine wpAnyH_ready (rs := [5]) (by kernel_rfl) (by simp) ?_
  refine AllReadyH.cons (o := ⟨some 10, _, _, _, _, _⟩) rfl (fun K hK => ?_) AllReadyH.nil
  go_simp
  refine hK.out _ _ ?_ (fun hHeld => ?_)
  · exact (S3.get4 0 rfl).2
  clear hK K
  refine wpAnyH_ready (rs := [6]) (by kernel_rfl) (by simp) ?_
  refine AllReadyH.cons (o := ⟨some 4, _, _, _, _, _⟩) rfl (fun K hK => ?_) AllReadyH.nil
  go_simp
  refine hK.out _ _ ?_ (fun hHeld => ?_)
  · exact (S3.get4 0 rfl).2
  clear hK K
  refine wpAnyH_done (by kernel_rfl) ?_ _
  go_wp2_with fail
  go_ret
  have bl := S3.below
  have lw := S2.below.size
  have ls := SD.below.size
  refine ⟨⟨w2.heap.size, n, nt, i, 8 * (N : Int), 64 * (n : Int) + i, N, .slice fA fl fc, FF, P⟩, rfl, ⟨?_, ?_, ?_, Slic.Own.nil _ _, rfl, ?_, List.Pairwise.nil, ?_, ?_⟩, rfl, rfl, rfl, rfl, rfl, bl, ?_⟩
  · rw [new_cells]
    exact RW
  · exact rs.below ((Below.refl _ _).alloc (Nat.le_refl _) _)
  · exact start_runs n N _ _ _
  · intro j o t' h1 h2
    cases h2
  · intro t' ht
    show Slic.Own kE _ 0 (.slice none 0 0) ((newM _ _ _ _ _ _).th t').c
    rw [new_th]
    exact Slic.Own.nil _ _
  · exact hf.types (X := []) (Only.below bl) (fun x hx => absurd hx List.not_mem_nil) (fun x hx => absurd hx List.not_mem_nil)
  · intro b hb
    rcases hb with rfl | rfl | rfl | rfl | e | ⟨t', ht, _⟩
    · exact lw
    · exact Nat.le_trans ls l2
    · exact Nat.le_trans ls l3
    · exact Nat.le_trans ls l5
    · cases e
    · cases ht
end Go.Proofs.Ytbpmnjmegffllaa.Mod
