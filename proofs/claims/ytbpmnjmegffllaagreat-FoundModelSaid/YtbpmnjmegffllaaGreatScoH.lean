/-
  Contract of the document's New, at every plan that may be: the walk.
-/
import Derived.Test.YtbpmnjmegffllaaGreatScoZ
import Derived.Deep.DeepCutAuto
namespace Go.Proofs.YtbpmnjmegffllaaGreat.Sco
open Go.ChangeShapes Go.WideShapes Go.ChangeAt Go.RowKit
open Slic Gm
set_option linter.unusedVariables false
set_option linter.unusedSimpArgs false
attribute [local go_sem ↓] Go.wp_at_zero Go.wp_at_succ

theorem start_runs (n N : Nat) (A I J : Int) : (start n A (8 * (N : Int)) I J).L = runs A (fun _ => true) N := by
  unfold start
  by_cases h : N = 0
  · subst h
    rfl
  · rw [runs_all (by omega)]
    simp only [show 0 < 8 * (N : Int) by omega, if_true]
theorem nw_start (w : World) (a b c d : Int) : Nw w ((w.alloc (.cells #[.int .i64 a, .int .i64 b, .int .i64 c, .int .i64 d] 23)).alloc (.cells #[.slice none 0 0, .slice none 0 0, .pointer none] 100)) 0 0 a b c d (.slice none 0 0) (.slice none 0 0) := by
  refine ⟨?_, ?_, Own.nil _ _, Own.nil _ _, ((Below.refl _ _).alloc (Nat.le_refl _) _).alloc (by simp) _⟩
  · rw [Below.heap_alloc _ _ _ (by simp)]
    exact heap_alloc_new w _
  · have := World.rowIs_alloc (w.alloc (.cells #[.int .i64 a, .int .i64 b, .int .i64 c, .int .i64 d] 23)) #[.slice none 0 0, .slice none 0 0, .pointer none] 100 (rw3 (.slice none 0 0) (.slice none 0 0) (.pointer none))
      (fun i hi => by
        have hi' : i < 3 := hi
        have : i = 0 ∨ i = 1 ∨ i = 2 := by omega
        rcases this with rfl | rfl | rfl <;> rfl)
    rw [World.size_alloc] at this
    exact this
theorem Nw.get {w wr : World} {kc kx : Nat} {a b c d : Int} {vC vX : Value} (h : Nw w wr kc kx a b c d vC vX) : wr.cell? ⟨w.heap.size, 0, none⟩ = some (.int .i64 a) ∧ wr.cell? ⟨w.heap.size + 1, 0, none⟩ = some vC ∧ wr.cell? ⟨w.heap.size + 1, 1, none⟩ = some vX ∧ (∀ o, wr.frozen? ⟨w.heap.size + 1, o, none⟩ = false) :=
  ⟨by simp [World.cell?, h.pl], h.hd.cell (i := 0) (by omega), h.hd.cell (i := 1) (by omega), fun o => h.hd.frozen o⟩
theorem len_rep (k : Nat) : (List.replicate k free0 ++ [free0]).length = k + 1 := by simp

set_option maxRecDepth 8000 in
set_option maxHeartbeats 8000000 in
theorem refnew_any (w : World) (n N : Nat) (t i : Int) (hr : Plan.rightB (n : Int) t i (8 * (N : Int)) = true) :
    Calls Tryz.prog 64 #[.agg #[.int .i64 (n : Int), .int .i64 t, .int .i64 i, .int .i64 (8 * (N : Int))]] w fun e w' => ∃ P : Pl, e = .returned (ptrD P) ∧ Rs w' P n (64 * (n : Int) + i) N (start n (64 * (n : Int) + i) (8 * (N : Int)) (64 * (n : Int)) i).R (fun _ => true) ∧ Below w.heap.size w w' ∧ w.heap.size ≤ P.D ∧ w.heap.size ≤ P.gc ∧ w.heap.size ≤ P.gx ∧ w.heap.size ≤ P.C ∧ w.heap.size ≤ P.gw := by
  obtain ⟨r1, r2, r3, r4, r5, r6, r7, r8, r9, r10⟩ := Plan.rbounds hr
  have HR := Lib.hid hr
  have HS := Lib.hid (start_set n (by omega) (64 * (n : Int) + i) (8 * (N : Int)) (64 * (n : Int)) i)
  have N0 := nw_start w (n : Int) t i (8 * (N : Int))
  clear hr
  go_enter Tryz.func64, Tryz.ntmps64
  go_wp2_with fail
  go_loopw [4] (fun u wr => ∃ (k : Nat) (vC vX : Value), k ≤ n ∧ u = .int .i64 (k : Int) ∧ Nw w wr k k (n : Int) t i (8 * (N : Int)) vC vX) (fun u _ => n - (intOf u).toNat)
  case atStart => exact ⟨0, _, _, by omega, rfl, N0⟩
  case round =>
    clear N0
    obtain ⟨k, vC, vX, hk, rfl, NW⟩ := hrel
    obtain ⟨p0, d0, d1, df⟩ := NW.get
    by_cases hkn : k < n
    · obtain ⟨AC, cc, e, _, _⟩ := NW.oC.sr.form
      rw [List.length_replicate] at e
      subst e
      obtain ⟨AX, cx, e, _, _⟩ := NW.oX.sr.form
      rw [List.length_replicate] at e
      subst e
      have hlC : Sr kC (wr.alloc (.cells #[.int .i64 0, .int .i64 0, .int .i64 (-1), .int .i64 0] 59)) (.slice (some ⟨wr.heap.size, 0, none⟩) 1 1) [free0] := (Own.lit (K := kC) wr 0 (Nat.zero_le _) [free0] #[.int .i64 0, .int .i64 0, .int .i64 (-1), .int .i64 0] rfl (by decide) 1 rfl).sr
      have lt0 := NW.lt
      have f0 := df 0
      have f1 := df 1
      clear df
      go_upto_region 5 with (fail)
      go_wp2_with (first
        | (refine wpList_app (K := kC) (o := ⟨some 21, _, _, _, _, _⟩) rfl (.tmp 18) (.tmp 20) rfl rfl rfl rfl (NW.oC.below (below_one _ _)) hlC (by simp; omega) (by simp; omega) ?_
           intro v1 w2 O2 g2 G2
           obtain ⟨A1, c1, e, _, _⟩ := O2.sr.form
           rw [len_rep] at e
           subst e
           have m0 := (G2.cell (w.heap.size + 1) 0 (by omega)).trans (((below_one wr (.cells #[.int .i64 0, .int .i64 0, .int .i64 (-1), .int .i64 0] 59)).cell (p := ⟨w.heap.size + 1, 0, none⟩) (by show w.heap.size + 1 < _; omega)).trans d0)
           have mf := (G2.frozen (w.heap.size + 1) 0 (by omega)).trans (((below_one wr (.cells #[.int .i64 0, .int .i64 0, .int .i64 (-1), .int .i64 0] 59)).frozen (p := ⟨w.heap.size + 1, 0, none⟩) (by show w.heap.size + 1 < _; omega)).trans f0)
           have NW1 := NW.stepC O2 g2 G2
           obtain ⟨_, _, y1, yf⟩ := NW1.get
           have yf1 := yf 1
           have hsz : (w2.setCell ⟨w.heap.size + 1, 0, none⟩ (.slice A1 (k + 1) c1)).heap.size = w2.heap.size := by simp [World.setCell]
           have lt1 := NW1.lt
           rw [hsz] at lt1
           have hlX := (Own.lit (K := kX) (w2.setCell ⟨w.heap.size + 1, 0, none⟩ (.slice A1 (k + 1) c1)) 0 (Nat.zero_le _) [free0] #[.int .i64 0, .int .i64 0] rfl (by decide) 1 rfl).sr
           rw [hsz] at hlX
           clear p0 d0 d1 f0 f1 yf hsz)
        | (refine wpList_app (K := kX) (o := ⟨some 31, _, _, _, _, _⟩) rfl (.tmp 28) (.tmp 30) rfl rfl rfl rfl (NW1.oX.below (below_one _ _)) hlX (by simp; omega) (by simp [World.setCell]; omega) ?_
           intro v3 w4 O4 g4 G4
           obtain ⟨A3, c3, e, _, _⟩ := O4.sr.form
           rw [len_rep] at e
           subst e
           have m0' := (G4.cell (w.heap.size + 1) 1 (by omega)).trans (((below_one (w2.setCell ⟨w.heap.size + 1, 0, none⟩ (.slice A1 (k + 1) c1)) (.cells #[.int .i64 0, .int .i64 0] 113)).cell (p := ⟨w.heap.size + 1, 1, none⟩) (by show w.heap.size + 1 < _; simp [World.setCell]; omega)).trans y1)
           have mf' := (G4.frozen (w.heap.size + 1) 1 (by omega)).trans (((below_one (w2.setCell ⟨w.heap.size + 1, 0, none⟩ (.slice A1 (k + 1) c1)) (.cells #[.int .i64 0, .int .i64 0] 113)).frozen (p := ⟨w.heap.size + 1, 1, none⟩) (by show w.heap.size + 1 < _; simp [World.setCell]; omega)).trans yf1)
           have NW2 := NW1.stepX O4 g4 G4))
      go_roundw
      case rel => exact ⟨k + 1, _, _, by omega, by go_num, NW2⟩
      case measure => simp [intOf]; omega
    · obtain rfl : k = n := by omega
      clear hkn
      obtain ⟨gC, cC, e, bC, lC, cC1, cC2, fC, _⟩ := NW.oC.form (by simp; omega)
      rw [List.length_replicate] at e
      subst e
      obtain ⟨gX, cX, e, bX, lX, cX1, cX2, fX, _⟩ := NW.oX.form (by simp; omega)
      rw [List.length_replicate] at e
      subst e
      have P0 : Pre w wr gC cC gX cX k (k : Int) t i (8 * (N : Int)) (List.replicate k free0) := ⟨by simp, NW.pl, NW.hd, NW.oC.zero (Nat.zero_le _), NW.oX.zero (Nat.zero_le _), NW.bl, bC, bX⟩
      have hr0 : (List.replicate k free0)[0]? = some free0 := by rw [List.getElem?_replicate, if_pos (by omega)]
      have P1 := P0.putC4 0 hr0 2 1 (-1) 0
      obtain ⟨hc, _⟩ := own_cells P0.rC P0.len hr0
      have y0 := hc 0 _ rfl
      have y1 := hc 1 _ rfl
      have y2 := hc 2 _ rfl
      have y3 := hc 3 _ rfl
      have k0 := fC 0
      have k1 := fC 1
      have k2 := fC 2
      have k3 := fC 3
      simp only [Nat.zero_mul, Nat.zero_add] at y0 y1 y2 y3 P1
      have neC : gC ≠ gX := P0.ne
      clear hc fC fX NW df d1 P0
      go_wp2_with fail
      generalize (((wr.setCell ⟨gC, 0, none⟩ (.int .i64 2)).setCell ⟨gC, 1, none⟩ (.int .i64 1)).setCell ⟨gC, 2, none⟩ (.int .i64 (-1))).setCell ⟨gC, 3, none⟩ (.int .i64 0) = W7 at *
      have hx1 := set_read hr0 ⟨2, 1, -1, 0, free0.a, free0.z⟩
      have D1 := P1.call (Below.refl _ _).drew
      obtain ⟨q0, q1, q2, q3⟩ := P1.cells
      have q4 := P1.h1
      have T1 := And.intro q0 (And.intro q1 (And.intro q2 (And.intro q3 q4)))
      have ix : (0 : Int) < (k : Int) := by omega
      have ix2 : 0 < k := by omega
      have TD := And.intro D1.cells.1 (And.intro D1.cells.2.1 (And.intro D1.cells.2.2.1 (And.intro D1.cells.2.2.2 D1.h1)))
      clear p0 d0 y0 y1 y2 y3 k0 k1 k2 k3
      go_region_held3 (fun w' => w'.cell? ⟨w.heap.size, 0, none⟩ = some (.int .i64 (k : Int)) ∧ w'.cell? ⟨w.heap.size, 1, none⟩ = some (.int .i64 t) ∧ w'.cell? ⟨w.heap.size, 2, none⟩ = some (.int .i64 i) ∧ w'.cell? ⟨w.heap.size, 3, none⟩ = some (.int .i64 (8 * (N : Int))) ∧ w'.cell? ⟨w.heap.size + 1, 1, none⟩ = some (.slice (some ⟨gX, 0, none⟩) k cX))
        (first | with_reducible exact T1 | with_reducible exact TD | with_reducible exact T9 | with_reducible exact T10 | exact TD)
        ((go_at_call 49; refine (Plan.refimm_any (k : Int) t i (8 * (N : Int)) _ HR.out).mono ?_; rintro z w9 ⟨rfl, k9⟩; have P9 := D1.call k9; have T9 := And.intro P9.cells.1 (And.intro P9.cells.2.1 (And.intro P9.cells.2.2.1 (And.intro P9.cells.2.2.2 P9.h1))); have hc9 := (own_cells P9.rX P9.len hx1).1; have z0 := hc9 0 _ rfl; have z1 := hc9 1 _ rfl; have f9 := (own_cells P9.rX P9.len hx1).2; have z2 := f9 0; have z3 := f9 1; have P10 := P9.putX2 0 hx1 (64 * (k : Int)) i; simp only [Nat.zero_mul, Nat.zero_add] at z0 z1 P10; have T10 := And.intro P10.cells.1 (And.intro P10.cells.2.1 (And.intro P10.cells.2.2.1 (And.intro P10.cells.2.2.2 P10.h1))); clear hc9 f9))
      all_goals
        have e12 : ((List.replicate k free0).set 0 ⟨2, 1, -1, 0, free0.a, free0.z⟩).set 0 ⟨2, 1, -1, 0, 64 * (k : Int), i⟩ = (start k (64 * (k : Int) + i) (8 * (N : Int)) (64 * (k : Int)) i).R := by rw [List.set_set]; exact HS.out
        rw [e12] at P10
        obtain ⟨q0, q1, q2, q3⟩ := P10.cells
        clear T1 TD T9 T10 z0 z1 z2 z3 P9 D1 hx1 hr0 e12 HS
        go_wp2_with fail
        generalize (w9.setCell ⟨gX, 0, none⟩ (.int .i64 (64 * (k : Int)))).setCell ⟨gX, 1, none⟩ (.int .i64 i) = W10 at *
        refine (Plan.refheap_any (k : Int) t i (8 * (N : Int)) _ HR.out).mono ?_
        rintro z w11 ⟨rfl, k11⟩
        have P12 := (P10.call k11).call (below_one w11 (.cells #[.int .i64 (64 * (k : Int) + i), .int .i64 (8 * (N : Int))] 113))
        go_wp2_with fail
        refine (Ref.new_any _ (64 * (k : Int) + i) N (by omega)).mono ?_
        rintro z w13 ⟨rfl, rf13, k13, s13⟩
        have b1 := P12.bl.size
        simp only [World.size_alloc] at rf13 s13 b1
        have P13 := P12.call k13
        have h2 := P13.h2
        have hf2 := P13.hd.frozen 2
        have FIN := P13.fin rf13
        have FB := Gr.bset P13.bl (w.heap.size + 1) 2 (show w.heap.size ≤ w.heap.size + 1 by omega) (.pointer (some ⟨w11.heap.size + 1 + 1, 0, none⟩))
        clear q0 q1 q2 q3 P10 P12 P13
        go_wp2_with fail
        go_ret
        exact ⟨_, rfl, FIN, FB, by dsimp only; omega, by dsimp only; omega, by dsimp only; omega, by dsimp only; omega, by dsimp only; omega⟩
end Go.Proofs.YtbpmnjmegffllaaGreat.Sco
