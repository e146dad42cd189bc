/-
  Contracts of package scopes: change, by each way in which a scope's word turns.
-/
import Derived.Test.YtneggppfffekdaaGreatScoB
namespace Go.Proofs.YtneggppfffekdaaGreat.Sco
open Go.ChangeShapes Go.WideShapes Go.ChangeAt Go.RowKit
open Slic Gm
set_option linter.unusedVariables false
set_option maxRecDepth 8000
set_option linter.unusedSimpArgs false
attribute [local go_sem ↓] Go.wp_at_zero Go.wp_at_succ
section
variable {w w' : World} {Y : Fr} {B g K n : Nat} {A S : Int} {F : Fo}
set_option maxRecDepth 8000 in
set_option maxHeartbeats 4000000 in
theorem chg_ho (h : Sc w Y B g K n A S F) (n8 : n ≤ 8) (i : Int) :
    Calls Tryz.prog 145 #[ptr B, .int .i64 i, .func (.func 178) #[] #[]] w fun e w' => e = tellR (chV F i hoF) ∧ Sc w' Y B g K n A S (turnV F i hoF).F ∧ Only [g] w w' := by
  have hs := h.below (below_one w (.cells #[.int .i64 0, .int .i64 0, .int .i64 0, .int .i64 0] 64))
  have hB := h.ltB
  have hg := h.ltg
  have k0 := below_one w (.cells #[.int .i64 0, .int .i64 0, .int .i64 0, .int .i64 0] 64)
  cases hl : look F.R i with
  | none =>
    have hi := look_out hl
    rw [h.len] at hi
    have E1 := Lib.hid (show chV F i hoF = Ctl.no 11 by unfold chV; rw [hl])
    have E2 := Lib.hid (show (turnV F i hoF).F = F by unfold turnV; rw [hl])
    by_cases h0 : i = 0
    · subst h0
      clear hi hl
      go_enter Tryz.func145, Tryz.ntmps145
      go_wp2
      refine bodyPost_ret (v := .tuple #[.agg #[.int .i64 0, .int .i64 0, .int .i64 0, .int .i64 0], .int .i64 11]) (by simp [results, Tryz.results145, go_sem]) rfl ⟨?_, ?_, ?_⟩
      · rw [E1.out]
        rfl
      · rw [E2.out]
        exact hs
      · exact Only.below k0
    · have q : (i == 0) = false := by simpa using h0
      have hw := within_no (n := n) (i := i) (by omega)
      clear hi h0 hl
      go_enter Tryz.func145, Tryz.ntmps145
      go_wp2_with (go_at_call 89; refine (has_any hs n8 _).mono ?_; rintro e w' ⟨rfl, rfl⟩)
      refine bodyPost_ret (v := .tuple #[.agg #[.int .i64 0, .int .i64 0, .int .i64 0, .int .i64 0], .int .i64 11]) (by simp [results, Tryz.results145, go_sem]) rfl ⟨?_, ?_, ?_⟩
      · rw [E1.out]
        rfl
      · rw [E2.out]
        exact hs
      · exact Only.below k0
  | some x =>
    obtain ⟨i1, i2, hx⟩ := look_in hl
    rw [h.len] at i2
    obtain ⟨k, rfl⟩ : ∃ k : Nat, i = k := ⟨i.toNat, by omega⟩
    rw [Int.toNat_natCast] at hx
    have hk : k < n := by omega
    have hw := within_yes (n := n) (i := (k : Int)) (by omega) i2
    have q : ((k : Int) == 0) = false := by simp; omega
    obtain ⟨⟨x0, x1, x2, x3, x4, x5⟩, hf⟩ := hs.at hx
    have c0 := hs.all
    have C0 := h.cg.alloc (.cells #[.int .i64 0, .int .i64 0, .int .i64 0, .int .i64 0] 64)
    have f0 := hf (k * 6)
    have f1 := hf (k * 6 + 1)
    have f2 := hf (k * 6 + 2)
    have f3 := hf (k * 6 + 3)
    have E1 := Lib.hid (show chV F (k : Int) hoF = Ctl.hoV x.s x.c x.p x.e by unfold chV; rw [hl]; rfl)
    have HL := Lib.hid hl
    clear x4 x5 hf hl i1 i2
    go_enter Tryz.func145, Tryz.ntmps145
    go_wp2_with (go_at_call 89; refine (has_any hs n8 _).mono ?_; rintro e w' ⟨rfl, rfl⟩)
    refine (Ctl.hold_any x.s x.c x.p x.e _).mono ?_
    rintro e w1 ⟨rfl, k1⟩
    have HV := Lib.hid (show hoF x = Ctl.hoV x.s x.c x.p x.e from rfl)
    generalize hv : Ctl.hoV x.s x.c x.p x.e = v at *
    have D0 : w1.cell? ⟨w.heap.size, 0, none⟩ = some (.int .i64 0) := Gr.bel k1 (by simp [go_sem])
    have D1 : w1.cell? ⟨w.heap.size, 1, none⟩ = some (.int .i64 0) := Gr.bel k1 (by simp [go_sem])
    have D2 : w1.cell? ⟨w.heap.size, 2, none⟩ = some (.int .i64 0) := Gr.bel k1 (by simp [go_sem])
    have D3 : w1.cell? ⟨w.heap.size, 3, none⟩ = some (.int .i64 0) := Gr.bel k1 (by simp [go_sem])
    obtain ⟨_, qf⟩ := Ctl.bcell k1
    have g0 : w1.frozen? ⟨w.heap.size, 0, none⟩ = false := by rw [qf _ _ (by simp)]; simp [go_sem]
    have g1 : w1.frozen? ⟨w.heap.size, 1, none⟩ = false := by rw [qf _ _ (by simp)]; simp [go_sem]
    have g2 : w1.frozen? ⟨w.heap.size, 2, none⟩ = false := by rw [qf _ _ (by simp)]; simp [go_sem]
    have g3 : w1.frozen? ⟨w.heap.size, 3, none⟩ = false := by rw [qf _ _ (by simp)]; simp [go_sem]
    have C1 := C0.call k1
    have Z1 : w.heap.size < w1.heap.size := by have := k1.size; simp at this; omega
    have S2 := (hs.below k1).alloc' (.cells #[.int .i64 v.s, .int .i64 v.c, .int .i64 v.p, .int .i64 v.e] 64)
    have C2 := C1.alloc (.cells #[.int .i64 v.s, .int .i64 v.c, .int .i64 v.p, .int .i64 v.e] 64)
    clear x0 x1 x2 x3 c0 f0 f1 f2 f3 k1 qf hs C0 k0
    obtain ⟨⟨x0, x1, x2, x3, x4, x5⟩, hf⟩ := S2.at hx
    have c0 := S2.all
    have f0 := hf (k * 6)
    have f1 := hf (k * 6 + 1)
    have f2 := hf (k * 6 + 2)
    have f3 := hf (k * 6 + 3)
    have d0 := Gr.cell_alloc D0 (.cells #[.int .i64 v.s, .int .i64 v.c, .int .i64 v.p, .int .i64 v.e] 64)
    have d1 := Gr.cell_alloc D1 (.cells #[.int .i64 v.s, .int .i64 v.c, .int .i64 v.p, .int .i64 v.e] 64)
    have d2 := Gr.cell_alloc D2 (.cells #[.int .i64 v.s, .int .i64 v.c, .int .i64 v.p, .int .i64 v.e] 64)
    have d3 := Gr.cell_alloc D3 (.cells #[.int .i64 v.s, .int .i64 v.c, .int .i64 v.p, .int .i64 v.e] 64)
    have HVV := Lib.hid hv
    clear x4 x5 hf hv
    have Bn : B ≠ g := h.ne
    by_cases hx0 : v.x = 0
    · have q2 : (v.x != 0) = false := by simpa using hx0
      have E3 := Lib.hid (show (turnV F (k : Int) hoF).F = ⟨F.R.set k (x.turn v), F.L⟩ by unfold turnV; rw [HL.out]; simp only [HV.out, Int.toNat_natCast]; rw [if_pos hx0])
      have HX := Lib.hid hx0
      clear hx0
      go_wp2_with fail
      go_region
      all_goals
        have C3 := (C2.put4 k hx v.s v.c v.p v.e).drew
        have F1 := far4 (W := (w1.alloc (.cells #[.int .i64 v.s, .int .i64 v.c, .int .i64 v.p, .int .i64 v.e] 64))) (g := g) (b := w.heap.size) (by omega) (k * 6) (k * 6 + 1) (k * 6 + 2) (k * 6 + 3) (.int .i64 v.s) (.int .i64 v.c) (.int .i64 v.p) (.int .i64 v.e)
        have F2 := far4 (W := (w1.alloc (.cells #[.int .i64 v.s, .int .i64 v.c, .int .i64 v.p, .int .i64 v.e] 64))) (g := g) (b := w1.heap.size) (by omega) (k * 6) (k * 6 + 1) (k * 6 + 2) (k * 6 + 3) (.int .i64 v.s) (.int .i64 v.c) (.int .i64 v.p) (.int .i64 v.e)
        have e0 := cell_eq F1 d0
        have e1 := cell_eq F1 d1
        have e2 := cell_eq F1 d2
        have e3 := cell_eq F1 d3
        have u0 := cell_eq (o := 0) (v := .int .i64 v.s) F2 (by simp [go_sem])
        have u1 := cell_eq (o := 1) (v := .int .i64 v.c) F2 (by simp [go_sem])
        have u2 := cell_eq (o := 2) (v := .int .i64 v.p) F2 (by simp [go_sem])
        have u3 := cell_eq (o := 3) (v := .int .i64 v.e) F2 (by simp [go_sem])
        have k0 := froz_eq (o := 0) (v := false) F1 (froz_alloc g0 Z1 _)
        have k1 := froz_eq (o := 1) (v := false) F1 (froz_alloc g1 Z1 _)
        have k2 := froz_eq (o := 2) (v := false) F1 (froz_alloc g2 Z1 _)
        have k3 := froz_eq (o := 3) (v := false) F1 (froz_alloc g3 Z1 _)
        clear F1 F2 f0 f1 f2 f3 d0 d1 d2 d3 x0 x1 x2 x3 c0 D0 D1 D2 D3 g0 g1 g2 g3 S2 C2 C1
        generalize (((((w1.alloc (.cells #[.int .i64 v.s, .int .i64 v.c, .int .i64 v.p, .int .i64 v.e] 64)).setCell ⟨g, k * 6, none⟩ (.int .i64 v.s)).setCell ⟨g, k * 6 + 1, none⟩ (.int .i64 v.c)).setCell ⟨g, k * 6 + 2, none⟩ (.int .i64 v.p)).setCell ⟨g, k * 6 + 3, none⟩ (.int .i64 v.e)).drew = W3 at *
        go_wp2
        refine bodyPost_ret (v := .tuple #[.agg #[.int .i64 v.s, .int .i64 v.c, .int .i64 v.p, .int .i64 v.e], .int .i64 0]) (by simp [results, Tryz.results145, go_sem, e0, e1, e2, e3]) rfl ⟨?_, ?_, ?_⟩
        · rw [E1.out]
          show _ = Ending.returned (.tuple #[.agg #[.int .i64 v.s, .int .i64 v.c, .int .i64 v.p, .int .i64 v.e], .int .i64 v.x])
          rw [HX.out]
        · rw [E3.out]
          exact h.of_cg ((((C3.loc (Nat.le_refl _) _ _).loc (Nat.le_refl _) _ _).loc (Nat.le_refl _) _ _).loc (Nat.le_refl _) _ _)
        · exact (((((C3.loc (Nat.le_refl _) _ _).loc (Nat.le_refl _) _ _).loc (Nat.le_refl _) _ _).loc (Nat.le_refl _) _ _).only).mono (fun _ h => h)
    · have q2 : (v.x != 0) = true := by simpa using hx0
      have E3 := Lib.hid (show (turnV F (k : Int) hoF).F = F by unfold turnV; rw [HL.out]; simp only [HV.out]; rw [if_neg hx0])
      have E4 := Lib.hid (show v = Ctl.no v.x by have := clean_ho x; rw [HV.out] at this; exact this hx0)
      clear hx0
      obtain ⟨r0, r1, r2, r3⟩ := read4 (.int .i64 0) (.int .i64 0) (.int .i64 0) (.int .i64 0) (.cells #[.int .i64 v.s, .int .i64 v.c, .int .i64 v.p, .int .i64 v.e] 64) D0 D1 D2 D3
      go_wp2
      refine bodyPost_ret (v := .tuple #[.agg #[.int .i64 0, .int .i64 0, .int .i64 0, .int .i64 0], .int .i64 v.x]) (by simp [results, Tryz.results145, go_sem, r0, r1, r2, r3]) rfl ⟨?_, ?_, ?_⟩
      · rw [E1.out, E4.out]
        rfl
      · rw [E3.out]
        exact h.of_cg (((((C1.loc (Nat.le_refl _) _ _).loc (Nat.le_refl _) _ _).loc (Nat.le_refl _) _ _).loc (Nat.le_refl _) _ _).alloc _)
      · exact ((((((C1.loc (Nat.le_refl _) _ _).loc (Nat.le_refl _) _ _).loc (Nat.le_refl _) _ _).loc (Nat.le_refl _) _ _).alloc _).only).mono (fun _ h => h)
set_option maxRecDepth 8000 in
set_option maxHeartbeats 4000000 in
theorem chg_en (h : Sc w Y B g K n A S F) (n8 : n ≤ 8) (i : Int) (f : Int) :
    Calls Tryz.prog 145 #[ptr B, .int .i64 i, .func (.func 148) #[.int .i64 f] #[]] w fun e w' => e = tellR (chV F i (enF f)) ∧ Sc w' Y B g K n A S (turnV F i (enF f)).F ∧ Only [g] w w' := by
  have hs := h.below (below_one w (.cells #[.int .i64 0, .int .i64 0, .int .i64 0, .int .i64 0] 64))
  have hB := h.ltB
  have hg := h.ltg
  have k0 := below_one w (.cells #[.int .i64 0, .int .i64 0, .int .i64 0, .int .i64 0] 64)
  cases hl : look F.R i with
  | none =>
    have hi := look_out hl
    rw [h.len] at hi
    have E1 := Lib.hid (show chV F i (enF f) = Ctl.no 11 by unfold chV; rw [hl])
    have E2 := Lib.hid (show (turnV F i (enF f)).F = F by unfold turnV; rw [hl])
    by_cases h0 : i = 0
    · subst h0
      clear hi hl
      go_enter Tryz.func145, Tryz.ntmps145
      go_wp2
      refine bodyPost_ret (v := .tuple #[.agg #[.int .i64 0, .int .i64 0, .int .i64 0, .int .i64 0], .int .i64 11]) (by simp [results, Tryz.results145, go_sem]) rfl ⟨?_, ?_, ?_⟩
      · rw [E1.out]
        rfl
      · rw [E2.out]
        exact hs
      · exact Only.below k0
    · have q : (i == 0) = false := by simpa using h0
      have hw := within_no (n := n) (i := i) (by omega)
      clear hi h0 hl
      go_enter Tryz.func145, Tryz.ntmps145
      go_wp2_with (go_at_call 89; refine (has_any hs n8 _).mono ?_; rintro e w' ⟨rfl, rfl⟩)
      refine bodyPost_ret (v := .tuple #[.agg #[.int .i64 0, .int .i64 0, .int .i64 0, .int .i64 0], .int .i64 11]) (by simp [results, Tryz.results145, go_sem]) rfl ⟨?_, ?_, ?_⟩
      · rw [E1.out]
        rfl
      · rw [E2.out]
        exact hs
      · exact Only.below k0
  | some x =>
    obtain ⟨i1, i2, hx⟩ := look_in hl
    rw [h.len] at i2
    obtain ⟨k, rfl⟩ : ∃ k : Nat, i = k := ⟨i.toNat, by omega⟩
    rw [Int.toNat_natCast] at hx
    have hk : k < n := by omega
    have hw := within_yes (n := n) (i := (k : Int)) (by omega) i2
    have q : ((k : Int) == 0) = false := by simp; omega
    obtain ⟨⟨x0, x1, x2, x3, x4, x5⟩, hf⟩ := hs.at hx
    have c0 := hs.all
    have C0 := h.cg.alloc (.cells #[.int .i64 0, .int .i64 0, .int .i64 0, .int .i64 0] 64)
    have f0 := hf (k * 6)
    have f1 := hf (k * 6 + 1)
    have f2 := hf (k * 6 + 2)
    have f3 := hf (k * 6 + 3)
    have E1 := Lib.hid (show chV F (k : Int) (enF f) = Ctl.entV x.s x.c x.p x.e f by unfold chV; rw [hl]; rfl)
    have HL := Lib.hid hl
    clear x4 x5 hf hl i1 i2
    go_enter Tryz.func145, Tryz.ntmps145
    go_wp2_with (go_at_call 89; refine (has_any hs n8 _).mono ?_; rintro e w' ⟨rfl, rfl⟩)
    refine (enterm_any x.s x.c x.p x.e f _).mono ?_
    rintro e w1 ⟨rfl, k1⟩
    have HV := Lib.hid (show (enF f) x = Ctl.entV x.s x.c x.p x.e f from rfl)
    generalize hv : Ctl.entV x.s x.c x.p x.e f = v at *
    have D0 : w1.cell? ⟨w.heap.size, 0, none⟩ = some (.int .i64 0) := Gr.bel k1 (by simp [go_sem])
    have D1 : w1.cell? ⟨w.heap.size, 1, none⟩ = some (.int .i64 0) := Gr.bel k1 (by simp [go_sem])
    have D2 : w1.cell? ⟨w.heap.size, 2, none⟩ = some (.int .i64 0) := Gr.bel k1 (by simp [go_sem])
    have D3 : w1.cell? ⟨w.heap.size, 3, none⟩ = some (.int .i64 0) := Gr.bel k1 (by simp [go_sem])
    obtain ⟨_, qf⟩ := Ctl.bcell k1
    have g0 : w1.frozen? ⟨w.heap.size, 0, none⟩ = false := by rw [qf _ _ (by simp)]; simp [go_sem]
    have g1 : w1.frozen? ⟨w.heap.size, 1, none⟩ = false := by rw [qf _ _ (by simp)]; simp [go_sem]
    have g2 : w1.frozen? ⟨w.heap.size, 2, none⟩ = false := by rw [qf _ _ (by simp)]; simp [go_sem]
    have g3 : w1.frozen? ⟨w.heap.size, 3, none⟩ = false := by rw [qf _ _ (by simp)]; simp [go_sem]
    have C1 := C0.call k1
    have Z1 : w.heap.size < w1.heap.size := by have := k1.size; simp at this; omega
    have S2 := (hs.below k1).alloc' (.cells #[.int .i64 v.s, .int .i64 v.c, .int .i64 v.p, .int .i64 v.e] 64)
    have C2 := C1.alloc (.cells #[.int .i64 v.s, .int .i64 v.c, .int .i64 v.p, .int .i64 v.e] 64)
    clear x0 x1 x2 x3 c0 f0 f1 f2 f3 k1 qf hs C0 k0
    obtain ⟨⟨x0, x1, x2, x3, x4, x5⟩, hf⟩ := S2.at hx
    have c0 := S2.all
    have f0 := hf (k * 6)
    have f1 := hf (k * 6 + 1)
    have f2 := hf (k * 6 + 2)
    have f3 := hf (k * 6 + 3)
    have d0 := Gr.cell_alloc D0 (.cells #[.int .i64 v.s, .int .i64 v.c, .int .i64 v.p, .int .i64 v.e] 64)
    have d1 := Gr.cell_alloc D1 (.cells #[.int .i64 v.s, .int .i64 v.c, .int .i64 v.p, .int .i64 v.e] 64)
    have d2 := Gr.cell_alloc D2 (.cells #[.int .i64 v.s, .int .i64 v.c, .int .i64 v.p, .int .i64 v.e] 64)
    have d3 := Gr.cell_alloc D3 (.cells #[.int .i64 v.s, .int .i64 v.c, .int .i64 v.p, .int .i64 v.e] 64)
    have HVV := Lib.hid hv
    clear x4 x5 hf hv
    have Bn : B ≠ g := h.ne
    by_cases hx0 : v.x = 0
    · have q2 : (v.x != 0) = false := by simpa using hx0
      have E3 := Lib.hid (show (turnV F (k : Int) (enF f)).F = ⟨F.R.set k (x.turn v), F.L⟩ by unfold turnV; rw [HL.out]; simp only [HV.out, Int.toNat_natCast]; rw [if_pos hx0])
      have HX := Lib.hid hx0
      clear hx0
      go_wp2_with fail
      go_region
      all_goals
        have C3 := (C2.put4 k hx v.s v.c v.p v.e).drew
        have F1 := far4 (W := (w1.alloc (.cells #[.int .i64 v.s, .int .i64 v.c, .int .i64 v.p, .int .i64 v.e] 64))) (g := g) (b := w.heap.size) (by omega) (k * 6) (k * 6 + 1) (k * 6 + 2) (k * 6 + 3) (.int .i64 v.s) (.int .i64 v.c) (.int .i64 v.p) (.int .i64 v.e)
        have F2 := far4 (W := (w1.alloc (.cells #[.int .i64 v.s, .int .i64 v.c, .int .i64 v.p, .int .i64 v.e] 64))) (g := g) (b := w1.heap.size) (by omega) (k * 6) (k * 6 + 1) (k * 6 + 2) (k * 6 + 3) (.int .i64 v.s) (.int .i64 v.c) (.int .i64 v.p) (.int .i64 v.e)
        have e0 := cell_eq F1 d0
        have e1 := cell_eq F1 d1
        have e2 := cell_eq F1 d2
        have e3 := cell_eq F1 d3
        have u0 := cell_eq (o := 0) (v := .int .i64 v.s) F2 (by simp [go_sem])
        have u1 := cell_eq (o := 1) (v := .int .i64 v.c) F2 (by simp [go_sem])
        have u2 := cell_eq (o := 2) (v := .int .i64 v.p) F2 (by simp [go_sem])
        have u3 := cell_eq (o := 3) (v := .int .i64 v.e) F2 (by simp [go_sem])
        have k0 := froz_eq (o := 0) (v := false) F1 (froz_alloc g0 Z1 _)
        have k1 := froz_eq (o := 1) (v := false) F1 (froz_alloc g1 Z1 _)
        have k2 := froz_eq (o := 2) (v := false) F1 (froz_alloc g2 Z1 _)
        have k3 := froz_eq (o := 3) (v := false) F1 (froz_alloc g3 Z1 _)
        clear F1 F2 f0 f1 f2 f3 d0 d1 d2 d3 x0 x1 x2 x3 c0 D0 D1 D2 D3 g0 g1 g2 g3 S2 C2 C1
        generalize (((((w1.alloc (.cells #[.int .i64 v.s, .int .i64 v.c, .int .i64 v.p, .int .i64 v.e] 64)).setCell ⟨g, k * 6, none⟩ (.int .i64 v.s)).setCell ⟨g, k * 6 + 1, none⟩ (.int .i64 v.c)).setCell ⟨g, k * 6 + 2, none⟩ (.int .i64 v.p)).setCell ⟨g, k * 6 + 3, none⟩ (.int .i64 v.e)).drew = W3 at *
        go_wp2
        refine bodyPost_ret (v := .tuple #[.agg #[.int .i64 v.s, .int .i64 v.c, .int .i64 v.p, .int .i64 v.e], .int .i64 0]) (by simp [results, Tryz.results145, go_sem, e0, e1, e2, e3]) rfl ⟨?_, ?_, ?_⟩
        · rw [E1.out]
          show _ = Ending.returned (.tuple #[.agg #[.int .i64 v.s, .int .i64 v.c, .int .i64 v.p, .int .i64 v.e], .int .i64 v.x])
          rw [HX.out]
        · rw [E3.out]
          exact h.of_cg ((((C3.loc (Nat.le_refl _) _ _).loc (Nat.le_refl _) _ _).loc (Nat.le_refl _) _ _).loc (Nat.le_refl _) _ _)
        · exact (((((C3.loc (Nat.le_refl _) _ _).loc (Nat.le_refl _) _ _).loc (Nat.le_refl _) _ _).loc (Nat.le_refl _) _ _).only).mono (fun _ h => h)
    · have q2 : (v.x != 0) = true := by simpa using hx0
      have E3 := Lib.hid (show (turnV F (k : Int) (enF f)).F = F by unfold turnV; rw [HL.out]; simp only [HV.out]; rw [if_neg hx0])
      have E4 := Lib.hid (show v = Ctl.no v.x by have := clean_en f x; rw [HV.out] at this; exact this hx0)
      clear hx0
      obtain ⟨r0, r1, r2, r3⟩ := read4 (.int .i64 0) (.int .i64 0) (.int .i64 0) (.int .i64 0) (.cells #[.int .i64 v.s, .int .i64 v.c, .int .i64 v.p, .int .i64 v.e] 64) D0 D1 D2 D3
      go_wp2
      refine bodyPost_ret (v := .tuple #[.agg #[.int .i64 0, .int .i64 0, .int .i64 0, .int .i64 0], .int .i64 v.x]) (by simp [results, Tryz.results145, go_sem, r0, r1, r2, r3]) rfl ⟨?_, ?_, ?_⟩
      · rw [E1.out, E4.out]
        rfl
      · rw [E3.out]
        exact h.of_cg (((((C1.loc (Nat.le_refl _) _ _).loc (Nat.le_refl _) _ _).loc (Nat.le_refl _) _ _).loc (Nat.le_refl _) _ _).alloc _)
      · exact ((((((C1.loc (Nat.le_refl _) _ _).loc (Nat.le_refl _) _ _).loc (Nat.le_refl _) _ _).loc (Nat.le_refl _) _ _).alloc _).only).mono (fun _ h => h)
set_option maxRecDepth 8000 in
set_option maxHeartbeats 4000000 in
theorem chg_un (h : Sc w Y B g K n A S F) (n8 : n ≤ 8) (i : Int) (hr : ∀ (i : Nat) (x : Cx), F.R[i]? = some x → Ctl.rightB x.s x.c x.p x.e = true) :
    Calls Tryz.prog 145 #[ptr B, .int .i64 i, .func (.func 146) #[] #[]] w fun e w' => e = tellR (chV F i unF) ∧ Sc w' Y B g K n A S (turnV F i unF).F ∧ Only [g] w w' := by
  have hs := h.below (below_one w (.cells #[.int .i64 0, .int .i64 0, .int .i64 0, .int .i64 0] 64))
  have hB := h.ltB
  have hg := h.ltg
  have k0 := below_one w (.cells #[.int .i64 0, .int .i64 0, .int .i64 0, .int .i64 0] 64)
  cases hl : look F.R i with
  | none =>
    have hi := look_out hl
    rw [h.len] at hi
    have E1 := Lib.hid (show chV F i unF = Ctl.no 11 by unfold chV; rw [hl])
    have E2 := Lib.hid (show (turnV F i unF).F = F by unfold turnV; rw [hl])
    by_cases h0 : i = 0
    · subst h0
      clear hi hl
      go_enter Tryz.func145, Tryz.ntmps145
      go_wp2
      refine bodyPost_ret (v := .tuple #[.agg #[.int .i64 0, .int .i64 0, .int .i64 0, .int .i64 0], .int .i64 11]) (by simp [results, Tryz.results145, go_sem]) rfl ⟨?_, ?_, ?_⟩
      · rw [E1.out]
        rfl
      · rw [E2.out]
        exact hs
      · exact Only.below k0
    · have q : (i == 0) = false := by simpa using h0
      have hw := within_no (n := n) (i := i) (by omega)
      clear hi h0 hl
      go_enter Tryz.func145, Tryz.ntmps145
      go_wp2_with (go_at_call 89; refine (has_any hs n8 _).mono ?_; rintro e w' ⟨rfl, rfl⟩)
      refine bodyPost_ret (v := .tuple #[.agg #[.int .i64 0, .int .i64 0, .int .i64 0, .int .i64 0], .int .i64 11]) (by simp [results, Tryz.results145, go_sem]) rfl ⟨?_, ?_, ?_⟩
      · rw [E1.out]
        rfl
      · rw [E2.out]
        exact hs
      · exact Only.below k0
  | some x =>
    obtain ⟨i1, i2, hx⟩ := look_in hl
    rw [h.len] at i2
    obtain ⟨k, rfl⟩ : ∃ k : Nat, i = k := ⟨i.toNat, by omega⟩
    rw [Int.toNat_natCast] at hx
    have hk : k < n := by omega
    have hw := within_yes (n := n) (i := (k : Int)) (by omega) i2
    have q : ((k : Int) == 0) = false := by simp; omega
    obtain ⟨⟨x0, x1, x2, x3, x4, x5⟩, hf⟩ := hs.at hx
    have c0 := hs.all
    have C0 := h.cg.alloc (.cells #[.int .i64 0, .int .i64 0, .int .i64 0, .int .i64 0] 64)
    have f0 := hf (k * 6)
    have f1 := hf (k * 6 + 1)
    have f2 := hf (k * 6 + 2)
    have f3 := hf (k * 6 + 3)
    have E1 := Lib.hid (show chV F (k : Int) unF = unV x.s x.c x.p x.e by unfold chV; rw [hl]; rfl)
    have HL := Lib.hid hl
    clear x4 x5 hf hl i1 i2
    go_enter Tryz.func145, Tryz.ntmps145
    go_wp2_with (go_at_call 89; refine (has_any hs n8 _).mono ?_; rintro e w' ⟨rfl, rfl⟩)
    refine (unmade_any x.s x.c x.p x.e _ (rightI (hr k x hx)).1 (rightI (hr k x hx)).2.1).mono ?_
    rintro e w1 ⟨rfl, k1⟩
    have HV := Lib.hid (show unF x = unV x.s x.c x.p x.e from rfl)
    generalize hv : unV x.s x.c x.p x.e = v at *
    have D0 : w1.cell? ⟨w.heap.size, 0, none⟩ = some (.int .i64 0) := Gr.bel k1 (by simp [go_sem])
    have D1 : w1.cell? ⟨w.heap.size, 1, none⟩ = some (.int .i64 0) := Gr.bel k1 (by simp [go_sem])
    have D2 : w1.cell? ⟨w.heap.size, 2, none⟩ = some (.int .i64 0) := Gr.bel k1 (by simp [go_sem])
    have D3 : w1.cell? ⟨w.heap.size, 3, none⟩ = some (.int .i64 0) := Gr.bel k1 (by simp [go_sem])
    obtain ⟨_, qf⟩ := Ctl.bcell k1
    have g0 : w1.frozen? ⟨w.heap.size, 0, none⟩ = false := by rw [qf _ _ (by simp)]; simp [go_sem]
    have g1 : w1.frozen? ⟨w.heap.size, 1, none⟩ = false := by rw [qf _ _ (by simp)]; simp [go_sem]
    have g2 : w1.frozen? ⟨w.heap.size, 2, none⟩ = false := by rw [qf _ _ (by simp)]; simp [go_sem]
    have g3 : w1.frozen? ⟨w.heap.size, 3, none⟩ = false := by rw [qf _ _ (by simp)]; simp [go_sem]
    have C1 := C0.call k1
    have Z1 : w.heap.size < w1.heap.size := by have := k1.size; simp at this; omega
    have S2 := (hs.below k1).alloc' (.cells #[.int .i64 v.s, .int .i64 v.c, .int .i64 v.p, .int .i64 v.e] 64)
    have C2 := C1.alloc (.cells #[.int .i64 v.s, .int .i64 v.c, .int .i64 v.p, .int .i64 v.e] 64)
    clear x0 x1 x2 x3 c0 f0 f1 f2 f3 k1 qf hs C0 k0
    obtain ⟨⟨x0, x1, x2, x3, x4, x5⟩, hf⟩ := S2.at hx
    have c0 := S2.all
    have f0 := hf (k * 6)
    have f1 := hf (k * 6 + 1)
    have f2 := hf (k * 6 + 2)
    have f3 := hf (k * 6 + 3)
    have d0 := Gr.cell_alloc D0 (.cells #[.int .i64 v.s, .int .i64 v.c, .int .i64 v.p, .int .i64 v.e] 64)
    have d1 := Gr.cell_alloc D1 (.cells #[.int .i64 v.s, .int .i64 v.c, .int .i64 v.p, .int .i64 v.e] 64)
    have d2 := Gr.cell_alloc D2 (.cells #[.int .i64 v.s, .int .i64 v.c, .int .i64 v.p, .int .i64 v.e] 64)
    have d3 := Gr.cell_alloc D3 (.cells #[.int .i64 v.s, .int .i64 v.c, .int .i64 v.p, .int .i64 v.e] 64)
    have HVV := Lib.hid hv
    clear x4 x5 hf hv
    have Bn : B ≠ g := h.ne
    by_cases hx0 : v.x = 0
    · have q2 : (v.x != 0) = false := by simpa using hx0
      have E3 := Lib.hid (show (turnV F (k : Int) unF).F = ⟨F.R.set k (x.turn v), F.L⟩ by unfold turnV; rw [HL.out]; simp only [HV.out, Int.toNat_natCast]; rw [if_pos hx0])
      have HX := Lib.hid hx0
      clear hx0
      go_wp2_with fail
      go_region
      all_goals
        have C3 := (C2.put4 k hx v.s v.c v.p v.e).drew
        have F1 := far4 (W := (w1.alloc (.cells #[.int .i64 v.s, .int .i64 v.c, .int .i64 v.p, .int .i64 v.e] 64))) (g := g) (b := w.heap.size) (by omega) (k * 6) (k * 6 + 1) (k * 6 + 2) (k * 6 + 3) (.int .i64 v.s) (.int .i64 v.c) (.int .i64 v.p) (.int .i64 v.e)
        have F2 := far4 (W := (w1.alloc (.cells #[.int .i64 v.s, .int .i64 v.c, .int .i64 v.p, .int .i64 v.e] 64))) (g := g) (b := w1.heap.size) (by omega) (k * 6) (k * 6 + 1) (k * 6 + 2) (k * 6 + 3) (.int .i64 v.s) (.int .i64 v.c) (.int .i64 v.p) (.int .i64 v.e)
        have e0 := cell_eq F1 d0
        have e1 := cell_eq F1 d1
        have e2 := cell_eq F1 d2
        have e3 := cell_eq F1 d3
        have u0 := cell_eq (o := 0) (v := .int .i64 v.s) F2 (by simp [go_sem])
        have u1 := cell_eq (o := 1) (v := .int .i64 v.c) F2 (by simp [go_sem])
        have u2 := cell_eq (o := 2) (v := .int .i64 v.p) F2 (by simp [go_sem])
        have u3 := cell_eq (o := 3) (v := .int .i64 v.e) F2 (by simp [go_sem])
        have k0 := froz_eq (o := 0) (v := false) F1 (froz_alloc g0 Z1 _)
        have k1 := froz_eq (o := 1) (v := false) F1 (froz_alloc g1 Z1 _)
        have k2 := froz_eq (o := 2) (v := false) F1 (froz_alloc g2 Z1 _)
        have k3 := froz_eq (o := 3) (v := false) F1 (froz_alloc g3 Z1 _)
        clear F1 F2 f0 f1 f2 f3 d0 d1 d2 d3 x0 x1 x2 x3 c0 D0 D1 D2 D3 g0 g1 g2 g3 S2 C2 C1
        generalize (((((w1.alloc (.cells #[.int .i64 v.s, .int .i64 v.c, .int .i64 v.p, .int .i64 v.e] 64)).setCell ⟨g, k * 6, none⟩ (.int .i64 v.s)).setCell ⟨g, k * 6 + 1, none⟩ (.int .i64 v.c)).setCell ⟨g, k * 6 + 2, none⟩ (.int .i64 v.p)).setCell ⟨g, k * 6 + 3, none⟩ (.int .i64 v.e)).drew = W3 at *
        go_wp2
        refine bodyPost_ret (v := .tuple #[.agg #[.int .i64 v.s, .int .i64 v.c, .int .i64 v.p, .int .i64 v.e], .int .i64 0]) (by simp [results, Tryz.results145, go_sem, e0, e1, e2, e3]) rfl ⟨?_, ?_, ?_⟩
        · rw [E1.out]
          show _ = Ending.returned (.tuple #[.agg #[.int .i64 v.s, .int .i64 v.c, .int .i64 v.p, .int .i64 v.e], .int .i64 v.x])
          rw [HX.out]
        · rw [E3.out]
          exact h.of_cg ((((C3.loc (Nat.le_refl _) _ _).loc (Nat.le_refl _) _ _).loc (Nat.le_refl _) _ _).loc (Nat.le_refl _) _ _)
        · exact (((((C3.loc (Nat.le_refl _) _ _).loc (Nat.le_refl _) _ _).loc (Nat.le_refl _) _ _).loc (Nat.le_refl _) _ _).only).mono (fun _ h => h)
    · have q2 : (v.x != 0) = true := by simpa using hx0
      have E3 := Lib.hid (show (turnV F (k : Int) unF).F = F by unfold turnV; rw [HL.out]; simp only [HV.out]; rw [if_neg hx0])
      have E4 := Lib.hid (show v = Ctl.no v.x by have := clean_un x; rw [HV.out] at this; exact this hx0)
      clear hx0
      obtain ⟨r0, r1, r2, r3⟩ := read4 (.int .i64 0) (.int .i64 0) (.int .i64 0) (.int .i64 0) (.cells #[.int .i64 v.s, .int .i64 v.c, .int .i64 v.p, .int .i64 v.e] 64) D0 D1 D2 D3
      go_wp2
      refine bodyPost_ret (v := .tuple #[.agg #[.int .i64 0, .int .i64 0, .int .i64 0, .int .i64 0], .int .i64 v.x]) (by simp [results, Tryz.results145, go_sem, r0, r1, r2, r3]) rfl ⟨?_, ?_, ?_⟩
      · rw [E1.out, E4.out]
        rfl
      · rw [E3.out]
        exact h.of_cg (((((C1.loc (Nat.le_refl _) _ _).loc (Nat.le_refl _) _ _).loc (Nat.le_refl _) _ _).loc (Nat.le_refl _) _ _).alloc _)
      · exact ((((((C1.loc (Nat.le_refl _) _ _).loc (Nat.le_refl _) _ _).loc (Nat.le_refl _) _ _).loc (Nat.le_refl _) _ _).alloc _).only).mono (fun _ h => h)
end
end Go.Proofs.YtneggppfffekdaaGreat.Sco
