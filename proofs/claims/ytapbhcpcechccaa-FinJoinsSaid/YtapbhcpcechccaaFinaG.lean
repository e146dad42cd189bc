/-
  Contracts of the document's Step.
-/
import Derived.Test.YtapbhcpcechccaaFinaF
import Derived.Deep.DeepCutAuto
namespace Go.Proofs.Ytapbhcpcechccaa.Fina
open Go.ChangeShapes Go.WideShapes Go.ChangeAt Go.RowKit
open Slic
set_option linter.unusedVariables false

theorem told_of {w w' : World} {a : Int} {S D : List Int} {h : Bool} {vs vd : Value} (h1 : Own kU w' w.heap.size vs S) (h2 : Own kI w' w.heap.size vd D) (h3 : Below w.heap.size w w') : StepTold w a S D h (.returned (.tuple #[.int .i64 a, vs, vd, .bool h])) w' := ⟨vs, vd, rfl, h1, h2, h3⟩
theorem put_word {w : World} {base g c : Nat} {S : List Int} (h : Own kU w base (.slice (some ⟨g, 0, none⟩) S.length c) S) (k : Nat) (x : Int) (hk : k < S.length) : Own kU (w.setCell ⟨g, k, none⟩ (.int .u64 x)) base (.slice (some ⟨g, 0, none⟩) S.length c) (S.set k x) := by
  have := (h.put k 0 hk (by decide) x (.int .u64 x) rfl).1
  rwa [show kU.m = 1 from rfl, Nat.mul_one, Nat.add_zero] at this
theorem own_words {w : World} {base : Nat} {v : Value} {S : List Int} (h : Own kU w base v S) (k : Nat) (hk : k < S.length) : ∃ g c, v = .slice (some ⟨g, 0, none⟩) S.length c ∧ base ≤ g ∧ g < w.heap.size ∧ S.length ≤ c ∧ c ≤ maxLen ∧ w.frozen? ⟨g, k, none⟩ = false ∧ ∀ (j : Nat) (h : j < S.length), w.cell? ⟨g, j, none⟩ = some (.int .u64 S[j]) := by
  obtain ⟨g, c, rfl, g1, g2, g3, g4, g5, g6⟩ := h.form (by omega)
  refine ⟨g, c, rfl, g1, g2, g3, g4, g5 k, fun j hj => ?_⟩
  have := g6 j 0 _ hj rfl
  rwa [show kU.m = 1 from rfl, Nat.mul_one, Nat.add_zero] at this
set_option maxRecDepth 100000 in
set_option maxHeartbeats 4000000 in
theorem refstep_no (w : World) (v u : Value) (L : List O) (S : List Int) (a : Int) (hL : Sr kF w v L) (hl : L.length ≤ 100000) (hs : Sr kU w u S) (hS : S.length ≤ 100000) (hn : inB a L.length = false) :
    Calls Try.prog 16 #[v, .int .i64 a, u] w (StepTold w a S [] false) := by
  obtain ⟨A2, cl, rfl, l1, l2⟩ := hL.form
  have two : a < 0 ∨ (0 ≤ a ∧ (L.length : Int) ≤ a) := by simp only [inB, decide_eq_false_iff_not] at hn; omega
  clear hn
  have hs' := hs
  obtain ⟨A3, c3, rfl, s1, s2⟩ := hs.form
  clear hs
  rcases two with z | ⟨z, z'⟩
  · have q : decide (a < 0) = true := decide_eq_true z
    go_enter Try.func16, Try.ntmps16
    go_wp2_with (
      refine wpList_app (K := kU) rfl (.tmp 14) (.tmp 15) rfl rfl rfl rfl (Own.empty w w.heap.size (Nat.le_refl _)) (hs'.alloc _) (by simp; omega) (by simp) ?_
      intro v' w' O' g' G'
      obtain ⟨A, c, rfl, c1, c2⟩ := O'.sr.form)
    exact bodyPost_ret (v := .tuple #[.int .i64 a, .slice A S.length c, .slice none 0 0, .bool false]) (by simp [results, Try.results16, go_sem]) rfl (told_of O' (Own.nil _ _) (G'.below _ _ (Nat.le_refl _) (below_one _ _)))
  · have q : decide (a < 0) = false := decide_eq_false (by omega)
    have q' : decide ((L.length : Int) ≤ a) = true := decide_eq_true z'
    go_enter Try.func16, Try.ntmps16
    go_wp2_with (
      refine wpList_app (K := kU) rfl (.tmp 14) (.tmp 15) rfl rfl rfl rfl (Own.empty w w.heap.size (Nat.le_refl _)) (hs'.alloc _) (by simp; omega) (by simp) ?_
      intro v' w' O' g' G'
      obtain ⟨A, c, rfl, c1, c2⟩ := O'.sr.form)
    exact bodyPost_ret (v := .tuple #[.int .i64 a, .slice A S.length c, .slice none 0 0, .bool false]) (by simp [results, Try.results16, go_sem]) rfl (told_of O' (Own.nil _ _) (G'.below _ _ (Nat.le_refl _) (below_one _ _)))

theorem own_num (W : World) (x : Int) {b : Nat} (hb : b ≤ W.heap.size) : Own kI (W.alloc (.cells #[.int .i64 x] 3)) b (.slice (some ⟨W.heap.size, 0, none⟩) 1 1) [x] := Own.lit W b hb [x] #[.int .i64 x] rfl (by simp [maxLen]) 1 rfl
theorem in_cases (a : Int) (n : Nat) : (inB a n = false ∧ decide (0 ≤ a) = false) ∨ (inB a n = false ∧ decide (0 ≤ a) = true ∧ decide (a < (n : Int)) = false) ∨ (inB a n = true ∧ decide (0 ≤ a) = true ∧ decide (a < (n : Int)) = true) := by
  simp only [inB, decide_eq_false_iff_not, decide_eq_true_eq]
  omega
set_option maxRecDepth 100000 in
set_option maxHeartbeats 4000000 in
theorem refstep_yes (w : World) (v u : Value) (L : List O) (S : List Int) (i : Nat) (hL : Sr kF w v L) (hl : L.length ≤ 100000) (hs : Sr kU w u S) (hS : S.length ≤ 100000) (hi : i < L.length) (hb : okO L) (hk : okL L) :
    Calls Try.prog 16 #[v, .int .i64 i, u] w (StepTold w (i + 1 + leftV S L[i]) (slotsV S L[i]) (sayV L[i]) (holdV L[i])) := by
  obtain ⟨A2, cl, rfl, l1, l2⟩ := hL.form
  obtain ⟨g2, o2, rfl, hg2, d0, d1, d2⟩ := op_at hL i hi
  have ho := hb _ (List.getElem_mem hi)
  have hq := hk _ (List.getElem_mem hi)
  generalize L[i] = q at *
  obtain ⟨op, a, b⟩ := q
  simp only at d0 d1 d2 ho hq
  generalize ha : ((i : Int) + 1 + leftV S (op, a, b), slotsV S (op, a, b), sayV (op, a, b), holdV (op, a, b)) = T
  obtain ⟨a', S', D', h'⟩ := T
  simp only [Prod.mk.injEq] at ha
  obtain ⟨e1, e2, e3, e4⟩ := ha
  rw [e1, e2, e3, e4]
  have HA := Lib.hid (And.intro e1 (And.intro e2 (And.intro e3 e4)))
  clear e1 e2 e3 e4 hL hb hk
  have hs' := hs
  obtain ⟨A3, c3, rfl, s1, s2⟩ := hs.form
  clear hs
  have i0 : (0 : Int) ≤ (i : Int) := by omega
  have i1 : (i : Int) < (L.length : Int) := by omega
  have z1 : decide ((i : Int) < 0) = false := decide_eq_false (by omega)
  have z2 : decide ((L.length : Int) ≤ (i : Int)) = false := decide_eq_false (by omega)
  go_enter Try.func16, Try.ntmps16
  go_upto_region 5 with (
    refine wpList_app (K := kU) rfl (.tmp 14) (.tmp 15) rfl rfl rfl rfl (Own.empty w w.heap.size (Nat.le_refl _)) (hs'.alloc _) (by simp; omega) (by simp) ?_
    intro v' w' O' g' G'
    obtain ⟨A, c, rfl, c1, c2⟩ := O'.sr.form
    have d0' := (cell_only g' (by simp; omega) (far_own (Own.empty (K := kU) w w.heap.size (Nat.le_refl _)) hg2) (o2 + i * 3)).trans ((below_one w _).cell (p := ⟨g2, o2 + i * 3, none⟩) hg2 |>.trans d0)
    have d1' := (cell_only g' (by simp; omega) (far_own (Own.empty (K := kU) w w.heap.size (Nat.le_refl _)) hg2) (o2 + i * 3 + 1)).trans ((below_one w _).cell (p := ⟨g2, o2 + i * 3 + 1, none⟩) hg2 |>.trans d1)
    have d2' := (cell_only g' (by simp; omega) (far_own (Own.empty (K := kU) w w.heap.size (Nat.le_refl _)) hg2) (o2 + i * 3 + 2)).trans ((below_one w _).cell (p := ⟨g2, o2 + i * 3 + 2, none⟩) hg2 |>.trans d2))
  rw [List.nil_append] at *
  have B1 : Below w.heap.size w w' := G'.below _ _ (Nat.le_refl _) (below_one _ _)
  have x0 : (w'.alloc (.cells #[.int .u8 op, .int .i64 a, .int .i64 b] 32)).cell? ⟨w'.heap.size, 0, none⟩ = some (.int .u8 op) := by simp [go_sem]
  have x1 : (w'.alloc (.cells #[.int .u8 op, .int .i64 a, .int .i64 b] 32)).cell? ⟨w'.heap.size, 1, none⟩ = some (.int .i64 a) := by simp [go_sem]
  have x2 : (w'.alloc (.cells #[.int .u8 op, .int .i64 a, .int .i64 b] 32)).cell? ⟨w'.heap.size, 2, none⟩ = some (.int .i64 b) := by simp [go_sem]
  have hz : w'.heap.size < (w'.alloc (.cells #[.int .u8 op, .int .i64 a, .int .i64 b] 32)).heap.size := by simp
  have B2 := B1.alloc B1.size (.cells #[.int .u8 op, .int .i64 a, .int .i64 b] 32)
  have O2 := O'.below (below_one _ (.cells #[.int .u8 op, .int .i64 a, .int .i64 b] 32))
  have hfar : Hid (∀ g, (Value.slice A S.length c).ownBlock = some g → g < w'.heap.size) := Lib.hid fun g e => (O'.lt g e).2
  clear d0 d1 d2 d0' d1' d2' g' G' O' B1 hs' z1 z2 i1
  generalize w'.alloc (.cells #[.int .u8 op, .int .i64 a, .int .i64 b] 32) = W at *
  generalize w'.heap.size = B at *
  go_cut [12] (fun s wx => s = .bool (inB a S.length) ∧ W = wx)
  case first =>
    rcases in_cases a S.length with ⟨y, y1⟩ | ⟨y, y1, y2⟩ | ⟨y, y1, y2⟩
    all_goals
      go_wp2_with fail
      go_meet
      exact ⟨by rw [y], rfl⟩
  case rest =>
  obtain ⟨rfl, rfl⟩ := hcut
  go_upto_region 6 with (fail)
  go_cut [13] (fun s wx => s = .bool (inB b S.length) ∧ W = wx)
  case first =>
    rcases in_cases b S.length with ⟨y, y1⟩ | ⟨y, y1, y2⟩ | ⟨y, y1, y2⟩
    all_goals
      go_wp2_with fail
      go_meet
      exact ⟨by rw [y], rfl⟩
  case rest =>
  obtain ⟨rfl, rfl⟩ := hcut
  have i2 : (i : Int) ≤ 100000 := by omega
  have hk : op = 0 ∨ op = 1 ∨ op = 2 ∨ op = 3 ∨ 4 ≤ op := by omega
  rcases hk with rfl | rfl | rfl | rfl | h4
  · have G : ((i : Int) + 1, S, [a], false) = (a', S', D', h') := by rw [← HA.out.1, ← HA.out.2.1, ← HA.out.2.2.1, ← HA.out.2.2.2]; simp [leftV, slotsV, sayV, holdV]
    simp only [Prod.mk.injEq] at G
    obtain ⟨rfl, rfl, rfl, rfl⟩ := G
    clear HA
    go_wp2
    go_region
    go_wp2
    exact bodyPost_ret (v := .tuple #[.int .i64 ((i : Int) + 1), .slice A S.length c, .slice (some ⟨W.heap.size, 0, none⟩) 1 1, .bool false]) (by simp [results, Try.results16, go_sem]) rfl (told_of ((O2.below (below_one _ _)).below (below_drew _)) ((own_num W a B2.size).below (below_drew _)) ((B2.alloc B2.size _).trans ((below_drew _).mono (by have := B2.size; simp; omega))))
  · cases ya : inB a S.length with
    | false =>
      have G : ((i : Int) + 1, S, ([] : List Int), false) = (a', S', D', h') := by rw [← HA.out.1, ← HA.out.2.1, ← HA.out.2.2.1, ← HA.out.2.2.2]; simp [leftV, slotsV, sayV, holdV, ya]
      simp only [Prod.mk.injEq] at G
      obtain ⟨rfl, rfl, rfl, rfl⟩ := G
      clear HA
      go_wp2
      go_region
      go_wp2
      exact bodyPost_ret (v := .tuple #[.int .i64 ((i : Int) + 1), .slice A S.length c, .slice none 0 0, .bool false]) (by simp [results, Try.results16, go_sem]) rfl (told_of (O2.below (below_drew _)) (Own.nil _ _) (B2.trans ((below_drew W).mono B2.size)))
    | true =>
      obtain ⟨k, rfl⟩ : ∃ k : Nat, a = k := ⟨a.toNat, by simp only [inB, decide_eq_true_eq] at ya; omega⟩
      have hk : k < S.length := by simp only [inB, decide_eq_true_eq] at ya; omega
      have G : ((i : Int) + 1, S.set k 0, ([] : List Int), false) = (a', S', D', h') := by rw [← HA.out.1, ← HA.out.2.1, ← HA.out.2.2.1, ← HA.out.2.2.2]; simp [leftV, slotsV, sayV, holdV, ya]
      simp only [Prod.mk.injEq] at G
      obtain ⟨rfl, rfl, rfl, rfl⟩ := G
      clear HA
      obtain ⟨g, c', e, g1, g2', g3, g4, f0, hc⟩ := own_words O2 k hk
      injection e with e _ e'
      subst e e'
      have hgB : g < B := hfar.out g rfl
      have hne : B ≠ g := by omega
      have y0 := hc k hk
      clear hc
      have k0 : (0 : Int) ≤ (k : Int) := by omega
      have k1 : (k : Int) < (S.length : Int) := by omega
      have hc9 : S.length ≤ 9223372036854775807 := by omega
      have O3 := (put_word O2 k 0 hk).below (below_drew _)
      have B3 := (B2.setCell (p := ⟨g, k, none⟩) g1 (.int .u64 0)).trans ((below_drew _).mono (B2.setCell (p := ⟨g, k, none⟩) g1 (.int .u64 0)).size)
      clear O2
      go_wp2
      go_region
      go_wp2
      exact bodyPost_ret (v := .tuple #[.int .i64 ((i : Int) + 1), .slice (some ⟨g, 0, none⟩) S.length c, .slice none 0 0, .bool false]) (by simp [results, Try.results16, go_sem]) rfl (told_of O3 (Own.nil _ _) B3)
  · cases ya : inB a S.length with
    | false =>
      have G : ((i : Int) + 1, S, ([] : List Int), false) = (a', S', D', h') := by rw [← HA.out.1, ← HA.out.2.1, ← HA.out.2.2.1, ← HA.out.2.2.2]; simp [leftV, slotsV, sayV, holdV, ya]
      simp only [Prod.mk.injEq] at G
      obtain ⟨rfl, rfl, rfl, rfl⟩ := G
      clear HA
      go_wp2
      go_region
      go_wp2
      exact bodyPost_ret (v := .tuple #[.int .i64 ((i : Int) + 1), .slice A S.length c, .slice none 0 0, .bool false]) (by simp [results, Try.results16, go_sem]) rfl (told_of (O2.below (below_drew _)) (Own.nil _ _) (B2.trans ((below_drew W).mono B2.size)))
    | true =>
      cases yb : inB b S.length with
      | false =>
        have G : ((i : Int) + 1, S, ([] : List Int), false) = (a', S', D', h') := by rw [← HA.out.1, ← HA.out.2.1, ← HA.out.2.2.1, ← HA.out.2.2.2]; simp [leftV, slotsV, sayV, holdV, yb]
        simp only [Prod.mk.injEq] at G
        obtain ⟨rfl, rfl, rfl, rfl⟩ := G
        clear HA
        go_wp2
        go_region
        go_wp2
        exact bodyPost_ret (v := .tuple #[.int .i64 ((i : Int) + 1), .slice A S.length c, .slice none 0 0, .bool false]) (by simp [results, Try.results16, go_sem]) rfl (told_of (O2.below (below_drew _)) (Own.nil _ _) (B2.trans ((below_drew W).mono B2.size)))
      | true =>
        obtain ⟨k, rfl⟩ : ∃ k : Nat, a = k := ⟨a.toNat, by simp only [inB, decide_eq_true_eq] at ya; omega⟩
        have hk : k < S.length := by simp only [inB, decide_eq_true_eq] at ya; omega
        obtain ⟨j, rfl⟩ : ∃ j : Nat, b = j := ⟨b.toNat, by simp only [inB, decide_eq_true_eq] at yb; omega⟩
        have hj : j < S.length := by simp only [inB, decide_eq_true_eq] at yb; omega
        have G : ((i : Int) + 1, S.set k S[j], ([] : List Int), false) = (a', S', D', h') := by rw [← HA.out.1, ← HA.out.2.1, ← HA.out.2.2.1, ← HA.out.2.2.2]; simp [leftV, slotsV, sayV, holdV, ya, yb, List.getElem?_eq_getElem hj]
        simp only [Prod.mk.injEq] at G
        obtain ⟨rfl, rfl, rfl, rfl⟩ := G
        clear HA
        obtain ⟨g, c', e, g1, g2', g3, g4, f0, hc⟩ := own_words O2 k hk
        injection e with e _ e'
        subst e e'
        have hgB : g < B := hfar.out g rfl
        have hne : B ≠ g := by omega
        have y0 := hc k hk
        have y1 := hc j hj
        clear hc
        generalize S[k] = x at *
        generalize S[j] = y at *
        have k0 : (0 : Int) ≤ (k : Int) := by omega
        have k1 : (k : Int) < (S.length : Int) := by omega
        have j0 : (0 : Int) ≤ (j : Int) := by omega
        have j1 : (j : Int) < (S.length : Int) := by omega
        have hc9 : S.length ≤ 9223372036854775807 := by omega
        have O3 := ((put_word O2 k y hk).below (below_drew _)).below (below_drew _)
        have B3 := ((B2.setCell (p := ⟨g, k, none⟩) g1 (.int .u64 y)).drew).drew
        clear O2
        go_wp2
        go_region
        go_wp2
        go_region
        go_wp2
        exact bodyPost_ret (v := .tuple #[.int .i64 ((i : Int) + 1), .slice (some ⟨g, 0, none⟩) S.length c, .slice none 0 0, .bool false]) (by simp [results, Try.results16, go_sem]) rfl (told_of O3 (Own.nil _ _) B3)
  · have hq := hq rfl
    cases ya : inB a S.length with
    | false =>
      have G : ((i : Int) + 1, S, ([] : List Int), false) = (a', S', D', h') := by rw [← HA.out.1, ← HA.out.2.1, ← HA.out.2.2.1, ← HA.out.2.2.2]; simp [leftV, slotsV, sayV, holdV, ya]
      simp only [Prod.mk.injEq] at G
      obtain ⟨rfl, rfl, rfl, rfl⟩ := G
      clear HA
      go_wp2
      go_region
      go_wp2
      exact bodyPost_ret (v := .tuple #[.int .i64 ((i : Int) + 1), .slice A S.length c, .slice none 0 0, .bool false]) (by simp [results, Try.results16, go_sem]) rfl (told_of (O2.below (below_drew _)) (Own.nil _ _) (B2.trans ((below_drew W).mono B2.size)))
    | true =>
      obtain ⟨k, rfl⟩ : ∃ k : Nat, a = k := ⟨a.toNat, by simp only [inB, decide_eq_true_eq] at ya; omega⟩
      have hk : k < S.length := by simp only [inB, decide_eq_true_eq] at ya; omega
      obtain ⟨g, c', e, g1, g2', g3, g4, f0, hc⟩ := own_words O2 k hk
      injection e with e _ e'
      subst e e'
      have hgB : g < B := hfar.out g rfl
      have hne : B ≠ g := by omega
      have y0 := hc k hk
      clear hc
      have k0 : (0 : Int) ≤ (k : Int) := by omega
      have k1 : (k : Int) < (S.length : Int) := by omega
      have hc9 : S.length ≤ 9223372036854775807 := by omega
      by_cases hx : S[k] = 0
      · rw [hx] at y0
        have G : ((i : Int) + 1 + b, S, ([] : List Int), false) = (a', S', D', h') := by rw [← HA.out.1, ← HA.out.2.1, ← HA.out.2.2.1, ← HA.out.2.2.2]; simp [leftV, slotsV, sayV, holdV, ya, hx, List.getElem?_eq_getElem hk]
        simp only [Prod.mk.injEq] at G
        obtain ⟨rfl, rfl, rfl, rfl⟩ := G
        clear HA
        clear hx
        go_wp2
        exact bodyPost_ret (v := .tuple #[.int .i64 ((i : Int) + 1 + b), .slice (some ⟨g, 0, none⟩) S.length c, .slice none 0 0, .bool false]) (by simp [results, Try.results16, go_sem]) rfl (told_of O2 (Own.nil _ _) B2)
      · have zx : (S[k] == 0) = false := by simpa using hx
        have G : ((i : Int) + 1, S, ([] : List Int), false) = (a', S', D', h') := by rw [← HA.out.1, ← HA.out.2.1, ← HA.out.2.2.1, ← HA.out.2.2.2]; simp [leftV, slotsV, sayV, holdV, ya, hx, List.getElem?_eq_getElem hk]
        simp only [Prod.mk.injEq] at G
        obtain ⟨rfl, rfl, rfl, rfl⟩ := G
        clear HA
        generalize S[k] = x at *
        clear hx
        go_wp2
        go_region
        go_wp2
        exact bodyPost_ret (v := .tuple #[.int .i64 ((i : Int) + 1), .slice (some ⟨g, 0, none⟩) S.length c, .slice none 0 0, .bool false]) (by simp [results, Try.results16, go_sem]) rfl (told_of (O2.below (below_drew _)) (Own.nil _ _) (B2.trans ((below_drew W).mono B2.size)))
  · have n0 : op ≠ 0 := by omega
    have n1 : op ≠ 1 := by omega
    have n2 : op ≠ 2 := by omega
    have n3 : op ≠ 3 := by omega
    have q0 : (op == 0) = false := by simpa using n0
    have q1 : (op == 1) = false := by simpa using n1
    have q2 : (op == 2) = false := by simpa using n2
    have q3 : (op == 3) = false := by simpa using n3
    have G : ((i : Int) + 1, S, ([] : List Int), (op == 4)) = (a', S', D', h') := by rw [← HA.out.1, ← HA.out.2.1, ← HA.out.2.2.1, ← HA.out.2.2.2]; simp [leftV, slotsV, sayV, holdV, n0, n1, n2, n3]; rfl
    simp only [Prod.mk.injEq] at G
    obtain ⟨rfl, rfl, rfl, rfl⟩ := G
    clear HA
    clear n0 n1 n2 n3
    generalize hy : (op == 4) = y at *
    go_wp2
    go_region
    go_wp2
    exact bodyPost_ret (v := .tuple #[.int .i64 ((i : Int) + 1), .slice A S.length c, .slice none 0 0, .bool y]) (by simp [results, Try.results16, go_sem]) rfl (told_of (O2.below (below_drew _)) (Own.nil _ _) (B2.trans ((below_drew W).mono B2.size)))

set_option maxRecDepth 100000 in
set_option maxHeartbeats 4000000 in
theorem refrun_any (w : World) (v u : Value) (L : List O) (S : List Int) (hL : Sr kF w v L) (hl : L.length ≤ 100000) (hs : Sr kU w u S) (hS : S.length ≤ 100000) (hb : okO L) (hk : okL L) :
    Calls Try.prog 20 #[v, u] w (RunTold w (walk L 0 S)) := by
  have hL' := hL
  obtain ⟨A2, cl, rfl, l1, l2⟩ := hL.form
  clear hL
  have hs' := hs
  obtain ⟨A3, c3, rfl, s1, s2⟩ := hs.form
  clear hs
  go_enter Try.func20, Try.ntmps20
  go_wp2_with (
    refine wpList_app (K := kU) (o := ⟨some 19, _, _, _, _, _⟩) rfl (.tmp 17) (.tmp 18) rfl rfl rfl rfl (Own.empty w w.heap.size (Nat.le_refl _)) (hs'.alloc _) (by simp; omega) (by simp) ?_
    intro v' w1 O1 g1 G1
    rw [List.nil_append] at O1
    obtain ⟨A, c, rfl, c1, c2⟩ := O1.sr.form)
  have B1 : Below w.heap.size w w1 := G1.below _ _ (Nat.le_refl _) (below_one _ _)
  have O2 := O1.below (below_one _ (.cells #[] 3))
  have D2 : Own kI (w1.alloc (.cells #[] 3)) w.heap.size (.slice (some ⟨w1.heap.size, 0, none⟩) 0 0) [] := Own.empty w1 w.heap.size B1.size
  have B2 := B1.alloc B1.size (.cells #[] 3)
  clear O1 g1 G1 B1
  generalize w1.alloc (.cells #[] 3) = W1 at *
  generalize Value.slice (some ⟨w1.heap.size, 0, none⟩) 0 0 = d at *
  go_loopw [8, 9, 10, 11, 12] (fun s8 s9 s10 s11 s12 wr => ∃ (n i : Nat) (S' D : List Int) (h : Bool), s10 = .bool h ∧ s11 = .int .i64 i ∧ s12 = .int .i64 n ∧ n ≤ i ∧ i ≤ L.length + 101 ∧ Own kU wr w.heap.size s8 S' ∧ Own kI wr w.heap.size s9 D ∧ Below w.heap.size w wr ∧ S'.length = S.length ∧ D.length ≤ n ∧ Hid (Runs L S i S' D h n)) (fun _ _ _ t _ _ => L.length - (intOf t).toNat)
  case atStart => exact ⟨0, 0, S, [], false, rfl, rfl, rfl, by omega, by omega, O2, D2, B2, rfl, by simp, Lib.hid (Runs.start L S)⟩
  case round =>
    obtain ⟨n, i, S', D, h, rfl, rfl, rfl, hni, hi2, O, Dn, hB, hS', hD, hR⟩ := hrel
    by_cases hi : i < L.length
    · have z1 : decide ((i : Int) < (L.length : Int)) = true := decide_eq_true (by omega)
      have b := left_bd hk (List.getElem_mem hi) S'
      have e1 : (i : Int) + 1 + leftV S' L[i] = ((i + 1 + (leftV S' L[i]).toNat : Nat) : Int) := by omega
      have Y := Lib.hid (hR.out.step hi)
      have hl2 := slots_len S' L[i]
      have hs3 : (sayV L[i]).length ≤ 1 := by unfold sayV; split <;> simp
      have i2 : i + 1 + (leftV S' L[i]).toNat ≤ L.length + 101 := by omega
      have i3 : i + 1 ≤ i + 1 + (leftV S' L[i]).toNat := by omega
      cases h with
      | true =>
        go_wp2_with fail
        refine (refstep_yes _ _ _ L S' i (hL'.below hB) hl O.sr (by omega) hi hb hk).mono ?_
        rintro e w2 ⟨vs, vd, rfl, O3, D3, k3⟩
        rw [e1]
        clear e1 b
        have O4 := O3.zero hB.size
        have D4 := Dn.below k3
        have hB2 := hB.trans (k3.mono hB.size)
        generalize i + 1 + (leftV S' L[i]).toNat = i' at *
        generalize slotsV S' L[i] = S2 at *
        generalize sayV L[i] = D2' at *
        generalize holdV L[i] = h' at *
        go_wp2_with (
          refine wpList_app (K := kI) (o := ⟨some 38, _, _, _, _, _⟩) rfl (.tmp 36) (.tmp 37) rfl rfl rfl rfl D4 D3.sr (by omega) hB2.size ?_
          intro v' w3 D5 g5 G5)
        go_roundw
        case rel => exact ⟨n + 1, i', S2, D ++ D2', true, rfl, rfl, by go_num, by omega, by omega, O4.kept g5 (O4.apart D4 (by decide)), D5, G5.below _ _ (Nat.le_refl _) hB2, by omega, by rw [List.length_append]; omega, Y⟩
        case measure => simp [intOf]; omega
      | false =>
        go_wp2_with fail
        refine (refstep_yes _ _ _ L S' i (hL'.below hB) hl O.sr (by omega) hi hb hk).mono ?_
        rintro e w2 ⟨vs, vd, rfl, O3, D3, k3⟩
        rw [e1]
        clear e1 b
        have O4 := O3.zero hB.size
        have D4 := Dn.below k3
        have hB2 := hB.trans (k3.mono hB.size)
        generalize i + 1 + (leftV S' L[i]).toNat = i' at *
        generalize slotsV S' L[i] = S2 at *
        generalize sayV L[i] = D2' at *
        generalize holdV L[i] = h' at *
        go_wp2_with (
          refine wpList_app (K := kI) (o := ⟨some 38, _, _, _, _, _⟩) rfl (.tmp 36) (.tmp 37) rfl rfl rfl rfl D4 D3.sr (by omega) hB2.size ?_
          intro v' w3 D5 g5 G5)
        go_roundw
        case rel => exact ⟨n + 1, i', S2, D ++ D2', h', rfl, rfl, by go_num, by omega, by omega, O4.kept g5 (O4.apart D4 (by decide)), D5, G5.below _ _ (Nat.le_refl _) hB2, by omega, by rw [List.length_append]; omega, Y⟩
        case measure => simp [intOf]; omega
    · have z1 : decide ((i : Int) < (L.length : Int)) = false := decide_eq_false (by omega)
      have Y := hR.out.done (by omega)
      obtain ⟨A4, c4, rfl, f1, f2⟩ := O.sr.form
      obtain ⟨A5, c5, rfl, f3, f4⟩ := Dn.sr.form
      have T : RunTold w (walk L 0 S) (.returned (.tuple #[.slice A4 S'.length c4, .slice A5 D.length c5, .bool h, .int .i64 n])) wr := by
        rw [Y]
        exact ⟨_, _, rfl, O, Dn, hB⟩
      clear Y O Dn
      go_wp2
      exact bodyPost_ret (v := .tuple #[.slice A4 S'.length c4, .slice A5 D.length c5, .bool h, .int .i64 n]) (by simp [results, Try.results20, go_sem]) rfl T
end Go.Proofs.Ytapbhcpcechccaa.Fina
