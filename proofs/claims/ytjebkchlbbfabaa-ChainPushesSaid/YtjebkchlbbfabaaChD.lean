/-
  Contracts of the document's Push and Pop.
-/
import Derived.Test.YtjebkchlbbfabaaChC
namespace Go.Proofs.Ytjebkchlbbfabaa.Chain
open Go.ChangeShapes Go.WideShapes Go.ChangeAt Go.RowKit
set_option linter.unusedVariables false

theorem below_one (w : World) (o : Obj) : Below w.heap.size w (w.alloc o) := (Below.refl _ _).alloc (Nat.le_refl _) _
theorem Own.drew {w : World} {base : Nat} {v : Value} {L : List E} (h : Own w base v L) : Own w.drew base v L := h.below (Below.refl _ _).drew
theorem Own.empty1 (w : World) (o : Obj) : Own ((w.alloc o).alloc (.cells #[] T)) (w.heap.size + 1) (.slice (some ⟨w.heap.size + 1, 0, none⟩) 0 0) [] := by
  have := Own.empty (w.alloc o) (w.heap.size + 1) (by simp)
  rwa [World.size_alloc] at this
theorem Own.empty2 (w : World) (o o' : Obj) : Own (((w.alloc o).alloc o').alloc (.cells #[] T)) (w.heap.size + 1) (.slice (some ⟨w.heap.size + 2, 0, none⟩) 0 0) [] := by
  have := Own.empty ((w.alloc o).alloc o') (w.heap.size + 1) (by simp)
  rwa [World.size_alloc, World.size_alloc] at this
theorem Sr.one3 (w : World) (o o' : Obj) (x : Int) (c : Bool) : Sr (((w.alloc o).alloc o').alloc (.cells #[.int .i64 x, .bool c] T)) (.slice (some ⟨w.heap.size + 2, 0, none⟩) 1 1) [(x, c)] := by
  have := Sr.one ((w.alloc o).alloc o') x c
  rwa [World.size_alloc, World.size_alloc] at this
theorem Sr.kept {w w' : World} {g o n c : Nat} {L : List E} {row : Option Nat} (h : Sr w (.slice (some ⟨g, o, none⟩) n c) L) (k : w.grownBy w' row) (hne : some g ≠ row) : Sr w' (.slice (some ⟨g, o, none⟩) n c) L := by
  refine h.keep k.size fun g' o' e hg => ?_
  simp only [Value.slice.injEq, Option.some.injEq, Addr.mk.injEq, and_true] at e
  obtain ⟨⟨rfl, rfl⟩, _⟩ := e
  exact k.block _ hg hne
set_option maxRecDepth 100000 in
set_option maxHeartbeats 4000000 in
theorem refpush_any (w : World) (v : Value) (L : List E) (x : Int) (b : Bool) (h : Sr w v L) : Calls Try.prog 11 #[v, .agg #[.int .i64 x, .bool b]] w (Pushed w (pushL L (x, b)) (pushE L)) := by
  have h' := h
  obtain ⟨A, c, rfl, h1, h2, h3, h4⟩ := h
  clear h4
  by_cases hl : 6 ≤ L.length
  · have P1 := Lib.hid (show pushL L (x, b) = [] from if_pos hl)
    have P2 := Lib.hid (show pushE L = 24 from if_pos hl)
    have z : decide (6 ≤ (L.length : Int)) = true := decide_eq_true (by omega)
    go_enter Try.func11, Try.ntmps11
    go_wp2
    go_ret2
    refine ⟨.slice none 0 0, by rw [P2.out]; rfl, ?_, (Below.refl _ _).alloc (Nat.le_refl _) _⟩
    rw [P1.out]
    exact Sr.nil _
  · have P1 := Lib.hid (show pushL L (x, b) = L ++ [(x, b)] from if_neg hl)
    have P2 := Lib.hid (show pushE L = 0 from if_neg hl)
    have z : decide (6 ≤ (L.length : Int)) = false := decide_eq_false (by omega)
    go_enter Try.func11, Try.ntmps11
    go_wp2_with fail
    go_region_held3 (fun w' => w'.cell? ⟨w.heap.size, 0, none⟩ = some (.int .i64 x) ∧ w'.cell? ⟨w.heap.size, 1, none⟩ = some (.bool b))
      (first
        | go_keep
        | (go_split_ands; exact ⟨(G2.cell _ _ (by omega)).trans (by assumption), (G2.cell _ _ (by omega)).trans (by assumption)⟩)
        | (go_split_ands; exact ⟨(G1.cell _ _ (by omega)).trans (by assumption), (G1.cell _ _ (by omega)).trans (by assumption)⟩))
      (first
        | (refine step_own (base := w.heap.size + 1) (by rfl) (.tmp 9) (.tmp 10) (by rfl) (by rfl) (by rfl) (by rfl) (by first | exact (Own.empty1 w _).drew | exact ((Own.empty1 w _).below (below_one _ _)).drew | exact (Own.empty2 w _ _).drew) (by first | exact ((h'.alloc _).alloc _).drew | exact (((h'.alloc _).alloc _).alloc _).drew) (by simp; omega) (by simp) ?_
           intro v1 w1 own1 gr1 G1
           have sz1 : w.heap.size + 1 ≤ w1.heap.size := Nat.le_trans G1.old G1.size)
        | (refine step_own (base := w.heap.size + 1) (by rfl) (.tmp 11) (.tmp 13) (by rfl) (by rfl) (by rfl) (by rfl) (by first | exact own1 | exact own1.below (below_one _ _)) (by first | exact Sr.one w1 x b | exact (Sr.one3 w _ _ x b).drew.kept gr1 (fun e => absurd (Option.some.inj (e.trans (show _ = some (w.heap.size + 1) from rfl))) (by omega)) | exact ((Sr.one2 w _ x b).alloc _).drew.kept gr1 (fun e => absurd (Option.some.inj (e.trans (show _ = some (w.heap.size + 1 + 1) from rfl))) (by omega))) (by simp; omega) (by first | exact sz1 | (simp; omega)) ?_
           intro v2 w2 own2 gr2 G2))
    all_goals
      go_wp2
      go_ret2
      refine ⟨v2, by rw [P2.out]; rfl, ?_, ?_⟩
      · rw [P1.out]
        exact own2.sr
      · have B1 : Below w.heap.size w w1 := G1.below _ _ (by omega) (by first | exact (((Below.refl _ _).alloc (Nat.le_refl _) _).alloc (by simp) _).drew | exact ((((Below.refl _ _).alloc (Nat.le_refl _) _).alloc (by simp) _).alloc (by simp; omega) _).drew)
        exact G2.below _ _ (by omega) (by first | exact B1 | exact B1.alloc B1.size _)

theorem Own.two {w : World} {base b : Nat} {v : Value} {L : List E} (h : Own w base v L) (x y : Value) (hb : b < base) : Sr ((w.setCell ⟨b, 0, none⟩ x).setCell ⟨b, 1, none⟩ y) v L := by
  have hs := h.sr
  rcases h.2 with ⟨rfl, h0⟩ | ⟨g, cap, cur, rfl, hg, _⟩
  · obtain rfl := List.eq_nil_of_length_eq_zero h0
    exact Sr.nil _
  · exact hs.two x y (by omega)
set_option maxRecDepth 100000 in
set_option maxHeartbeats 4000000 in
theorem refpop_any (w : World) (v : Value) (L : List E) (h : Sr w v L) (hL : L.length ≤ 1000000) : Calls Try.prog 14 #[v] w (Popped w L.dropLast (lastV L) (popE L)) := by
  have h' := h
  obtain ⟨A, c, rfl, h1, h2, h3, h4⟩ := h
  by_cases hl : L.length = 0
  · obtain rfl : L = [] := List.eq_nil_of_length_eq_zero hl
    clear hl h4
    go_enter Try.func14, Try.ntmps14
    go_wp2
    refine bodyPost_ret (v := .tuple #[.slice none 0 0, .agg #[.int .i64 0, .bool false], .int .i64 23]) (by simp [results, Try.results14, go_sem]) rfl ⟨_, rfl, Sr.nil _, ?_⟩
    first | exact (Below.refl _ _).alloc (Nat.le_refl _) _ | exact (((Below.refl _ _).alloc (Nat.le_refl _) _).setCell (by simp) _).setCell (by simp) _
  · have hp : 0 < L.length := by omega
    have P1 := Lib.hid (show L.dropLast = L.take (L.length - 1) from List.dropLast_eq_take)
    have P2 := Lib.hid (show popE L = 0 from if_neg hl)
    have P3 : Hid (lastV L = L[L.length - 1]) := Lib.hid (last_at hp)
    obtain ⟨g, o, rfl, hg, hc⟩ := h4 hp
    obtain ⟨c0, c1⟩ := hc (L.length - 1) (by omega)
    have z : ((L.length : Int) == 0) = false := beq_eq_false_iff_ne.2 (by omega)
    have hlen : L.length ≤ 9223372036854775807 := by unfold maxLen at h2; omega
    obtain ⟨n, hn⟩ : ∃ n, n = L.length - 1 := ⟨_, rfl⟩
    have e1 : ((L.length : Int) - 1) = (n : Int) := by omega
    rw [← P3.out, ← hn] at c0 c1
    have b3 : n < L.length := by omega
    obtain ⟨s1, s2⟩ := slice_h (some ⟨g, o, none⟩) L.length c n (by omega)
    rw [← e1] at s1 s2
    have S0 : Sr w (.slice (some ⟨g, o, none⟩) n c) (L.take n) := h'.part (by omega) (by omega) (Nat.le_refl _)
    have hln : (L.take n).length ≤ 1000000 := by rw [List.length_take]; omega
    have i1 : (1 : Int) ≤ (L.length : Int) := by omega
    have i4 : (0 : Int) ≤ (L.length : Int) - 1 := by omega
    have i2 : (L.length : Int) - 1 < (L.length : Int) := by omega
    have i3 : ((L.length : Int) - 1).toNat = n := by omega
    have i5 : IntKind.i64.wrap ((L.length : Int) - 1) = (L.length : Int) - 1 := IntWalk.i64_in _ (by omega)
    have hgs : g < w.heap.size + 1 := by omega
    have hne : g ≠ w.heap.size := by omega
    have HN := Lib.hid hn
    clear hl hc h4 e1 hn
    go_enter Try.func14, Try.ntmps14
    go_wp2_with fail
    have k0 := (((Below.refl w.heap.size w).alloc (Nat.le_refl _) (.cells #[.int .i64 0, .bool false] T)).cell (p := ⟨g, o + n * 2, none⟩) hg).trans c0
    have k1 := (((Below.refl w.heap.size w).alloc (Nat.le_refl _) (.cells #[.int .i64 0, .bool false] T)).cell (p := ⟨g, o + n * 2 + 1, none⟩) hg).trans c1
    go_region_held3 (fun w' => w'.cell? ⟨g, o + n * 2, none⟩ = some (.int .i64 (lastV L).1) ∧ w'.cell? ⟨g, o + n * 2 + 1, none⟩ = some (.bool (lastV L).2))
      (first
        | go_keep
        | (go_split_ands; exact ⟨(G1.cell _ _ hgs).trans (by assumption), (G1.cell _ _ hgs).trans (by assumption)⟩)
        | (go_split_ands; simp [go_sem, q0, q1]))
      ((refine step_own (base := w.heap.size + 1) (by rfl) (.tmp 9) (.tmp 14) (by rfl) (by rfl) (by rfl) (by rfl) (Own.empty1 w _).drew (((S0.alloc _).alloc _).drew) (by simp at hln ⊢; omega) (by simp) ?_
        intro v1 w1 own1 gr1 G1
        have r0 : w1.cell? ⟨w.heap.size, 0, none⟩ = some (.int .i64 0) := (G1.cell _ _ (by omega)).trans (by simp [go_sem])
        have r1 : w1.cell? ⟨w.heap.size, 1, none⟩ = some (.bool false) := (G1.cell _ _ (by omega)).trans (by simp [go_sem])
        have f0 : w1.frozen? ⟨w.heap.size, 0, none⟩ = false := (G1.frozen _ _ (by omega)).trans (by simp [go_sem])
        have f1 : w1.frozen? ⟨w.heap.size, 1, none⟩ = false := (G1.frozen _ _ (by omega)).trans (by simp [go_sem])
        have q0 : w1.cell? ⟨g, o + n * 2, none⟩ = some (.int .i64 (lastV L).1) := (G1.cell _ _ hgs).trans (((below_one _ _).cell (p := ⟨g, o + n * 2, none⟩) (by simp; omega)).trans k0)
        have q1 : w1.cell? ⟨g, o + n * 2 + 1, none⟩ = some (.bool (lastV L).2) := (G1.cell _ _ hgs).trans (((below_one _ _).cell (p := ⟨g, o + n * 2 + 1, none⟩) (by simp; omega)).trans k1)))
    go_wp2
    refine bodyPost_ret (v := .tuple #[v1, .agg #[.int .i64 (lastV L).1, .bool (lastV L).2], .int .i64 0]) (by simp [results, Try.results14, go_sem, r0, r1]) rfl ⟨_, by rw [P2.out], ?_, ?_⟩
    · rw [P1.out, ← HN.out]
      exact own1.two _ _ (by omega)
    · exact ((G1.below _ _ (by omega) (((Below.refl _ _).alloc (Nat.le_refl _) _).alloc (by simp) _).drew).setCell (Nat.le_refl _) _).setCell (Nat.le_refl _) _
end Go.Proofs.Ytjebkchlbbfabaa.Chain
