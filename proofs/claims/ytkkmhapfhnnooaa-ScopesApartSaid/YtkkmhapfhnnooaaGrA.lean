/-
  append over rows of extents: nothing appended; onto a row without room (a new row); onto a row of one's own; two of them, one behind the other.
-/
import Derived.Test.YtkkmhapfhnnooaaGr
namespace Go.Proofs.Ytkkmhapfhnnooaa.Gr
open Go.ChangeShapes Go.WideShapes Go.ChangeAt Go.RowKit Gm
set_option linter.unusedVariables false

def Tight (w : World) (v : Value) (L : List E) : Prop :=
  (v = .slice none 0 0 ∧ L = []) ∨ ∃ g, v = .slice (some ⟨g, 0, none⟩) L.length L.length ∧ g < w.heap.size ∧
    ∀ i (h : i < L.length), w.cell? ⟨g, i * 2, none⟩ = some (.int .i64 (L[i]).1) ∧ w.cell? ⟨g, i * 2 + 1, none⟩ = some (.int .i64 (L[i]).2)
def Sr (w : World) (v : Value) (M : List E) : Prop := ∃ A c, v = .slice A M.length c ∧ (0 < M.length → ∃ g o, A = some ⟨g, o, none⟩ ∧ g < w.heap.size ∧
    ∀ i (h : i < M.length), w.cell? ⟨g, o + i * 2, none⟩ = some (.int .i64 (M[i]).1) ∧ w.cell? ⟨g, o + i * 2 + 1, none⟩ = some (.int .i64 (M[i]).2))
theorem Tight.ex {w : World} {v : Value} {L : List E} (h : Tight w v L) (hl : L.length ≤ 1000000) : Ex w v L := by
  rcases h with h | ⟨g, h1, h2, h3⟩
  · exact .inl h
  · exact .inr ⟨g, _, h1, Nat.le_refl _, by simp only [maxLen]; omega, h2, h3⟩
theorem Ex.sr {w : World} {v : Value} {L : List E} (h : Ex w v L) : Sr w v L := by
  rcases h with ⟨rfl, rfl⟩ | ⟨g, c, rfl, _, _, h2, h3⟩
  · exact ⟨_, _, rfl, fun h => by simp at h⟩
  · exact ⟨_, _, rfl, fun _ => ⟨g, 0, rfl, h2, fun i hi => by simpa using h3 i hi⟩⟩
theorem Sr.grown {w w' : World} {v : Value} {M : List E} (h : Sr w v M) (k : w.grownBy w' none) : Sr w' v M := by
  obtain ⟨A, c, rfl, h⟩ := h
  refine ⟨A, c, rfl, fun hm => ?_⟩
  obtain ⟨g, o, rfl, hg, hc⟩ := h hm
  refine ⟨g, o, rfl, Nat.lt_of_lt_of_le hg k.size, fun i hi => ?_⟩
  have hb := k.block g hg (by simp)
  exact ⟨(World.cell?_of_block (w := w) (w' := w') (a := ⟨g, o + i * 2, none⟩) hb).trans (hc i hi).1, (World.cell?_of_block (w := w) (w' := w') (a := ⟨g, o + i * 2 + 1, none⟩) hb).trans (hc i hi).2⟩
theorem Tight.drewN {w : World} {v : Value} {L : List E} (h : Tight w v L) (n : Nat) : Tight (w.drewN n) v L := h
theorem Sr.drewN {w : World} {v : Value} {L : List E} (h : Sr w v L) (n : Nat) : Sr (w.drewN n) v L := h
theorem Tight.drew {w : World} {v : Value} {L : List E} (h : Tight w v L) : Tight w.drew v L := h
theorem Sr.drew {w : World} {v : Value} {L : List E} (h : Sr w v L) : Sr w.drew v L := h

abbrev X := 50
theorem app_none (w : World) (A : Option Addr) (n c : Nat) (hnc : n ≤ c) {x : Value} (hx : Sr w x []) :
    (Builtin.append_ #[X, X] X #[.slice A n c, x]).run Try.prog w = .ok (.slice A n c) w := by
  obtain ⟨i0, hi, hz0, hz1, hz2⟩ := info_parts info_ext
  obtain ⟨B, d, rfl, _⟩ := hx
  refine run_append_nothing w X X X _ i0 under_exts hi A n c hnc _ ?_
  cases B with
  | none => exact Src.ofNil w under_exts d
  | some b => exact Src.ofSlice w under_exts b 0 d [] (by simp) (fun j u h => by simp at h) (fun u h => by cases h)
theorem app_tight (w : World) {v x : Value} {L M : List E} (h : Tight w v L) (hx : Sr w x M) (hm : 0 < M.length) (hl : L.length + M.length ≤ 1000000) :
    ∃ v' w', (Builtin.append_ #[X, X] X #[v, x]).run Try.prog w = .ok v' w' ∧ w'.ownsRow w.heap.size 46 2 v' (L ++ M).length (flat (L ++ M)) ∧ w.grownBy w' none := by
  obtain ⟨i0, hi, hz0, hz1, hz2⟩ := info_parts info_ext
  obtain ⟨B, d, rfl, hb⟩ := hx
  obtain ⟨g', o', rfl, hg', hc'⟩ := hb hm
  rw [flat_append, List.length_append]
  have b1 : L.length + M.length ≤ maxLen := by simp only [maxLen]; omega
  have b2 : (L.length + M.length) * 16 ≤ 140737488355328 := by omega
  rcases h with ⟨rfl, rfl⟩ | ⟨g, rfl, hg, hc⟩
  · obtain ⟨v', w', hrun, r1, r2, _⟩ := run_append_own (P := Try.prog) w w.heap.size X X _ i0 _ 2 16 under_exts hi hz0 hz1 hz2 rfl (by omega) (.slice none 0 0) 0 [] (World.ownsRow_nil w _ _ 2) _ M.length d (flat M) (flat_len M) (flat_cells hc') (flat_one M) (by simpa using b1) (by simpa using b2) (Nat.le_refl _)
    exact ⟨v', w', hrun, r1, r2⟩
  · obtain ⟨v', w', hrun, r1, r2⟩ := run_append_arg_grows (P := Try.prog) w X X _ i0 _ 2 16 under_exts hi hz0 hz1 hz2 rfl (by omega) ⟨g, 0, none⟩ L.length L.length (flat L) (flat_len L) (flat_cells (o := 0) (by simpa using hc)) _ M.length d (flat M) (flat_len M) (flat_cells hc') (by omega) b1 b2
    exact ⟨v', w', hrun, r1, r2⟩
theorem app_own (w : World) {v x : Value} {L M : List E} {base : Nat} (h : w.ownsRow base 46 2 v L.length (flat L)) (hx : Sr w x M) (hl : L.length + M.length ≤ 1000000) (hb : base ≤ w.heap.size) :
    ∃ v' w', (Builtin.append_ #[X, X] X #[v, x]).run Try.prog w = .ok v' w' ∧ w'.ownsRow base 46 2 v' (L ++ M).length (flat (L ++ M)) ∧ w.grownBy w' v.ownBlock ∧ (v'.ownBlock = v.ownBlock ∨ v'.ownBlock = some w.heap.size) := by
  obtain ⟨i0, hi, hz0, hz1, hz2⟩ := info_parts info_ext
  have b1 : L.length + M.length ≤ maxLen := by simp only [maxLen]; omega
  have b2 : (L.length + M.length) * 16 ≤ 140737488355328 := by omega
  by_cases hm : 0 < M.length
  · obtain ⟨B, d, rfl, hb'⟩ := hx
    obtain ⟨g', o', rfl, hg', hc'⟩ := hb' hm
    obtain ⟨v', w', hrun, r1, r2, _, r3⟩ := run_append_own_at (P := Try.prog) w base X X _ i0 _ 2 16 under_exts hi hz0 hz1 hz2 rfl (by omega) v L.length (flat L) h _ M.length d (flat M) (flat_len M) (flat_cells hc') (flat_one M) b1 b2 hb
    rw [← flat_append, ← List.length_append] at r1
    exact ⟨v', w', hrun, r1, r2, r3⟩
  · have e : M = [] := List.eq_nil_of_length_eq_zero (by omega)
    subst e
    have hv : ∃ A c, v = .slice A L.length c ∧ L.length ≤ c := by
      rcases h.2 with ⟨rfl, h0⟩ | ⟨g, cap, cur, rfl, _, _, h1, _⟩
      · exact ⟨none, 0, by rw [h0], by omega⟩
      · exact ⟨_, cap, rfl, h1⟩
    obtain ⟨A, c, rfl, hc⟩ := hv
    refine ⟨_, w, app_none w A _ c hc hx, ?_, World.grownBy.refl _ _, .inl rfl⟩
    rw [List.append_nil]
    exact h

theorem app2 (w : World) {va x vb : Value} {La M Lb : List E} (h : Tight w va La) (hx : Sr w x M) (hb : Sr w vb Lb) (hl : La.length + M.length + Lb.length ≤ 1000000) :
    ∃ v1 w1 v2 w2, (Builtin.append_ #[X, X] X #[va, x]).run Try.prog w = .ok v1 w1 ∧ (Builtin.append_ #[X, X] X #[v1, vb]).run Try.prog w1 = .ok v2 w2 ∧
      Ex w2 v2 (La ++ (M ++ Lb)) ∧ w.grownBy w1 none ∧ w.grownBy w2 none ∧ (∀ g, v2.ownBlock = some g → va.ownBlock = some g ∨ w.heap.size ≤ g ∧ ∃ cs fz, w2.heap[g]? = some (.cells cs 46 fz)) := by
  by_cases hm : 0 < M.length
  · obtain ⟨v1, w1, r1, o1, g1⟩ := app_tight w h hx hm (by omega)
    obtain ⟨v2, w2, r2, o2, g2, a2⟩ := app_own w1 o1 (hb.grown g1) (by rw [List.length_append]; omega) g1.size
    rw [List.append_assoc] at o2
    have hv1 : ∀ k, v1.ownBlock = some k → w.heap.size ≤ k := fun k hk => (o1.lt k hk).1
    refine ⟨v1, w1, v2, w2, r1, r2, Ex.own o2, g1, ⟨g2.os.trans g1.os, g2.tape.trans g1.tape, g2.output.trans g1.output, Nat.le_trans g1.size g2.size, fun i hi _ => ?_⟩, fun g hg => .inr ⟨(o2.lt g hg).1, Ty.own o2 g hg⟩⟩
    exact (g2.block i (Nat.lt_of_lt_of_le hi g1.size) (fun e => by have := hv1 i e.symm; omega)).trans (g1.block i hi (by simp))
  · have e : M = [] := List.eq_nil_of_length_eq_zero (by omega)
    subst e
    have hv : ∃ A, va = .slice A La.length La.length := by
      rcases h with ⟨rfl, rfl⟩ | ⟨g, rfl, _⟩
      · exact ⟨_, rfl⟩
      · exact ⟨_, rfl⟩
    obtain ⟨A, rfl⟩ := hv
    have r1 := app_none w A La.length La.length (Nat.le_refl _) hx
    by_cases hn : 0 < Lb.length
    · obtain ⟨v2, w2, r2, o2, g2⟩ := app_tight w h hb hn (by omega)
      exact ⟨_, w, v2, w2, r1, r2, Ex.own o2, World.grownBy.refl _ _, g2, fun g hg => .inr ⟨(o2.lt g hg).1, Ty.own o2 g hg⟩⟩
    · have e : Lb = [] := List.eq_nil_of_length_eq_zero (by omega)
      subst e
      refine ⟨_, w, _, w, r1, app_none w A La.length La.length (Nat.le_refl _) hb, ?_, World.grownBy.refl _ _, World.grownBy.refl _ _, fun g hg => .inl hg⟩
      rw [List.append_nil, List.append_nil]
      exact h.ex (by omega)
end Go.Proofs.Ytkkmhapfhnnooaa.Gr
