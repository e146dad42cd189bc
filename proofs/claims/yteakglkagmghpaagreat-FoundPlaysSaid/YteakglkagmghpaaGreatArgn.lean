/-
  How the arguments of a law come in, part three: a slice of structs that have an integer and a struct of integers.
-/
import Derived.Test.YteakglkagmghpaaGreatBase
namespace Go.Proofs.YteakglkagmghpaaGreat.Args
open Go.ChangeShapes Go.WideShapes Go.ChangeAt Go.RowKit Go.Deep
set_option linter.unusedVariables false
section
variable {H : Type} {enc : TypeId × Value → H} {P : Program} {w : World} {base : Nat} {spare : Nat → Bool} {held : Bool}
theorem int_cells {t : TypeId} {fs : Array Field} {ks : List IntKind} {fuel : Nat} {cs : List Value} {x : DataW H × List MemPlace} (ht : P.underlying t = some (.struct fs)) (hfs : intFields P fs ks = true) (hc : P.cellsOf t = ks.length)
    (hf : DataW.trod enc P w base spare held fuel t cs = some x) :
    ∀ j, j < ks.length → ∃ n, cs[j]? = some (.int (ks.getD j .i64) n) ∧ (Lit.int (ks.getD j .i64) n).wf = true := by
  obtain ⟨xs, q, _, _, hl, hxl, hx⟩ := DataW.trod_struct ht hf
  have hsize := intFields_size hfs
  intro j hj
  obtain ⟨f, f1, f2, f3, f4⟩ := intFields_at hfs hj
  have h3 := hx j f f1
  have h4 : xs[j]? = some (xs[j]'(by omega)) := List.getElem?_eq_getElem (by omega)
  rw [h4, f2, f3] at h3
  have hj' : j < cs.length := by omega
  obtain ⟨n, hx1, _, hw⟩ := DataW.trod_int f4 h3
  rw [List.drop_eq_getElem_cons hj', List.take_succ_cons, List.take_zero] at hx1
  injection hx1 with hx1
  exact ⟨n, by rw [List.getElem?_eq_getElem hj', hx1], hw⟩
theorem nest_cells {t u : TypeId} {f0 f1 : Field} {gs : Array Field} {k : IntKind} {ks : List IntKind} {fuel : Nat} {cs : List Value} {x : DataW H × List MemPlace} (ht : P.underlying t = some (.struct #[f0, f1])) (h0 : f0.offset = 0) (c0 : P.cellsOf f0.type = 1) (u0 : P.underlying f0.type = some (.int k))
    (h1 : f1.offset = 1) (e1 : f1.type = u) (hu : P.underlying u = some (.struct gs)) (hgs : intFields P gs ks = true) (hcu : P.cellsOf u = ks.length) (hc : P.cellsOf t = ks.length + 1)
    (hf : DataW.trod enc P w base spare held fuel t cs = some x) :
    ∀ j, j < (k :: ks).length → ∃ n, cs[j]? = some (.int ((k :: ks).getD j .i64) n) ∧ (Lit.int ((k :: ks).getD j .i64) n).wf = true := by
  obtain ⟨xs, q, _, _, hl, hxl, hx⟩ := DataW.trod_struct ht hf
  have hxl : xs.length = 2 := hxl
  intro j hj
  rw [List.length_cons] at hj
  cases j with
  | zero =>
    have h3 := hx 0 f0 rfl
    have h4 : xs[0]? = some (xs[0]'(by omega)) := List.getElem?_eq_getElem (by omega)
    rw [h4, h0, c0] at h3
    have hj' : 0 < cs.length := by omega
    obtain ⟨n, hx1, _, hw⟩ := DataW.trod_int u0 h3
    rw [List.drop_eq_getElem_cons hj', List.take_succ_cons, List.take_zero] at hx1
    injection hx1 with hx1
    exact ⟨n, by rw [List.getElem?_eq_getElem hj', hx1]; rfl, hw⟩
  | succ j =>
    have h3 := hx 1 f1 rfl
    have h4 : xs[1]? = some (xs[1]'(by omega)) := List.getElem?_eq_getElem (by omega)
    rw [h4, h1, e1, hcu] at h3
    obtain ⟨n, hn, hw⟩ := int_cells hu hgs hcu h3 j (by omega)
    rw [List.getElem?_take_of_lt (by omega), List.getElem?_drop, Nat.add_comm] at hn
    exact ⟨n, hn, hw⟩
theorem nest_in {t e u : TypeId} {f0 f1 : Field} {gs : Array Field} {k : IntKind} {ks : List IntKind} {v : Value} {d : DataW H} {ps : List MemPlace} {r : Reach} {b0 : Nat} (ht : P.underlying t = some (.slice e)) (he : P.underlying e = some (.struct #[f0, f1])) (h0 : f0.offset = 0) (c0 : P.cellsOf f0.type = 1) (u0 : P.underlying f0.type = some (.int k))
    (h1 : f1.offset = 1) (e1 : f1.type = u) (hu : P.underlying u = some (.struct gs)) (hgs : intFields P gs ks = true) (hcu : P.cellsOf u = ks.length) (hc : P.cellsOf e = ks.length + 1)
    (hv : Value.okWide P w r b0 t v) (h : DataW.Trod enc P w base spare held t v d ps) :
    ∃ A n c z, v = .slice A n c ∧ Recs (k :: ks) w A n z := by
  obtain ⟨A, n, c, rfl⟩ := okWide_slice ht hv
  obtain ⟨fuel, hf⟩ := h
  have hpos : 0 < (k :: ks).length := by rw [List.length_cons]; omega
  have hc : P.cellsOf e = (k :: ks).length := by rw [hc, List.length_cons]
  rcases open_slice ht hf with ⟨hcs, _⟩ | ⟨a, len, cap, m, q, D, Pl, hcs, _, hl, hm, hmm, _, hi⟩
  · simp [Value.cells] at hcs
    obtain ⟨rfl, rfl, rfl⟩ := hcs
    exact ⟨none, 0, 0, fun _ _ => 0, rfl, ⟨Nat.zero_le _, fun _ _ => zero_wf _, fun i hi => absurd hi (Nat.not_lt_zero _)⟩⟩
  · simp [Value.cells] at hcs
    obtain ⟨rfl, rfl, rfl⟩ := hcs
    have hnm : n ≤ m := by rw [hmm]; split <;> omega
    have each : ∀ i j, i < n → j < (k :: ks).length → ∃ x, w.cell? (a.add (i * (k :: ks).length + j)) = some (.int ((k :: ks).getD j .i64) x) ∧ (Lit.int ((k :: ks).getD j .i64) x).wf = true := by
      intro i j hin hj
      obtain ⟨cs', q1, q2⟩ := hi i (by omega)
      rw [hc] at q1
      obtain ⟨_, hlen, hat⟩ := World.cells?_some q1
      obtain ⟨x, hx, hw⟩ := nest_cells he h0 c0 u0 h1 e1 hu hgs hcu (by rw [hc, List.length_cons]) q2 j hj
      refine ⟨x, ?_, hw⟩
      rw [← Go.Deep.add_add, hat j hj, hx]
    refine ⟨some a, n, c, fun i j => if i < n ∧ j < (k :: ks).length then numIn (w.cell? (a.add (i * (k :: ks).length + j))) else 0, rfl, ⟨by omega, fun i j => ?_, fun i hin => ?_⟩⟩
    · by_cases hij : i < n ∧ j < (k :: ks).length
      · obtain ⟨x, hx, hw⟩ := each i j hij.1 hij.2
        rw [if_pos hij, hx]
        exact hw
      · rw [if_neg hij]
        exact zero_wf _
    · obtain ⟨b, o, s⟩ := a
      have hs : s = none := by
        obtain ⟨x, hx, _⟩ := each 0 0 (by omega) hpos
        rw [Nat.zero_mul] at hx
        exact World.cell?_spot (a := ⟨b, o, s⟩) hx
      subst hs
      obtain ⟨x, hx, _⟩ := each i 0 hin hpos
      refine ⟨b, o, rfl, ?_, fun j hj => ?_⟩
      · rw [add_plain] at hx
        exact cell_lt (p := ⟨b, _, none⟩) hx
      · obtain ⟨x, hx, hw⟩ := each i j hin hj
        rw [if_pos ⟨hin, hj⟩, hx]
        rw [add_plain] at hx
        exact hx
end
end Go.Proofs.YteakglkagmghpaaGreat.Args
