/-
  How a slice of arrays of integers comes in: as a slice of structs of so many integers would.
-/
import Derived.Test.YtneggppfffekdaaGreatBase
namespace Go.Proofs.YtneggppfffekdaaGreat.Arrs
open Go.ChangeShapes Go.WideShapes Go.ChangeAt Go.RowKit Go.Deep Args
set_option linter.unusedVariables false
section
variable {P : Program} {H : Type} {enc : TypeId × Value → H} {w : World} {base : Nat} {spare : Nat → Bool} {held : Bool}
theorem arrs_in {t e q : TypeId} {k : IntKind} {m : Nat} {v : Value} {d : DataW H} {ps : List MemPlace} {r : Reach} {b0 : Nat} (ht : P.underlying t = some (.slice e)) (he : P.underlying e = some (.array m q)) (hq : P.underlying q = some (.int k)) (hcq : P.cellsOf q = 1) (hc : P.cellsOf e = m) (hpos : 0 < m)
    (hv : Value.okWide P w r b0 t v) (h : DataW.Trod enc P w base (fun _ => true) held t v d ps) :
    ∃ A n c z, v = .slice A n c ∧ Recs (List.replicate m k) w A n z := by
  have hml : (List.replicate m k).length = m := List.length_replicate ..
  have hgd : ∀ j, j < m → (List.replicate m k).getD j .i64 = k := fun j hj => by
    rw [List.getD_eq_getElem?_getD, List.getElem?_replicate, if_pos hj]
    rfl
  obtain ⟨A, n, c, rfl⟩ := okWide_slice ht hv
  obtain ⟨fuel, hf⟩ := h
  rcases open_slice ht hf with ⟨hcs, _⟩ | ⟨a, len, cap, m', q', D, Pl, hcs, _, hl, hm, hmm, _, hi⟩
  · simp [Value.cells] at hcs
    obtain ⟨rfl, rfl, rfl⟩ := hcs
    exact ⟨none, 0, 0, fun _ _ => 0, rfl, ⟨Nat.zero_le _, fun _ _ => zero_wf _, fun i hi => absurd hi (Nat.not_lt_zero _)⟩⟩
  · simp [Value.cells] at hcs
    obtain ⟨rfl, rfl, rfl⟩ := hcs
    have hnm : n ≤ m' := by rw [hmm]; split <;> omega
    have each : ∀ i j, i < n → j < m → ∃ x, w.cell? (a.add (i * m + j)) = some (.int k x) ∧ (Lit.int k x).wf = true := by
      intro i j hin hj
      obtain ⟨cs', h1, h2⟩ := hi i (by omega)
      rw [hc] at h1
      obtain ⟨_, hlen, hat⟩ := World.cells?_some h1
      obtain ⟨xs, q2, _, _, hxl, hxs, hx⟩ := DataW.trod_array he h2
      have h3 := hx j hj
      have h4 : xs[j]? = some (xs[j]'(by omega)) := List.getElem?_eq_getElem (by omega)
      rw [h4] at h3
      obtain ⟨x, hx1, _, hw⟩ := DataW.trod_int hq h3
      rw [hcq, Nat.mul_one] at hx1
      refine ⟨x, ?_, hw⟩
      rw [← Go.Deep.add_add, hat j hj]
      have hj' : j < cs'.length := by omega
      rw [List.drop_eq_getElem_cons hj', List.take_succ_cons, List.take_zero] at hx1
      injection hx1 with hx1
      rw [List.getElem?_eq_getElem hj', hx1]
    refine ⟨some a, n, c, fun i j => if i < n ∧ j < m then numIn (w.cell? (a.add (i * m + j))) else 0, rfl, ⟨by omega, fun i j => ?_, fun i hin => ?_⟩⟩
    · by_cases hij : i < n ∧ j < m
      · obtain ⟨x, hx, hw⟩ := each i j hij.1 hij.2
        simp only [hij, and_self, if_true, hx, numIn]
        rw [hgd j hij.2]
        exact hw
      · simp only [hij, if_false]
        exact zero_wf _
    · rw [hml]
      obtain ⟨b, o, s⟩ := a
      have hs : s = none := by
        obtain ⟨x, hx, _⟩ := each 0 0 (by omega) hpos
        rw [Nat.zero_mul] at hx
        exact World.cell?_spot (a := ⟨b, o, s⟩) hx
      subst hs
      obtain ⟨x, hx, _⟩ := each i 0 hin hpos
      refine ⟨b, o, rfl, ?_, fun j hj => ?_⟩
      · rw [add_plain] at hx
        exact cell_lt (p := ⟨b, _, none⟩) hx
      · obtain ⟨x, hx, hw⟩ := each i j hin hj
        simp only [hin, hj, and_self, if_true, hx, numIn]
        rw [add_plain] at hx
        rw [hgd j hj]
        exact hx
end
end Go.Proofs.YtneggppfffekdaaGreat.Arrs
