/-
  How the arguments of a law come in, part two: structs whose fields are integers and bools, by value, and arrays of such structs.
-/
import Derived.Test.YtapbhcpcechccaaArgs
namespace Go.Proofs.Ytapbhcpcechccaa.Args
open Go.ChangeShapes Go.WideShapes Go.ChangeAt Go.RowKit Go.Deep
set_option linter.unusedVariables false

/-- A field's value: an integer of its kind, or (none) a bool, told by a number that is not 0. -/
def valOf (k : Option IntKind) (x : Int) : Value := match k with | some k => .int k x | none => .bool (x != 0)
def wfOf (k : Option IntKind) (x : Int) : Prop := match k with | some k => (Lit.int k x).wf = true | none => True
def numOf (v : Option Value) : Int := match v with | some (.int _ x) => x | some (.bool true) => 1 | _ => 0
theorem numOf_val (k : Option IntKind) (x : Int) : valOf k (numOf (some (valOf k x))) = valOf k x := by
  cases k with
  | some k => rfl
  | none =>
    by_cases h : (x != 0) = true
    · simp [valOf, numOf, h]
    · have h' : (x != 0) = false := by simpa using h
      simp [valOf, numOf, h']
theorem numOf_wf (k : Option IntKind) (x : Int) (h : wfOf k x) : wfOf k (numOf (some (valOf k x))) := by
  cases k with
  | some k => exact h
  | none => trivial
theorem zero_wfOf (k : Option IntKind) : wfOf k 0 := by
  cases k with
  | some k => exact zero_wf k
  | none => trivial

def plainFields (P : Program) (fs : Array Field) (ks : List (Option IntKind)) : Bool := fs.size == ks.length && (List.range fs.size).all fun j => match fs[j]? with
  | some f => f.offset == j && P.cellsOf f.type == 1 && (match P.underlying f.type with | some (.int k) => some k == ks.getD j none | some .bool => ks.getD j none == none | _ => false)
  | none => false
theorem plainFields_at {P : Program} {fs : Array Field} {ks : List (Option IntKind)} (h : plainFields P fs ks = true) {j : Nat} (hj : j < ks.length) :
    ∃ f, fs[j]? = some f ∧ f.offset = j ∧ P.cellsOf f.type = 1 ∧ ((∃ k, ks.getD j none = some k ∧ P.underlying f.type = some (.int k)) ∨ (ks.getD j none = none ∧ P.underlying f.type = some .bool)) := by
  unfold plainFields at h
  rw [Bool.and_eq_true, beq_iff_eq] at h
  obtain ⟨h1, h2⟩ := h
  have h3 := List.all_eq_true.1 h2 j (List.mem_range.2 (by omega))
  have hf : fs[j]? = some (fs[j]'(by omega)) := Array.getElem?_eq_getElem (by omega)
  rw [hf] at h3
  refine ⟨_, hf, ?_⟩
  simp only [Bool.and_eq_true, beq_iff_eq] at h3
  refine ⟨h3.1.1, h3.1.2, ?_⟩
  have h4 := h3.2
  split at h4
  · rename_i k hk
    exact .inl ⟨k, (eq_of_beq h4).symm, hk⟩
  · rename_i hk
    exact .inr ⟨eq_of_beq h4, hk⟩
  · cases h4
theorem plainFields_size {P : Program} {fs : Array Field} {ks : List (Option IntKind)} (h : plainFields P fs ks = true) : fs.size = ks.length := by
  unfold plainFields at h
  rw [Bool.and_eq_true, beq_iff_eq] at h
  exact h.1

/-- A slice of structs of integer and bool fields that came in: field j of element i is z i j. -/
structure PRecs (ks : List (Option IntKind)) (w : World) (A : Option Addr) (n : Nat) (z : Nat → Nat → Int) : Prop where
  len : n ≤ maxLen
  wf : ∀ i j, wfOf (ks.getD j none) (z i j)
  at_ : ∀ i, i < n → ∃ b o, A = some ⟨b, o, none⟩ ∧ b < w.heap.size ∧ ∀ j, j < ks.length → w.cell? ⟨b, o + (i * ks.length + j), none⟩ = some (valOf (ks.getD j none) (z i j))
theorem PRecs.below {ks : List (Option IntKind)} {w w' : World} {A : Option Addr} {n : Nat} {z : Nat → Nat → Int} (h : PRecs ks w A n z) (k : Below w.heap.size w w') : PRecs ks w' A n z :=
  ⟨h.len, h.wf, fun i hi => by
    obtain ⟨b, o, e, hb, hc⟩ := h.at_ i hi
    exact ⟨b, o, e, Nat.lt_of_lt_of_le hb k.size, fun j hj => (k.cell (p := ⟨b, _, none⟩) hb).trans (hc j hj)⟩⟩

section
variable {H : Type} {enc : TypeId × Value → H} {P : Program} {w : World} {base : Nat} {spare : Nat → Bool} {held : Bool}

theorem plain_cells {t : TypeId} {fs : Array Field} {ks : List (Option IntKind)} {fuel : Nat} {cs : List Value} {x : DataW H × List MemPlace} (ht : P.underlying t = some (.struct fs)) (hfs : plainFields P fs ks = true) (hc : P.cellsOf t = ks.length)
    (hf : DataW.trod enc P w base spare held fuel t cs = some x) :
    ∀ j, j < ks.length → ∃ n, cs[j]? = some (valOf (ks.getD j none) n) ∧ wfOf (ks.getD j none) n := by
  obtain ⟨xs, q, _, _, hl, hxl, hx⟩ := DataW.trod_struct ht hf
  have hsize := plainFields_size hfs
  intro j hj
  obtain ⟨f, f1, f2, f3, f4⟩ := plainFields_at hfs hj
  have h3 := hx j f f1
  have h4 : xs[j]? = some (xs[j]'(by omega)) := List.getElem?_eq_getElem (by omega)
  rw [h4, f2, f3] at h3
  have hj' : j < cs.length := by omega
  rcases f4 with ⟨k, f4, f5⟩ | ⟨f4, f5⟩
  · obtain ⟨n, hx1, _, hw⟩ := DataW.trod_int f5 h3
    rw [List.drop_eq_getElem_cons hj', List.take_succ_cons, List.take_zero] at hx1
    injection hx1 with hx1
    refine ⟨n, ?_, ?_⟩
    · rw [List.getElem?_eq_getElem hj', hx1, f4]; rfl
    · rw [f4]; exact hw
  · obtain ⟨b, hx1, _⟩ := DataW.trod_bool f5 h3
    rw [List.drop_eq_getElem_cons hj', List.take_succ_cons, List.take_zero] at hx1
    injection hx1 with hx1
    refine ⟨if b = true then 1 else 0, ?_, ?_⟩
    · rw [List.getElem?_eq_getElem hj', hx1, f4]; cases b <;> rfl
    · rw [f4]; trivial

theorem plain_in {t : TypeId} {fs : Array Field} {ks : List (Option IntKind)} {v : Value} {d : DataW H} {ps : List MemPlace} {r : Reach} {b0 : Nat} (ht : P.underlying t = some (.struct fs)) (hfs : plainFields P fs ks = true) (hc : P.cellsOf t = ks.length)
    (hv : Value.okWide P w r b0 t v) (h : DataW.Trod enc P w base spare held t v d ps) :
    ∃ z : Nat → Int, v = .agg ((List.range ks.length).map fun j => valOf (ks.getD j none) (z j)).toArray ∧ ∀ j, wfOf (ks.getD j none) (z j) := by
  obtain ⟨cs, rfl, hsz⟩ := okWide_struct ht hv
  obtain ⟨fuel, hf⟩ := h
  have each := plain_cells ht hfs hc hf
  simp only [Value.cells] at each
  refine ⟨fun j => if j < ks.length then numOf cs[j]? else 0, ?_, fun j => ?_⟩
  · congr 1
    apply Array.ext
    · simp; omega
    · intro j h1 h2
      have hj : j < ks.length := by omega
      obtain ⟨x, hx, _⟩ := each j hj
      rw [Array.getElem?_toList] at hx
      simp only [List.getElem_toArray, List.getElem_map, List.getElem_range, hj, if_true, hx, numOf_val]
      rw [Array.getElem?_eq_getElem h1] at hx
      injection hx
  · by_cases hj : j < ks.length
    · obtain ⟨x, hx, hw⟩ := each j hj
      rw [Array.getElem?_toList] at hx
      simp only [hj, if_true, hx]
      exact numOf_wf _ _ hw
    · simp only [hj, if_false]
      exact zero_wfOf _

theorem plains_in {t e : TypeId} {m : Nat} {fs : Array Field} {ks : List (Option IntKind)} {v : Value} {d : DataW H} {ps : List MemPlace} {r : Reach} {b0 : Nat} (ht : P.underlying t = some (.array m e)) (he : P.underlying e = some (.struct fs)) (hfs : plainFields P fs ks = true) (hce : P.cellsOf e = ks.length) (hct : P.cellsOf t = m * ks.length)
    (hv : Value.okWide P w r b0 t v) (h : DataW.Trod enc P w base spare held t v d ps) :
    ∃ z : Nat → Int, v = .agg ((List.range (m * ks.length)).map fun j => valOf (ks.getD (j % ks.length) none) (z j)).toArray ∧ ∀ j, wfOf (ks.getD (j % ks.length) none) (z j) := by
  simp only [Value.okWide, ht] at hv
  obtain ⟨cs, rfl, hsz, _⟩ := hv
  obtain ⟨fuel, hf⟩ := h
  obtain ⟨xs, q, _, _, hlen, hxs, hi⟩ := DataW.trod_array ht hf
  have each : ∀ j, j < m * ks.length → ∃ n, cs[j]? = some (valOf (ks.getD (j % ks.length) none) n) ∧ wfOf (ks.getD (j % ks.length) none) n := by
    intro j hj
    have hpos : 0 < ks.length := by
      rcases Nat.eq_zero_or_pos ks.length with h0 | h0
      · rw [h0] at hj; omega
      · exact h0
    have hd : j / ks.length < m := (Nat.div_lt_iff_lt_mul hpos).2 hj
    have h1 := hi _ hd
    have h2 : xs[j / ks.length]? = some (xs[j / ks.length]'(by omega)) := List.getElem?_eq_getElem (by omega)
    rw [h2, hce] at h1
    have hr : j % ks.length < ks.length := Nat.mod_lt _ hpos
    obtain ⟨n, hn, hw⟩ := plain_cells he hfs hce h1 _ hr
    refine ⟨n, ?_, hw⟩
    rw [List.getElem?_take_of_lt hr, List.getElem?_drop] at hn
    have ej : j / ks.length * ks.length + j % ks.length = j := by rw [Nat.mul_comm]; exact Nat.div_add_mod j ks.length
    rw [ej] at hn
    simp only [Value.cells, Array.getElem?_toList] at hn
    exact hn
  refine ⟨fun j => if j < m * ks.length then numOf cs[j]? else 0, ?_, fun j => ?_⟩
  · congr 1
    apply Array.ext
    · simp; omega
    · intro j h1 h2
      have hj : j < m * ks.length := by omega
      obtain ⟨x, hx, _⟩ := each j hj
      simp only [List.getElem_toArray, List.getElem_map, List.getElem_range, hj, if_true, hx, numOf_val]
      rw [Array.getElem?_eq_getElem h1] at hx
      injection hx
  · by_cases hj : j < m * ks.length
    · obtain ⟨x, hx, hw⟩ := each j hj
      simp only [hj, if_true, hx]
      exact numOf_wf _ _ hw
    · simp only [hj, if_false]
      exact zero_wfOf _

theorem precs_in {t e : TypeId} {fs : Array Field} {ks : List (Option IntKind)} {v : Value} {d : DataW H} {ps : List MemPlace} {r : Reach} {b0 : Nat} (ht : P.underlying t = some (.slice e)) (he : P.underlying e = some (.struct fs)) (hfs : plainFields P fs ks = true) (hc : P.cellsOf e = ks.length) (hpos : 0 < ks.length)
    (hv : Value.okWide P w r b0 t v) (h : DataW.Trod enc P w base spare held t v d ps) :
    ∃ A n c z, v = .slice A n c ∧ PRecs ks w A n z := by
  obtain ⟨A, n, c, rfl⟩ := okWide_slice ht hv
  obtain ⟨fuel, hf⟩ := h
  rcases open_slice ht hf with ⟨hcs, _⟩ | ⟨a, len, cap, m, q, D, Pl, hcs, _, hl, hm, hmm, _, hi⟩
  · simp [Value.cells] at hcs
    obtain ⟨rfl, rfl, rfl⟩ := hcs
    exact ⟨none, 0, 0, fun _ _ => 0, rfl, ⟨Nat.zero_le _, fun _ _ => zero_wfOf _, fun i hi => absurd hi (Nat.not_lt_zero _)⟩⟩
  · simp [Value.cells] at hcs
    obtain ⟨rfl, rfl, rfl⟩ := hcs
    have hnm : n ≤ m := by rw [hmm]; split <;> omega
    have each : ∀ i j, i < n → j < ks.length → ∃ x, w.cell? (a.add (i * ks.length + j)) = some (valOf (ks.getD j none) x) ∧ wfOf (ks.getD j none) x := by
      intro i j hin hj
      obtain ⟨cs', h1, h2⟩ := hi i (by omega)
      rw [hc] at h1
      obtain ⟨_, hlen, hat⟩ := World.cells?_some h1
      obtain ⟨x, hx, hw⟩ := plain_cells he hfs hc h2 j hj
      refine ⟨x, ?_, hw⟩
      rw [← Go.Deep.add_add, hat j hj, hx]
    refine ⟨some a, n, c, fun i j => if i < n ∧ j < ks.length then numOf (w.cell? (a.add (i * ks.length + j))) else 0, rfl, ⟨by omega, fun i j => ?_, fun i hin => ?_⟩⟩
    · by_cases hij : i < n ∧ j < ks.length
      · obtain ⟨x, hx, hw⟩ := each i j hij.1 hij.2
        simp only [hij, and_self, if_true, hx]
        exact numOf_wf _ _ hw
      · simp only [hij, if_false]
        exact zero_wfOf _
    · obtain ⟨b, o, s⟩ := a
      have hs : s = none := by
        obtain ⟨x, hx, _⟩ := each 0 0 (by omega) hpos
        rw [Nat.zero_mul] at hx
        exact World.cell?_spot (a := ⟨b, o, s⟩) hx
      subst hs
      obtain ⟨x, hx, _⟩ := each i 0 hin hpos
      refine ⟨b, o, rfl, ?_, fun j hj => ?_⟩
      · rw [add_plain] at hx
        exact cell_lt (p := ⟨b, _, none⟩) hx
      · obtain ⟨x, hx, hw⟩ := each i j hin hj
        simp only [hin, hj, and_self, if_true, hx, numOf_val]
        rw [add_plain] at hx
        exact hx
/-- The same, of one that lies in memory. -/
theorem precs_of {t e : TypeId} {fs : Array Field} {ks : List (Option IntKind)} {fuel : Nat} {cs : List Value} {x : DataW H × List MemPlace} (ht : P.underlying t = some (.slice e)) (he : P.underlying e = some (.struct fs)) (hfs : plainFields P fs ks = true) (hc : P.cellsOf e = ks.length) (hpos : 0 < ks.length)
    (hf : DataW.trod enc P w base spare held fuel t cs = some x) :
    ∃ A n c z, cs = [.slice A n c] ∧ PRecs ks w A n z ∧ n ≤ c ∧ c ≤ maxLen ∧ (A = none → c = 0) := by
  rcases open_slice ht hf with ⟨hcs, _⟩ | ⟨a, n, c, m, q, D, Pl, hcs, _, hl, hm, hmm, _, hi⟩
  · subst hcs
    exact ⟨none, 0, 0, fun _ _ => 0, rfl, ⟨Nat.zero_le _, fun _ _ => zero_wfOf _, fun i hi => absurd hi (Nat.not_lt_zero _)⟩, Nat.le_refl _, Nat.zero_le _, fun _ => rfl⟩
  · subst hcs
    have hnm : n ≤ m := by rw [hmm]; split <;> omega
    have each : ∀ i j, i < n → j < ks.length → ∃ x, w.cell? (a.add (i * ks.length + j)) = some (valOf (ks.getD j none) x) ∧ wfOf (ks.getD j none) x := by
      intro i j hin hj
      obtain ⟨cs', h1, h2⟩ := hi i (by omega)
      rw [hc] at h1
      obtain ⟨_, hlen, hat⟩ := World.cells?_some h1
      obtain ⟨x, hx, hw⟩ := plain_cells he hfs hc h2 j hj
      refine ⟨x, ?_, hw⟩
      rw [← Go.Deep.add_add, hat j hj, hx]
    refine ⟨some a, n, c, fun i j => if i < n ∧ j < ks.length then numOf (w.cell? (a.add (i * ks.length + j))) else 0, rfl, ⟨by omega, fun i j => ?_, fun i hin => ?_⟩, hl, hm, fun e => by cases e⟩
    · by_cases hij : i < n ∧ j < ks.length
      · obtain ⟨x, hx, hw⟩ := each i j hij.1 hij.2
        simp only [hij, and_self, if_true, hx]
        exact numOf_wf _ _ hw
      · simp only [hij, if_false]
        exact zero_wfOf _
    · obtain ⟨b, o, s⟩ := a
      have hs : s = none := by
        obtain ⟨x, hx, _⟩ := each 0 0 (by omega) hpos
        rw [Nat.zero_mul] at hx
        exact World.cell?_spot (a := ⟨b, o, s⟩) hx
      subst hs
      obtain ⟨x, hx, _⟩ := each i 0 hin hpos
      refine ⟨b, o, rfl, ?_, fun j hj => ?_⟩
      · rw [add_plain] at hx
        exact cell_lt (p := ⟨b, _, none⟩) hx
      · obtain ⟨x, hx, hw⟩ := each i j hin hj
        simp only [hin, hj, and_self, if_true, hx, numOf_val]
        rw [add_plain] at hx
        exact hx
/-- The same, with what is known of its room. -/
theorem precs_cap {t e : TypeId} {fs : Array Field} {ks : List (Option IntKind)} {v : Value} {d : DataW H} {ps : List MemPlace} {r : Reach} {b0 : Nat} (ht : P.underlying t = some (.slice e)) (he : P.underlying e = some (.struct fs)) (hfs : plainFields P fs ks = true) (hc : P.cellsOf e = ks.length) (hpos : 0 < ks.length)
    (hv : Value.okWide P w r b0 t v) (h : DataW.Trod enc P w base spare held t v d ps) :
    ∃ A n c z, v = .slice A n c ∧ PRecs ks w A n z ∧ n ≤ c ∧ c ≤ maxLen ∧ (A = none → c = 0) := by
  obtain ⟨A, n, c, z, rfl, hz⟩ := precs_in ht he hfs hc hpos hv h
  refine ⟨A, n, c, z, rfl, hz, ?_⟩
  obtain ⟨fuel, hf⟩ := h
  rcases open_slice ht hf with ⟨hcs, _⟩ | ⟨a, len, cap, m, q, D, Pl, hcs, _, hl, hm, hmm, _, hi⟩
  · simp [Value.cells] at hcs
    obtain ⟨rfl, rfl, rfl⟩ := hcs
    exact ⟨Nat.le_refl _, Nat.zero_le _, fun _ => rfl⟩
  · simp [Value.cells] at hcs
    obtain ⟨rfl, rfl, rfl⟩ := hcs
    exact ⟨hl, hm, fun e => by cases e⟩
/-- A slice of integers, with what is known of its room. -/
theorem ints_cap {t e : TypeId} {k : IntKind} {v : Value} {d : DataW H} {ps : List MemPlace} {r : Reach} {b0 : Nat} (ht : P.underlying t = some (.slice e)) (he : P.underlying e = some (.int k)) (hc : P.cellsOf e = 1)
    (hv : Value.okWide P w r b0 t v) (h : DataW.Trod enc P w base spare held t v d ps) :
    ∃ A n c z, v = .slice A n c ∧ Ints k w A n z ∧ n ≤ c ∧ c ≤ maxLen ∧ (A = none → c = 0) := by
  obtain ⟨A, n, c, z, rfl, hz⟩ := ints_in ht he hc hv h
  refine ⟨A, n, c, z, rfl, hz, ?_⟩
  obtain ⟨fuel, hf⟩ := h
  rcases open_slice ht hf with ⟨hcs, _⟩ | ⟨a, len, cap, m, q, D, Pl, hcs, _, hl, hm, hmm, _, hi⟩
  · simp [Value.cells] at hcs
    obtain ⟨rfl, rfl, rfl⟩ := hcs
    exact ⟨Nat.le_refl _, Nat.zero_le _, fun _ => rfl⟩
  · simp [Value.cells] at hcs
    obtain ⟨rfl, rfl, rfl⟩ := hcs
    exact ⟨hl, hm, fun e => by cases e⟩
end
end Go.Proofs.Ytapbhcpcechccaa.Args
