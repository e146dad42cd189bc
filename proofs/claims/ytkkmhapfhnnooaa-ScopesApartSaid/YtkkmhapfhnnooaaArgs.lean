/-
  How the arguments of a law come in: a slice of integers, an array of integers by value, a slice of structs whose fields are integers; what a walk is told of each.
-/
import Derived.Test.YtkkmhapfhnnooaaProg
import Derived.WalkKit
import Derived.ProofKit
import Derived.OpenShut
import Derived.ShutString
import Derived.ChangeOld
import Derived.Below
import Derived.Carry
import Derived.Deep.Slices
import Derived.Deep.Fields
namespace Go.Proofs.Ytkkmhapfhnnooaa.Args
open Go.ChangeShapes Go.WideShapes Go.ChangeAt Go.RowKit Go.Deep
set_option linter.unusedVariables false

theorem own : ownKnob Try.prog.godebug = none := by kernel_rfl
theorem laidOut : laidOutB Try.prog = true := by kernel_rfl
theorem zero_wf (k : IntKind) : (Lit.int k 0).wf = true := by cases k <;> rfl

/-- A slice of integers that came in: its n elements are z 0, z 1, .., each of its kind. -/
structure Ints (k : IntKind) (w : World) (A : Option Addr) (n : Nat) (z : Nat → Int) : Prop where
  len : n ≤ maxLen
  wf : ∀ i, (Lit.int k (z i)).wf = true
  at_ : ∀ i, i < n → ∃ b o, A = some ⟨b, o, none⟩ ∧ b < w.heap.size ∧ w.cell? ⟨b, o + i, none⟩ = some (.int k (z i))

/-- A slice of structs of integer fields (their kinds: ks) that came in: field j of element i is z i j. -/
structure Recs (ks : List IntKind) (w : World) (A : Option Addr) (n : Nat) (z : Nat → Nat → Int) : Prop where
  len : n ≤ maxLen
  wf : ∀ i j, (Lit.int (ks.getD j .i64) (z i j)).wf = true
  at_ : ∀ i, i < n → ∃ b o, A = some ⟨b, o, none⟩ ∧ b < w.heap.size ∧ ∀ j, j < ks.length → w.cell? ⟨b, o + (i * ks.length + j), none⟩ = some (.int (ks.getD j .i64) (z i j))

def numIn (v : Option Value) : Int := match v with | some (.int _ x) => x | _ => 0

def intFields (P : Program) (fs : Array Field) (ks : List IntKind) : Bool := fs.size == ks.length && (List.range fs.size).all fun j => match fs[j]? with
  | some f => f.offset == j && P.cellsOf f.type == 1 && (match P.underlying f.type with | some (.int k) => k == ks.getD j .i64 | _ => false)
  | none => false

theorem intFields_at {P : Program} {fs : Array Field} {ks : List IntKind} (h : intFields P fs ks = true) {j : Nat} (hj : j < ks.length) :
    ∃ f, fs[j]? = some f ∧ f.offset = j ∧ P.cellsOf f.type = 1 ∧ P.underlying f.type = some (.int (ks.getD j .i64)) := by
  unfold intFields at h
  rw [Bool.and_eq_true, beq_iff_eq] at h
  obtain ⟨h1, h2⟩ := h
  have h3 := List.all_eq_true.1 h2 j (List.mem_range.2 (by omega))
  have hf : fs[j]? = some (fs[j]'(by omega)) := Array.getElem?_eq_getElem (by omega)
  rw [hf] at h3
  refine ⟨_, hf, ?_⟩
  simp only [Bool.and_eq_true, beq_iff_eq] at h3
  refine ⟨h3.1.1, h3.1.2, ?_⟩
  have h4 := h3.2
  split at h4
  · rename_i k hk
    rw [hk, eq_of_beq h4]
  · cases h4
theorem intFields_size {P : Program} {fs : Array Field} {ks : List IntKind} (h : intFields P fs ks = true) : fs.size = ks.length := by
  unfold intFields at h
  rw [Bool.and_eq_true, beq_iff_eq] at h
  exact h.1

theorem cell_lt {w : World} {p : Addr} {v : Value} (h : w.cell? p = some v) : p.block < w.heap.size := by
  rcases Nat.lt_or_ge p.block w.heap.size with hlt | hge
  · exact hlt
  · simp [World.cell?, Array.getElem?_eq_none hge] at h

section
variable {H : Type} {enc : TypeId × Value → H} {P : Program} {w : World} {base : Nat} {spare : Nat → Bool} {held : Bool}

theorem trod_below {t : TypeId} {v : Value} {d : DataW H} {ps : List MemPlace} (h : DataW.Trod enc P w base spare held t v d ps) : ∀ x ∈ ps, x.block < w.heap.size := by
  obtain ⟨m, hm⟩ := h
  exact DataW.trod_lt m _ _ _ hm

theorem ints_in {t e : TypeId} {k : IntKind} {v : Value} {d : DataW H} {ps : List MemPlace} {r : Reach} {b0 : Nat} (ht : P.underlying t = some (.slice e)) (he : P.underlying e = some (.int k)) (hc : P.cellsOf e = 1)
    (hv : Value.okWide P w r b0 t v) (h : DataW.Trod enc P w base spare held t v d ps) :
    ∃ A n c z, v = .slice A n c ∧ Ints k w A n z := by
  obtain ⟨A, n, c, rfl⟩ := okWide_slice ht hv
  obtain ⟨fuel, hf⟩ := h
  rcases open_ints ht he hc hf with ⟨hcs, _⟩ | ⟨x, l, cp, zs, hcs, _, hl, hm, hz, _, hcell, hwz⟩
  · simp [Value.cells] at hcs
    obtain ⟨rfl, rfl, rfl⟩ := hcs
    exact ⟨none, 0, 0, fun _ => 0, rfl, ⟨Nat.zero_le _, fun _ => zero_wf k, fun i hi => absurd hi (Nat.not_lt_zero _)⟩⟩
  · simp [Value.cells] at hcs
    obtain ⟨rfl, rfl, rfl⟩ := hcs
    have hzl : n ≤ zs.length := by rw [hz]; split <;> omega
    refine ⟨some x, n, c, fun i => zs.getD i 0, rfl, ⟨by omega, fun i => ?_, fun i hi => ?_⟩⟩
    · by_cases hi : i < zs.length
      · rw [List.getD_eq_getElem?_getD, List.getElem?_eq_getElem hi]
        exact hwz _ (List.getElem_mem hi)
      · rw [List.getD_eq_getElem?_getD, List.getElem?_eq_none (by omega)]
        exact zero_wf k
    · obtain ⟨b, o, rfl, hb⟩ := ints_at hcell (by omega)
      have h1 := hb i (by omega)
      exact ⟨b, o, rfl, cell_lt h1, h1⟩

theorem arr_in {t e : TypeId} {m : Nat} {k : IntKind} {v : Value} {d : DataW H} {ps : List MemPlace} {r : Reach} {b0 : Nat} (ht : P.underlying t = some (.array m e)) (he : P.underlying e = some (.int k)) (hc : P.cellsOf e = 1) (hct : P.cellsOf t = m)
    (hv : Value.okWide P w r b0 t v) (h : DataW.Trod enc P w base spare held t v d ps) :
    ∃ z : Nat → Int, v = .agg (Array.ofFn (n := m) fun i => .int k (z i)) ∧ ∀ i, (Lit.int k (z i)).wf = true := by
  simp only [Value.okWide, ht] at hv
  obtain ⟨cs, rfl, hsz, _⟩ := hv
  obtain ⟨fuel, hf⟩ := h
  obtain ⟨xs, q, _, _, hlen, hxs, hi⟩ := DataW.trod_array ht hf
  have each : ∀ i, i < m → ∃ n, cs[i]? = some (.int k n) ∧ (Lit.int k n).wf = true := by
    intro i him
    have h1 := hi i him
    have h2 : xs[i]? = some (xs[i]'(by omega)) := List.getElem?_eq_getElem (by omega)
    rw [h2] at h1
    obtain ⟨n, hn, _, hw⟩ := DataW.trod_int he h1
    rw [hc, Nat.mul_one] at hn
    simp only [Value.cells] at hn
    refine ⟨n, ?_, hw⟩
    have h3 : i < cs.toList.length := by rw [Array.length_toList]; omega
    rw [List.drop_eq_getElem_cons h3] at hn
    simp at hn
    rw [Array.getElem?_eq_getElem (by omega), hn]
  refine ⟨fun i => if i < m then numIn cs[i]? else 0, ?_, fun i => ?_⟩
  · congr 1
    apply Array.ext
    · simp; omega
    · intro i h1 h2
      have him : i < m := by omega
      obtain ⟨n, hn, _⟩ := each i him
      simp only [Array.getElem_ofFn, him, if_true, hn, numIn]
      rw [Array.getElem?_eq_getElem h1] at hn
      injection hn
  · by_cases him : i < m
    · obtain ⟨n, hn, hw⟩ := each i him
      simp only [him, if_true, hn, numIn]
      exact hw
    · simp only [him, if_false]
      exact zero_wf k

theorem recs_in {t e : TypeId} {fs : Array Field} {ks : List IntKind} {v : Value} {d : DataW H} {ps : List MemPlace} {r : Reach} {b0 : Nat} (ht : P.underlying t = some (.slice e)) (he : P.underlying e = some (.struct fs)) (hfs : intFields P fs ks = true) (hc : P.cellsOf e = ks.length) (hpos : 0 < ks.length)
    (hv : Value.okWide P w r b0 t v) (h : DataW.Trod enc P w base spare held t v d ps) :
    ∃ A n c z, v = .slice A n c ∧ Recs ks w A n z := by
  obtain ⟨A, n, c, rfl⟩ := okWide_slice ht hv
  obtain ⟨fuel, hf⟩ := h
  rcases open_slice ht hf with ⟨hcs, _⟩ | ⟨a, len, cap, m, q, D, Pl, hcs, _, hl, hm, hmm, _, hi⟩
  · simp [Value.cells] at hcs
    obtain ⟨rfl, rfl, rfl⟩ := hcs
    exact ⟨none, 0, 0, fun _ _ => 0, rfl, ⟨Nat.zero_le _, fun _ _ => zero_wf _, fun i hi => absurd hi (Nat.not_lt_zero _)⟩⟩
  · simp [Value.cells] at hcs
    obtain ⟨rfl, rfl, rfl⟩ := hcs
    have hnm : n ≤ m := by rw [hmm]; split <;> omega
    have each : ∀ i j, i < n → j < ks.length → ∃ x, w.cell? (a.add (i * ks.length + j)) = some (.int (ks.getD j .i64) x) ∧ (Lit.int (ks.getD j .i64) x).wf = true := by
      intro i j hin hj
      obtain ⟨cs', h1, h2⟩ := hi i (by omega)
      rw [hc] at h1
      obtain ⟨_, hlen, hat⟩ := World.cells?_some h1
      obtain ⟨f, f1, f2, f3, f4⟩ := intFields_at hfs hj
      obtain ⟨xs, q', _, _, _, hxl, hx⟩ := DataW.trod_struct he h2
      have h3 := hx j f f1
      have hsz := intFields_size hfs
      have h4 : xs[j]? = some (xs[j]'(by omega)) := List.getElem?_eq_getElem (by omega)
      rw [h4, f2, f3] at h3
      obtain ⟨x, hx1, _, hw⟩ := DataW.trod_int f4 h3
      refine ⟨x, ?_, hw⟩
      rw [← Go.Deep.add_add, hat j hj]
      have hj' : j < cs'.length := by omega
      rw [List.drop_eq_getElem_cons hj', List.take_succ_cons, List.take_zero] at hx1
      injection hx1 with hx1
      rw [List.getElem?_eq_getElem hj', hx1]
    refine ⟨some a, n, c, fun i j => if i < n ∧ j < ks.length then numIn (w.cell? (a.add (i * ks.length + j))) else 0, rfl, ⟨by omega, fun i j => ?_, fun i hin => ?_⟩⟩
    · by_cases hij : i < n ∧ j < ks.length
      · obtain ⟨x, hx, hw⟩ := each i j hij.1 hij.2
        simp only [hij, and_self, if_true, hx, numIn]
        exact hw
      · simp only [hij, if_false]
        exact zero_wf _
    · obtain ⟨b, o, s⟩ := a
      have hs : s = none := by
        obtain ⟨x, hx, _⟩ := each 0 0 (by omega) hpos
        rw [Nat.zero_mul] at hx
        exact World.cell?_spot (a := ⟨b, o, s⟩) hx
      subst hs
      obtain ⟨x, hx, _⟩ := each i 0 hin hpos
      refine ⟨b, o, rfl, ?_, fun j hj => ?_⟩
      · rw [add_plain] at hx
        exact cell_lt (p := ⟨b, _, none⟩) hx
      · obtain ⟨x, hx, hw⟩ := each i j hin hj
        simp only [hin, hj, and_self, if_true, hx, numIn]
        rw [add_plain] at hx
        exact hx
theorem rec_in {t : TypeId} {fs : Array Field} {ks : List IntKind} {v : Value} {d : DataW H} {ps : List MemPlace} {r : Reach} {b0 : Nat} (ht : P.underlying t = some (.struct fs)) (hfs : intFields P fs ks = true) (hc : P.cellsOf t = ks.length)
    (hv : Value.okWide P w r b0 t v) (h : DataW.Trod enc P w base spare held t v d ps) :
    ∃ z : Nat → Int, v = .agg ((List.range ks.length).map fun j => Value.int (ks.getD j .i64) (z j)).toArray ∧ ∀ j, (Lit.int (ks.getD j .i64) (z j)).wf = true := by
  obtain ⟨cs, rfl, hsz⟩ := okWide_struct ht hv
  obtain ⟨fuel, hf⟩ := h
  obtain ⟨xs, q, _, _, _, hxl, hx⟩ := DataW.trod_struct ht hf
  have hsize := intFields_size hfs
  have each : ∀ j, j < ks.length → ∃ x, cs[j]? = some (.int (ks.getD j .i64) x) ∧ (Lit.int (ks.getD j .i64) x).wf = true := by
    intro j hj
    obtain ⟨f, f1, f2, f3, f4⟩ := intFields_at hfs hj
    have h3 := hx j f f1
    have h4 : xs[j]? = some (xs[j]'(by omega)) := List.getElem?_eq_getElem (by omega)
    rw [h4, f2, f3] at h3
    obtain ⟨x, hx1, _, hw⟩ := DataW.trod_int f4 h3
    refine ⟨x, ?_, hw⟩
    simp only [Value.cells] at hx1
    have hj' : j < cs.toList.length := by rw [Array.length_toList]; omega
    rw [List.drop_eq_getElem_cons hj', List.take_succ_cons, List.take_zero] at hx1
    injection hx1 with hx1
    rw [Array.getElem?_eq_getElem (by omega), ← hx1]
    rfl
  refine ⟨fun j => if j < ks.length then numIn cs[j]? else 0, ?_, fun j => ?_⟩
  · congr 1
    apply Array.ext
    · simp; omega
    · intro j h1 h2
      have hj : j < ks.length := by omega
      obtain ⟨x, hx', _⟩ := each j hj
      simp only [List.getElem_toArray, List.getElem_map, List.getElem_range, hj, if_true, hx', numIn]
      rw [Array.getElem?_eq_getElem h1] at hx'
      injection hx'
  · by_cases hj : j < ks.length
    · obtain ⟨x, hx', hw⟩ := each j hj
      simp only [hj, if_true, hx', numIn]
      exact hw
    · simp only [hj, if_false]
      exact zero_wf _
end
end Go.Proofs.Ytkkmhapfhnnooaa.Args
