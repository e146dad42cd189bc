/-
  How the arguments of a law come in: a slice of integers, an array of integers by value, a slice of structs whose fields are integers; what a walk is told of each.
-/
import Derived.Test.YteakglkagmghpaaGreatProg
import Derived.WalkKit
import Derived.ProofKit
import Derived.OpenShut
import Derived.ShutString
import Derived.ChangeOld
import Derived.Below
import Derived.Carry
import Derived.Deep.Slices
import Derived.Deep.Fields
import Derived.IntWalk
import Derived.Lib.Hide
import Derived.Deep.Draws
import Derived.Deep.OwnRows
import Derived.Deep.AppendSrc
import Derived.Deep.Upon
import Derived.Laws.OwnMore
import Derived.Maps.AppendAt
import Derived.OwnWalk
import Derived.Deep.QuietTactic
import Derived.BigQuiet
import Derived.Deep.RegionHeld3
import Derived.Deep.RegionLawGrows
namespace Go.Proofs.YteakglkagmghpaaGreat.Args
open Go.ChangeShapes Go.WideShapes Go.ChangeAt Go.RowKit Go.Deep
set_option linter.unusedVariables false

theorem own : ownKnob Tryz.prog.godebug = none := by kernel_rfl
theorem laidOut : laidOutB Tryz.prog = true := by kernel_rfl
theorem zero_wf (k : IntKind) : (Lit.int k 0).wf = true := by cases k <;> rfl

/-- A slice of integers that came in: its n elements are z 0, z 1, .., each of its kind. -/
structure Ints (k : IntKind) (w : World) (A : Option Addr) (n : Nat) (z : Nat → Int) : Prop where
  len : n ≤ maxLen
  wf : ∀ i, (Lit.int k (z i)).wf = true
  at_ : ∀ i, i < n → ∃ b o, A = some ⟨b, o, none⟩ ∧ b < w.heap.size ∧ w.cell? ⟨b, o + i, none⟩ = some (.int k (z i))

/-- A slice of structs of integer fields (their kinds: ks) that came in: field j of element i is z i j. -/
structure Recs (ks : List IntKind) (w : World) (A : Option Addr) (n : Nat) (z : Nat → Nat → Int) : Prop where
  len : n ≤ maxLen
  wf : ∀ i j, (Lit.int (ks.getD j .i64) (z i j)).wf = true
  at_ : ∀ i, i < n → ∃ b o, A = some ⟨b, o, none⟩ ∧ b < w.heap.size ∧ ∀ j, j < ks.length → w.cell? ⟨b, o + (i * ks.length + j), none⟩ = some (.int (ks.getD j .i64) (z i j))

def numIn (v : Option Value) : Int := match v with | some (.int _ x) => x | _ => 0

def intFields (P : Program) (fs : Array Field) (ks : List IntKind) : Bool := fs.size == ks.length && (List.range fs.size).all fun j => match fs[j]? with
  | some f => f.offset == j && P.cellsOf f.type == 1 && (match P.underlying f.type with | some (.int k) => k == ks.getD j .i64 | _ => false)
  | none => false

theorem intFields_at {P : Program} {fs : Array Field} {ks : List IntKind} (h : intFields P fs ks = true) {j : Nat} (hj : j < ks.length) :
    ∃ f, fs[j]? = some f ∧ f.offset = j ∧ P.cellsOf f.type = 1 ∧ P.underlying f.type = some (.int (ks.getD j .i64)) := by
  unfold intFields at h
  rw [Bool.and_eq_true, beq_iff_eq] at h
  obtain ⟨h1, h2⟩ := h
  have h3 := List.all_eq_true.1 h2 j (List.mem_range.2 (by omega))
  have hf : fs[j]? = some (fs[j]'(by omega)) := Array.getElem?_eq_getElem (by omega)
  rw [hf] at h3
  refine ⟨_, hf, ?_⟩
  simp only [Bool.and_eq_true, beq_iff_eq] at h3
  refine ⟨h3.1.1, h3.1.2, ?_⟩
  have h4 := h3.2
  split at h4
  · rename_i k hk
    rw [hk, eq_of_beq h4]
  · cases h4
theorem intFields_size {P : Program} {fs : Array Field} {ks : List IntKind} (h : intFields P fs ks = true) : fs.size = ks.length := by
  unfold intFields at h
  rw [Bool.and_eq_true, beq_iff_eq] at h
  exact h.1

theorem cell_lt {w : World} {p : Addr} {v : Value} (h : w.cell? p = some v) : p.block < w.heap.size := by
  rcases Nat.lt_or_ge p.block w.heap.size with hlt | hge
  · exact hlt
  · simp [World.cell?, Array.getElem?_eq_none hge] at h

section
variable {H : Type} {enc : TypeId × Value → H} {P : Program} {w : World} {base : Nat} {spare : Nat → Bool} {held : Bool}

theorem trod_below {t : TypeId} {v : Value} {d : DataW H} {ps : List MemPlace} (h : DataW.Trod enc P w base spare held t v d ps) : ∀ x ∈ ps, x.block < w.heap.size := by
  obtain ⟨m, hm⟩ := h
  exact DataW.trod_lt m _ _ _ hm

theorem ints_in {t e : TypeId} {k : IntKind} {v : Value} {d : DataW H} {ps : List MemPlace} {r : Reach} {b0 : Nat} (ht : P.underlying t = some (.slice e)) (he : P.underlying e = some (.int k)) (hc : P.cellsOf e = 1)
    (hv : Value.okWide P w r b0 t v) (h : DataW.Trod enc P w base spare held t v d ps) :
    ∃ A n c z, v = .slice A n c ∧ Ints k w A n z := by
  obtain ⟨A, n, c, rfl⟩ := okWide_slice ht hv
  obtain ⟨fuel, hf⟩ := h
  rcases open_ints ht he hc hf with ⟨hcs, _⟩ | ⟨x, l, cp, zs, hcs, _, hl, hm, hz, _, hcell, hwz⟩
  · simp [Value.cells] at hcs
    obtain ⟨rfl, rfl, rfl⟩ := hcs
    exact ⟨none, 0, 0, fun _ => 0, rfl, ⟨Nat.zero_le _, fun _ => zero_wf k, fun i hi => absurd hi (Nat.not_lt_zero _)⟩⟩
  · simp [Value.cells] at hcs
    obtain ⟨rfl, rfl, rfl⟩ := hcs
    have hzl : n ≤ zs.length := by rw [hz]; split <;> omega
    refine ⟨some x, n, c, fun i => zs.getD i 0, rfl, ⟨by omega, fun i => ?_, fun i hi => ?_⟩⟩
    · by_cases hi : i < zs.length
      · rw [List.getD_eq_getElem?_getD, List.getElem?_eq_getElem hi]
        exact hwz _ (List.getElem_mem hi)
      · rw [List.getD_eq_getElem?_getD, List.getElem?_eq_none (by omega)]
        exact zero_wf k
    · obtain ⟨b, o, rfl, hb⟩ := ints_at hcell (by omega)
      have h1 := hb i (by omega)
      exact ⟨b, o, rfl, cell_lt h1, h1⟩

theorem arr_in {t e : TypeId} {m : Nat} {k : IntKind} {v : Value} {d : DataW H} {ps : List MemPlace} {r : Reach} {b0 : Nat} (ht : P.underlying t = some (.array m e)) (he : P.underlying e = some (.int k)) (hc : P.cellsOf e = 1) (hct : P.cellsOf t = m)
    (hv : Value.okWide P w r b0 t v) (h : DataW.Trod enc P w base spare held t v d ps) :
    ∃ z : Nat → Int, v = .agg (Array.ofFn (n := m) fun i => .int k (z i)) ∧ ∀ i, (Lit.int k (z i)).wf = true := by
  simp only [Value.okWide, ht] at hv
  obtain ⟨cs, rfl, hsz, _⟩ := hv
  obtain ⟨fuel, hf⟩ := h
  obtain ⟨xs, q, _, _, hlen, hxs, hi⟩ := DataW.trod_array ht hf
  have each : ∀ i, i < m → ∃ n, cs[i]? = some (.int k n) ∧ (Lit.int k n).wf = true := by
    intro i him
    have h1 := hi i him
    have h2 : xs[i]? = some (xs[i]'(by omega)) := List.getElem?_eq_getElem (by omega)
    rw [h2] at h1
    obtain ⟨n, hn, _, hw⟩ := DataW.trod_int he h1
    rw [hc, Nat.mul_one] at hn
    simp only [Value.cells] at hn
    refine ⟨n, ?_, hw⟩
    have h3 : i < cs.toList.length := by rw [Array.length_toList]; omega
    rw [List.drop_eq_getElem_cons h3] at hn
    simp at hn
    rw [Array.getElem?_eq_getElem (by omega), hn]
  refine ⟨fun i => if i < m then numIn cs[i]? else 0, ?_, fun i => ?_⟩
  · congr 1
    apply Array.ext
    · simp; omega
    · intro i h1 h2
      have him : i < m := by omega
      obtain ⟨n, hn, _⟩ := each i him
      simp only [Array.getElem_ofFn, him, if_true, hn, numIn]
      rw [Array.getElem?_eq_getElem h1] at hn
      injection hn
  · by_cases him : i < m
    · obtain ⟨n, hn, hw⟩ := each i him
      simp only [him, if_true, hn, numIn]
      exact hw
    · simp only [him, if_false]
      exact zero_wf k

theorem recs_in {t e : TypeId} {fs : Array Field} {ks : List IntKind} {v : Value} {d : DataW H} {ps : List MemPlace} {r : Reach} {b0 : Nat} (ht : P.underlying t = some (.slice e)) (he : P.underlying e = some (.struct fs)) (hfs : intFields P fs ks = true) (hc : P.cellsOf e = ks.length) (hpos : 0 < ks.length)
    (hv : Value.okWide P w r b0 t v) (h : DataW.Trod enc P w base spare held t v d ps) :
    ∃ A n c z, v = .slice A n c ∧ Recs ks w A n z := by
  obtain ⟨A, n, c, rfl⟩ := okWide_slice ht hv
  obtain ⟨fuel, hf⟩ := h
  rcases open_slice ht hf with ⟨hcs, _⟩ | ⟨a, len, cap, m, q, D, Pl, hcs, _, hl, hm, hmm, _, hi⟩
  · simp [Value.cells] at hcs
    obtain ⟨rfl, rfl, rfl⟩ := hcs
    exact ⟨none, 0, 0, fun _ _ => 0, rfl, ⟨Nat.zero_le _, fun _ _ => zero_wf _, fun i hi => absurd hi (Nat.not_lt_zero _)⟩⟩
  · simp [Value.cells] at hcs
    obtain ⟨rfl, rfl, rfl⟩ := hcs
    have hnm : n ≤ m := by rw [hmm]; split <;> omega
    have each : ∀ i j, i < n → j < ks.length → ∃ x, w.cell? (a.add (i * ks.length + j)) = some (.int (ks.getD j .i64) x) ∧ (Lit.int (ks.getD j .i64) x).wf = true := by
      intro i j hin hj
      obtain ⟨cs', h1, h2⟩ := hi i (by omega)
      rw [hc] at h1
      obtain ⟨_, hlen, hat⟩ := World.cells?_some h1
      obtain ⟨f, f1, f2, f3, f4⟩ := intFields_at hfs hj
      obtain ⟨xs, q', _, _, _, hxl, hx⟩ := DataW.trod_struct he h2
      have h3 := hx j f f1
      have hsz := intFields_size hfs
      have h4 : xs[j]? = some (xs[j]'(by omega)) := List.getElem?_eq_getElem (by omega)
      rw [h4, f2, f3] at h3
      obtain ⟨x, hx1, _, hw⟩ := DataW.trod_int f4 h3
      refine ⟨x, ?_, hw⟩
      rw [← Go.Deep.add_add, hat j hj]
      have hj' : j < cs'.length := by omega
      rw [List.drop_eq_getElem_cons hj', List.take_succ_cons, List.take_zero] at hx1
      injection hx1 with hx1
      rw [List.getElem?_eq_getElem hj', hx1]
    refine ⟨some a, n, c, fun i j => if i < n ∧ j < ks.length then numIn (w.cell? (a.add (i * ks.length + j))) else 0, rfl, ⟨by omega, fun i j => ?_, fun i hin => ?_⟩⟩
    · by_cases hij : i < n ∧ j < ks.length
      · obtain ⟨x, hx, hw⟩ := each i j hij.1 hij.2
        simp only [hij, and_self, if_true, hx, numIn]
        exact hw
      · simp only [hij, if_false]
        exact zero_wf _
    · obtain ⟨b, o, s⟩ := a
      have hs : s = none := by
        obtain ⟨x, hx, _⟩ := each 0 0 (by omega) hpos
        rw [Nat.zero_mul] at hx
        exact World.cell?_spot (a := ⟨b, o, s⟩) hx
      subst hs
      obtain ⟨x, hx, _⟩ := each i 0 hin hpos
      refine ⟨b, o, rfl, ?_, fun j hj => ?_⟩
      · rw [add_plain] at hx
        exact cell_lt (p := ⟨b, _, none⟩) hx
      · obtain ⟨x, hx, hw⟩ := each i j hin hj
        simp only [hin, hj, and_self, if_true, hx, numIn]
        rw [add_plain] at hx
        exact hx
theorem rec_in {t : TypeId} {fs : Array Field} {ks : List IntKind} {v : Value} {d : DataW H} {ps : List MemPlace} {r : Reach} {b0 : Nat} (ht : P.underlying t = some (.struct fs)) (hfs : intFields P fs ks = true) (hc : P.cellsOf t = ks.length)
    (hv : Value.okWide P w r b0 t v) (h : DataW.Trod enc P w base spare held t v d ps) :
    ∃ z : Nat → Int, v = .agg ((List.range ks.length).map fun j => Value.int (ks.getD j .i64) (z j)).toArray ∧ ∀ j, (Lit.int (ks.getD j .i64) (z j)).wf = true := by
  obtain ⟨cs, rfl, hsz⟩ := okWide_struct ht hv
  obtain ⟨fuel, hf⟩ := h
  obtain ⟨xs, q, _, _, _, hxl, hx⟩ := DataW.trod_struct ht hf
  have hsize := intFields_size hfs
  have each : ∀ j, j < ks.length → ∃ x, cs[j]? = some (.int (ks.getD j .i64) x) ∧ (Lit.int (ks.getD j .i64) x).wf = true := by
    intro j hj
    obtain ⟨f, f1, f2, f3, f4⟩ := intFields_at hfs hj
    have h3 := hx j f f1
    have h4 : xs[j]? = some (xs[j]'(by omega)) := List.getElem?_eq_getElem (by omega)
    rw [h4, f2, f3] at h3
    obtain ⟨x, hx1, _, hw⟩ := DataW.trod_int f4 h3
    refine ⟨x, ?_, hw⟩
    simp only [Value.cells] at hx1
    have hj' : j < cs.toList.length := by rw [Array.length_toList]; omega
    rw [List.drop_eq_getElem_cons hj', List.take_succ_cons, List.take_zero] at hx1
    injection hx1 with hx1
    rw [Array.getElem?_eq_getElem (by omega), ← hx1]
    rfl
  refine ⟨fun j => if j < ks.length then numIn cs[j]? else 0, ?_, fun j => ?_⟩
  · congr 1
    apply Array.ext
    · simp; omega
    · intro j h1 h2
      have hj : j < ks.length := by omega
      obtain ⟨x, hx', _⟩ := each j hj
      simp only [List.getElem_toArray, List.getElem_map, List.getElem_range, hj, if_true, hx', numIn]
      rw [Array.getElem?_eq_getElem h1] at hx'
      injection hx'
  · by_cases hj : j < ks.length
    · obtain ⟨x, hx', hw⟩ := each j hj
      simp only [hj, if_true, hx', numIn]
      exact hw
    · simp only [hj, if_false]
      exact zero_wf _
end
end Go.Proofs.YteakglkagmghpaaGreat.Args

/-
  How the arguments of a law come in, part two: structs whose fields are integers and bools, by value, and arrays of such structs.
-/
namespace Go.Proofs.YteakglkagmghpaaGreat.Args
open Go.ChangeShapes Go.WideShapes Go.ChangeAt Go.RowKit Go.Deep
set_option linter.unusedVariables false

/-- A field's value: an integer of its kind, or (none) a bool, told by a number that is not 0. -/
def valOf (k : Option IntKind) (x : Int) : Value := match k with | some k => .int k x | none => .bool (x != 0)
def wfOf (k : Option IntKind) (x : Int) : Prop := match k with | some k => (Lit.int k x).wf = true | none => True
def numOf (v : Option Value) : Int := match v with | some (.int _ x) => x | some (.bool true) => 1 | _ => 0
theorem numOf_val (k : Option IntKind) (x : Int) : valOf k (numOf (some (valOf k x))) = valOf k x := by
  cases k with
  | some k => rfl
  | none =>
    by_cases h : (x != 0) = true
    · simp [valOf, numOf, h]
    · have h' : (x != 0) = false := by simpa using h
      simp [valOf, numOf, h']
theorem numOf_wf (k : Option IntKind) (x : Int) (h : wfOf k x) : wfOf k (numOf (some (valOf k x))) := by
  cases k with
  | some k => exact h
  | none => trivial
theorem zero_wfOf (k : Option IntKind) : wfOf k 0 := by
  cases k with
  | some k => exact zero_wf k
  | none => trivial

def plainFields (P : Program) (fs : Array Field) (ks : List (Option IntKind)) : Bool := fs.size == ks.length && (List.range fs.size).all fun j => match fs[j]? with
  | some f => f.offset == j && P.cellsOf f.type == 1 && (match P.underlying f.type with | some (.int k) => some k == ks.getD j none | some .bool => ks.getD j none == none | _ => false)
  | none => false
theorem plainFields_at {P : Program} {fs : Array Field} {ks : List (Option IntKind)} (h : plainFields P fs ks = true) {j : Nat} (hj : j < ks.length) :
    ∃ f, fs[j]? = some f ∧ f.offset = j ∧ P.cellsOf f.type = 1 ∧ ((∃ k, ks.getD j none = some k ∧ P.underlying f.type = some (.int k)) ∨ (ks.getD j none = none ∧ P.underlying f.type = some .bool)) := by
  unfold plainFields at h
  rw [Bool.and_eq_true, beq_iff_eq] at h
  obtain ⟨h1, h2⟩ := h
  have h3 := List.all_eq_true.1 h2 j (List.mem_range.2 (by omega))
  have hf : fs[j]? = some (fs[j]'(by omega)) := Array.getElem?_eq_getElem (by omega)
  rw [hf] at h3
  refine ⟨_, hf, ?_⟩
  simp only [Bool.and_eq_true, beq_iff_eq] at h3
  refine ⟨h3.1.1, h3.1.2, ?_⟩
  have h4 := h3.2
  split at h4
  · rename_i k hk
    exact .inl ⟨k, (eq_of_beq h4).symm, hk⟩
  · rename_i hk
    exact .inr ⟨eq_of_beq h4, hk⟩
  · cases h4
theorem plainFields_size {P : Program} {fs : Array Field} {ks : List (Option IntKind)} (h : plainFields P fs ks = true) : fs.size = ks.length := by
  unfold plainFields at h
  rw [Bool.and_eq_true, beq_iff_eq] at h
  exact h.1

/-- A slice of structs of integer and bool fields that came in: field j of element i is z i j. -/
structure PRecs (ks : List (Option IntKind)) (w : World) (A : Option Addr) (n : Nat) (z : Nat → Nat → Int) : Prop where
  len : n ≤ maxLen
  wf : ∀ i j, wfOf (ks.getD j none) (z i j)
  at_ : ∀ i, i < n → ∃ b o, A = some ⟨b, o, none⟩ ∧ b < w.heap.size ∧ ∀ j, j < ks.length → w.cell? ⟨b, o + (i * ks.length + j), none⟩ = some (valOf (ks.getD j none) (z i j))
theorem PRecs.below {ks : List (Option IntKind)} {w w' : World} {A : Option Addr} {n : Nat} {z : Nat → Nat → Int} (h : PRecs ks w A n z) (k : Below w.heap.size w w') : PRecs ks w' A n z :=
  ⟨h.len, h.wf, fun i hi => by
    obtain ⟨b, o, e, hb, hc⟩ := h.at_ i hi
    exact ⟨b, o, e, Nat.lt_of_lt_of_le hb k.size, fun j hj => (k.cell (p := ⟨b, _, none⟩) hb).trans (hc j hj)⟩⟩

section
variable {H : Type} {enc : TypeId × Value → H} {P : Program} {w : World} {base : Nat} {spare : Nat → Bool} {held : Bool}

theorem plain_cells {t : TypeId} {fs : Array Field} {ks : List (Option IntKind)} {fuel : Nat} {cs : List Value} {x : DataW H × List MemPlace} (ht : P.underlying t = some (.struct fs)) (hfs : plainFields P fs ks = true) (hc : P.cellsOf t = ks.length)
    (hf : DataW.trod enc P w base spare held fuel t cs = some x) :
    ∀ j, j < ks.length → ∃ n, cs[j]? = some (valOf (ks.getD j none) n) ∧ wfOf (ks.getD j none) n := by
  obtain ⟨xs, q, _, _, hl, hxl, hx⟩ := DataW.trod_struct ht hf
  have hsize := plainFields_size hfs
  intro j hj
  obtain ⟨f, f1, f2, f3, f4⟩ := plainFields_at hfs hj
  have h3 := hx j f f1
  have h4 : xs[j]? = some (xs[j]'(by omega)) := List.getElem?_eq_getElem (by omega)
  rw [h4, f2, f3] at h3
  have hj' : j < cs.length := by omega
  rcases f4 with ⟨k, f4, f5⟩ | ⟨f4, f5⟩
  · obtain ⟨n, hx1, _, hw⟩ := DataW.trod_int f5 h3
    rw [List.drop_eq_getElem_cons hj', List.take_succ_cons, List.take_zero] at hx1
    injection hx1 with hx1
    refine ⟨n, ?_, ?_⟩
    · rw [List.getElem?_eq_getElem hj', hx1, f4]; rfl
    · rw [f4]; exact hw
  · obtain ⟨b, hx1, _⟩ := DataW.trod_bool f5 h3
    rw [List.drop_eq_getElem_cons hj', List.take_succ_cons, List.take_zero] at hx1
    injection hx1 with hx1
    refine ⟨if b = true then 1 else 0, ?_, ?_⟩
    · rw [List.getElem?_eq_getElem hj', hx1, f4]; cases b <;> rfl
    · rw [f4]; trivial

theorem plain_in {t : TypeId} {fs : Array Field} {ks : List (Option IntKind)} {v : Value} {d : DataW H} {ps : List MemPlace} {r : Reach} {b0 : Nat} (ht : P.underlying t = some (.struct fs)) (hfs : plainFields P fs ks = true) (hc : P.cellsOf t = ks.length)
    (hv : Value.okWide P w r b0 t v) (h : DataW.Trod enc P w base spare held t v d ps) :
    ∃ z : Nat → Int, v = .agg ((List.range ks.length).map fun j => valOf (ks.getD j none) (z j)).toArray ∧ ∀ j, wfOf (ks.getD j none) (z j) := by
  obtain ⟨cs, rfl, hsz⟩ := okWide_struct ht hv
  obtain ⟨fuel, hf⟩ := h
  have each := plain_cells ht hfs hc hf
  simp only [Value.cells] at each
  refine ⟨fun j => if j < ks.length then numOf cs[j]? else 0, ?_, fun j => ?_⟩
  · congr 1
    apply Array.ext
    · simp; omega
    · intro j h1 h2
      have hj : j < ks.length := by omega
      obtain ⟨x, hx, _⟩ := each j hj
      rw [Array.getElem?_toList] at hx
      simp only [List.getElem_toArray, List.getElem_map, List.getElem_range, hj, if_true, hx, numOf_val]
      rw [Array.getElem?_eq_getElem h1] at hx
      injection hx
  · by_cases hj : j < ks.length
    · obtain ⟨x, hx, hw⟩ := each j hj
      rw [Array.getElem?_toList] at hx
      simp only [hj, if_true, hx]
      exact numOf_wf _ _ hw
    · simp only [hj, if_false]
      exact zero_wfOf _

theorem plains_in {t e : TypeId} {m : Nat} {fs : Array Field} {ks : List (Option IntKind)} {v : Value} {d : DataW H} {ps : List MemPlace} {r : Reach} {b0 : Nat} (ht : P.underlying t = some (.array m e)) (he : P.underlying e = some (.struct fs)) (hfs : plainFields P fs ks = true) (hce : P.cellsOf e = ks.length) (hct : P.cellsOf t = m * ks.length)
    (hv : Value.okWide P w r b0 t v) (h : DataW.Trod enc P w base spare held t v d ps) :
    ∃ z : Nat → Int, v = .agg ((List.range (m * ks.length)).map fun j => valOf (ks.getD (j % ks.length) none) (z j)).toArray ∧ ∀ j, wfOf (ks.getD (j % ks.length) none) (z j) := by
  simp only [Value.okWide, ht] at hv
  obtain ⟨cs, rfl, hsz, _⟩ := hv
  obtain ⟨fuel, hf⟩ := h
  obtain ⟨xs, q, _, _, hlen, hxs, hi⟩ := DataW.trod_array ht hf
  have each : ∀ j, j < m * ks.length → ∃ n, cs[j]? = some (valOf (ks.getD (j % ks.length) none) n) ∧ wfOf (ks.getD (j % ks.length) none) n := by
    intro j hj
    have hpos : 0 < ks.length := by
      rcases Nat.eq_zero_or_pos ks.length with h0 | h0
      · rw [h0] at hj; omega
      · exact h0
    have hd : j / ks.length < m := (Nat.div_lt_iff_lt_mul hpos).2 hj
    have h1 := hi _ hd
    have h2 : xs[j / ks.length]? = some (xs[j / ks.length]'(by omega)) := List.getElem?_eq_getElem (by omega)
    rw [h2, hce] at h1
    have hr : j % ks.length < ks.length := Nat.mod_lt _ hpos
    obtain ⟨n, hn, hw⟩ := plain_cells he hfs hce h1 _ hr
    refine ⟨n, ?_, hw⟩
    rw [List.getElem?_take_of_lt hr, List.getElem?_drop] at hn
    have ej : j / ks.length * ks.length + j % ks.length = j := by rw [Nat.mul_comm]; exact Nat.div_add_mod j ks.length
    rw [ej] at hn
    simp only [Value.cells, Array.getElem?_toList] at hn
    exact hn
  refine ⟨fun j => if j < m * ks.length then numOf cs[j]? else 0, ?_, fun j => ?_⟩
  · congr 1
    apply Array.ext
    · simp; omega
    · intro j h1 h2
      have hj : j < m * ks.length := by omega
      obtain ⟨x, hx, _⟩ := each j hj
      simp only [List.getElem_toArray, List.getElem_map, List.getElem_range, hj, if_true, hx, numOf_val]
      rw [Array.getElem?_eq_getElem h1] at hx
      injection hx
  · by_cases hj : j < m * ks.length
    · obtain ⟨x, hx, hw⟩ := each j hj
      simp only [hj, if_true, hx]
      exact numOf_wf _ _ hw
    · simp only [hj, if_false]
      exact zero_wfOf _

theorem precs_in {t e : TypeId} {fs : Array Field} {ks : List (Option IntKind)} {v : Value} {d : DataW H} {ps : List MemPlace} {r : Reach} {b0 : Nat} (ht : P.underlying t = some (.slice e)) (he : P.underlying e = some (.struct fs)) (hfs : plainFields P fs ks = true) (hc : P.cellsOf e = ks.length) (hpos : 0 < ks.length)
    (hv : Value.okWide P w r b0 t v) (h : DataW.Trod enc P w base spare held t v d ps) :
    ∃ A n c z, v = .slice A n c ∧ PRecs ks w A n z := by
  obtain ⟨A, n, c, rfl⟩ := okWide_slice ht hv
  obtain ⟨fuel, hf⟩ := h
  rcases open_slice ht hf with ⟨hcs, _⟩ | ⟨a, len, cap, m, q, D, Pl, hcs, _, hl, hm, hmm, _, hi⟩
  · simp [Value.cells] at hcs
    obtain ⟨rfl, rfl, rfl⟩ := hcs
    exact ⟨none, 0, 0, fun _ _ => 0, rfl, ⟨Nat.zero_le _, fun _ _ => zero_wfOf _, fun i hi => absurd hi (Nat.not_lt_zero _)⟩⟩
  · simp [Value.cells] at hcs
    obtain ⟨rfl, rfl, rfl⟩ := hcs
    have hnm : n ≤ m := by rw [hmm]; split <;> omega
    have each : ∀ i j, i < n → j < ks.length → ∃ x, w.cell? (a.add (i * ks.length + j)) = some (valOf (ks.getD j none) x) ∧ wfOf (ks.getD j none) x := by
      intro i j hin hj
      obtain ⟨cs', h1, h2⟩ := hi i (by omega)
      rw [hc] at h1
      obtain ⟨_, hlen, hat⟩ := World.cells?_some h1
      obtain ⟨x, hx, hw⟩ := plain_cells he hfs hc h2 j hj
      refine ⟨x, ?_, hw⟩
      rw [← Go.Deep.add_add, hat j hj, hx]
    refine ⟨some a, n, c, fun i j => if i < n ∧ j < ks.length then numOf (w.cell? (a.add (i * ks.length + j))) else 0, rfl, ⟨by omega, fun i j => ?_, fun i hin => ?_⟩⟩
    · by_cases hij : i < n ∧ j < ks.length
      · obtain ⟨x, hx, hw⟩ := each i j hij.1 hij.2
        simp only [hij, and_self, if_true, hx]
        exact numOf_wf _ _ hw
      · simp only [hij, if_false]
        exact zero_wfOf _
    · obtain ⟨b, o, s⟩ := a
      have hs : s = none := by
        obtain ⟨x, hx, _⟩ := each 0 0 (by omega) hpos
        rw [Nat.zero_mul] at hx
        exact World.cell?_spot (a := ⟨b, o, s⟩) hx
      subst hs
      obtain ⟨x, hx, _⟩ := each i 0 hin hpos
      refine ⟨b, o, rfl, ?_, fun j hj => ?_⟩
      · rw [add_plain] at hx
        exact cell_lt (p := ⟨b, _, none⟩) hx
      · obtain ⟨x, hx, hw⟩ := each i j hin hj
        simp only [hin, hj, and_self, if_true, hx, numOf_val]
        rw [add_plain] at hx
        exact hx
/-- The same, with what is known of its room. -/
theorem precs_cap {t e : TypeId} {fs : Array Field} {ks : List (Option IntKind)} {v : Value} {d : DataW H} {ps : List MemPlace} {r : Reach} {b0 : Nat} (ht : P.underlying t = some (.slice e)) (he : P.underlying e = some (.struct fs)) (hfs : plainFields P fs ks = true) (hc : P.cellsOf e = ks.length) (hpos : 0 < ks.length)
    (hv : Value.okWide P w r b0 t v) (h : DataW.Trod enc P w base spare held t v d ps) :
    ∃ A n c z, v = .slice A n c ∧ PRecs ks w A n z ∧ n ≤ c ∧ c ≤ maxLen ∧ (A = none → c = 0) := by
  obtain ⟨A, n, c, z, rfl, hz⟩ := precs_in ht he hfs hc hpos hv h
  refine ⟨A, n, c, z, rfl, hz, ?_⟩
  obtain ⟨fuel, hf⟩ := h
  rcases open_slice ht hf with ⟨hcs, _⟩ | ⟨a, len, cap, m, q, D, Pl, hcs, _, hl, hm, hmm, _, hi⟩
  · simp [Value.cells] at hcs
    obtain ⟨rfl, rfl, rfl⟩ := hcs
    exact ⟨Nat.le_refl _, Nat.zero_le _, fun _ => rfl⟩
  · simp [Value.cells] at hcs
    obtain ⟨rfl, rfl, rfl⟩ := hcs
    exact ⟨hl, hm, fun e => by cases e⟩
/-- A slice of integers, with what is known of its room. -/
theorem ints_cap {t e : TypeId} {k : IntKind} {v : Value} {d : DataW H} {ps : List MemPlace} {r : Reach} {b0 : Nat} (ht : P.underlying t = some (.slice e)) (he : P.underlying e = some (.int k)) (hc : P.cellsOf e = 1)
    (hv : Value.okWide P w r b0 t v) (h : DataW.Trod enc P w base spare held t v d ps) :
    ∃ A n c z, v = .slice A n c ∧ Ints k w A n z ∧ n ≤ c ∧ c ≤ maxLen ∧ (A = none → c = 0) := by
  obtain ⟨A, n, c, z, rfl, hz⟩ := ints_in ht he hc hv h
  refine ⟨A, n, c, z, rfl, hz, ?_⟩
  obtain ⟨fuel, hf⟩ := h
  rcases open_slice ht hf with ⟨hcs, _⟩ | ⟨a, len, cap, m, q, D, Pl, hcs, _, hl, hm, hmm, _, hi⟩
  · simp [Value.cells] at hcs
    obtain ⟨rfl, rfl, rfl⟩ := hcs
    exact ⟨Nat.le_refl _, Nat.zero_le _, fun _ => rfl⟩
  · simp [Value.cells] at hcs
    obtain ⟨rfl, rfl, rfl⟩ := hcs
    exact ⟨hl, hm, fun e => by cases e⟩
end
end Go.Proofs.YteakglkagmghpaaGreat.Args

/-
  What a law's walk carries from call to call: nothing below has changed, and each local block stands where it stood, with the cells it had.
-/
namespace Go.Proofs.YteakglkagmghpaaGreat.Held
open Go.ChangeShapes Go.WideShapes Go.ChangeAt Go.RowKit
set_option linter.unusedVariables false

theorem bounds_i64 {a : Int} (h : (Lit.int .i64 a).wf = true) : -9223372036854775808 ≤ a ∧ a ≤ 9223372036854775807 := by
  simp only [Lit.wf, IntKind.min, IntKind.max, IntKind.signed, IntKind.bits, Bool.and_eq_true, decide_eq_true_eq, if_true] at h
  omega
/-- A block of one's own, with its cells. -/
structure At (w0 w : World) (b : Nat) (vs : List Value) : Prop where
  own : w0.heap.size ≤ b
  lt : b < w.heap.size
  cell : ∀ (k : Nat) (v : Value), vs[k]? = some v → w.cell? ⟨b, k, none⟩ = some v
  fz : ∀ o, w.frozen? ⟨b, o, none⟩ = false
structure St (w0 w : World) (L : List (Nat × List Value)) : Prop where
  below : Below w0.heap.size w0 w
  at_ : ∀ x ∈ L, At w0 w x.1 x.2
  nd : (L.map (·.1)).Nodup
theorem At.below {w0 w w' : World} {b : Nat} {vs : List Value} (h : At w0 w b vs) (k : Below w.heap.size w w') : At w0 w' b vs :=
  ⟨h.own, Nat.lt_of_lt_of_le h.lt k.size, fun i v e => (k.cell (p := ⟨b, i, none⟩) h.lt).trans (h.cell i v e), fun o => (k.frozen (p := ⟨b, o, none⟩) h.lt).trans (h.fz o)⟩
theorem St.start (w : World) : St w w [] := ⟨Below.refl _ _, fun x h => absurd h List.not_mem_nil, List.nodup_nil⟩
theorem St.call {w0 w w' : World} {L : List (Nat × List Value)} (S : St w0 w L) (k : Below w.heap.size w w') : St w0 w' L :=
  ⟨S.below.trans (k.mono S.below.size), fun x h => (S.at_ x h).below k, S.nd⟩
theorem St.drew {w0 w : World} {L : List (Nat × List Value)} (S : St w0 w L) : St w0 w.drew L := S.call (Below.refl _ _).drew
theorem St.alloc {w0 w : World} {L : List (Nat × List Value)} (S : St w0 w L) (o : Obj) : St w0 (w.alloc o) L := S.call ((Below.refl _ _).alloc (Nat.le_refl _) _)
theorem St.new {w0 w : World} {L : List (Nat × List Value)} (S : St w0 w L) (vs : List Value) (t : TypeId) :
    St w0 (w.alloc (.cells vs.toArray t)) ((w.heap.size, vs) :: L) := by
  refine ⟨(S.alloc _).below, fun x h => ?_, ?_⟩
  · rcases List.mem_cons.1 h with rfl | h
    · exact ⟨S.below.size, by simp, fun k v e => by simp [go_sem, e], fun o => by simp⟩
    · exact (S.alloc _).at_ x h
  · rw [List.map_cons, List.nodup_cons]
    refine ⟨fun h => ?_, S.nd⟩
    obtain ⟨x, hx, e⟩ := List.mem_map.1 h
    have := (S.at_ x hx).lt
    omega
theorem St.get {w0 w : World} {L : List (Nat × List Value)} (S : St w0 w L) (i : Nat) {b : Nat} {vs : List Value} (h : L[i]? = some (b, vs)) : At w0 w b vs := S.at_ _ (List.mem_of_getElem? h)
theorem St.get2 {w0 w : World} {L : List (Nat × List Value)} (S : St w0 w L) (i : Nat) {b : Nat} {v0 v1 : Value} (h : L[i]? = some (b, [v0, v1])) :
    b < w.heap.size ∧ w.cell? ⟨b, 0, none⟩ = some v0 ∧ w.cell? ⟨b, 1, none⟩ = some v1 := by
  have A := S.get i h
  exact ⟨A.lt, A.cell 0 _ rfl, A.cell 1 _ rfl⟩
theorem St.get3 {w0 w : World} {L : List (Nat × List Value)} (S : St w0 w L) (i : Nat) {b : Nat} {v0 v1 v2 : Value} (h : L[i]? = some (b, [v0, v1, v2])) :
    b < w.heap.size ∧ w.cell? ⟨b, 0, none⟩ = some v0 ∧ w.cell? ⟨b, 1, none⟩ = some v1 ∧ w.cell? ⟨b, 2, none⟩ = some v2 := by
  have A := S.get i h
  exact ⟨A.lt, A.cell 0 _ rfl, A.cell 1 _ rfl, A.cell 2 _ rfl⟩
theorem below_drewN {B : Nat} {a w : World} (h : Below B a w) (n : Nat) : Below B a (w.drewN n) := h.trans ⟨rfl, rfl, rfl, Nat.le_refl _, fun _ _ => rfl⟩
theorem St.get4 {w0 w : World} {L : List (Nat × List Value)} (S : St w0 w L) (i : Nat) {b : Nat} {v0 v1 v2 v3 : Value} (h : L[i]? = some (b, [v0, v1, v2, v3])) :
    b < w.heap.size ∧ w.cell? ⟨b, 0, none⟩ = some v0 ∧ w.cell? ⟨b, 1, none⟩ = some v1 ∧ w.cell? ⟨b, 2, none⟩ = some v2 ∧ w.cell? ⟨b, 3, none⟩ = some v3 := by
  have A := S.get i h
  exact ⟨A.lt, A.cell 0 _ rfl, A.cell 1 _ rfl, A.cell 2 _ rfl, A.cell 3 _ rfl⟩
theorem St.ne {w0 w : World} {L : List (Nat × List Value)} (S : St w0 w L) (i j : Nat) {b c : Nat} {v u : List Value} (h : L[i]? = some (b, v)) (k : L[j]? = some (c, u)) (hij : i ≠ j) : b ≠ c := by
  rintro rfl
  have hi : i < L.length := (List.getElem?_eq_some_iff.1 h).1
  have e1 : (L.map (·.1))[i]? = some b := by rw [List.getElem?_map, h]; rfl
  have e2 : (L.map (·.1))[j]? = some b := by rw [List.getElem?_map, k]; rfl
  exact hij ((List.getElem?_inj (i := i) (j := j) (by simpa using hi) S.nd).1 (e1.trans e2.symm))
theorem lift {f : FuncId} {args : Array Value} {w0 w : World} {L : List (Nat × List Value)} {r : Ending} (S : St w0 w L) (h : Calls Tryz.prog f args w fun e w' => e = r ∧ Below w.heap.size w w') :
    Calls Tryz.prog f args w fun e w' => e = r ∧ St w0 w' L := h.mono fun e w' ⟨he, k⟩ => ⟨he, S.call k⟩
theorem St.put {w0 w : World} {L : List (Nat × List Value)} (S : St w0 w L) (i k : Nat) {b : Nat} {vs : List Value} (h : L[i]? = some (b, vs)) (v : Value) (hk : k < vs.length) :
    St w0 (w.setCell ⟨b, k, none⟩ v) (L.set i (b, vs.set k v)) := by
  have A := S.get i h
  have hi : i < L.length := (List.getElem?_eq_some_iff.1 h).1
  have hb : (L.map (·.1))[i]? = some b := by rw [List.getElem?_map, h]; rfl
  have hm : (L.set i (b, vs.set k v)).map (·.1) = L.map (·.1) := by
    rw [List.map_set]
    apply List.ext_getElem?
    intro j
    rw [List.getElem?_set]
    split
    · rename_i e
      subst e
      simp [hi] at *
      exact hb.symm ▸ rfl
    · rfl
  refine ⟨S.below.setCell A.own _, fun x hx => ?_, by rw [hm]; exact S.nd⟩
  obtain ⟨j, hj⟩ := List.getElem?_of_mem hx
  rw [List.getElem?_set] at hj
  split at hj
  · rename_i e
    subst e
    obtain rfl := Option.some.inj hj
    refine ⟨A.own, by simpa [World.setCell] using A.lt, fun j u e => ?_, fun o => by simp [A.fz o]⟩
    have e' : (vs.set k v)[j]? = some u := e
    rw [List.getElem?_set] at e'
    have hc := A.cell k _ (List.getElem?_eq_getElem hk)
    split at e'
    · rename_i e2
      subst e2
      obtain rfl := Option.some.inj e'
      simp [go_sem, hc]
    · rename_i e2
      have := A.cell j u e'
      simp [go_sem, this]
  · rename_i e
    have X := S.at_ x (List.mem_of_getElem? hj)
    have hx' : (L.map (·.1))[j]? = some x.1 := by rw [List.getElem?_map, hj]; rfl
    have hne : x.1 ≠ b := fun e2 => by
      subst e2
      have := (List.getElem?_inj (i := i) (j := j) (by simpa using hi) S.nd).1 (hb.trans hx'.symm)
      exact e this
    refine ⟨X.own, by simpa [World.setCell] using X.lt, fun j u e => ?_, fun o => by simp [X.fz o]⟩
    have := X.cell j u e
    simp [go_sem, this]
end Go.Proofs.YteakglkagmghpaaGreat.Held

/-
  Slices of any element whose cells are told by an encoding: what memory says of one that reads as a list (Sr), of a row of one's own (Own), of slices of it, and what append makes of it.
-/
namespace Go.Proofs.YteakglkagmghpaaGreat.Slic
open Go.ChangeShapes Go.WideShapes Go.ChangeAt Go.RowKit
set_option linter.unusedVariables false

/-- A kind of elements: the slice's type, the element's, its cells and bytes, and how an element is told. -/
structure Kd (α : Type) where
  X : TypeId
  T : TypeId
  m : Nat
  by_ : Nat
  z : Value
  enc : α → List Value
  len : ∀ a, (enc a).length = m
  one : ∀ a, ∀ u ∈ enc a, u.oneCell' = true
  pos : 0 < m
  small : by_ ≤ 64
  zs : z.cells.size = m
  under : Tryz.prog.underlying X = some (.slice T)
  info : (Tryz.prog.info? T).map (fun i => (i.zero, i.size, i.bytes)) = some (some z, m, by_)
  elem : Tryz.prog.elem X = T

variable {α : Type} {K : Kd α}
def Kd.flat (K : Kd α) (L : List α) : List Value := L.flatMap K.enc
theorem flat_len (L : List α) : (K.flat L).length = L.length * K.m := by
  induction L with
  | nil => simp [Kd.flat]
  | cons e r ih =>
    unfold Kd.flat at *
    rw [List.flatMap_cons, List.length_append, ih, K.len, List.length_cons, Nat.add_mul, Nat.one_mul, Nat.add_comm]
theorem flat_append (L M : List α) : K.flat (L ++ M) = K.flat L ++ K.flat M := by simp [Kd.flat]
theorem flat_get (L : List α) (i j : Nat) (h : i < L.length) (hj : j < K.m) : (K.flat L)[i * K.m + j]? = (K.enc L[i])[j]? := by
  induction L generalizing i with
  | nil => simp at h
  | cons e r ih =>
    have e0 : K.flat (e :: r) = K.enc e ++ K.flat r := by simp [Kd.flat]
    rw [e0]
    cases i with
    | zero =>
      rw [List.getElem?_append_left (by rw [K.len]; omega)]
      simp
    | succ i =>
      have e1 : (i + 1) * K.m + j = K.m + (i * K.m + j) := by rw [Nat.add_mul, Nat.one_mul]; omega
      rw [List.getElem?_append_right (by rw [K.len]; omega), K.len, e1, Nat.add_sub_cancel_left, ih i (by simpa using h)]
      simp
theorem flat_one (L : List α) : ∀ u ∈ K.flat L, u.oneCell' = true := by
  intro u hu
  obtain ⟨e, _, he⟩ := List.mem_flatMap.1 hu
  exact K.one e u he
theorem flat_set (L : List α) (i j : Nat) (x : α) (v : Value) (h : i < L.length) (hj : j < K.m) (hx : K.enc x = (K.enc L[i]).set j v) : (K.flat L).set (i * K.m + j) v = K.flat (L.set i x) := by
  induction L generalizing i with
  | nil => simp at h
  | cons e r ih =>
    have e0 : ∀ a (r : List α), K.flat (a :: r) = K.enc a ++ K.flat r := fun a r => by simp [Kd.flat]
    rw [e0]
    cases i with
    | zero =>
      rw [List.set_append_left _ _ (by rw [K.len]; omega), List.set_cons_zero, e0, hx]
      simp
    | succ i =>
      have e1 : (i + 1) * K.m + j = K.m + (i * K.m + j) := by rw [Nat.add_mul, Nat.one_mul]; omega
      rw [List.set_append_right _ _ (by rw [K.len]; omega), K.len, e1, Nat.add_sub_cancel_left, ih i (by simpa using h) (by simpa using hx), List.set_cons_succ, e0]

/-- A slice that reads as a list. -/
def Sr (K : Kd α) (w : World) (v : Value) (L : List α) : Prop := ∃ A c, v = .slice A L.length c ∧ L.length ≤ c ∧ c ≤ maxLen ∧ (A = none → c = 0) ∧
  (0 < L.length → ∃ g o, A = some ⟨g, o, none⟩ ∧ g < w.heap.size ∧ ∀ i j u (h : i < L.length), (K.enc L[i])[j]? = some u → w.cell? ⟨g, o + (i * K.m + j), none⟩ = some u)
theorem Sr.nil (w : World) : Sr K w (.slice none 0 0) [] := ⟨none, 0, rfl, Nat.le_refl _, Nat.zero_le _, fun _ => rfl, fun h => absurd h (by simp)⟩
theorem Sr.keep {w w' : World} {v : Value} {L : List α} (h : Sr K w v L) (hs : w.heap.size ≤ w'.heap.size) (k : ∀ g, v.ownBlock = some g → g < w.heap.size → w'.heap[g]? = w.heap[g]?) : Sr K w' v L := by
  obtain ⟨A, c, rfl, h1, h2, h3, h4⟩ := h
  refine ⟨A, c, rfl, h1, h2, h3, fun hl => ?_⟩
  obtain ⟨g, o, rfl, hg, hc⟩ := h4 hl
  have hb := k g rfl hg
  exact ⟨g, o, rfl, by omega, fun i j u hi hu => (World.cell?_of_block (w := w) (w' := w') (a := ⟨g, _, none⟩) hb).trans (hc i j u hi hu)⟩
theorem Sr.below {w w' : World} {v : Value} {L : List α} (h : Sr K w v L) (k : Below w.heap.size w w') : Sr K w' v L := h.keep k.size fun g _ hg => k.block g hg
theorem Sr.drew {w : World} {v : Value} {L : List α} (h : Sr K w v L) : Sr K w.drew v L := h.below (Below.refl _ _).drew
theorem Sr.alloc {w : World} {v : Value} {L : List α} (h : Sr K w v L) (o : Obj) : Sr K (w.alloc o) v L := h.below ((Below.refl _ _).alloc (Nat.le_refl _) _)
theorem Sr.len {w : World} {v : Value} {L : List α} (h : Sr K w v L) : L.length ≤ maxLen := by
  obtain ⟨A, c, _, h1, h2, _⟩ := h
  omega
/-- What a walk wants of one: its value, and (where it is not empty) its cells. -/
theorem Sr.form {w : World} {v : Value} {L : List α} (h : Sr K w v L) : ∃ A c, v = .slice A L.length c ∧ L.length ≤ c ∧ c ≤ maxLen := by
  obtain ⟨A, c, rfl, h1, h2, _⟩ := h
  exact ⟨A, c, rfl, h1, h2⟩
theorem Sr.at {w : World} {A : Option Addr} {n c : Nat} {L : List α} (h : Sr K w (.slice A n c) L) (i : Nat) (hi : i < L.length) : ∃ g o, A = some ⟨g, o, none⟩ ∧ g < w.heap.size ∧ ∀ j u, (K.enc L[i])[j]? = some u → w.cell? ⟨g, o + (i * K.m + j), none⟩ = some u := by
  obtain ⟨A', d, e, _, _, _, h4⟩ := h
  injection e with e1 e2 e3
  subst e1
  obtain ⟨g, o, rfl, hg, hc⟩ := h4 (by omega)
  exact ⟨g, o, rfl, hg, fun j u hu => hc i j u hi hu⟩
/-- The beginning of one, with any room that it may have. -/
theorem Sr.part {w : World} {A : Option Addr} {n c : Nat} {L : List α} (h : Sr K w (.slice A n c) L) {k c' : Nat} (hk : k ≤ L.length) (h1 : k ≤ c') (h2 : c' ≤ c) : Sr K w (.slice A k c') (L.take k) := by
  obtain ⟨A', d, e, g1, g2, g3, g4⟩ := h
  injection e with e1 e2 e3
  subst e1 e2 e3
  have hl : (L.take k).length = k := by rw [List.length_take]; omega
  refine ⟨A, c', by rw [hl], by omega, by omega, fun e => by have := g3 e; omega, fun hp => ?_⟩
  obtain ⟨g, o, rfl, hg, hc⟩ := g4 (by omega)
  refine ⟨g, o, rfl, hg, fun i j u hi hu => ?_⟩
  rw [List.getElem_take] at hu
  exact hc i j u (by omega) hu
theorem under_X (K : Kd α) : Tryz.prog.underlying K.X = some (.slice (Tryz.prog.elem K.X)) := by rw [K.elem]; exact K.under
theorem size_X (K : Kd α) (W : World) : (sizeOf (Tryz.prog.elem K.X)).run Tryz.prog W = .ok K.m W := by
  obtain ⟨i0, hi0, hz0, hz1, hz2⟩ := info_parts K.info
  rw [K.elem]
  simp [sizeOf, typeInfo, hi0, hz1]
theorem map_add0 (A : Option Addr) : A.map (·.add 0) = A := by
  cases A with
  | none => rfl
  | some a => simp [Addr.add_zero']
/-- l[:h] as a run. -/
theorem slice_h (K : Kd α) (A : Option Addr) (n c h : Nat) (hc : h ≤ c) : (∀ W, (Instr.slice K.X (.slice A n c) none (some (.int .i64 (h : Int))) none).run Tryz.prog W = .ok (.slice A h c) W) ∧
    (∀ W, (Instr.sliceAt K.X (.slice A n c) none (some (.int .i64 (h : Int))) none).run Tryz.prog W = .ok (.slice A h c) W) := by
  have run : ∀ W, (Instr.slice K.X (.slice A n c) none (some (.int .i64 (h : Int))) none).run Tryz.prog W = .ok (.slice A h c) W := by
    intro W
    rw [run_slice_h W K.X A n c (under_X K) .i64 h (by omega) (by omega), size_X K]
    simp [Result.andThen, sliced, map_add0]
  exact ⟨run, fun W => (run_sliceAt_slice W K.X _ _ _ _ (under_X K)).trans (run W)⟩

theorem flat_cells {w : World} {g o : Nat} {L : List α} (h : ∀ i j u (h : i < L.length), (K.enc L[i])[j]? = some u → w.cell? ⟨g, o + (i * K.m + j), none⟩ = some u) :
    ∀ j u, (K.flat L)[j]? = some u → w.cell? ((⟨g, o, none⟩ : Addr).add j) = some u := by
  intro j u hu
  have hj : j < (K.flat L).length := by
    rcases Nat.lt_or_ge j (K.flat L).length with c | c
    · exact c
    · rw [List.getElem?_eq_none c] at hu; cases hu
  rw [flat_len] at hj
  rw [Addr.add_lit]
  have hi : j / K.m < L.length := (Nat.div_lt_iff_lt_mul K.pos).2 hj
  have hr : j % K.m < K.m := Nat.mod_lt _ K.pos
  have e : j / K.m * K.m + j % K.m = j := by rw [Nat.mul_comm]; exact Nat.div_add_mod j K.m
  have := h (j / K.m) (j % K.m) u hi (by rw [← flat_get L _ _ hi hr, e]; exact hu)
  rwa [e] at this

/-- A row of one's own that holds a list. -/
def Own (K : Kd α) (w : World) (base : Nat) (v : Value) (L : List α) : Prop := w.ownsRow base K.T K.m v L.length (K.flat L)
theorem Own.sr {w : World} {base : Nat} {v : Value} {L : List α} (h : Own K w base v L) : Sr K w v L := by
  have h' : w.ownsRow base K.T K.m v L.length (K.flat L) := h
  rcases h.2 with ⟨rfl, h0⟩ | ⟨g, cap, cur, rfl, _, hg, h1, h2, _⟩
  · obtain rfl := List.eq_nil_of_length_eq_zero h0
    exact Sr.nil w
  · refine ⟨_, cap, rfl, h1, h2, fun e => (by cases e), fun _ => ⟨g, 0, rfl, (h'.lt g rfl).2, fun i j u hi hu => ?_⟩⟩
    have hc := h'.cells (g := g) rfl
    have hj : j < K.m := by
      rw [← K.len L[i]]
      rcases Nat.lt_or_ge j (K.enc L[i]).length with c | c
      · exact c
      · rw [List.getElem?_eq_none c] at hu; cases hu
    have c1 := hc _ _ ((flat_get L i j hi hj).trans hu)
    rw [Addr.add_lit] at c1
    exact c1
/-- A row of one's own, as a walk stores into it: no block, or one, not frozen. -/
theorem Own.form {w : World} {base : Nat} {v : Value} {L : List α} (h : Own K w base v L) (hp : 0 < L.length) : ∃ g c, v = .slice (some ⟨g, 0, none⟩) L.length c ∧ base ≤ g ∧ g < w.heap.size ∧ L.length ≤ c ∧ c ≤ maxLen ∧ (∀ o, w.frozen? ⟨g, o, none⟩ = false) ∧
    ∀ i j u (h : i < L.length), (K.enc L[i])[j]? = some u → w.cell? ⟨g, i * K.m + j, none⟩ = some u := by
  have h' : w.ownsRow base K.T K.m v L.length (K.flat L) := h
  rcases h.2 with ⟨rfl, h0⟩ | ⟨g, cap, cur, rfl, hb, hg, h1, h2, _⟩
  · omega
  · refine ⟨g, cap, rfl, hb, (h'.lt g rfl).2, h1, h2, h'.frozenAt, fun i j u hi hu => ?_⟩
    have hc := h'.cells (g := g) rfl
    have hj : j < K.m := by
      rw [← K.len L[i]]
      rcases Nat.lt_or_ge j (K.enc L[i]).length with c | c
      · exact c
      · rw [List.getElem?_eq_none c] at hu; cases hu
    have c1 := hc _ _ ((flat_get L i j hi hj).trans hu)
    rw [Addr.add_lit, Nat.zero_add] at c1
    exact c1
/-- One cell of an element is stored. -/
theorem Own.put {w : World} {base g c : Nat} {L : List α} (h : Own K w base (.slice (some ⟨g, 0, none⟩) L.length c) L) (i j : Nat) (hi : i < L.length) (hj : j < K.m) (x : α) (v : Value) (hx : K.enc x = (K.enc L[i]).set j v) :
    Own K (w.setCell ⟨g, i * K.m + j, none⟩ v) base (.slice (some ⟨g, 0, none⟩) L.length c) (L.set i x) ∧ w.grownBy (w.setCell ⟨g, i * K.m + j, none⟩ v) (some g) := by
  have h' : w.ownsRow base K.T K.m _ L.length (K.flat L) := h
  obtain ⟨r1, r2⟩ := h'.stored (i * K.m + j) v
  rw [flat_set L i j x v hi hj hx] at r1
  refine ⟨?_, r2⟩
  unfold Own
  rw [List.length_set]
  exact r1
theorem Own.below {w w' : World} {base : Nat} {v : Value} {L : List α} (h : Own K w base v L) (k : Below w.heap.size w w') : Own K w' base v L :=
  World.ownsRow.kept (row := none) h ⟨k.os, k.tape, k.output, k.size, fun i hi _ => k.block i hi⟩ (by cases v.ownBlock <;> simp)
theorem Own.kept {w w' : World} {base : Nat} {v : Value} {L : List α} {row : Option Nat} (h : Own K w base v L) (k : w.grownBy w' row) (hne : v.ownBlock = none ∨ v.ownBlock ≠ row) : Own K w' base v L := World.ownsRow.kept h k hne
theorem Own.base {w : World} {base b' : Nat} {v : Value} {L : List α} (h : Own K w base v L) (hb : ∀ g, v.ownBlock = some g → b' ≤ g) : Own K w b' v L := by
  refine ⟨h.1, ?_⟩
  rcases h.2 with k | ⟨g, cap, cur, rfl, k2, k3⟩
  · exact .inl k
  · exact .inr ⟨g, cap, cur, rfl, hb g rfl, k3⟩
theorem Own.zero {w : World} {base b' : Nat} {v : Value} {L : List α} (h : Own K w base v L) (hb : b' ≤ base) : Own K w b' v L := h.base fun g e => Nat.le_trans hb (World.ownsRow.lt h g e).1
theorem Own.lt {w : World} {base : Nat} {v : Value} {L : List α} (h : Own K w base v L) : ∀ g, v.ownBlock = some g → base ≤ g ∧ g < w.heap.size := World.ownsRow.lt h
theorem Own.nil (w : World) (b : Nat) : Own K w b (.slice none 0 0) [] := ⟨by simp [Kd.flat], .inl ⟨rfl, rfl⟩⟩
theorem Own.empty (w : World) (b : Nat) (hb : b ≤ w.heap.size) : Own K (w.alloc (.cells #[] K.T)) b (.slice (some ⟨w.heap.size, 0, none⟩) 0 0) [] := by
  refine ⟨by simp [Kd.flat], .inr ⟨w.heap.size, 0, #[], rfl, hb, ?_, Nat.le_refl _, Nat.zero_le _, by simp, by simp [Kd.flat]⟩⟩
  show (w.heap.push _)[w.heap.size]? = _
  rw [Array.getElem?_push, if_pos rfl]
/-- A literal of one's own. -/
theorem Own.lit (w : World) (b : Nat) (hb : b ≤ w.heap.size) (L : List α) (cs : Array Value) (hc : cs.toList = K.flat L) (hm : L.length ≤ maxLen) (n : Nat) (hn : n = L.length) : Own K (w.alloc (.cells cs K.T)) b (.slice (some ⟨w.heap.size, 0, none⟩) n n) L := by
  subst hn
  have h1 : cs.size = L.length * K.m := by rw [← Array.length_toList, hc, flat_len]
  have := World.ownsRow_lit (e := K.T) (size := K.m) w cs L.length hb hm h1
  rw [hc] at this
  exact this
theorem Own.one {w : World} {b : Nat} {v : Value} {L : List α} (h : Own K w b v L) : v.oneCell' = true := by
  rcases h.2 with ⟨rfl, _⟩ | ⟨g, cap, cur, rfl, _⟩ <;> rfl
theorem Sr.one {w : World} {v : Value} {L : List α} (h : Sr K w v L) : v.oneCell' = true := by
  obtain ⟨A, c, rfl, _⟩ := h
  rfl
theorem below_grown {a b : World} (h : a.grownBy b none) : Below a.heap.size a b := ⟨h.os, h.tape, h.output, h.size, fun i hi => h.block i hi (by simp)⟩
theorem below_one (w : World) (o : Obj) : Below w.heap.size w (w.alloc o) := (Below.refl _ _).alloc (Nat.le_refl _) _
theorem cell_only {w w' : World} {row : Option Nat} (h : w.grownBy w' row) {b : Nat} (hb : b < w.heap.size) (hne : some b ≠ row) (o : Nat) : w'.cell? ⟨b, o, none⟩ = w.cell? ⟨b, o, none⟩ := by
  simp only [World.cell?, h.block b hb hne]
theorem frozen_only {w w' : World} {row : Option Nat} (h : w.grownBy w' row) {b : Nat} (hb : b < w.heap.size) (hne : some b ≠ row) (o : Nat) : w'.frozen? ⟨b, o, none⟩ = w.frozen? ⟨b, o, none⟩ := by
  simp only [World.frozen?, h.block b hb hne]
/-- Two blocks of elements of unlike types are apart. -/
theorem apart {w : World} {g g' : Nat} {c c' : Array Value} {t t' : TypeId} (h : w.heap[g]? = some (.cells c t (0, 0))) (h' : w.heap[g']? = some (.cells c' t' (0, 0))) (ht : t ≠ t') : g ≠ g' := by
  rintro rfl
  rw [h] at h'
  injection h' with h'
  injection h' with _ h'
  exact ht h'
theorem Own.apart {β : Type} {K' : Kd β} {w : World} {b b' : Nat} {v u : Value} {L : List α} {M : List β} (h : Own K w b v L) (h' : Own K' w b' u M) (ht : K.T ≠ K'.T) : v.ownBlock = none ∨ v.ownBlock ≠ u.ownBlock := by
  rcases h.2 with ⟨rfl, _⟩ | ⟨g, cap, cur, rfl, _, hg, _⟩
  · exact .inl rfl
  · refine .inr fun e1 => ?_
    rcases h'.2 with ⟨rfl, _⟩ | ⟨g', cap', cur', rfl, _, hg', _⟩
    · cases e1
    · simp only [Value.ownBlock, Option.some.injEq] at e1
      exact Slic.apart hg hg' ht e1

/-- append to a row of one's own of whatever reads as a list. -/
theorem app_own (w : World) {v x : Value} {L M : List α} {base : Nat} (h : Own K w base v L) (hx : Sr K w x M) (hl : L.length + M.length ≤ 1000000) (hb : base ≤ w.heap.size) :
    ∃ v' w', (Builtin.append_ #[K.X, K.X] K.X #[v, x]).run Tryz.prog w = .ok v' w' ∧ Own K w' base v' (L ++ M) ∧ w.grownBy w' v.ownBlock ∧ (v'.ownBlock = v.ownBlock ∨ v'.ownBlock = some w.heap.size) := by
  obtain ⟨i0, hi, hz0, hz1, hz2⟩ := info_parts K.info
  have b1 : L.length + M.length ≤ maxLen := by simp only [maxLen]; omega
  have b2 : (L.length + M.length) * K.by_ ≤ 140737488355328 := by
    have := Nat.mul_le_mul hl K.small
    omega
  obtain ⟨B, d, rfl, x1, x2, x3, hb'⟩ := hx
  by_cases hm : 0 < M.length
  · obtain ⟨g', o', rfl, hg', hc'⟩ := hb' hm
    obtain ⟨v', w', hrun, r1, r2, _, r3⟩ := run_append_own_at (P := Tryz.prog) w base K.X K.X _ i0 _ K.m K.by_ K.under hi hz0 hz1 hz2 K.zs K.pos v L.length (K.flat L) h _ M.length d (K.flat M) (flat_len M) (flat_cells hc') (flat_one M) b1 b2 hb
    rw [← flat_append, ← List.length_append] at r1
    exact ⟨v', w', hrun, r1, r2, r3⟩
  · have e : M = [] := List.eq_nil_of_length_eq_zero (by omega)
    subst e
    have hv : ∃ A c, v = .slice A L.length c ∧ L.length ≤ c := by
      rcases h.2 with ⟨rfl, h0⟩ | ⟨g, cap, cur, rfl, _, _, h1, _⟩
      · exact ⟨none, 0, by rw [h0], by omega⟩
      · exact ⟨_, cap, rfl, h1⟩
    obtain ⟨A, c, rfl, hc⟩ := hv
    refine ⟨.slice A L.length c, w, ?_, ?_, World.grownBy.refl _ _, .inl rfl⟩
    · refine run_append_nothing w K.X K.X K.X _ i0 K.under hi A _ c hc _ ?_
      cases B with
      | none => exact Src.ofNil w K.under d
      | some b => exact Src.ofSlice w K.under b 0 d [] (by simp) (fun j u h => by simp at h) (fun u h => by cases h)
    · rw [List.append_nil]
      exact h
theorem far_own {w : World} {base b : Nat} {v : Value} {L : List α} (h : Own K w base v L) (hb : b < base) : some b ≠ v.ownBlock := fun e => by
  have := (World.ownsRow.lt h b e.symm).1
  omega
theorem grown_own {w0 w w' : World} {base N : Nat} {v : Value} {L : List α} (hB : Below N w0 w) (h : Own K w base v L) (hg : w.grownBy w' v.ownBlock) (hN : N ≤ base) (hs : N ≤ w.heap.size) : Below N w0 w' :=
  hB.grown hg hs fun j ej => Nat.le_trans hN (World.ownsRow.lt h j ej).1
/-- What an append to a row of one's own leaves. -/
structure Grew (w w' : World) (base : Nat) : Prop where
  old : base ≤ w.heap.size
  size : w.heap.size ≤ w'.heap.size
  block : ∀ b, b < base → w'.heap[b]? = w.heap[b]?
  cell : ∀ b o, b < base → w'.cell? ⟨b, o, none⟩ = w.cell? ⟨b, o, none⟩
  frozen : ∀ b o, b < base → w'.frozen? ⟨b, o, none⟩ = w.frozen? ⟨b, o, none⟩
  below : ∀ (N : Nat) (w0 : World), N ≤ base → Below N w0 w → Below N w0 w'
theorem grew {w w' : World} {base : Nat} {v : Value} {L : List α} (h : Own K w base v L) (hg : w.grownBy w' v.ownBlock) (hb : base ≤ w.heap.size) : Grew w w' base :=
  ⟨hb, hg.size, fun b k => hg.block b (by omega) (far_own h k), fun b o k => cell_only hg (by omega) (far_own h k) o, fun b o k => frozen_only hg (by omega) (far_own h k) o, fun N w0 k B => grown_own B h hg k (by omega)⟩
/-- append, in a region that does not draw. -/
theorem wpList_app {w : World} {ops : Array Oper} {rest : List Oper} {o : Oper} {a : Act} {Q : Exit → Act → World → Prop} (hgd : o.guard = none) (s x : Operand)
    (ho : o.op = .call { callee := .builtin .append, args := #[s, x], argTypes := #[K.X, K.X] }) (hty : o.type = K.X) {v y : Value} {L M : List α} {base : Nat}
    (hs : a.eval s = v) (hx : a.eval x = y) (h : Own K w base v L) (hy : Sr K w y M) (hl : L.length + M.length ≤ 1000000) (hb : base ≤ w.heap.size)
    (hK : ∀ v' w', Own K w' base v' (L ++ M) → w.grownBy w' v.ownBlock → Grew w w' base → wpList Tryz.prog ops Q rest (a.put o.dst v') w') : wpList Tryz.prog ops Q (o :: rest) a w := by
  obtain ⟨v', w', hrun, r1, r2, _⟩ := app_own w h hy hl hb
  refine wpList_plain hgd fun J hJ => ?_
  unfold Oper.wp
  simp [execOp, ho, resolve, invoke, builtin, hs, hx, hty, hrun, Result.andThen]
  exact hJ _ _ (hK v' w' r1 r2 (grew h r2 hb))

theorem ret_int {k : IntKind} {a b : Int} (h : a = b) : Ending.returned (.int k a) = .returned (.int k b) := by rw [h]
theorem ret_bool {a b : Bool} (h : a = b) : Ending.returned (.bool a) = .returned (.bool b) := by rw [h]
end Go.Proofs.YteakglkagmghpaaGreat.Slic
