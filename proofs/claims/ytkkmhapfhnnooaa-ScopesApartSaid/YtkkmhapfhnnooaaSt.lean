/-
  What a law's walk carries from call to call: nothing below has changed, and each local block stands where it stood, with the cells it had.
-/
import Derived.Test.YtkkmhapfhnnooaaProg
import Derived.WalkKit
import Derived.ProofKit
import Derived.OpenShut
import Derived.IntWalk
import Derived.Lib.Hide
import Derived.Below
import Derived.Deep.Draws
namespace Go.Proofs.Ytkkmhapfhnnooaa.Held
open Go.ChangeShapes Go.WideShapes Go.ChangeAt Go.RowKit
set_option linter.unusedVariables false

theorem bounds_i64 {a : Int} (h : (Lit.int .i64 a).wf = true) : -9223372036854775808 ≤ a ∧ a ≤ 9223372036854775807 := by
  simp only [Lit.wf, IntKind.min, IntKind.max, IntKind.signed, IntKind.bits, Bool.and_eq_true, decide_eq_true_eq, if_true] at h
  omega
theorem bounds_u64 {a : Int} (h : (Lit.int .u64 a).wf = true) : 0 ≤ a ∧ a ≤ 18446744073709551615 := by
  simp [Lit.wf, IntKind.min, IntKind.max, IntKind.signed, IntKind.bits] at h
  omega
theorem bounds_u16 {a : Int} (h : (Lit.int .u16 a).wf = true) : 0 ≤ a ∧ a ≤ 65535 := by
  simp [Lit.wf, IntKind.min, IntKind.max, IntKind.signed, IntKind.bits] at h
  omega
theorem bounds_u8 {a : Int} (h : (Lit.int .u8 a).wf = true) : 0 ≤ a ∧ a ≤ 255 := by
  simp [Lit.wf, IntKind.min, IntKind.max, IntKind.signed, IntKind.bits] at h
  omega

/-- A block of one's own, with its cells. -/
structure At (w0 w : World) (b : Nat) (vs : List Value) : Prop where
  own : w0.heap.size ≤ b
  lt : b < w.heap.size
  cell : ∀ (k : Nat) (v : Value), vs[k]? = some v → w.cell? ⟨b, k, none⟩ = some v
  fz : ∀ o, w.frozen? ⟨b, o, none⟩ = false
structure St (w0 w : World) (L : List (Nat × List Value)) : Prop where
  below : Below w0.heap.size w0 w
  at_ : ∀ x ∈ L, At w0 w x.1 x.2
  nd : (L.map (·.1)).Nodup
theorem At.below {w0 w w' : World} {b : Nat} {vs : List Value} (h : At w0 w b vs) (k : Below w.heap.size w w') : At w0 w' b vs :=
  ⟨h.own, Nat.lt_of_lt_of_le h.lt k.size, fun i v e => (k.cell (p := ⟨b, i, none⟩) h.lt).trans (h.cell i v e), fun o => (k.frozen (p := ⟨b, o, none⟩) h.lt).trans (h.fz o)⟩
theorem St.start (w : World) : St w w [] := ⟨Below.refl _ _, fun x h => absurd h List.not_mem_nil, List.nodup_nil⟩
theorem St.call {w0 w w' : World} {L : List (Nat × List Value)} (S : St w0 w L) (k : Below w.heap.size w w') : St w0 w' L :=
  ⟨S.below.trans (k.mono S.below.size), fun x h => (S.at_ x h).below k, S.nd⟩
theorem St.drew {w0 w : World} {L : List (Nat × List Value)} (S : St w0 w L) : St w0 w.drew L := S.call (Below.refl _ _).drew
theorem St.alloc {w0 w : World} {L : List (Nat × List Value)} (S : St w0 w L) (o : Obj) : St w0 (w.alloc o) L := S.call ((Below.refl _ _).alloc (Nat.le_refl _) _)
theorem St.new {w0 w : World} {L : List (Nat × List Value)} (S : St w0 w L) (vs : List Value) (t : TypeId) :
    St w0 (w.alloc (.cells vs.toArray t)) ((w.heap.size, vs) :: L) := by
  refine ⟨(S.alloc _).below, fun x h => ?_, ?_⟩
  · rcases List.mem_cons.1 h with rfl | h
    · exact ⟨S.below.size, by simp, fun k v e => by simp [go_sem, e], fun o => by simp⟩
    · exact (S.alloc _).at_ x h
  · rw [List.map_cons, List.nodup_cons]
    refine ⟨fun h => ?_, S.nd⟩
    obtain ⟨x, hx, e⟩ := List.mem_map.1 h
    have := (S.at_ x hx).lt
    omega
theorem St.get {w0 w : World} {L : List (Nat × List Value)} (S : St w0 w L) (i : Nat) {b : Nat} {vs : List Value} (h : L[i]? = some (b, vs)) : At w0 w b vs := S.at_ _ (List.mem_of_getElem? h)
theorem St.get2 {w0 w : World} {L : List (Nat × List Value)} (S : St w0 w L) (i : Nat) {b : Nat} {v0 v1 : Value} (h : L[i]? = some (b, [v0, v1])) :
    b < w.heap.size ∧ w.cell? ⟨b, 0, none⟩ = some v0 ∧ w.cell? ⟨b, 1, none⟩ = some v1 := by
  have A := S.get i h
  exact ⟨A.lt, A.cell 0 _ rfl, A.cell 1 _ rfl⟩
theorem St.get3 {w0 w : World} {L : List (Nat × List Value)} (S : St w0 w L) (i : Nat) {b : Nat} {v0 v1 v2 : Value} (h : L[i]? = some (b, [v0, v1, v2])) :
    b < w.heap.size ∧ w.cell? ⟨b, 0, none⟩ = some v0 ∧ w.cell? ⟨b, 1, none⟩ = some v1 ∧ w.cell? ⟨b, 2, none⟩ = some v2 := by
  have A := S.get i h
  exact ⟨A.lt, A.cell 0 _ rfl, A.cell 1 _ rfl, A.cell 2 _ rfl⟩
theorem below_drewN {B : Nat} {a w : World} (h : Below B a w) (n : Nat) : Below B a (w.drewN n) := h.trans ⟨rfl, rfl, rfl, Nat.le_refl _, fun _ _ => rfl⟩
theorem St.get4 {w0 w : World} {L : List (Nat × List Value)} (S : St w0 w L) (i : Nat) {b : Nat} {v0 v1 v2 v3 : Value} (h : L[i]? = some (b, [v0, v1, v2, v3])) :
    b < w.heap.size ∧ w.cell? ⟨b, 0, none⟩ = some v0 ∧ w.cell? ⟨b, 1, none⟩ = some v1 ∧ w.cell? ⟨b, 2, none⟩ = some v2 ∧ w.cell? ⟨b, 3, none⟩ = some v3 := by
  have A := S.get i h
  exact ⟨A.lt, A.cell 0 _ rfl, A.cell 1 _ rfl, A.cell 2 _ rfl, A.cell 3 _ rfl⟩
theorem St.get1 {w0 w : World} {L : List (Nat × List Value)} (S : St w0 w L) (i : Nat) {b : Nat} {v0 : Value} (h : L[i]? = some (b, [v0])) :
    b < w.heap.size ∧ w.cell? ⟨b, 0, none⟩ = some v0 ∧ w.frozen? ⟨b, 0, none⟩ = false := by
  have A := S.get i h
  exact ⟨A.lt, A.cell 0 _ rfl, A.fz 0⟩
theorem St.get6 {w0 w : World} {L : List (Nat × List Value)} (S : St w0 w L) (i : Nat) {b : Nat} {v0 v1 v2 v3 v4 v5 : Value} (h : L[i]? = some (b, [v0, v1, v2, v3, v4, v5])) :
    b < w.heap.size ∧ w.cell? ⟨b, 0, none⟩ = some v0 ∧ w.cell? ⟨b, 1, none⟩ = some v1 ∧ w.cell? ⟨b, 2, none⟩ = some v2 ∧ w.cell? ⟨b, 3, none⟩ = some v3 ∧ w.cell? ⟨b, 4, none⟩ = some v4 ∧ w.cell? ⟨b, 5, none⟩ = some v5 := by
  have A := S.get i h
  exact ⟨A.lt, A.cell 0 _ rfl, A.cell 1 _ rfl, A.cell 2 _ rfl, A.cell 3 _ rfl, A.cell 4 _ rfl, A.cell 5 _ rfl⟩
theorem St.ne {w0 w : World} {L : List (Nat × List Value)} (S : St w0 w L) (i j : Nat) {b c : Nat} {v u : List Value} (h : L[i]? = some (b, v)) (k : L[j]? = some (c, u)) (hij : i ≠ j) : b ≠ c := by
  rintro rfl
  have hi : i < L.length := (List.getElem?_eq_some_iff.1 h).1
  have e1 : (L.map (·.1))[i]? = some b := by rw [List.getElem?_map, h]; rfl
  have e2 : (L.map (·.1))[j]? = some b := by rw [List.getElem?_map, k]; rfl
  exact hij ((List.getElem?_inj (i := i) (j := j) (by simpa using hi) S.nd).1 (e1.trans e2.symm))
theorem lift {f : FuncId} {args : Array Value} {w0 w : World} {L : List (Nat × List Value)} {r : Ending} (S : St w0 w L) (h : Calls Try.prog f args w fun e w' => e = r ∧ Below w.heap.size w w') :
    Calls Try.prog f args w fun e w' => e = r ∧ St w0 w' L := h.mono fun e w' ⟨he, k⟩ => ⟨he, S.call k⟩
theorem St.put {w0 w : World} {L : List (Nat × List Value)} (S : St w0 w L) (i k : Nat) {b : Nat} {vs : List Value} (h : L[i]? = some (b, vs)) (v : Value) (hk : k < vs.length) :
    St w0 (w.setCell ⟨b, k, none⟩ v) (L.set i (b, vs.set k v)) := by
  have A := S.get i h
  have hi : i < L.length := (List.getElem?_eq_some_iff.1 h).1
  have hb : (L.map (·.1))[i]? = some b := by rw [List.getElem?_map, h]; rfl
  have hm : (L.set i (b, vs.set k v)).map (·.1) = L.map (·.1) := by
    rw [List.map_set]
    apply List.ext_getElem?
    intro j
    rw [List.getElem?_set]
    split
    · rename_i e
      subst e
      simp [hi] at *
      exact hb.symm ▸ rfl
    · rfl
  refine ⟨S.below.setCell A.own _, fun x hx => ?_, by rw [hm]; exact S.nd⟩
  obtain ⟨j, hj⟩ := List.getElem?_of_mem hx
  rw [List.getElem?_set] at hj
  split at hj
  · rename_i e
    subst e
    obtain rfl := Option.some.inj hj
    refine ⟨A.own, by simpa [World.setCell] using A.lt, fun j u e => ?_, fun o => by simp [A.fz o]⟩
    have e' : (vs.set k v)[j]? = some u := e
    rw [List.getElem?_set] at e'
    have hc := A.cell k _ (List.getElem?_eq_getElem hk)
    split at e'
    · rename_i e2
      subst e2
      obtain rfl := Option.some.inj e'
      simp [go_sem, hc]
    · rename_i e2
      have := A.cell j u e'
      simp [go_sem, this]
  · rename_i e
    have X := S.at_ x (List.mem_of_getElem? hj)
    have hx' : (L.map (·.1))[j]? = some x.1 := by rw [List.getElem?_map, hj]; rfl
    have hne : x.1 ≠ b := fun e2 => by
      subst e2
      have := (List.getElem?_inj (i := i) (j := j) (by simpa using hi) S.nd).1 (hb.trans hx'.symm)
      exact e this
    refine ⟨X.own, by simpa [World.setCell] using X.lt, fun j u e => ?_, fun o => by simp [X.fz o]⟩
    have := X.cell j u e
    simp [go_sem, this]
end Go.Proofs.Ytkkmhapfhnnooaa.Held
