/-
  Finalizers, plain mathematics: which ops may be, what one does, what a run of them does, and what is so of it.
-/
import Derived.Test.YtbpmnjmegffllaaProg
import Derived.Test.YtbpmnjmegffllaaBase
import Derived.Laws.Tables
import Derived.Laws.EntriesVeiled
import Derived.Deep.RegionLaw
import Derived.Lib.SliceRun
namespace Go.Proofs.Ytbpmnjmegffllaa.Fina
set_option linter.unusedVariables false

/-- An op: which, A, B. -/
abbrev O := Int × Int × Int
def oneP (o : O) : Prop := (o.1 = 0 ∧ 0 ≤ o.2.1 ∧ o.2.1 ≤ 99 ∧ o.2.2 = 0) ∨ (o.1 = 1 ∧ 0 ≤ o.2.1 ∧ o.2.1 ≤ 5 ∧ o.2.2 = 0) ∨ (o.1 = 2 ∧ 0 ≤ o.2.1 ∧ o.2.1 ≤ 5 ∧ 0 ≤ o.2.2 ∧ o.2.2 ≤ 5) ∨
  (o.1 = 3 ∧ 0 ≤ o.2.1 ∧ o.2.1 ≤ 5 ∧ 0 ≤ o.2.2 ∧ o.2.2 ≤ 8) ∨ (o.1 = 4 ∧ o.2.1 = 0 ∧ o.2.2 = 0)
instance (o : O) : Decidable (oneP o) := by unfold oneP; infer_instance
def oneB (o : O) : Bool := decide (oneP o)
def progB (L : List O) : Bool := decide (L.length ≤ 8) && L.all oneB
def rightB (L : List (List O)) : Bool := decide (L.length ≤ 8) && L.all progB

/-- Whether a slot is there. -/
def inB (n : Int) (k : Nat) : Bool := decide (0 ≤ n ∧ n < (k : Int))
def slotsV (S : List Int) (o : O) : List Int :=
  if o.1 = 1 then (if inB o.2.1 S.length = true then S.set o.2.1.toNat 0 else S)
  else if o.1 = 2 then (if inB o.2.1 S.length = true ∧ inB o.2.2 S.length = true then S.set o.2.1.toNat (S.getD o.2.2.toNat 0) else S)
  else S
/-- How many ops are left out. -/
def leftV (S : List Int) (o : O) : Int := if o.1 = 3 ∧ inB o.2.1 S.length = true ∧ S.getD o.2.1.toNat 0 = 0 then o.2.2 else 0
def sayV (o : O) : List Int := if o.1 = 0 then [o.2.1] else []
def holdV (o : O) : Bool := decide (o.1 = 4)

/-- What a run leaves. -/
structure R where
  S : List Int
  said : List Int
  held : Bool
  n : Nat
/-- A run of which the first k ops are left out. -/
def walk : List O → Nat → List Int → R
  | [], _, S => ⟨S, [], false, 0⟩
  | _ :: r, k + 1, S => walk r k S
  | o :: r, 0, S => ⟨(walk r (leftV S o).toNat (slotsV S o)).S, sayV o ++ (walk r (leftV S o).toNat (slotsV S o)).said, holdV o || (walk r (leftV S o).toNat (slotsV S o)).held, (walk r (leftV S o).toNat (slotsV S o)).n + 1⟩
theorem walk_drop : ∀ (L : List O) (k : Nat) (S : List Int), walk L k S = walk (L.drop k) 0 S
  | [], k, S => by simp [walk]
  | _ :: r, 0, S => rfl
  | _ :: r, k + 1, S => by rw [walk, List.drop_succ_cons]; exact walk_drop r k S
/-- What a run does from a place on. -/
def goes (L : List O) (i : Nat) (S : List Int) : R := walk (L.drop i) 0 S
theorem goes_end {L : List O} {i : Nat} {S : List Int} (h : L.length ≤ i) : goes L i S = ⟨S, [], false, 0⟩ := by
  unfold goes
  rw [List.drop_of_length_le h]
  rfl
theorem goes_step {L : List O} {i : Nat} {S : List Int} (h : i < L.length) : goes L i S =
    ⟨(goes L (i + 1 + (leftV S L[i]).toNat) (slotsV S L[i])).S, sayV L[i] ++ (goes L (i + 1 + (leftV S L[i]).toNat) (slotsV S L[i])).said, holdV L[i] || (goes L (i + 1 + (leftV S L[i]).toNat) (slotsV S L[i])).held, (goes L (i + 1 + (leftV S L[i]).toNat) (slotsV S L[i])).n + 1⟩ := by
  unfold goes
  rw [List.drop_eq_getElem_cons h, walk]
  have e : walk (L.drop (i + 1)) (leftV S L[i]).toNat (slotsV S L[i]) = walk (L.drop (i + 1 + (leftV S L[i]).toNat)) 0 (slotsV S L[i]) := by
    rw [walk_drop, List.drop_drop]
  rw [e]
/-- Ops that are bytes. -/
def okO (L : List O) : Prop := ∀ o ∈ L, 0 ≤ o.1 ∧ o.1 ≤ 255
/-- Ops of which none leads back, or far. -/
def okL (L : List O) : Prop := ∀ o ∈ L, o.1 = 3 → 0 ≤ o.2.2 ∧ o.2.2 ≤ 100
theorem slots_len (S : List Int) (o : O) : (slotsV S o).length = S.length := by
  unfold slotsV
  split
  · split <;> simp
  · split
    · split <;> simp
    · rfl
theorem left_bd {L : List O} (h : okL L) {o : O} (ho : o ∈ L) (S : List Int) : 0 ≤ leftV S o ∧ leftV S o ≤ 100 := by
  unfold leftV
  split
  · rename_i k
    exact h o ho k.1
  · omega
theorem one_ok {L : List O} (h : L.all oneB = true) : okL L := by
  intro o ho k
  have : oneP o := of_decide_eq_true (List.all_eq_true.1 h o ho)
  unfold oneP at this
  omega
theorem walk_len : ∀ (L : List O) (k : Nat) (S : List Int), (walk L k S).S.length = S.length ∧ (walk L k S).n ≤ L.length ∧ (walk L k S).said.length ≤ (walk L k S).n
  | [], k, S => by simp [walk]
  | _ :: r, k + 1, S => by
    have := walk_len r k S
    rw [walk]
    simp only [List.length_cons]
    omega
  | o :: r, 0, S => by
    have := walk_len r (leftV S o).toNat (slotsV S o)
    rw [slots_len] at this
    rw [walk]
    have hs : (sayV o).length ≤ 1 := by unfold sayV; split <;> simp
    simp only [List.length_cons, List.length_append]
    omega
theorem slots_in (S : List Int) (o : O) : ∀ x ∈ slotsV S o, x = 0 ∨ x ∈ S := by
  intro x hx
  unfold slotsV at hx
  split at hx
  · split at hx
    · rcases List.mem_or_eq_of_mem_set hx with h | h
      · exact .inr h
      · exact .inl h
    · exact .inr hx
  · split at hx
    · split at hx
      · rename_i k
        rcases List.mem_or_eq_of_mem_set hx with h | h
        · exact .inr h
        · have hk := k.2
          simp only [inB, decide_eq_true_eq] at hk
          rw [List.getD_eq_getElem?_getD, List.getElem?_eq_getElem (by omega)] at h
          exact .inr (h ▸ List.getElem_mem _)
      · exact .inr hx
    · exact .inr hx
theorem walk_mem : ∀ (L : List O) (k : Nat) (S : List Int), ∀ x ∈ (walk L k S).S, x = 0 ∨ x ∈ S
  | [], k, S => by intro x hx; exact .inr hx
  | _ :: r, k + 1, S => by rw [walk]; exact walk_mem r k S
  | o :: r, 0, S => by
    intro x hx
    rw [walk] at hx
    rcases walk_mem r _ _ x hx with h | h
    · exact .inl h
    · exact slots_in S o x h
theorem walk_held : ∀ (L : List O) (k : Nat) (S : List Int), (walk L k S).held = true → L.any holdV = true
  | [], k, S => by simp [walk]
  | _ :: r, k + 1, S => by
    intro h
    rw [walk] at h
    rw [List.any_cons, walk_held r k S h, Bool.or_true]
  | o :: r, 0, S => by
    intro h
    rw [walk] at h
    rw [List.any_cons]
    rcases Bool.or_eq_true_iff.1 h with h | h
    · rw [h]; rfl
    · rw [walk_held r _ _ h, Bool.or_true]
def skipB (o : O) : Bool := decide (o.1 = 3)
/-- All that is said, where nothing is left out. -/
def says (L : List O) : List Int := L.flatMap sayV
theorem walk_plain : ∀ (L : List O) (S : List Int), L.any skipB = false → (walk L 0 S).said = says L ∧ (walk L 0 S).n = L.length
  | [], S => by simp [walk, says]
  | o :: r, S => by
    intro h
    rw [List.any_cons, Bool.or_eq_false_iff] at h
    have e : leftV S o = 0 := by
      unfold leftV
      rw [if_neg]
      have := h.1
      simp only [skipB, decide_eq_false_iff_not] at this
      exact fun k => this k.1
    rw [walk, e]
    have := walk_plain r (slotsV S o) h.2
    simp only [says, List.flatMap_cons] at *
    exact ⟨by rw [show (0 : Int).toNat = 0 from rfl, this.1], by rw [show (0 : Int).toNat = 0 from rfl, this.2]; rfl⟩
/-- Each skip stays within. -/
def inner : List O → Prop
  | [] => True
  | o :: r => (o.1 = 3 → o.2.2 ≤ (r.length : Int)) ∧ inner r
theorem inner_drop : ∀ (L : List O) (k : Nat), inner L → inner (L.drop k)
  | [], k, h => by simp [inner]
  | _ :: r, 0, h => h
  | _ :: r, k + 1, h => by rw [List.drop_succ_cons]; exact inner_drop r k h.2
theorem walk_join : ∀ (n : Nat) (P Q : List O) (S : List Int), P.length ≤ n → inner P → walk (P ++ Q) 0 S =
    ⟨(walk Q 0 (walk P 0 S).S).S, (walk P 0 S).said ++ (walk Q 0 (walk P 0 S).S).said, (walk P 0 S).held || (walk Q 0 (walk P 0 S).S).held, (walk P 0 S).n + (walk Q 0 (walk P 0 S).S).n⟩
  | n, [], Q, S, _, _ => by simp [walk]
  | 0, o :: r, Q, S, h, _ => by simp at h
  | n + 1, o :: r, Q, S, h, hi => by
    have hk : (leftV S o).toNat ≤ r.length := by
      have h1 := hi.1
      unfold leftV
      split
      · rename_i k
        have := h1 k.1
        omega
      · simp
    have e1 : walk (r ++ Q) (leftV S o).toNat (slotsV S o) = walk (r.drop (leftV S o).toNat ++ Q) 0 (slotsV S o) := by
      rw [walk_drop, List.drop_append_of_le_length hk]
    have e2 : walk r (leftV S o).toNat (slotsV S o) = walk (r.drop (leftV S o).toNat) 0 (slotsV S o) := walk_drop _ _ _
    have ih := walk_join n (r.drop (leftV S o).toNat) Q (slotsV S o) (by rw [List.length_drop]; simp at h; omega) (inner_drop _ _ hi.2)
    rw [List.cons_append, walk, walk, e1, e2, ih]
    simp [List.append_assoc, Bool.or_assoc, Nat.add_right_comm]

/-- The op that the document's Fit makes of another one. -/
def fitO (o : O) : O :=
  if o.1 % 5 = 0 then (0, o.2.1 % 64, 0) else if o.1 % 5 = 1 then (1, o.2.1 % 8 % 6, 0) else if o.1 % 5 = 2 then (2, o.2.1 % 8 % 6, o.2.2 % 8 % 6)
  else if o.1 % 5 = 3 then (3, o.2.1 % 8 % 6, o.2.2 % 8) else (4, 0, 0)
def fitP (L : List O) : List O := (L.take 8).map fitO
def fitL (L : List (List O)) : List (List O) := (L.take 8).map fitP
theorem fit_one (o : O) (h : 0 ≤ o.1) : oneB (fitO o) = true := by
  have h5 : o.1 % 5 = 0 ∨ o.1 % 5 = 1 ∨ o.1 % 5 = 2 ∨ o.1 % 5 = 3 ∨ o.1 % 5 = 4 := by omega
  simp only [oneB, decide_eq_true_eq]
  unfold fitO oneP
  rcases h5 with e | e | e | e | e <;> simp [e] <;> omega
theorem fit_prog (L : List O) (h : ∀ o ∈ L, 0 ≤ o.1) : progB (fitP L) = true := by
  unfold progB fitP
  rw [Bool.and_eq_true, decide_eq_true_eq, List.length_map, List.length_take, List.all_map]
  refine ⟨by omega, List.all_eq_true.2 fun o ho => fit_one o (h o (List.mem_of_mem_take ho))⟩
end Go.Proofs.Ytbpmnjmegffllaa.Fina

/-
  Finalizers in memory: slices of ops, words and numbers; a run's state; contracts of fin's small functions.
-/
namespace Go.Proofs.Ytbpmnjmegffllaa.Fina
open Go.ChangeShapes Go.WideShapes Go.ChangeAt Go.RowKit
open Slic
set_option linter.unusedVariables false

def kU : Kd Int := { X := 42, T := 33, m := 1, by_ := 8, z := .int .u64 0, enc := fun x => [.int .u64 x], len := fun _ => rfl, one := fun _ u h => by simp at h; subst h; rfl, pos := by decide, small := by decide, zs := rfl, under := by kernel_rfl, info := by kernel_rfl, elem := by kernel_rfl }
def kI : Kd Int := { X := 49, T := 3, m := 1, by_ := 8, z := .int .i64 0, enc := fun x => [.int .i64 x], len := fun _ => rfl, one := fun _ u h => by simp at h; subst h; rfl, pos := by decide, small := by decide, zs := rfl, under := by kernel_rfl, info := by kernel_rfl, elem := by kernel_rfl }
def kF : Kd O := { X := 157, T := 207, m := 3, by_ := 24, z := .agg #[.int .u8 0, .int .i64 0, .int .i64 0], enc := fun x => [.int .u8 x.1, .int .i64 x.2.1, .int .i64 x.2.2], len := fun _ => rfl, one := fun _ u h => by simp at h; rcases h with rfl | rfl | rfl <;> rfl, pos := by decide, small := by decide, zs := rfl, under := by kernel_rfl, info := by kernel_rfl, elem := by kernel_rfl }
/-- Rows of slices: where each begins, its length and room. -/
def kR : Kd (Option Addr × Nat × Nat) := { X := 71, T := 157, m := 1, by_ := 24, z := .slice none 0 0, enc := fun x => [.slice x.1 x.2.1 x.2.2], len := fun _ => rfl, one := fun _ u h => by simp at h; subst h; rfl, pos := by decide, small := by decide, zs := rfl, under := by kernel_rfl, info := by kernel_rfl, elem := by kernel_rfl }

theorem op_at {w : World} {A : Option Addr} {n c : Nat} {L : List O} (h : Sr kF w (.slice A n c) L) (i : Nat) (hi : i < L.length) : ∃ g o, A = some ⟨g, o, none⟩ ∧ g < w.heap.size ∧
    w.cell? ⟨g, o + i * 3, none⟩ = some (.int .u8 (L[i]).1) ∧ w.cell? ⟨g, o + i * 3 + 1, none⟩ = some (.int .i64 (L[i]).2.1) ∧ w.cell? ⟨g, o + i * 3 + 2, none⟩ = some (.int .i64 (L[i]).2.2) := by
  obtain ⟨g, o, rfl, hg, hc⟩ := h.at i hi
  exact ⟨g, o, rfl, hg, hc 0 _ rfl, hc 1 _ rfl, hc 2 _ rfl⟩
theorem word_at {w : World} {A : Option Addr} {n c : Nat} {L : List Int} (h : Sr kU w (.slice A n c) L) (i : Nat) (hi : i < L.length) : ∃ g o, A = some ⟨g, o, none⟩ ∧ g < w.heap.size ∧ w.cell? ⟨g, o + i, none⟩ = some (.int .u64 L[i]) := by
  obtain ⟨g, o, rfl, hg, hc⟩ := h.at i hi
  have := hc 0 _ rfl
  rw [show kU.m = 1 from rfl, Nat.mul_one, Nat.add_zero] at this
  exact ⟨g, o, rfl, hg, this⟩
theorem num_at {w : World} {A : Option Addr} {n c : Nat} {L : List Int} (h : Sr kI w (.slice A n c) L) (i : Nat) (hi : i < L.length) : ∃ g o, A = some ⟨g, o, none⟩ ∧ g < w.heap.size ∧ w.cell? ⟨g, o + i, none⟩ = some (.int .i64 L[i]) := by
  obtain ⟨g, o, rfl, hg, hc⟩ := h.at i hi
  have := hc 0 _ rfl
  rw [show kI.m = 1 from rfl, Nat.mul_one, Nat.add_zero] at this
  exact ⟨g, o, rfl, hg, this⟩
theorem row_at {w : World} {A : Option Addr} {n c : Nat} {L : List (Option Addr × Nat × Nat)} (h : Sr kR w (.slice A n c) L) (i : Nat) (hi : i < L.length) : ∃ g o, A = some ⟨g, o, none⟩ ∧ g < w.heap.size ∧ w.cell? ⟨g, o + i, none⟩ = some (.slice (L[i]).1 (L[i]).2.1 (L[i]).2.2) := by
  obtain ⟨g, o, rfl, hg, hc⟩ := h.at i hi
  have := hc 0 _ rfl
  rw [show kR.m = 1 from rfl, Nat.mul_one, Nat.add_zero] at this
  exact ⟨g, o, rfl, hg, this⟩

theorem put_grown (w : World) (a : Addr) (v : Value) : w.grownBy (w.setCell a v) (some a.block) :=
  ⟨rfl, rfl, rfl, by simp, fun k _ hk => heap_setCell_other w a k v (fun e => hk (by simp [e]))⟩

/-- What a run has come to: the next place, the slots, what was said, whether it holds. -/
structure Fs (w0 w : World) (p : Nat) (a : Int) (S D : List Int) (h : Bool) (vs vd : Value) : Prop where
  below : Below w0.heap.size w0 w
  own : w0.heap.size ≤ p
  lt : p < w.heap.size
  c0 : w.cell? ⟨p, 0, none⟩ = some (.int .i64 a)
  c1 : w.cell? ⟨p, 1, none⟩ = some vs
  c2 : w.cell? ⟨p, 2, none⟩ = some vd
  c3 : w.cell? ⟨p, 3, none⟩ = some (.bool h)
  fz : ∀ o, w.frozen? ⟨p, o, none⟩ = false
  slots : Own kU w w0.heap.size vs S
  far : ∀ g, vs.ownBlock = some g → g < p
  said : Own kI w (p + 1) vd D
section
variable {w0 w w' : World} {p : Nat} {a : Int} {S D : List Int} {h : Bool} {vs vd : Value}
theorem Fs.call (F : Fs w0 w p a S D h vs vd) (k : Below w.heap.size w w') : Fs w0 w' p a S D h vs vd :=
  ⟨F.below.trans (k.mono F.below.size), F.own, Nat.lt_of_lt_of_le F.lt k.size, (k.cell (p := ⟨p, 0, none⟩) F.lt).trans F.c0, (k.cell (p := ⟨p, 1, none⟩) F.lt).trans F.c1, (k.cell (p := ⟨p, 2, none⟩) F.lt).trans F.c2, (k.cell (p := ⟨p, 3, none⟩) F.lt).trans F.c3,
    fun o => (k.frozen (p := ⟨p, o, none⟩) F.lt).trans (F.fz o), F.slots.below k, F.far, F.said.below k⟩
theorem Fs.apart (F : Fs w0 w p a S D h vs vd) : (vs.ownBlock = none ∨ vs.ownBlock ≠ some p) ∧ (vd.ownBlock = none ∨ vd.ownBlock ≠ some p) := by
  constructor
  · cases e : vs.ownBlock with
    | none => exact .inl rfl
    | some g => exact .inr fun q => by injection q with q; have := F.far g e; omega
  · cases e : vd.ownBlock with
    | none => exact .inl rfl
    | some g => exact .inr fun q => by injection q with q; have := (F.said.lt g e).1; omega
/-- The next place is stored. -/
theorem Fs.at' (F : Fs w0 w p a S D h vs vd) (b : Int) : Fs w0 (w.setCell ⟨p, 0, none⟩ (.int .i64 b)) p b S D h vs vd := by
  have G := put_grown w ⟨p, 0, none⟩ (.int .i64 b)
  refine ⟨F.below.setCell F.own _, F.own, by simpa [World.setCell] using F.lt, by simp [go_sem, F.c0], by simp [go_sem, F.c1], by simp [go_sem, F.c2], by simp [go_sem, F.c3], fun o => by simp [F.fz o], F.slots.kept G F.apart.1, F.far, F.said.kept G F.apart.2⟩
/-- It holds. -/
theorem Fs.hold (F : Fs w0 w p a S D h vs vd) : Fs w0 (w.setCell ⟨p, 3, none⟩ (.bool true)) p a S D true vs vd := by
  have G := put_grown w ⟨p, 3, none⟩ (.bool true)
  refine ⟨F.below.setCell F.own _, F.own, by simpa [World.setCell] using F.lt, by simp [go_sem, F.c0], by simp [go_sem, F.c1], by simp [go_sem, F.c2], by simp [go_sem, F.c3], fun o => by simp [F.fz o], F.slots.kept G F.apart.1, F.far, F.said.kept G F.apart.2⟩
/-- A slot is stored. -/
theorem Fs.slot {g c : Nat} (F : Fs w0 w p a S D h (.slice (some ⟨g, 0, none⟩) S.length c) vd) (i : Nat) (x : Int) (hi : i < S.length) : Fs w0 (w.setCell ⟨g, i, none⟩ (.int .u64 x)) p a (S.set i x) D h (.slice (some ⟨g, 0, none⟩) S.length c) vd := by
  have hg := F.far g rfl
  obtain ⟨r1, r2⟩ := F.slots.put i 0 hi (by decide) x (.int .u64 x) rfl
  rw [show kU.m = 1 from rfl, Nat.mul_one, Nat.add_zero] at r1 r2
  have ne : p ≠ g := by omega
  refine ⟨F.below.setCell (F.slots.lt g rfl).1 _, F.own, by simpa [World.setCell] using F.lt, by simp [go_sem, F.c0], by simp [go_sem, F.c1], by simp [go_sem, F.c2], by simp [go_sem, F.c3], fun o => by simp [F.fz o], r1, F.far, F.said.kept r2 ?_⟩
  cases e : vd.ownBlock with
  | none => exact .inl rfl
  | some k => exact .inr fun q => by injection q with q; have := (F.said.lt k e).1; omega
/-- More is said, and stored. -/
theorem Fs.more {vd' : Value} {D' : List Int} (F : Fs w0 w p a S D h vs vd) (O' : Own kI w' (p + 1) vd' D') (k : w.grownBy w' vd.ownBlock) : Fs w0 (w'.setCell ⟨p, 2, none⟩ vd') p a S D' h vs vd' := by
  have G := put_grown w' ⟨p, 2, none⟩ vd'
  have hp : some p ≠ vd.ownBlock := fun e => by have := (F.said.lt p e.symm).1; omega
  have e0 : ∀ o, w'.cell? ⟨p, o, none⟩ = w.cell? ⟨p, o, none⟩ := fun o => cell_only k F.lt hp o
  have e1 : ∀ o, w'.frozen? ⟨p, o, none⟩ = w.frozen? ⟨p, o, none⟩ := fun o => frozen_only k F.lt hp o
  have hs : vs.ownBlock = none ∨ vs.ownBlock ≠ vd.ownBlock := by
    cases e : vs.ownBlock with
    | none => exact .inl rfl
    | some g => exact .inr fun q => by have := F.far g e; have := (F.said.lt g q.symm).1; omega
  have hd : vd'.ownBlock = none ∨ vd'.ownBlock ≠ some p := by
    cases e : vd'.ownBlock with
    | none => exact .inl rfl
    | some g => exact .inr fun q => by injection q with q; have := (O'.lt g e).1; omega
  refine ⟨(F.below.grown k F.below.size fun j ej => ?_).setCell F.own _, F.own, ?_, by simp [go_sem, e0, F.c0], by simp [go_sem, e0, F.c1], by simp [go_sem, e0, F.c2], by simp [go_sem, e0, F.c3], fun o => by simp [e1, F.fz o], (F.slots.kept k hs).kept G F.apart.1, F.far, O'.kept G hd⟩
  · have := (F.said.lt j ej).1
    have := F.own
    omega
  · have := k.size
    have := F.lt
    simp [World.setCell]
    omega
end

def withB (n lo hi : Int) : Bool := decide (lo ≤ n ∧ n ≤ hi)
set_option maxHeartbeats 1000000 in
theorem within_any (n lo hi : Int) (w : World) : Calls Try.prog 98 #[.int .i64 n, .int .i64 lo, .int .i64 hi] w fun e w' => e = .returned (.bool (withB n lo hi)) ∧ w = w' := by
  by_cases h1 : lo ≤ n
  · by_cases h2 : n ≤ hi
    · have k1 : decide (lo ≤ n) = true := decide_eq_true h1
      have k2 : decide (n ≤ hi) = true := decide_eq_true h2
      have k : Hid (withB n lo hi = true) := Lib.hid (decide_eq_true ⟨h1, h2⟩)
      go_enter Try.func98, Try.ntmps98
      go_wp2
      go_ret
      exact ⟨ret_bool k.out.symm, rfl⟩
    · have k1 : decide (lo ≤ n) = true := decide_eq_true h1
      have k2 : decide (n ≤ hi) = false := decide_eq_false h2
      have k : Hid (withB n lo hi = false) := Lib.hid (decide_eq_false fun q => h2 q.2)
      go_enter Try.func98, Try.ntmps98
      go_wp2
      go_ret
      exact ⟨ret_bool k.out.symm, rfl⟩
  · have k1 : decide (lo ≤ n) = false := decide_eq_false h1
    have k : Hid (withB n lo hi = false) := Lib.hid (decide_eq_false fun q => h1 q.1)
    go_enter Try.func98, Try.ntmps98
    go_wp2
    go_ret
    exact ⟨ret_bool k.out.symm, rfl⟩
end Go.Proofs.Ytbpmnjmegffllaa.Fina

/-
  Contracts of fin's kindOf, rightOp, rightProgram, Right, and of the document's in, one, Right.
-/
namespace Go.Proofs.Ytbpmnjmegffllaa.Fina
open Go.ChangeShapes Go.WideShapes Go.ChangeAt Go.RowKit
open Slic
set_option linter.unusedVariables false

end Go.Proofs.Ytbpmnjmegffllaa.Fina

/-
  Contracts of fin's rightOp, rightProgram, Right, and of the document's in, one, Right.
-/
namespace Go.Proofs.Ytbpmnjmegffllaa.Fina
open Go.ChangeShapes Go.WideShapes Go.ChangeAt Go.RowKit
open Slic
set_option linter.unusedVariables false

end Go.Proofs.Ytbpmnjmegffllaa.Fina

/-
  Rows of slices of ops; contracts of fin's Right and Of, and of the document's in, one, Right, Of.
-/
namespace Go.Proofs.Ytbpmnjmegffllaa.Fina
open Go.ChangeShapes Go.WideShapes Go.ChangeAt Go.RowKit
open Slic
set_option linter.unusedVariables false

/-- A slice of slices that reads as a list of lists. -/
def Rows (w : World) (v : Value) (LL : List (List O)) : Prop := ∃ Hs : List (Option Addr × Nat × Nat), Sr kR w v Hs ∧ Hs.length = LL.length ∧ ∀ (i : Nat) (h : i < Hs.length) (h' : i < LL.length), Sr kF w (.slice (Hs[i]).1 (Hs[i]).2.1 (Hs[i]).2.2) LL[i]
theorem Rows.below {w w' : World} {v : Value} {LL : List (List O)} (h : Rows w v LL) (k : Below w.heap.size w w') : Rows w' v LL := by
  obtain ⟨Hs, h1, h2, h3⟩ := h
  exact ⟨Hs, h1.below k, h2, fun i h h' => (h3 i h h').below k⟩
theorem Rows.form {w : World} {v : Value} {LL : List (List O)} (h : Rows w v LL) : ∃ A c, v = .slice A LL.length c ∧ LL.length ≤ c ∧ c ≤ maxLen := by
  obtain ⟨Hs, h1, h2, h3⟩ := h
  obtain ⟨A, c, rfl, h4, h5⟩ := h1.form
  exact ⟨A, c, by rw [h2], by omega, h5⟩
/-- The slice that is there at a place. -/
theorem Rows.at {w : World} {A : Option Addr} {n c : Nat} {LL : List (List O)} (h : Rows w (.slice A n c) LL) (i : Nat) (hi : i < LL.length) : ∃ g o B d, A = some ⟨g, o, none⟩ ∧ g < w.heap.size ∧ w.cell? ⟨g, o + i, none⟩ = some (.slice B (LL[i]).length d) ∧ Sr kF w (.slice B (LL[i]).length d) LL[i] ∧ (LL[i]).length ≤ d ∧ d ≤ maxLen := by
  obtain ⟨Hs, h1, h2, h3⟩ := h
  obtain ⟨g, o, rfl, hg, hc⟩ := row_at h1 i (by omega)
  have hS := h3 i (by omega) hi
  obtain ⟨B, d, e, k1, k2⟩ := hS.form
  rw [e] at hc hS
  exact ⟨g, o, B, d, rfl, hg, hc, hS, k1, k2⟩
def okOs (LL : List (List O)) : Prop := ∀ L ∈ LL, okO L

/-- A program of a tag: the row that is there, or none. -/
def ofV (LL : List (List O)) (n : Int) : List O := if inB n LL.length = true then LL.getD n.toNat [] else []
def Told (w : World) (L : List O) (e : Ending) (w' : World) : Prop := ∃ v, e = .returned v ∧ Sr kF w v L ∧ w = w'
set_option maxHeartbeats 1000000 in
theorem refof_any (w : World) (v : Value) (LL : List (List O)) (n : Int) (h : Rows w v LL) : Calls Try.prog 83 #[v, .int .i64 n] w (Told w (ofV LL n)) := by
  have h' := h
  obtain ⟨A, c, rfl, h1, h2⟩ := h.form
  clear h
  have hlen : LL.length ≤ 9223372036854775807 := by unfold maxLen at h2; omega
  cases hn : inB n LL.length with
  | true =>
    have e : ofV LL n = LL.getD n.toNat [] := if_pos hn
    obtain ⟨k, rfl⟩ : ∃ k : Nat, n = k := ⟨n.toNat, by simp only [inB, decide_eq_true_eq] at hn; omega⟩
    have hlt : k < LL.length := by simp only [inB, decide_eq_true_eq] at hn; omega
    rw [Int.toNat_natCast, List.getD_eq_getElem?_getD, List.getElem?_eq_getElem hlt] at e
    have E := Lib.hid e
    clear e hn
    obtain ⟨g, o, B, d, rfl, hg, hc, hS, _, _⟩ := h'.at k hlt
    have i1 : (k : Int) < (LL.length : Int) := by omega
    have z1 : decide ((LL.length : Int) ≤ (k : Int)) = false := decide_eq_false (by omega)
    have z2 : decide ((k : Int) < 0) = false := decide_eq_false (by omega)
    go_enter Try.func83, Try.ntmps83
    go_wp2
    go_ret
    exact ⟨_, rfl, by rw [E.out]; exact hS, rfl⟩
  | false =>
    have E := Lib.hid (show ofV LL n = [] from if_neg (by rw [hn]; simp))
    by_cases h0 : n < 0
    · have z2 : decide (n < 0) = true := decide_eq_true h0
      clear hn
      go_enter Try.func83, Try.ntmps83
      go_wp2
      go_ret
      exact ⟨_, rfl, by rw [E.out]; exact Sr.nil w, rfl⟩
    · have z2 : decide (n < 0) = false := decide_eq_false h0
      have z1 : decide ((LL.length : Int) ≤ n) = true := decide_eq_true (by simp only [inB, decide_eq_false_iff_not] at hn; omega)
      clear hn
      go_enter Try.func83, Try.ntmps83
      go_wp2
      go_ret
      exact ⟨_, rfl, by rw [E.out]; exact Sr.nil w, rfl⟩

end Go.Proofs.Ytbpmnjmegffllaa.Fina

/-
  Contracts of what fin's ops do, of step, Step and Run.
-/
namespace Go.Proofs.Ytbpmnjmegffllaa.Fina
open Go.ChangeShapes Go.WideShapes Go.ChangeAt Go.RowKit
open Slic
set_option linter.unusedVariables false

section
variable {w0 w : World} {p : Nat} {a : Int} {S D : List Int} {h : Bool} {vs vd : Value}
theorem one_num (W : World) (x : Int) (n : Nat) (hn : n = W.heap.size) : Sr kI (W.alloc (.cells #[.int .i64 x] 3)) (.slice (some ⟨n, 0, none⟩) 1 1) [x] := by
  subst hn
  have h : Own kI (W.alloc (.cells #[.int .i64 x] 3)) 0 (.slice (some ⟨W.heap.size, 0, none⟩) 1 1) [x] := Own.lit W 0 (Nat.zero_le _) [x] #[.int .i64 x] rfl (by simp [maxLen]) 1 rfl
  exact h.sr
theorem below_drew (w : World) : Below w.heap.size w w.drew := (Below.refl _ _).drew
def Says (w0 : World) (p : Nat) (a : Int) (S D : List Int) (h : Bool) (vs : Value) (e : Ending) (w' : World) : Prop := e = .returned (.tuple #[]) ∧ ∃ vd, Fs w0 w' p a S D h vs vd
end
end Go.Proofs.Ytbpmnjmegffllaa.Fina

/-
  Contracts of fin's hasSlot, step, Step and Run.
-/
namespace Go.Proofs.Ytbpmnjmegffllaa.Fina
open Go.ChangeShapes Go.WideShapes Go.ChangeAt Go.RowKit
open Slic
set_option linter.unusedVariables false

section
variable {w0 w : World} {p : Nat} {S D : List Int} {h : Bool} {vs vd : Value}
/-- What a step that is no place's leaves. -/
def Stays (w0 : World) (p : Nat) (a : Int) (S D : List Int) (h : Bool) (vs vd : Value) (e : Ending) (w' : World) : Prop := e = .returned (.bool false) ∧ Fs w0 w' p a S D h vs vd
/-- What a step leaves. -/
def Steps (w0 : World) (p : Nat) (a : Int) (S D : List Int) (h : Bool) (vs : Value) (e : Ending) (w' : World) : Prop := e = .returned (.bool true) ∧ ∃ vd, Fs w0 w' p a S D h vs vd
end
end Go.Proofs.Ytbpmnjmegffllaa.Fina

/-
  Contracts of slices.Clone of words, of fin's Step and Run.
-/
namespace Go.Proofs.Ytbpmnjmegffllaa.Fina
open Go.ChangeShapes Go.WideShapes Go.ChangeAt Go.RowKit
open Slic
set_option linter.unusedVariables false

def Cloned (w : World) (S : List Int) (e : Ending) (w' : World) : Prop := ∃ v, e = .returned v ∧ Own kU w' w.heap.size v S ∧ Below w.heap.size w w'
/-- What Step tells. -/
def StepTold (w : World) (a : Int) (S D : List Int) (h : Bool) (e : Ending) (w' : World) : Prop :=
  ∃ vs vd, e = .returned (.tuple #[.int .i64 a, vs, vd, .bool h]) ∧ Own kU w' w.heap.size vs S ∧ Own kI w' w.heap.size vd D ∧ Below w.heap.size w w'
theorem Fs.told {w0 w : World} {p : Nat} {a : Int} {S D : List Int} {h : Bool} {vs vd : Value} (F : Fs w0 w p a S D h vs vd) : StepTold w0 a S D h (.returned (.tuple #[.int .i64 a, vs, vd, .bool h])) w :=
  ⟨vs, vd, rfl, F.slots, F.said.zero (by have := F.own; omega), F.below⟩
/-- What Run tells. -/
def RunTold (w : World) (r : R) (e : Ending) (w' : World) : Prop :=
  ∃ vs vd, e = .returned (.tuple #[vs, vd, .bool r.held, .int .i64 r.n]) ∧ Own kU w' w.heap.size vs r.S ∧ Own kI w' w.heap.size vd r.said ∧ Below w.heap.size w w'
theorem Fs.ran {w0 w : World} {p : Nat} {a : Int} {S D : List Int} {h : Bool} {vs vd : Value} (F : Fs w0 w p a S D h vs vd) (n : Nat) (r : R) (hr : r = ⟨S, D, h, n⟩) : RunTold w0 r (.returned (.tuple #[vs, vd, .bool h, .int .i64 n])) w := by
  subst hr
  exact ⟨vs, vd, rfl, F.slots, F.said.zero (by have := F.own; omega), F.below⟩
/-- A run from its beginning is what was done, and what is done from here on. -/
def Runs (L : List O) (S0 : List Int) (i : Nat) (S D : List Int) (h : Bool) (n : Nat) : Prop := walk L 0 S0 = ⟨(goes L i S).S, D ++ (goes L i S).said, h || (goes L i S).held, n + (goes L i S).n⟩
theorem Runs.start (L : List O) (S : List Int) : Runs L S 0 S [] false 0 := by
  unfold Runs goes
  simp
theorem Runs.step {L : List O} {S0 : List Int} {i : Nat} {S D : List Int} {h : Bool} {n : Nat} (r : Runs L S0 i S D h n) (hi : i < L.length) : Runs L S0 (i + 1 + (leftV S L[i]).toNat) (slotsV S L[i]) (D ++ sayV L[i]) (h || holdV L[i]) (n + 1) := by
  unfold Runs at *
  rw [r, goes_step hi]
  simp [List.append_assoc, Bool.or_assoc]
  omega
theorem Runs.done {L : List O} {S0 : List Int} {i : Nat} {S D : List Int} {h : Bool} {n : Nat} (r : Runs L S0 i S D h n) (hi : L.length ≤ i) : walk L 0 S0 = ⟨S, D, h, n⟩ := by
  unfold Runs at r
  rw [r, goes_end hi]
  simp
end Go.Proofs.Ytbpmnjmegffllaa.Fina
