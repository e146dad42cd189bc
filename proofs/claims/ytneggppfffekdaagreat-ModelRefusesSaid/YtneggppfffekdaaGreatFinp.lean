/-
  Finalizers, plain mathematics: which ops may be, what one does, what a run of them does, and what is so of it.
-/
import Derived.Test.YtneggppfffekdaaGreatProg
import Derived.Test.YtneggppfffekdaaGreatBase
import Derived.Laws.Tables
import Derived.Laws.EntriesVeiled
import Derived.Deep.RegionLaw
import Derived.Lib.SliceRun
namespace Go.Proofs.YtneggppfffekdaaGreat.Fina
set_option linter.unusedVariables false

/-- An op: which, A, B. -/
abbrev O := Int × Int × Int
def oneP (o : O) : Prop := (o.1 = 0 ∧ 0 ≤ o.2.1 ∧ o.2.1 ≤ 99 ∧ o.2.2 = 0) ∨ (o.1 = 1 ∧ 0 ≤ o.2.1 ∧ o.2.1 ≤ 5 ∧ o.2.2 = 0) ∨ (o.1 = 2 ∧ 0 ≤ o.2.1 ∧ o.2.1 ≤ 5 ∧ 0 ≤ o.2.2 ∧ o.2.2 ≤ 5) ∨
  (o.1 = 3 ∧ 0 ≤ o.2.1 ∧ o.2.1 ≤ 5 ∧ 0 ≤ o.2.2 ∧ o.2.2 ≤ 8) ∨ (o.1 = 4 ∧ o.2.1 = 0 ∧ o.2.2 = 0)
instance (o : O) : Decidable (oneP o) := by unfold oneP; infer_instance
def oneB (o : O) : Bool := decide (oneP o)
def progB (L : List O) : Bool := decide (L.length ≤ 8) && L.all oneB
def rightB (L : List (List O)) : Bool := decide (L.length ≤ 8) && L.all progB

/-- Whether a slot is there. -/
def inB (n : Int) (k : Nat) : Bool := decide (0 ≤ n ∧ n < (k : Int))
def slotsV (S : List Int) (o : O) : List Int :=
  if o.1 = 1 then (if inB o.2.1 S.length = true then S.set o.2.1.toNat 0 else S)
  else if o.1 = 2 then (if inB o.2.1 S.length = true ∧ inB o.2.2 S.length = true then S.set o.2.1.toNat (S.getD o.2.2.toNat 0) else S)
  else S
/-- How many ops are left out. -/
def leftV (S : List Int) (o : O) : Int := if o.1 = 3 ∧ inB o.2.1 S.length = true ∧ S.getD o.2.1.toNat 0 = 0 then o.2.2 else 0
def sayV (o : O) : List Int := if o.1 = 0 then [o.2.1] else []
def holdV (o : O) : Bool := decide (o.1 = 4)

/-- What a run leaves. -/
structure R where
  S : List Int
  said : List Int
  held : Bool
  n : Nat
/-- A run of which the first k ops are left out. -/
def walk : List O → Nat → List Int → R
  | [], _, S => ⟨S, [], false, 0⟩
  | _ :: r, k + 1, S => walk r k S
  | o :: r, 0, S => ⟨(walk r (leftV S o).toNat (slotsV S o)).S, sayV o ++ (walk r (leftV S o).toNat (slotsV S o)).said, holdV o || (walk r (leftV S o).toNat (slotsV S o)).held, (walk r (leftV S o).toNat (slotsV S o)).n + 1⟩
theorem walk_drop : ∀ (L : List O) (k : Nat) (S : List Int), walk L k S = walk (L.drop k) 0 S
  | [], k, S => by simp [walk]
  | _ :: r, 0, S => rfl
  | _ :: r, k + 1, S => by rw [walk, List.drop_succ_cons]; exact walk_drop r k S
/-- What a run does from a place on. -/
def goes (L : List O) (i : Nat) (S : List Int) : R := walk (L.drop i) 0 S
theorem goes_end {L : List O} {i : Nat} {S : List Int} (h : L.length ≤ i) : goes L i S = ⟨S, [], false, 0⟩ := by
  unfold goes
  rw [List.drop_of_length_le h]
  rfl
theorem goes_step {L : List O} {i : Nat} {S : List Int} (h : i < L.length) : goes L i S =
    ⟨(goes L (i + 1 + (leftV S L[i]).toNat) (slotsV S L[i])).S, sayV L[i] ++ (goes L (i + 1 + (leftV S L[i]).toNat) (slotsV S L[i])).said, holdV L[i] || (goes L (i + 1 + (leftV S L[i]).toNat) (slotsV S L[i])).held, (goes L (i + 1 + (leftV S L[i]).toNat) (slotsV S L[i])).n + 1⟩ := by
  unfold goes
  rw [List.drop_eq_getElem_cons h, walk]
  have e : walk (L.drop (i + 1)) (leftV S L[i]).toNat (slotsV S L[i]) = walk (L.drop (i + 1 + (leftV S L[i]).toNat)) 0 (slotsV S L[i]) := by
    rw [walk_drop, List.drop_drop]
  rw [e]
/-- Ops that are bytes. -/
def okO (L : List O) : Prop := ∀ o ∈ L, 0 ≤ o.1 ∧ o.1 ≤ 255
/-- Ops of which none leads back, or far. -/
def okL (L : List O) : Prop := ∀ o ∈ L, o.1 = 3 → 0 ≤ o.2.2 ∧ o.2.2 ≤ 100
theorem slots_len (S : List Int) (o : O) : (slotsV S o).length = S.length := by
  unfold slotsV
  split
  · split <;> simp
  · split
    · split <;> simp
    · rfl
theorem left_bd {L : List O} (h : okL L) {o : O} (ho : o ∈ L) (S : List Int) : 0 ≤ leftV S o ∧ leftV S o ≤ 100 := by
  unfold leftV
  split
  · rename_i k
    exact h o ho k.1
  · omega
theorem one_ok {L : List O} (h : L.all oneB = true) : okL L := by
  intro o ho k
  have : oneP o := of_decide_eq_true (List.all_eq_true.1 h o ho)
  unfold oneP at this
  omega
theorem walk_len : ∀ (L : List O) (k : Nat) (S : List Int), (walk L k S).S.length = S.length ∧ (walk L k S).n ≤ L.length ∧ (walk L k S).said.length ≤ (walk L k S).n
  | [], k, S => by simp [walk]
  | _ :: r, k + 1, S => by
    have := walk_len r k S
    rw [walk]
    simp only [List.length_cons]
    omega
  | o :: r, 0, S => by
    have := walk_len r (leftV S o).toNat (slotsV S o)
    rw [slots_len] at this
    rw [walk]
    have hs : (sayV o).length ≤ 1 := by unfold sayV; split <;> simp
    simp only [List.length_cons, List.length_append]
    omega
theorem slots_in (S : List Int) (o : O) : ∀ x ∈ slotsV S o, x = 0 ∨ x ∈ S := by
  intro x hx
  unfold slotsV at hx
  split at hx
  · split at hx
    · rcases List.mem_or_eq_of_mem_set hx with h | h
      · exact .inr h
      · exact .inl h
    · exact .inr hx
  · split at hx
    · split at hx
      · rename_i k
        rcases List.mem_or_eq_of_mem_set hx with h | h
        · exact .inr h
        · have hk := k.2
          simp only [inB, decide_eq_true_eq] at hk
          rw [List.getD_eq_getElem?_getD, List.getElem?_eq_getElem (by omega)] at h
          exact .inr (h ▸ List.getElem_mem _)
      · exact .inr hx
    · exact .inr hx
theorem walk_mem : ∀ (L : List O) (k : Nat) (S : List Int), ∀ x ∈ (walk L k S).S, x = 0 ∨ x ∈ S
  | [], k, S => by intro x hx; exact .inr hx
  | _ :: r, k + 1, S => by rw [walk]; exact walk_mem r k S
  | o :: r, 0, S => by
    intro x hx
    rw [walk] at hx
    rcases walk_mem r _ _ x hx with h | h
    · exact .inl h
    · exact slots_in S o x h
theorem walk_held : ∀ (L : List O) (k : Nat) (S : List Int), (walk L k S).held = true → L.any holdV = true
  | [], k, S => by simp [walk]
  | _ :: r, k + 1, S => by
    intro h
    rw [walk] at h
    rw [List.any_cons, walk_held r k S h, Bool.or_true]
  | o :: r, 0, S => by
    intro h
    rw [walk] at h
    rw [List.any_cons]
    rcases Bool.or_eq_true_iff.1 h with h | h
    · rw [h]; rfl
    · rw [walk_held r _ _ h, Bool.or_true]
def skipB (o : O) : Bool := decide (o.1 = 3)
/-- All that is said, where nothing is left out. -/
def says (L : List O) : List Int := L.flatMap sayV
theorem walk_plain : ∀ (L : List O) (S : List Int), L.any skipB = false → (walk L 0 S).said = says L ∧ (walk L 0 S).n = L.length
  | [], S => by simp [walk, says]
  | o :: r, S => by
    intro h
    rw [List.any_cons, Bool.or_eq_false_iff] at h
    have e : leftV S o = 0 := by
      unfold leftV
      rw [if_neg]
      have := h.1
      simp only [skipB, decide_eq_false_iff_not] at this
      exact fun k => this k.1
    rw [walk, e]
    have := walk_plain r (slotsV S o) h.2
    simp only [says, List.flatMap_cons] at *
    exact ⟨by rw [show (0 : Int).toNat = 0 from rfl, this.1], by rw [show (0 : Int).toNat = 0 from rfl, this.2]; rfl⟩
/-- Each skip stays within. -/
def inner : List O → Prop
  | [] => True
  | o :: r => (o.1 = 3 → o.2.2 ≤ (r.length : Int)) ∧ inner r
theorem inner_drop : ∀ (L : List O) (k : Nat), inner L → inner (L.drop k)
  | [], k, h => by simp [inner]
  | _ :: r, 0, h => h
  | _ :: r, k + 1, h => by rw [List.drop_succ_cons]; exact inner_drop r k h.2
theorem walk_join : ∀ (n : Nat) (P Q : List O) (S : List Int), P.length ≤ n → inner P → walk (P ++ Q) 0 S =
    ⟨(walk Q 0 (walk P 0 S).S).S, (walk P 0 S).said ++ (walk Q 0 (walk P 0 S).S).said, (walk P 0 S).held || (walk Q 0 (walk P 0 S).S).held, (walk P 0 S).n + (walk Q 0 (walk P 0 S).S).n⟩
  | n, [], Q, S, _, _ => by simp [walk]
  | 0, o :: r, Q, S, h, _ => by simp at h
  | n + 1, o :: r, Q, S, h, hi => by
    have hk : (leftV S o).toNat ≤ r.length := by
      have h1 := hi.1
      unfold leftV
      split
      · rename_i k
        have := h1 k.1
        omega
      · simp
    have e1 : walk (r ++ Q) (leftV S o).toNat (slotsV S o) = walk (r.drop (leftV S o).toNat ++ Q) 0 (slotsV S o) := by
      rw [walk_drop, List.drop_append_of_le_length hk]
    have e2 : walk r (leftV S o).toNat (slotsV S o) = walk (r.drop (leftV S o).toNat) 0 (slotsV S o) := walk_drop _ _ _
    have ih := walk_join n (r.drop (leftV S o).toNat) Q (slotsV S o) (by rw [List.length_drop]; simp at h; omega) (inner_drop _ _ hi.2)
    rw [List.cons_append, walk, walk, e1, e2, ih]
    simp [List.append_assoc, Bool.or_assoc, Nat.add_right_comm]

/-- The op that the document's Fit makes of another one. -/
def fitO (o : O) : O :=
  if o.1 % 5 = 0 then (0, o.2.1 % 64, 0) else if o.1 % 5 = 1 then (1, o.2.1 % 8 % 6, 0) else if o.1 % 5 = 2 then (2, o.2.1 % 8 % 6, o.2.2 % 8 % 6)
  else if o.1 % 5 = 3 then (3, o.2.1 % 8 % 6, o.2.2 % 8) else (4, 0, 0)
def fitP (L : List O) : List O := (L.take 8).map fitO
def fitL (L : List (List O)) : List (List O) := (L.take 8).map fitP
theorem fit_one (o : O) (h : 0 ≤ o.1) : oneB (fitO o) = true := by
  have h5 : o.1 % 5 = 0 ∨ o.1 % 5 = 1 ∨ o.1 % 5 = 2 ∨ o.1 % 5 = 3 ∨ o.1 % 5 = 4 := by omega
  simp only [oneB, decide_eq_true_eq]
  unfold fitO oneP
  rcases h5 with e | e | e | e | e <;> simp [e] <;> omega
theorem fit_prog (L : List O) (h : ∀ o ∈ L, 0 ≤ o.1) : progB (fitP L) = true := by
  unfold progB fitP
  rw [Bool.and_eq_true, decide_eq_true_eq, List.length_map, List.length_take, List.all_map]
  refine ⟨by omega, List.all_eq_true.2 fun o ho => fit_one o (h o (List.mem_of_mem_take ho))⟩
end Go.Proofs.YtneggppfffekdaaGreat.Fina

/-
  Finalizers in memory: slices of ops, words and numbers; a run's state; contracts of fin's small functions.
-/
namespace Go.Proofs.YtneggppfffekdaaGreat.Fina
open Go.ChangeShapes Go.WideShapes Go.ChangeAt Go.RowKit
open Slic
set_option linter.unusedVariables false

def kU : Kd Int := { X := 48, T := 50, m := 1, by_ := 8, z := .int .u64 0, enc := fun x => [.int .u64 x], len := fun _ => rfl, one := fun _ u h => by simp at h; subst h; rfl, pos := by decide, small := by decide, zs := rfl, under := by kernel_rfl, info := by kernel_rfl, elem := by kernel_rfl }
def kI : Kd Int := { X := 40, T := 3, m := 1, by_ := 8, z := .int .i64 0, enc := fun x => [.int .i64 x], len := fun _ => rfl, one := fun _ u h => by simp at h; subst h; rfl, pos := by decide, small := by decide, zs := rfl, under := by kernel_rfl, info := by kernel_rfl, elem := by kernel_rfl }
def kF : Kd O := { X := 87, T := 86, m := 3, by_ := 24, z := .agg #[.int .u8 0, .int .i64 0, .int .i64 0], enc := fun x => [.int .u8 x.1, .int .i64 x.2.1, .int .i64 x.2.2], len := fun _ => rfl, one := fun _ u h => by simp at h; rcases h with rfl | rfl | rfl <;> rfl, pos := by decide, small := by decide, zs := rfl, under := by kernel_rfl, info := by kernel_rfl, elem := by kernel_rfl }
/-- Rows of slices: where each begins, its length and room. -/
def kR : Kd (Option Addr × Nat × Nat) := { X := 24, T := 87, m := 1, by_ := 24, z := .slice none 0 0, enc := fun x => [.slice x.1 x.2.1 x.2.2], len := fun _ => rfl, one := fun _ u h => by simp at h; subst h; rfl, pos := by decide, small := by decide, zs := rfl, under := by kernel_rfl, info := by kernel_rfl, elem := by kernel_rfl }

theorem op_at {w : World} {A : Option Addr} {n c : Nat} {L : List O} (h : Sr kF w (.slice A n c) L) (i : Nat) (hi : i < L.length) : ∃ g o, A = some ⟨g, o, none⟩ ∧ g < w.heap.size ∧
    w.cell? ⟨g, o + i * 3, none⟩ = some (.int .u8 (L[i]).1) ∧ w.cell? ⟨g, o + i * 3 + 1, none⟩ = some (.int .i64 (L[i]).2.1) ∧ w.cell? ⟨g, o + i * 3 + 2, none⟩ = some (.int .i64 (L[i]).2.2) := by
  obtain ⟨g, o, rfl, hg, hc⟩ := h.at i hi
  exact ⟨g, o, rfl, hg, hc 0 _ rfl, hc 1 _ rfl, hc 2 _ rfl⟩
theorem word_at {w : World} {A : Option Addr} {n c : Nat} {L : List Int} (h : Sr kU w (.slice A n c) L) (i : Nat) (hi : i < L.length) : ∃ g o, A = some ⟨g, o, none⟩ ∧ g < w.heap.size ∧ w.cell? ⟨g, o + i, none⟩ = some (.int .u64 L[i]) := by
  obtain ⟨g, o, rfl, hg, hc⟩ := h.at i hi
  have := hc 0 _ rfl
  rw [show kU.m = 1 from rfl, Nat.mul_one, Nat.add_zero] at this
  exact ⟨g, o, rfl, hg, this⟩
theorem num_at {w : World} {A : Option Addr} {n c : Nat} {L : List Int} (h : Sr kI w (.slice A n c) L) (i : Nat) (hi : i < L.length) : ∃ g o, A = some ⟨g, o, none⟩ ∧ g < w.heap.size ∧ w.cell? ⟨g, o + i, none⟩ = some (.int .i64 L[i]) := by
  obtain ⟨g, o, rfl, hg, hc⟩ := h.at i hi
  have := hc 0 _ rfl
  rw [show kI.m = 1 from rfl, Nat.mul_one, Nat.add_zero] at this
  exact ⟨g, o, rfl, hg, this⟩
theorem row_at {w : World} {A : Option Addr} {n c : Nat} {L : List (Option Addr × Nat × Nat)} (h : Sr kR w (.slice A n c) L) (i : Nat) (hi : i < L.length) : ∃ g o, A = some ⟨g, o, none⟩ ∧ g < w.heap.size ∧ w.cell? ⟨g, o + i, none⟩ = some (.slice (L[i]).1 (L[i]).2.1 (L[i]).2.2) := by
  obtain ⟨g, o, rfl, hg, hc⟩ := h.at i hi
  have := hc 0 _ rfl
  rw [show kR.m = 1 from rfl, Nat.mul_one, Nat.add_zero] at this
  exact ⟨g, o, rfl, hg, this⟩

theorem put_grown (w : World) (a : Addr) (v : Value) : w.grownBy (w.setCell a v) (some a.block) :=
  ⟨rfl, rfl, rfl, by simp, fun k _ hk => heap_setCell_other w a k v (fun e => hk (by simp [e]))⟩

/-- What a run has come to: the next place, the slots, what was said, whether it holds. -/
structure Fs (w0 w : World) (p : Nat) (a : Int) (S D : List Int) (h : Bool) (vs vd : Value) : Prop where
  below : Below w0.heap.size w0 w
  own : w0.heap.size ≤ p
  lt : p < w.heap.size
  c0 : w.cell? ⟨p, 0, none⟩ = some (.int .i64 a)
  c1 : w.cell? ⟨p, 1, none⟩ = some vs
  c2 : w.cell? ⟨p, 2, none⟩ = some vd
  c3 : w.cell? ⟨p, 3, none⟩ = some (.bool h)
  fz : ∀ o, w.frozen? ⟨p, o, none⟩ = false
  slots : Own kU w w0.heap.size vs S
  far : ∀ g, vs.ownBlock = some g → g < p
  said : Own kI w (p + 1) vd D
section
variable {w0 w w' : World} {p : Nat} {a : Int} {S D : List Int} {h : Bool} {vs vd : Value}
theorem Fs.call (F : Fs w0 w p a S D h vs vd) (k : Below w.heap.size w w') : Fs w0 w' p a S D h vs vd :=
  ⟨F.below.trans (k.mono F.below.size), F.own, Nat.lt_of_lt_of_le F.lt k.size, (k.cell (p := ⟨p, 0, none⟩) F.lt).trans F.c0, (k.cell (p := ⟨p, 1, none⟩) F.lt).trans F.c1, (k.cell (p := ⟨p, 2, none⟩) F.lt).trans F.c2, (k.cell (p := ⟨p, 3, none⟩) F.lt).trans F.c3,
    fun o => (k.frozen (p := ⟨p, o, none⟩) F.lt).trans (F.fz o), F.slots.below k, F.far, F.said.below k⟩
theorem Fs.apart (F : Fs w0 w p a S D h vs vd) : (vs.ownBlock = none ∨ vs.ownBlock ≠ some p) ∧ (vd.ownBlock = none ∨ vd.ownBlock ≠ some p) := by
  constructor
  · cases e : vs.ownBlock with
    | none => exact .inl rfl
    | some g => exact .inr fun q => by injection q with q; have := F.far g e; omega
  · cases e : vd.ownBlock with
    | none => exact .inl rfl
    | some g => exact .inr fun q => by injection q with q; have := (F.said.lt g e).1; omega
/-- The next place is stored. -/
theorem Fs.at' (F : Fs w0 w p a S D h vs vd) (b : Int) : Fs w0 (w.setCell ⟨p, 0, none⟩ (.int .i64 b)) p b S D h vs vd := by
  have G := put_grown w ⟨p, 0, none⟩ (.int .i64 b)
  refine ⟨F.below.setCell F.own _, F.own, by simpa [World.setCell] using F.lt, by simp [go_sem, F.c0], by simp [go_sem, F.c1], by simp [go_sem, F.c2], by simp [go_sem, F.c3], fun o => by simp [F.fz o], F.slots.kept G F.apart.1, F.far, F.said.kept G F.apart.2⟩
/-- It holds. -/
theorem Fs.hold (F : Fs w0 w p a S D h vs vd) : Fs w0 (w.setCell ⟨p, 3, none⟩ (.bool true)) p a S D true vs vd := by
  have G := put_grown w ⟨p, 3, none⟩ (.bool true)
  refine ⟨F.below.setCell F.own _, F.own, by simpa [World.setCell] using F.lt, by simp [go_sem, F.c0], by simp [go_sem, F.c1], by simp [go_sem, F.c2], by simp [go_sem, F.c3], fun o => by simp [F.fz o], F.slots.kept G F.apart.1, F.far, F.said.kept G F.apart.2⟩
/-- A slot is stored. -/
theorem Fs.slot {g c : Nat} (F : Fs w0 w p a S D h (.slice (some ⟨g, 0, none⟩) S.length c) vd) (i : Nat) (x : Int) (hi : i < S.length) : Fs w0 (w.setCell ⟨g, i, none⟩ (.int .u64 x)) p a (S.set i x) D h (.slice (some ⟨g, 0, none⟩) S.length c) vd := by
  have hg := F.far g rfl
  obtain ⟨r1, r2⟩ := F.slots.put i 0 hi (by decide) x (.int .u64 x) rfl
  rw [show kU.m = 1 from rfl, Nat.mul_one, Nat.add_zero] at r1 r2
  have ne : p ≠ g := by omega
  refine ⟨F.below.setCell (F.slots.lt g rfl).1 _, F.own, by simpa [World.setCell] using F.lt, by simp [go_sem, F.c0], by simp [go_sem, F.c1], by simp [go_sem, F.c2], by simp [go_sem, F.c3], fun o => by simp [F.fz o], r1, F.far, F.said.kept r2 ?_⟩
  cases e : vd.ownBlock with
  | none => exact .inl rfl
  | some k => exact .inr fun q => by injection q with q; have := (F.said.lt k e).1; omega
/-- More is said, and stored. -/
theorem Fs.more {vd' : Value} {D' : List Int} (F : Fs w0 w p a S D h vs vd) (O' : Own kI w' (p + 1) vd' D') (k : w.grownBy w' vd.ownBlock) : Fs w0 (w'.setCell ⟨p, 2, none⟩ vd') p a S D' h vs vd' := by
  have G := put_grown w' ⟨p, 2, none⟩ vd'
  have hp : some p ≠ vd.ownBlock := fun e => by have := (F.said.lt p e.symm).1; omega
  have e0 : ∀ o, w'.cell? ⟨p, o, none⟩ = w.cell? ⟨p, o, none⟩ := fun o => cell_only k F.lt hp o
  have e1 : ∀ o, w'.frozen? ⟨p, o, none⟩ = w.frozen? ⟨p, o, none⟩ := fun o => frozen_only k F.lt hp o
  have hs : vs.ownBlock = none ∨ vs.ownBlock ≠ vd.ownBlock := by
    cases e : vs.ownBlock with
    | none => exact .inl rfl
    | some g => exact .inr fun q => by have := F.far g e; have := (F.said.lt g q.symm).1; omega
  have hd : vd'.ownBlock = none ∨ vd'.ownBlock ≠ some p := by
    cases e : vd'.ownBlock with
    | none => exact .inl rfl
    | some g => exact .inr fun q => by injection q with q; have := (O'.lt g e).1; omega
  refine ⟨(F.below.grown k F.below.size fun j ej => ?_).setCell F.own _, F.own, ?_, by simp [go_sem, e0, F.c0], by simp [go_sem, e0, F.c1], by simp [go_sem, e0, F.c2], by simp [go_sem, e0, F.c3], fun o => by simp [e1, F.fz o], (F.slots.kept k hs).kept G F.apart.1, F.far, O'.kept G hd⟩
  · have := (F.said.lt j ej).1
    have := F.own
    omega
  · have := k.size
    have := F.lt
    simp [World.setCell]
    omega
end

def withB (n lo hi : Int) : Bool := decide (lo ≤ n ∧ n ≤ hi)
set_option maxHeartbeats 1000000 in
theorem within_any (n lo hi : Int) (w : World) : Calls Tryz.prog 61 #[.int .i64 n, .int .i64 lo, .int .i64 hi] w fun e w' => e = .returned (.bool (withB n lo hi)) ∧ w = w' := by
  by_cases h1 : lo ≤ n
  · by_cases h2 : n ≤ hi
    · have k1 : decide (lo ≤ n) = true := decide_eq_true h1
      have k2 : decide (n ≤ hi) = true := decide_eq_true h2
      have k : Hid (withB n lo hi = true) := Lib.hid (decide_eq_true ⟨h1, h2⟩)
      go_enter Tryz.func61, Tryz.ntmps61
      go_wp2
      go_ret
      exact ⟨ret_bool k.out.symm, rfl⟩
    · have k1 : decide (lo ≤ n) = true := decide_eq_true h1
      have k2 : decide (n ≤ hi) = false := decide_eq_false h2
      have k : Hid (withB n lo hi = false) := Lib.hid (decide_eq_false fun q => h2 q.2)
      go_enter Tryz.func61, Tryz.ntmps61
      go_wp2
      go_ret
      exact ⟨ret_bool k.out.symm, rfl⟩
  · have k1 : decide (lo ≤ n) = false := decide_eq_false h1
    have k : Hid (withB n lo hi = false) := Lib.hid (decide_eq_false fun q => h1 q.1)
    go_enter Tryz.func61, Tryz.ntmps61
    go_wp2
    go_ret
    exact ⟨ret_bool k.out.symm, rfl⟩
set_option maxHeartbeats 1000000 in
theorem place_any (n : Int) (k : Nat) (w : World) (hk : k ≤ 9223372036854775807) : Calls Tryz.prog 187 #[.int .i64 n, .int .i64 k] w fun e w' => e = .returned (.bool (inB n k)) ∧ w = w' := by
  have K : Hid (withB n 0 ((k : Int) - 1) = inB n k) := Lib.hid (decide_eq_decide.2 (by omega))
  go_enter Tryz.func187, Tryz.ntmps187
  go_wp2_with fail
  refine (within_any _ _ _ _).mono ?_
  rintro e w' ⟨rfl, rfl⟩
  rw [K.out]
  go_wp2
  go_ret
  exact ⟨rfl, rfl⟩
set_option maxHeartbeats 1000000 in
theorem add_ok (a b : Int) (w : World) (a1 : 0 ≤ a) (a2 : a ≤ 1000000) (b1 : 0 ≤ b) (b2 : b ≤ 1000000) : Calls Tryz.prog 162 #[.int .i64 a, .int .i64 b] w fun e w' => e = .returned (.tuple #[.int .i64 (a + b), .int .i64 0]) ∧ w = w' := by
  by_cases h : 0 < b
  · have k : decide (9223372036854775807 - b < a) = false := decide_eq_false (by omega)
    go_enter Tryz.func162, Tryz.ntmps162
    go_wp2
    go_ret2
    exact ⟨rfl, rfl⟩
  · go_enter Tryz.func162, Tryz.ntmps162
    go_wp2
    go_ret2
    exact ⟨rfl, rfl⟩
end Go.Proofs.YtneggppfffekdaaGreat.Fina

/-
  Contracts of fin's kindOf, rightOp, rightProgram, Right, and of the document's in, one, Right.
-/
namespace Go.Proofs.YtneggppfffekdaaGreat.Fina
open Go.ChangeShapes Go.WideShapes Go.ChangeAt Go.RowKit
open Slic
set_option linter.unusedVariables false

/-- The five kinds, laid one behind the other. -/
def ks : Array Value := #[.int .i64 99, .int .i64 0, .bool false, .bool false, .func (.func 136) #[] #[],
  .int .i64 5, .int .i64 0, .bool true, .bool false, .func (.func 137) #[] #[],
  .int .i64 5, .int .i64 5, .bool true, .bool true, .func (.func 138) #[] #[],
  .int .i64 5, .int .i64 8, .bool true, .bool false, .func (.func 139) #[] #[],
  .int .i64 0, .int .i64 0, .bool false, .bool false, .func (.func 140) #[] #[]]
theorem info_ks : (Tryz.prog.info? 216).map (·.size) = some ks.size := by kernel_rfl
theorem one_ks : ks.all (·.oneCell') = true := by kernel_rfl
theorem wpList_ks {ops : Array Oper} {rest : List Oper} {o : Oper} {a : Act} {w : World} {rc zs : Array Value} {Q : Exit → Act → World → Prop} (hg : o.guard = none) (x y : Operand) (ho : o.op = .store 216 x y)
    (hx : a.eval x = .pointer (some ⟨w.heap.size + 1, 0, none⟩)) (hy : a.eval y = .agg ks) (hz : zs.size = ks.size)
    (h : ∀ W, W.heap.size = w.heap.size + 2 → Below w.heap.size w W → (∀ k, W.cell? ⟨w.heap.size + 1, k, none⟩ = ks[k]?) → (∀ k, W.cell? ⟨w.heap.size, k, none⟩ = rc[k]?) → (∀ k, W.frozen? ⟨w.heap.size, k, none⟩ = false) → wpList Tryz.prog ops Q rest (a.put o.dst undef) W) :
    wpList Tryz.prog ops Q (o :: rest) a ((w.alloc (.cells rc 200)).alloc (.cells zs 216)) := by
  have e : (w.alloc (.cells rc 200)).heap.size = w.heap.size + 1 := by simp
  have hb := heap_alloc_new (w.alloc (.cells rc 200)) (.cells zs 216)
  rw [e] at hb
  have ho2 : ((w.alloc (.cells rc 200)).alloc (.cells zs 216)).heap[w.heap.size]? = some (.cells rc 200 (0, 0)) := by
    rw [Below.heap_alloc _ _ _ (by rw [e]; omega)]
    exact heap_alloc_new w _
  refine wpList_store_row hg 216 x y ho (w.heap.size + 1) ks hx hy 216 zs hb info_ks hz one_ks (h _ ?_ ?_ ?_ ?_ ?_)
  · simp [World.setRow]
  · refine ⟨rfl, rfl, rfl, by simp [World.setRow]; omega, fun k hk => ?_⟩
    rw [setRow_other _ _ k _ (by omega)]
    exact (Below.heap_alloc _ _ k (by rw [e]; omega)).trans (Below.heap_alloc w _ k hk)
  · exact fun k => cell_setRow_same _ _ k zs ks _ _ hb
  · intro k
    have hb' := (setRow_other ((w.alloc (.cells rc 200)).alloc (.cells zs 216)) (w.heap.size + 1) w.heap.size ks (by omega)).trans ho2
    exact cell_of_row _ w.heap.size k rc _ _ hb'
  · intro k
    have hb' := (setRow_other ((w.alloc (.cells rc 200)).alloc (.cells zs 216)) (w.heap.size + 1) w.heap.size ks (by omega)).trans ho2
    exact frozen_of_row _ w.heap.size k rc _ hb'

/-- Which kind an op is of. -/
def Kinds (op : Int) (w : World) (e : Ending) (w' : World) : Prop :=
  ((op = 0 ∧ e = .returned (.tuple #[.agg #[.int .i64 99, .int .i64 0, .bool false, .bool false, .func (.func 136) #[] #[]], .bool true])) ∨
   (op = 1 ∧ e = .returned (.tuple #[.agg #[.int .i64 5, .int .i64 0, .bool true, .bool false, .func (.func 137) #[] #[]], .bool true])) ∨
   (op = 2 ∧ e = .returned (.tuple #[.agg #[.int .i64 5, .int .i64 5, .bool true, .bool true, .func (.func 138) #[] #[]], .bool true])) ∨
   (op = 3 ∧ e = .returned (.tuple #[.agg #[.int .i64 5, .int .i64 8, .bool true, .bool false, .func (.func 139) #[] #[]], .bool true])) ∨
   (op = 4 ∧ e = .returned (.tuple #[.agg #[.int .i64 0, .int .i64 0, .bool false, .bool false, .func (.func 140) #[] #[]], .bool true])) ∨
   (5 ≤ op ∧ e = .returned (.tuple #[.agg #[.int .i64 0, .int .i64 0, .bool false, .bool false, .nilFunc], .bool false]))) ∧ Below w.heap.size w w'
set_option maxRecDepth 100000 in
set_option maxHeartbeats 2000000 in
theorem kind_any (op : Int) (w : World) (h0 : 0 ≤ op) (h1 : op ≤ 255) : Calls Tryz.prog 115 #[.int .u8 op] w (Kinds op w) := by
  by_cases h5 : 5 ≤ op
  · go_enter Tryz.func115, Tryz.ntmps115
    go_wp2_with (refine wpList_ks (o := ⟨none, _, _, _, _, _⟩) rfl (.tmp 4) (.tmp 10) rfl rfl rfl rfl ?_)
    intro W hz hB hc hr hf
    have r0 := hr 0
    have r1 := hr 1
    have r2 := hr 2
    have r3 := hr 3
    have r4 := hr 4
    have f0 := hf 0
    have f1 := hf 1
    have f2 := hf 2
    have f3 := hf 3
    have f4 := hf 4
    simp at r0 r1 r2 r3 r4
    clear hr hf hc
    have HZ := Lib.hid hz
    clear hz
    go_wp2
    refine bodyPost_ret (v := .tuple #[.agg #[.int .i64 0, .int .i64 0, .bool false, .bool false, .nilFunc], .bool false]) (by simp [results, Tryz.results115, go_sem, r0, r1, r2, r3, r4]) rfl ⟨.inr (.inr (.inr (.inr (.inr ⟨h5, rfl⟩)))), ?_⟩
    exact ((((hB.setCell (Nat.le_refl _) _).setCell (Nat.le_refl _) _).setCell (Nat.le_refl _) _).setCell (Nat.le_refl _) _).setCell (Nat.le_refl _) _
  · have : op = 0 ∨ op = 1 ∨ op = 2 ∨ op = 3 ∨ op = 4 := by omega
    clear h0 h1 h5
    rcases this with rfl | rfl | rfl | rfl | rfl
    · go_enter Tryz.func115, Tryz.ntmps115
      go_wp2_with (refine wpList_ks (o := ⟨none, _, _, _, _, _⟩) rfl (.tmp 4) (.tmp 10) rfl rfl rfl rfl ?_)
      intro W hz hB hc hr hf
      have r0 := hr 0
      have r1 := hr 1
      have r2 := hr 2
      have r3 := hr 3
      have r4 := hr 4
      have f0 := hf 0
      have f1 := hf 1
      have f2 := hf 2
      have f3 := hf 3
      have f4 := hf 4
      have d0 := (hc 0).trans rfl
      have d1 := (hc 1).trans rfl
      have d2 := (hc 2).trans rfl
      have d3 := (hc 3).trans rfl
      have d4 := (hc 4).trans rfl
      simp [ks] at r0 r1 r2 r3 r4 d0 d1 d2 d3 d4
      clear hr hf hc
      have HZ := Lib.hid hz
      clear hz
      go_wp2
      refine bodyPost_ret (v := .tuple #[.agg #[.int .i64 99, .int .i64 0, .bool false, .bool false, .func (.func 136) #[] #[]], .bool true]) (by simp [results, Tryz.results115, go_sem, r0, r1, r2, r3, r4]) rfl ⟨.inl ⟨rfl, rfl⟩, ?_⟩
      exact ((((hB.setCell (Nat.le_refl _) _).setCell (Nat.le_refl _) _).setCell (Nat.le_refl _) _).setCell (Nat.le_refl _) _).setCell (Nat.le_refl _) _
    · go_enter Tryz.func115, Tryz.ntmps115
      go_wp2_with (refine wpList_ks (o := ⟨none, _, _, _, _, _⟩) rfl (.tmp 4) (.tmp 10) rfl rfl rfl rfl ?_)
      intro W hz hB hc hr hf
      have r0 := hr 0
      have r1 := hr 1
      have r2 := hr 2
      have r3 := hr 3
      have r4 := hr 4
      have f0 := hf 0
      have f1 := hf 1
      have f2 := hf 2
      have f3 := hf 3
      have f4 := hf 4
      have d0 := (hc 5).trans rfl
      have d1 := (hc 6).trans rfl
      have d2 := (hc 7).trans rfl
      have d3 := (hc 8).trans rfl
      have d4 := (hc 9).trans rfl
      simp [ks] at r0 r1 r2 r3 r4 d0 d1 d2 d3 d4
      clear hr hf hc
      have HZ := Lib.hid hz
      clear hz
      go_wp2
      refine bodyPost_ret (v := .tuple #[.agg #[.int .i64 5, .int .i64 0, .bool true, .bool false, .func (.func 137) #[] #[]], .bool true]) (by simp [results, Tryz.results115, go_sem, r0, r1, r2, r3, r4]) rfl ⟨.inr (.inl ⟨rfl, rfl⟩), ?_⟩
      exact ((((hB.setCell (Nat.le_refl _) _).setCell (Nat.le_refl _) _).setCell (Nat.le_refl _) _).setCell (Nat.le_refl _) _).setCell (Nat.le_refl _) _
    · go_enter Tryz.func115, Tryz.ntmps115
      go_wp2_with (refine wpList_ks (o := ⟨none, _, _, _, _, _⟩) rfl (.tmp 4) (.tmp 10) rfl rfl rfl rfl ?_)
      intro W hz hB hc hr hf
      have r0 := hr 0
      have r1 := hr 1
      have r2 := hr 2
      have r3 := hr 3
      have r4 := hr 4
      have f0 := hf 0
      have f1 := hf 1
      have f2 := hf 2
      have f3 := hf 3
      have f4 := hf 4
      have d0 := (hc 10).trans rfl
      have d1 := (hc 11).trans rfl
      have d2 := (hc 12).trans rfl
      have d3 := (hc 13).trans rfl
      have d4 := (hc 14).trans rfl
      simp [ks] at r0 r1 r2 r3 r4 d0 d1 d2 d3 d4
      clear hr hf hc
      have HZ := Lib.hid hz
      clear hz
      go_wp2
      refine bodyPost_ret (v := .tuple #[.agg #[.int .i64 5, .int .i64 5, .bool true, .bool true, .func (.func 138) #[] #[]], .bool true]) (by simp [results, Tryz.results115, go_sem, r0, r1, r2, r3, r4]) rfl ⟨.inr (.inr (.inl ⟨rfl, rfl⟩)), ?_⟩
      exact ((((hB.setCell (Nat.le_refl _) _).setCell (Nat.le_refl _) _).setCell (Nat.le_refl _) _).setCell (Nat.le_refl _) _).setCell (Nat.le_refl _) _
    · go_enter Tryz.func115, Tryz.ntmps115
      go_wp2_with (refine wpList_ks (o := ⟨none, _, _, _, _, _⟩) rfl (.tmp 4) (.tmp 10) rfl rfl rfl rfl ?_)
      intro W hz hB hc hr hf
      have r0 := hr 0
      have r1 := hr 1
      have r2 := hr 2
      have r3 := hr 3
      have r4 := hr 4
      have f0 := hf 0
      have f1 := hf 1
      have f2 := hf 2
      have f3 := hf 3
      have f4 := hf 4
      have d0 := (hc 15).trans rfl
      have d1 := (hc 16).trans rfl
      have d2 := (hc 17).trans rfl
      have d3 := (hc 18).trans rfl
      have d4 := (hc 19).trans rfl
      simp [ks] at r0 r1 r2 r3 r4 d0 d1 d2 d3 d4
      clear hr hf hc
      have HZ := Lib.hid hz
      clear hz
      go_wp2
      refine bodyPost_ret (v := .tuple #[.agg #[.int .i64 5, .int .i64 8, .bool true, .bool false, .func (.func 139) #[] #[]], .bool true]) (by simp [results, Tryz.results115, go_sem, r0, r1, r2, r3, r4]) rfl ⟨.inr (.inr (.inr (.inl ⟨rfl, rfl⟩))), ?_⟩
      exact ((((hB.setCell (Nat.le_refl _) _).setCell (Nat.le_refl _) _).setCell (Nat.le_refl _) _).setCell (Nat.le_refl _) _).setCell (Nat.le_refl _) _
    · go_enter Tryz.func115, Tryz.ntmps115
      go_wp2_with (refine wpList_ks (o := ⟨none, _, _, _, _, _⟩) rfl (.tmp 4) (.tmp 10) rfl rfl rfl rfl ?_)
      intro W hz hB hc hr hf
      have r0 := hr 0
      have r1 := hr 1
      have r2 := hr 2
      have r3 := hr 3
      have r4 := hr 4
      have f0 := hf 0
      have f1 := hf 1
      have f2 := hf 2
      have f3 := hf 3
      have f4 := hf 4
      have d0 := (hc 20).trans rfl
      have d1 := (hc 21).trans rfl
      have d2 := (hc 22).trans rfl
      have d3 := (hc 23).trans rfl
      have d4 := (hc 24).trans rfl
      simp [ks] at r0 r1 r2 r3 r4 d0 d1 d2 d3 d4
      clear hr hf hc
      have HZ := Lib.hid hz
      clear hz
      go_wp2
      refine bodyPost_ret (v := .tuple #[.agg #[.int .i64 0, .int .i64 0, .bool false, .bool false, .func (.func 140) #[] #[]], .bool true]) (by simp [results, Tryz.results115, go_sem, r0, r1, r2, r3, r4]) rfl ⟨.inr (.inr (.inr (.inr (.inl ⟨rfl, rfl⟩)))), ?_⟩
      exact ((((hB.setCell (Nat.le_refl _) _).setCell (Nat.le_refl _) _).setCell (Nat.le_refl _) _).setCell (Nat.le_refl _) _).setCell (Nat.le_refl _) _
end Go.Proofs.YtneggppfffekdaaGreat.Fina

/-
  Contracts of fin's rightOp, rightProgram, Right, and of the document's in, one, Right.
-/
namespace Go.Proofs.YtneggppfffekdaaGreat.Fina
open Go.ChangeShapes Go.WideShapes Go.ChangeAt Go.RowKit
open Slic
set_option linter.unusedVariables false

set_option maxRecDepth 100000 in
set_option maxHeartbeats 2000000 in
theorem rightop_any (op a b : Int) (w : World) (h0 : 0 ≤ op) (h1 : op ≤ 255) : Calls Tryz.prog 90 #[.agg #[.int .u8 op, .int .i64 a, .int .i64 b]] w fun e w' => e = .returned (.bool (oneB (op, a, b))) ∧ Below w.heap.size w w' := by
  have go : ∀ x : Bool, Hid (oneB (op, a, b) = x) → Calls Tryz.prog 90 #[.agg #[.int .u8 op, .int .i64 a, .int .i64 b]] w fun e w' => e = .returned (.bool x) ∧ Below w.heap.size w w' := by
    intro x hx
    go_enter Tryz.func90, Tryz.ntmps90
    go_wp2_with fail
    refine (kind_any op _ h0 h1).mono ?_
    rintro e w1 ⟨hk, k1⟩
    have c0 : w1.cell? ⟨w.heap.size, 0, none⟩ = some (.int .u8 op) := (k1.cell (p := ⟨w.heap.size, 0, none⟩) (by simp)).trans (by simp [go_sem])
    have c1 : w1.cell? ⟨w.heap.size, 1, none⟩ = some (.int .i64 a) := (k1.cell (p := ⟨w.heap.size, 1, none⟩) (by simp)).trans (by simp [go_sem])
    have c2 : w1.cell? ⟨w.heap.size, 2, none⟩ = some (.int .i64 b) := (k1.cell (p := ⟨w.heap.size, 2, none⟩) (by simp)).trans (by simp [go_sem])
    have hz : w.heap.size < w1.heap.size := by have := k1.size; simp at this; omega
    have B1 : Below w.heap.size w w1 := (below_one _ _).trans (k1.mono (by simp))
    clear k1
    rcases hk with ⟨rfl, rfl⟩ | ⟨rfl, rfl⟩ | ⟨rfl, rfl⟩ | ⟨rfl, rfl⟩ | ⟨rfl, rfl⟩ | ⟨h5, rfl⟩
    · have q : (withB a 0 99 && withB b 0 0) = x := by
        rw [← hx.out, Bool.eq_iff_iff]; simp [withB, oneB, oneP]; omega
      clear hx
      cases h1' : withB a 0 99 with
      | false =>
        rw [h1', Bool.false_and] at q
        subst q
        go_wp2_with (go_at_call 61; refine (within_any _ _ _ _).mono ?_; rintro e w' ⟨rfl, rfl⟩)
        go_ret
        exact ⟨rfl, B1.alloc B1.size _⟩
      | true =>
        rw [h1', Bool.true_and] at q
        subst q
        go_wp2_with (go_at_call 61; refine (within_any _ _ _ _).mono ?_; rintro e w' ⟨rfl, rfl⟩)
        go_ret
        exact ⟨rfl, B1.alloc B1.size _⟩
    · have q : (withB a 0 5 && withB b 0 0) = x := by
        rw [← hx.out, Bool.eq_iff_iff]; simp [withB, oneB, oneP]; omega
      clear hx
      cases h1' : withB a 0 5 with
      | false =>
        rw [h1', Bool.false_and] at q
        subst q
        go_wp2_with (go_at_call 61; refine (within_any _ _ _ _).mono ?_; rintro e w' ⟨rfl, rfl⟩)
        go_ret
        exact ⟨rfl, B1.alloc B1.size _⟩
      | true =>
        rw [h1', Bool.true_and] at q
        subst q
        go_wp2_with (go_at_call 61; refine (within_any _ _ _ _).mono ?_; rintro e w' ⟨rfl, rfl⟩)
        go_ret
        exact ⟨rfl, B1.alloc B1.size _⟩
    · have q : (withB a 0 5 && withB b 0 5) = x := by
        rw [← hx.out, Bool.eq_iff_iff]; simp [withB, oneB, oneP]; omega
      clear hx
      cases h1' : withB a 0 5 with
      | false =>
        rw [h1', Bool.false_and] at q
        subst q
        go_wp2_with (go_at_call 61; refine (within_any _ _ _ _).mono ?_; rintro e w' ⟨rfl, rfl⟩)
        go_ret
        exact ⟨rfl, B1.alloc B1.size _⟩
      | true =>
        rw [h1', Bool.true_and] at q
        subst q
        go_wp2_with (go_at_call 61; refine (within_any _ _ _ _).mono ?_; rintro e w' ⟨rfl, rfl⟩)
        go_ret
        exact ⟨rfl, B1.alloc B1.size _⟩
    · have q : (withB a 0 5 && withB b 0 8) = x := by
        rw [← hx.out, Bool.eq_iff_iff]; simp [withB, oneB, oneP]; omega
      clear hx
      cases h1' : withB a 0 5 with
      | false =>
        rw [h1', Bool.false_and] at q
        subst q
        go_wp2_with (go_at_call 61; refine (within_any _ _ _ _).mono ?_; rintro e w' ⟨rfl, rfl⟩)
        go_ret
        exact ⟨rfl, B1.alloc B1.size _⟩
      | true =>
        rw [h1', Bool.true_and] at q
        subst q
        go_wp2_with (go_at_call 61; refine (within_any _ _ _ _).mono ?_; rintro e w' ⟨rfl, rfl⟩)
        go_ret
        exact ⟨rfl, B1.alloc B1.size _⟩
    · have q : (withB a 0 0 && withB b 0 0) = x := by
        rw [← hx.out, Bool.eq_iff_iff]; simp [withB, oneB, oneP]; omega
      clear hx
      cases h1' : withB a 0 0 with
      | false =>
        rw [h1', Bool.false_and] at q
        subst q
        go_wp2_with (go_at_call 61; refine (within_any _ _ _ _).mono ?_; rintro e w' ⟨rfl, rfl⟩)
        go_ret
        exact ⟨rfl, B1.alloc B1.size _⟩
      | true =>
        rw [h1', Bool.true_and] at q
        subst q
        go_wp2_with (go_at_call 61; refine (within_any _ _ _ _).mono ?_; rintro e w' ⟨rfl, rfl⟩)
        go_ret
        exact ⟨rfl, B1.alloc B1.size _⟩
    · have q : false = x := by
        rw [← hx.out, eq_comm]; exact decide_eq_false (fun h => by unfold oneP at h; simp only at h; omega)
      subst q
      clear hx
      go_wp2
      go_ret
      exact ⟨rfl, B1.alloc B1.size _⟩
  exact go _ (Lib.hid rfl)

set_option maxRecDepth 100000 in
set_option maxHeartbeats 2000000 in
theorem rightprog_any (w : World) (v : Value) (L : List O) (h : Sr kF w v L) (hb : okO L) : Calls Tryz.prog 63 #[v] w fun e w' => e = .returned (.bool (progB L)) ∧ Below w.heap.size w w' := by
  have h' := h
  obtain ⟨A, c, rfl, h1, h2⟩ := h.form
  clear h
  have hlen : L.length ≤ 9223372036854775807 := by unfold maxLen at h2; omega
  by_cases h8 : L.length ≤ 8
  · have z8 : decide (8 < (L.length : Int)) = false := decide_eq_false (by omega)
    have P := Lib.hid (show progB L = L.all oneB by simp [progB, h8])
    go_enter Tryz.func63, Tryz.ntmps63
    go_wp2
    go_loopw [10] (fun t wr => ∃ k : Nat, k ≤ L.length ∧ t = .int .i64 k ∧ Below w.heap.size w wr ∧ Hid ((L.take k).all oneB = true)) (fun t _ => L.length - (intOf t).toNat)
    case atStart => exact ⟨0, by omega, rfl, Below.refl _ _, Lib.hid (by simp)⟩
    case round =>
      obtain ⟨k, hk, rfl, hB, hA⟩ := hrel
      by_cases hlt : k < L.length
      · obtain ⟨g, o, rfl, hg, d0, d1, d2⟩ := op_at (h'.below hB) k hlt
        have ho := hb _ (List.getElem_mem hlt)
        have T := Lib.hid (List.take_succ_eq_append_getElem hlt)
        have M := Lib.hid (List.getElem_mem hlt)
        generalize L[k] = q at *
        obtain ⟨op, a, b⟩ := q
        simp only at d0 d1 d2 ho
        have i1 : (k : Int) < (L.length : Int) := by omega
        go_wp2_with fail
        refine (rightop_any op a b _ ho.1 ho.2).mono ?_
        rintro e w1 ⟨rfl, k1⟩
        have B1 : Below w.heap.size w w1 := (hB.alloc hB.size _).trans (k1.mono (by have := hB.size; simp; omega))
        clear d0 d1 d2 k1 hg
        cases hq : oneB (op, a, b) with
        | true =>
          have Y : Hid ((L.take (k + 1)).all oneB = true) := Lib.hid (by rw [T.out, List.all_append, hA.out]; simp [hq])
          clear hq hA T
          go_wp2
          go_roundw
          case rel => exact ⟨k + 1, by omega, by go_num, B1, Y⟩
          case measure => simp [intOf]; omega
        | false =>
          have Y : Hid (progB L = false) := Lib.hid (by rw [P.out]; exact List.all_eq_false.2 ⟨_, M.out, by simp [hq]⟩)
          clear hq hA T
          go_wp2
          go_ret
          exact ⟨ret_bool Y.out.symm, B1⟩
      · obtain rfl : k = L.length := by omega
        have Y : Hid (progB L = true) := Lib.hid (by rw [P.out, ← hA.out, List.take_length])
        go_wp2
        go_ret
        exact ⟨ret_bool Y.out.symm, hB⟩
  · have z8 : decide (8 < (L.length : Int)) = true := decide_eq_true (by omega)
    have Y : Hid (progB L = false) := Lib.hid (by simp [progB, h8])
    go_enter Tryz.func63, Tryz.ntmps63
    go_wp2
    go_ret
    exact ⟨ret_bool Y.out.symm, Below.refl _ _⟩
end Go.Proofs.YtneggppfffekdaaGreat.Fina

/-
  Rows of slices of ops; contracts of fin's Right and Of, and of the document's in, one, Right, Of.
-/
namespace Go.Proofs.YtneggppfffekdaaGreat.Fina
open Go.ChangeShapes Go.WideShapes Go.ChangeAt Go.RowKit
open Slic
set_option linter.unusedVariables false

/-- A slice of slices that reads as a list of lists. -/
def Rows (w : World) (v : Value) (LL : List (List O)) : Prop := ∃ Hs : List (Option Addr × Nat × Nat), Sr kR w v Hs ∧ Hs.length = LL.length ∧ ∀ (i : Nat) (h : i < Hs.length) (h' : i < LL.length), Sr kF w (.slice (Hs[i]).1 (Hs[i]).2.1 (Hs[i]).2.2) LL[i]
theorem Rows.below {w w' : World} {v : Value} {LL : List (List O)} (h : Rows w v LL) (k : Below w.heap.size w w') : Rows w' v LL := by
  obtain ⟨Hs, h1, h2, h3⟩ := h
  exact ⟨Hs, h1.below k, h2, fun i h h' => (h3 i h h').below k⟩
theorem Rows.form {w : World} {v : Value} {LL : List (List O)} (h : Rows w v LL) : ∃ A c, v = .slice A LL.length c ∧ LL.length ≤ c ∧ c ≤ maxLen := by
  obtain ⟨Hs, h1, h2, h3⟩ := h
  obtain ⟨A, c, rfl, h4, h5⟩ := h1.form
  exact ⟨A, c, by rw [h2], by omega, h5⟩
/-- The slice that is there at a place. -/
theorem Rows.at {w : World} {A : Option Addr} {n c : Nat} {LL : List (List O)} (h : Rows w (.slice A n c) LL) (i : Nat) (hi : i < LL.length) : ∃ g o B d, A = some ⟨g, o, none⟩ ∧ g < w.heap.size ∧ w.cell? ⟨g, o + i, none⟩ = some (.slice B (LL[i]).length d) ∧ Sr kF w (.slice B (LL[i]).length d) LL[i] ∧ (LL[i]).length ≤ d ∧ d ≤ maxLen := by
  obtain ⟨Hs, h1, h2, h3⟩ := h
  obtain ⟨g, o, rfl, hg, hc⟩ := row_at h1 i (by omega)
  have hS := h3 i (by omega) hi
  obtain ⟨B, d, e, k1, k2⟩ := hS.form
  rw [e] at hc hS
  exact ⟨g, o, B, d, rfl, hg, hc, hS, k1, k2⟩
def okOs (LL : List (List O)) : Prop := ∀ L ∈ LL, okO L

set_option maxRecDepth 100000 in
set_option maxHeartbeats 2000000 in
theorem right_any (w : World) (v : Value) (LL : List (List O)) (h : Rows w v LL) (hb : okOs LL) : Calls Tryz.prog 38 #[v] w fun e w' => e = .returned (.bool (rightB LL)) ∧ Below w.heap.size w w' := by
  have h' := h
  obtain ⟨A, c, rfl, h1, h2⟩ := h.form
  clear h
  have hlen : LL.length ≤ 9223372036854775807 := by unfold maxLen at h2; omega
  by_cases h8 : LL.length ≤ 8
  · have z8 : decide (8 < (LL.length : Int)) = false := decide_eq_false (by omega)
    have P := Lib.hid (show rightB LL = LL.all progB by simp [rightB, h8])
    go_enter Tryz.func38, Tryz.ntmps38
    go_wp2
    go_loopw [10] (fun t wr => ∃ k : Nat, k ≤ LL.length ∧ t = .int .i64 k ∧ Below w.heap.size w wr ∧ Hid ((LL.take k).all progB = true)) (fun t _ => LL.length - (intOf t).toNat)
    case atStart => exact ⟨0, by omega, rfl, Below.refl _ _, Lib.hid (by simp)⟩
    case round =>
      obtain ⟨k, hk, rfl, hB, hA⟩ := hrel
      by_cases hlt : k < LL.length
      · obtain ⟨g, o, B, d, rfl, hg, hc, hS, _, _⟩ := (h'.below hB).at k hlt
        have ho := hb _ (List.getElem_mem hlt)
        have T := Lib.hid (List.take_succ_eq_append_getElem hlt)
        have M := Lib.hid (List.getElem_mem hlt)
        generalize LL[k] = L at *
        have i1 : (k : Int) < (LL.length : Int) := by omega
        go_wp2_with fail
        refine (rightprog_any _ _ L hS ho).mono ?_
        rintro e w1 ⟨rfl, k1⟩
        have B1 : Below w.heap.size w w1 := hB.trans (k1.mono hB.size)
        clear hc k1 hg hS
        cases hq : progB L with
        | true =>
          have Y : Hid ((LL.take (k + 1)).all progB = true) := Lib.hid (by rw [T.out, List.all_append, hA.out]; simp [hq])
          clear hq hA T
          go_wp2
          go_roundw
          case rel => exact ⟨k + 1, by omega, by go_num, B1, Y⟩
          case measure => simp [intOf]; omega
        | false =>
          have Y : Hid (rightB LL = false) := Lib.hid (by rw [P.out]; exact List.all_eq_false.2 ⟨_, M.out, by simp [hq]⟩)
          clear hq hA T
          go_wp2
          go_ret
          exact ⟨ret_bool Y.out.symm, B1⟩
      · obtain rfl : k = LL.length := by omega
        have Y : Hid (rightB LL = true) := Lib.hid (by rw [P.out, ← hA.out, List.take_length])
        go_wp2
        go_ret
        exact ⟨ret_bool Y.out.symm, hB⟩
  · have z8 : decide (8 < (LL.length : Int)) = true := decide_eq_true (by omega)
    have Y : Hid (rightB LL = false) := Lib.hid (by simp [rightB, h8])
    go_enter Tryz.func38, Tryz.ntmps38
    go_wp2
    go_ret
    exact ⟨ret_bool Y.out.symm, Below.refl _ _⟩

/-- A program of a tag: the row that is there, or none. -/
def ofV (LL : List (List O)) (n : Int) : List O := if inB n LL.length = true then LL.getD n.toNat [] else []
def Told (w : World) (L : List O) (e : Ending) (w' : World) : Prop := ∃ v, e = .returned v ∧ Sr kF w v L ∧ w = w'
set_option maxHeartbeats 1000000 in
theorem of_any (w : World) (v : Value) (LL : List (List O)) (n : Int) (h : Rows w v LL) : Calls Tryz.prog 176 #[v, .int .i64 n] w (Told w (ofV LL n)) := by
  have h' := h
  obtain ⟨A, c, rfl, h1, h2⟩ := h.form
  clear h
  have hlen : LL.length ≤ 9223372036854775807 := by unfold maxLen at h2; omega
  cases hn : inB n LL.length with
  | true =>
    have e : ofV LL n = LL.getD n.toNat [] := if_pos hn
    obtain ⟨k, rfl⟩ : ∃ k : Nat, n = k := ⟨n.toNat, by simp only [inB, decide_eq_true_eq] at hn; omega⟩
    have hlt : k < LL.length := by simp only [inB, decide_eq_true_eq] at hn; omega
    rw [Int.toNat_natCast, List.getD_eq_getElem?_getD, List.getElem?_eq_getElem hlt] at e
    have E := Lib.hid e
    clear e
    obtain ⟨g, o, B, d, rfl, hg, hc, hS, _, _⟩ := h'.at k hlt
    have i1 : (k : Int) < (LL.length : Int) := by omega
    go_enter Tryz.func176, Tryz.ntmps176
    go_wp2_with fail
    refine (place_any _ _ _ (by omega)).mono ?_
    rintro e w' ⟨rfl, rfl⟩
    rw [hn]
    go_wp2
    go_ret
    exact ⟨_, rfl, by rw [E.out]; exact hS, rfl⟩
  | false =>
    have E := Lib.hid (show ofV LL n = [] from if_neg (by rw [hn]; simp))
    go_enter Tryz.func176, Tryz.ntmps176
    go_wp2_with fail
    refine (place_any _ _ _ (by omega)).mono ?_
    rintro e w' ⟨rfl, rfl⟩
    rw [hn]
    go_wp2
    go_ret
    exact ⟨_, rfl, by rw [E.out]; exact Sr.nil w, rfl⟩
set_option maxHeartbeats 1000000 in
theorem refof_any (w : World) (v : Value) (LL : List (List O)) (n : Int) (h : Rows w v LL) : Calls Tryz.prog 83 #[v, .int .i64 n] w (Told w (ofV LL n)) := by
  have h' := h
  obtain ⟨A, c, rfl, h1, h2⟩ := h.form
  clear h
  have hlen : LL.length ≤ 9223372036854775807 := by unfold maxLen at h2; omega
  cases hn : inB n LL.length with
  | true =>
    have e : ofV LL n = LL.getD n.toNat [] := if_pos hn
    obtain ⟨k, rfl⟩ : ∃ k : Nat, n = k := ⟨n.toNat, by simp only [inB, decide_eq_true_eq] at hn; omega⟩
    have hlt : k < LL.length := by simp only [inB, decide_eq_true_eq] at hn; omega
    rw [Int.toNat_natCast, List.getD_eq_getElem?_getD, List.getElem?_eq_getElem hlt] at e
    have E := Lib.hid e
    clear e hn
    obtain ⟨g, o, B, d, rfl, hg, hc, hS, _, _⟩ := h'.at k hlt
    have i1 : (k : Int) < (LL.length : Int) := by omega
    have z1 : decide ((LL.length : Int) ≤ (k : Int)) = false := decide_eq_false (by omega)
    have z2 : decide ((k : Int) < 0) = false := decide_eq_false (by omega)
    go_enter Tryz.func83, Tryz.ntmps83
    go_wp2
    go_ret
    exact ⟨_, rfl, by rw [E.out]; exact hS, rfl⟩
  | false =>
    have E := Lib.hid (show ofV LL n = [] from if_neg (by rw [hn]; simp))
    by_cases h0 : n < 0
    · have z2 : decide (n < 0) = true := decide_eq_true h0
      clear hn
      go_enter Tryz.func83, Tryz.ntmps83
      go_wp2
      go_ret
      exact ⟨_, rfl, by rw [E.out]; exact Sr.nil w, rfl⟩
    · have z2 : decide (n < 0) = false := decide_eq_false h0
      have z1 : decide ((LL.length : Int) ≤ n) = true := decide_eq_true (by simp only [inB, decide_eq_false_iff_not] at hn; omega)
      clear hn
      go_enter Tryz.func83, Tryz.ntmps83
      go_wp2
      go_ret
      exact ⟨_, rfl, by rw [E.out]; exact Sr.nil w, rfl⟩

end Go.Proofs.YtneggppfffekdaaGreat.Fina

/-
  Contracts of what fin's ops do, of step, Step and Run.
-/
namespace Go.Proofs.YtneggppfffekdaaGreat.Fina
open Go.ChangeShapes Go.WideShapes Go.ChangeAt Go.RowKit
open Slic
set_option linter.unusedVariables false

section
variable {w0 w : World} {p : Nat} {a : Int} {S D : List Int} {h : Bool} {vs vd : Value}
set_option maxHeartbeats 1000000 in
theorem hold_any (F : Fs w0 w p a S D h vs vd) (o a' b' : Int) : Calls Tryz.prog 140 #[.pointer (some ⟨p, 0, none⟩), .agg #[.int .u8 o, .int .i64 a', .int .i64 b']] w fun e w' => e = .returned (.tuple #[]) ∧ Fs w0 w' p a S D true vs vd := by
  have F1 := F.hold.call (below_one _ (.cells #[.int .u8 o, .int .i64 a', .int .i64 b'] 86))
  obtain ⟨b, own, lt, c0, c1, c2, c3, fz, sl, far, sd⟩ := F
  go_enter Tryz.func140, Tryz.ntmps140
  go_wp2
  go_end0
  exact ⟨rfl, F1⟩
theorem one_num (W : World) (x : Int) (n : Nat) (hn : n = W.heap.size) : Sr kI (W.alloc (.cells #[.int .i64 x] 3)) (.slice (some ⟨n, 0, none⟩) 1 1) [x] := by
  subst hn
  have h : Own kI (W.alloc (.cells #[.int .i64 x] 3)) 0 (.slice (some ⟨W.heap.size, 0, none⟩) 1 1) [x] := Own.lit W 0 (Nat.zero_le _) [x] #[.int .i64 x] rfl (by simp [maxLen]) 1 rfl
  exact h.sr
theorem add_same (a b : Int) (w : World) (a1 : 0 ≤ a) (a2 : a ≤ 1000000) (b1 : 0 ≤ b) (b2 : b ≤ 1000000) : Calls Tryz.prog 162 #[.int .i64 a, .int .i64 b] w fun e w' => e = .returned (.tuple #[.int .i64 (a + b), .int .i64 0]) ∧ w' = w := (add_ok a b w a1 a2 b1 b2).mono fun _ _ ⟨q, r⟩ => ⟨q, r.symm⟩
theorem below_drew (w : World) : Below w.heap.size w w.drew := (Below.refl _ _).drew
def Says (w0 : World) (p : Nat) (a : Int) (S D : List Int) (h : Bool) (vs : Value) (e : Ending) (w' : World) : Prop := e = .returned (.tuple #[]) ∧ ∃ vd, Fs w0 w' p a S D h vs vd
set_option maxHeartbeats 2000000 in
theorem say_any (F : Fs w0 w p a S D h vs vd) (o a' b' : Int) (hD : D.length ≤ 900000) : Calls Tryz.prog 136 #[.pointer (some ⟨p, 0, none⟩), .agg #[.int .u8 o, .int .i64 a', .int .i64 b']] w (Says w0 p a S (D ++ [a']) h vs) := by
  have hlt := F.lt
  have c2 := F.c2
  have hf := F.fz 2
  have hvd : some w.heap.size ≠ vd.ownBlock := fun e => by have := (F.said.lt _ e.symm).2; omega
  have hvp : some p ≠ vd.ownBlock := fun e => by have := (F.said.lt _ e.symm).1; omega
  go_enter Tryz.func136, Tryz.ntmps136
  go_wp2_with fail
  go_region_law
    ((refine step_own (K := kI) (by rfl) (.tmp 8) (.tmp 11) (by rfl) (by rfl) (by rfl) (by rfl) (((F.call (below_one _ _)).call (below_one _ _)).call (below_drew _)).said (one_num _ a' (w.heap.size + 1) (by simp)).drew (by simp; omega) (by simp; omega) ?_; intro v' w' hown hgrow hG; obtain ⟨A', c', rfl, hc1, hc2⟩ := hown.sr.form; have hcl : w'.cell? ⟨p, 2, none⟩ = some vd := (cell_only hgrow (by simp; omega) hvp _).trans ((((F.call (below_one _ _)).call (below_one _ _)).call (below_drew _)).c2); have hfr : w'.frozen? ⟨p, 2, none⟩ = false := (frozen_only hgrow (by simp; omega) hvp _).trans ((((F.call (below_one _ _)).call (below_one _ _)).call (below_drew _)).fz 2)))
  all_goals
    go_end0
    have M := (((F.call (below_one _ _)).call (below_one _ _)).call (below_drew _)).more hown hgrow
    have e : (D ++ [a']).length = D.length + 1 := by simp
    rw [e] at M
    exact ⟨rfl, _, M⟩
set_option maxHeartbeats 1000000 in
theorem clear_any (F : Fs w0 w p a S D h vs vd) (o b' : Int) (k : Nat) (hk : k < S.length) : Calls Tryz.prog 137 #[.pointer (some ⟨p, 0, none⟩), .agg #[.int .u8 o, .int .i64 k, .int .i64 b']] w fun e w' => e = .returned (.tuple #[]) ∧ Fs w0 w' p a (S.set k 0) D h vs vd := by
  obtain ⟨g, c, rfl, g1, g2, g3, g4, g5, g6⟩ := F.slots.form (by omega)
  have F1 := ((F.slot k 0 hk).call (below_one _ (.cells #[.int .u8 o, .int .i64 k, .int .i64 b'] 86))).call (below_drew _)
  have hp := F.lt
  have c1 := F.c1
  have e0 : w.cell? ⟨g, k, none⟩ = some (.int .u64 S[k]) := by
    have := g6 k 0 _ hk rfl
    simpa [show kU.m = 1 from rfl] using this
  have f0 := g5 k
  clear g5 g6
  have i0 : (0 : Int) ≤ (k : Int) := by omega
  have i1 : (k : Int) < (S.length : Int) := by omega
  have hc : S.length ≤ 9223372036854775807 := by unfold maxLen at g4; omega
  clear F
  go_enter Tryz.func137, Tryz.ntmps137
  go_wp2_with fail
  go_region
  go_end0
  exact ⟨rfl, F1⟩
set_option maxHeartbeats 2000000 in
theorem move_any (F : Fs w0 w p a S D h vs vd) (o : Int) (k j : Nat) (hk : k < S.length) (hj : j < S.length) : Calls Tryz.prog 138 #[.pointer (some ⟨p, 0, none⟩), .agg #[.int .u8 o, .int .i64 k, .int .i64 j]] w fun e w' => e = .returned (.tuple #[]) ∧ Fs w0 w' p a (S.set k S[j]) D h vs vd := by
  obtain ⟨g, c, rfl, g1, g2, g3, g4, g5, g6⟩ := F.slots.form (by omega)
  have F1 := ((F.slot k S[j] hk).call (below_one _ (.cells #[.int .u8 o, .int .i64 k, .int .i64 j] 86))).call (below_drew _)
  have hp := F.lt
  have c1 := F.c1
  have e0 : w.cell? ⟨g, k, none⟩ = some (.int .u64 S[k]) := by
    have := g6 k 0 _ hk rfl
    simpa [show kU.m = 1 from rfl] using this
  have e1 : w.cell? ⟨g, j, none⟩ = some (.int .u64 S[j]) := by
    have := g6 j 0 _ hj rfl
    simpa [show kU.m = 1 from rfl] using this
  have f0 := g5 k
  clear g5 g6
  generalize S[k] = x at *
  generalize S[j] = y at *
  have i0 : (0 : Int) ≤ (k : Int) := by omega
  have i1 : (k : Int) < (S.length : Int) := by omega
  have j0 : (0 : Int) ≤ (j : Int) := by omega
  have j1 : (j : Int) < (S.length : Int) := by omega
  have hc : S.length ≤ 9223372036854775807 := by unfold maxLen at g4; omega
  clear F
  go_enter Tryz.func138, Tryz.ntmps138
  go_wp2_with fail
  go_region
  go_end0
  exact ⟨rfl, F1⟩
set_option maxHeartbeats 2000000 in
theorem skip_any (F : Fs w0 w p a S D h vs vd) (o b' : Int) (k : Nat) (hk : k < S.length) (a0 : 0 ≤ a) (a1 : a ≤ 1000000) (b0 : 0 ≤ b') (b1 : b' ≤ 1000000) : Calls Tryz.prog 139 #[.pointer (some ⟨p, 0, none⟩), .agg #[.int .u8 o, .int .i64 k, .int .i64 b']] w fun e w' => e = .returned (.tuple #[]) ∧ Fs w0 w' p (if S[k] = 0 then a + b' else a) S D h vs vd := by
  obtain ⟨g, c, rfl, g1, g2, g3, g4, g5, g6⟩ := F.slots.form (by omega)
  have hp := F.lt
  have c1 := F.c1
  have c0 := F.c0
  have f0 := F.fz 0
  have e0 : w.cell? ⟨g, k, none⟩ = some (.int .u64 S[k]) := by
    have := g6 k 0 _ hk rfl
    simpa [show kU.m = 1 from rfl] using this
  clear g5 g6
  have i0 : (0 : Int) ≤ (k : Int) := by omega
  have i1 : (k : Int) < (S.length : Int) := by omega
  have hc : S.length ≤ 9223372036854775807 := by unfold maxLen at g4; omega
  by_cases hx : S[k] = 0
  · have F1 := F.at' (a + b')
    have X : Hid ((if S[k] = 0 then a + b' else a) = a + b') := Lib.hid (if_pos hx)
    rw [hx] at e0
    rw [X.out]
    clear hx F
    go_enter Tryz.func139, Tryz.ntmps139
    go_wp2_with fail
    go_region
    go_wp2_with fail
    go_region_held3 (fun w' => w'.cell? ⟨w.heap.size, 2, none⟩ = some (.int .i64 b') ∧ w'.cell? ⟨p, 0, none⟩ = some (.int .i64 a)) (go_keep) ((go_at_call 162; refine (add_ok _ _ _ a0 a1 b0 b1).mono ?_; rintro e w' ⟨rfl, rfl⟩))
    go_wp2
    go_end0
    exact ⟨rfl, ((F1.call (below_one _ _)).call (below_drew _)).call (below_drew _)⟩
  · have X : Hid ((if S[k] = 0 then a + b' else a) = a) := Lib.hid (if_neg hx)
    have z : (S[k] != 0) = true := by simpa using hx
    rw [X.out]
    generalize S[k] = x at *
    clear hx
    go_enter Tryz.func139, Tryz.ntmps139
    go_wp2_with fail
    go_region
    go_wp2
    refine bodyPost_ret (results_none rfl _ _ _) rfl ?_
    exact ⟨rfl, (F.call (below_one _ _)).call (below_drew _)⟩
end
end Go.Proofs.YtneggppfffekdaaGreat.Fina

/-
  Contracts of fin's hasSlot, step, Step and Run.
-/
namespace Go.Proofs.YtneggppfffekdaaGreat.Fina
open Go.ChangeShapes Go.WideShapes Go.ChangeAt Go.RowKit
open Slic
set_option linter.unusedVariables false

section
variable {w0 w : World} {p : Nat} {S D : List Int} {h : Bool} {vs vd : Value}
set_option maxHeartbeats 1000000 in
theorem has_any {a : Int} (F : Fs w0 w p a S D h vs vd) (n : Int) (hS : S.length ≤ 100000) : Calls Tryz.prog 191 #[.pointer (some ⟨p, 0, none⟩), .int .i64 n] w fun e w' => e = .returned (.bool (inB n S.length)) ∧ w = w' := by
  obtain ⟨A, c, rfl, h1, h2⟩ := F.slots.sr.form
  have c1 := F.c1
  clear F
  go_enter Tryz.func191, Tryz.ntmps191
  go_wp2_with fail
  refine (place_any _ _ _ (by omega)).mono ?_
  rintro e w' ⟨rfl, rfl⟩
  go_wp2
  go_ret
  exact ⟨rfl, rfl⟩

/-- What a step that is no place's leaves. -/
def Stays (w0 : World) (p : Nat) (a : Int) (S D : List Int) (h : Bool) (vs vd : Value) (e : Ending) (w' : World) : Prop := e = .returned (.bool false) ∧ Fs w0 w' p a S D h vs vd
/-- What a step leaves. -/
def Steps (w0 : World) (p : Nat) (a : Int) (S D : List Int) (h : Bool) (vs : Value) (e : Ending) (w' : World) : Prop := e = .returned (.bool true) ∧ ∃ vd, Fs w0 w' p a S D h vs vd
set_option maxHeartbeats 1000000 in
theorem step_no {a : Int} {v : Value} {L : List O} (F : Fs w0 w p a S D h vs vd) (hL : Sr kF w0 v L) (hl : L.length ≤ 100000) (hn : inB a L.length = false) : Calls Tryz.prog 188 #[.pointer (some ⟨p, 0, none⟩), v] w (Stays w0 p a S D h vs vd) := by
  obtain ⟨A, c, rfl, h1, h2⟩ := hL.form
  have c0 := F.c0
  go_enter Tryz.func188, Tryz.ntmps188
  go_wp2_with fail
  refine (place_any _ _ _ (by omega)).mono ?_
  rintro e w' ⟨rfl, rfl⟩
  rw [hn]
  go_wp2
  go_ret
  exact ⟨rfl, F⟩
set_option maxRecDepth 100000 in
set_option maxHeartbeats 4000000 in
theorem step_yes {i : Nat} {v : Value} {L : List O} (F : Fs w0 w p i S D h vs vd) (hL : Sr kF w0 v L) (hl : L.length ≤ 100000) (hi : i < L.length) (hb : okO L) (hk : okL L) (hS : S.length ≤ 100000) (hD : D.length ≤ 900000) :
    Calls Tryz.prog 188 #[.pointer (some ⟨p, 0, none⟩), v] w (Steps w0 p (i + 1 + leftV S L[i]) (slotsV S L[i]) (D ++ sayV L[i]) (h || holdV L[i]) vs) := by
  have hn : inB (i : Int) L.length = true := decide_eq_true (by omega)
  have hL' := hL.below F.below
  obtain ⟨A, c, rfl, h1, h2⟩ := hL.form
  obtain ⟨g, o, rfl, hg, d0, d1, d2⟩ := op_at hL' i hi
  have ho := hb _ (List.getElem_mem hi)
  have hq := hk _ (List.getElem_mem hi)
  generalize L[i] = q at *
  obtain ⟨op, a, b⟩ := q
  simp only at d0 d1 d2 ho hq
  clear hL hL' hb hk
  have c0 := F.c0
  have f0 := F.fz 0
  have hlt := F.lt
  have i0 : (0 : Int) ≤ (i : Int) := by omega
  have i1 : (i : Int) < (L.length : Int) := by omega
  have i2 : (i : Int) ≤ 100000 := by omega
  have F1 := (F.at' ((i : Int) + 1)).call (below_one _ (.cells #[.int .u8 op, .int .i64 a, .int .i64 b] 86))
  go_enter Tryz.func188, Tryz.ntmps188
  go_wp2_with fail
  refine (place_any _ _ _ (by omega)).mono ?_
  rintro e w' ⟨rfl, rfl⟩
  rw [hn]
  go_wp2_with fail
  have e0 : ((w.setCell ⟨p, 0, none⟩ (.int .i64 ((i : Int) + 1))).alloc (.cells #[.int .u8 op, .int .i64 a, .int .i64 b] 86)).cell? ⟨w.heap.size, 0, none⟩ = some (.int .u8 op) := by simp [go_sem]
  have e1 : ((w.setCell ⟨p, 0, none⟩ (.int .i64 ((i : Int) + 1))).alloc (.cells #[.int .u8 op, .int .i64 a, .int .i64 b] 86)).cell? ⟨w.heap.size, 1, none⟩ = some (.int .i64 a) := by simp [go_sem]
  have e2 : ((w.setCell ⟨p, 0, none⟩ (.int .i64 ((i : Int) + 1))).alloc (.cells #[.int .u8 op, .int .i64 a, .int .i64 b] 86)).cell? ⟨w.heap.size, 2, none⟩ = some (.int .i64 b) := by simp [go_sem]
  have hz : w.heap.size < ((w.setCell ⟨p, 0, none⟩ (.int .i64 ((i : Int) + 1))).alloc (.cells #[.int .u8 op, .int .i64 a, .int .i64 b] 86)).heap.size := by simp
  clear F c0 f0 d0 d1 d2 hg hn
  generalize (w.setCell ⟨p, 0, none⟩ (.int .i64 ((i : Int) + 1))).alloc (.cells #[.int .u8 op, .int .i64 a, .int .i64 b] 86) = W at *
  generalize w.heap.size = B at *
  refine (kind_any op _ ho.1 ho.2).mono ?_
  rintro e w1 ⟨hk, k1⟩
  have F2 := F1.call k1
  have x0 := (k1.cell (p := ⟨B, 0, none⟩) hz).trans e0
  have x1 := (k1.cell (p := ⟨B, 1, none⟩) hz).trans e1
  have x2 := (k1.cell (p := ⟨B, 2, none⟩) hz).trans e2
  have hy : B < w1.heap.size := Nat.lt_of_lt_of_le hz k1.size
  clear F1 e0 e1 e2 hz k1
  have hlp := F2.lt
  rcases hk with ⟨rfl, rfl⟩ | ⟨rfl, rfl⟩ | ⟨rfl, rfl⟩ | ⟨rfl, rfl⟩ | ⟨rfl, rfl⟩ | ⟨h5, rfl⟩
  · have G : Hid (((i : Int) + 1 + leftV S (0, a, b), slotsV S (0, a, b), D ++ sayV (0, a, b), (h || holdV (0, a, b))) = ((i : Int) + 1, S, D ++ [a], h)) := Lib.hid (by simp [leftV, slotsV, sayV, holdV])
    have F3 := F2.call (below_one _ (.cells #[.int .i64 99, .int .i64 0, .bool false, .bool false, .func (.func 136) #[] #[]] 200))
    go_wp2_with fail
    refine (say_any F3 _ _ _ hD).mono ?_
    rintro e w2 ⟨rfl, vd2, F4⟩
    go_wp2
    go_ret
    have G' := G.out
    simp only [Prod.mk.injEq] at G'
    rw [G'.1, G'.2.1, G'.2.2.1, G'.2.2.2]
    exact ⟨rfl, _, F4⟩
  · cases ha : inB a S.length with
    | false =>
      have G : Hid (((i : Int) + 1 + leftV S (1, a, b), slotsV S (1, a, b), D ++ sayV (1, a, b), (h || holdV (1, a, b))) = ((i : Int) + 1, S, D, h)) := Lib.hid (by simp [leftV, slotsV, sayV, holdV, ha])
      have F3 := F2.call (below_one _ (.cells #[.int .i64 5, .int .i64 0, .bool true, .bool false, .func (.func 137) #[] #[]] 200))
      go_wp2_with fail
      refine (has_any F3 _ hS).mono ?_
      rintro e w2 ⟨rfl, rfl⟩
      rw [ha]
      go_wp2
      go_ret
      have G' := G.out
      simp only [Prod.mk.injEq] at G'
      rw [G'.1, G'.2.1, G'.2.2.1, G'.2.2.2]
      exact ⟨rfl, _, F3⟩
    | true =>
      obtain ⟨k, rfl⟩ : ∃ k : Nat, a = k := ⟨a.toNat, by simp only [inB, decide_eq_true_eq] at ha; omega⟩
      have hk : k < S.length := by simp only [inB, decide_eq_true_eq] at ha; omega
      have G : Hid (((i : Int) + 1 + leftV S (1, (k : Int), b), slotsV S (1, (k : Int), b), D ++ sayV (1, (k : Int), b), (h || holdV (1, (k : Int), b))) = ((i : Int) + 1, S.set k 0, D, h)) := Lib.hid (by simp [leftV, slotsV, sayV, holdV, ha])
      have F3 := F2.call (below_one _ (.cells #[.int .i64 5, .int .i64 0, .bool true, .bool false, .func (.func 137) #[] #[]] 200))
      go_wp2_with fail
      refine (has_any F3 _ hS).mono ?_
      rintro e w2 ⟨rfl, rfl⟩
      rw [ha]
      go_wp2_with fail
      refine (clear_any F3 _ _ k hk).mono ?_
      rintro e w2 ⟨rfl, F4⟩
      go_wp2
      go_ret
      have G' := G.out
      simp only [Prod.mk.injEq] at G'
      rw [G'.1, G'.2.1, G'.2.2.1, G'.2.2.2]
      exact ⟨rfl, _, F4⟩
  · cases ha : inB a S.length with
    | false =>
      have G : Hid (((i : Int) + 1 + leftV S (2, a, b), slotsV S (2, a, b), D ++ sayV (2, a, b), (h || holdV (2, a, b))) = ((i : Int) + 1, S, D, h)) := Lib.hid (by simp [leftV, slotsV, sayV, holdV, ha])
      have F3 := F2.call (below_one _ (.cells #[.int .i64 5, .int .i64 5, .bool true, .bool true, .func (.func 138) #[] #[]] 200))
      go_wp2_with fail
      refine (has_any F3 _ hS).mono ?_
      rintro e w2 ⟨rfl, rfl⟩
      rw [ha]
      go_wp2
      go_ret
      have G' := G.out
      simp only [Prod.mk.injEq] at G'
      rw [G'.1, G'.2.1, G'.2.2.1, G'.2.2.2]
      exact ⟨rfl, _, F3⟩
    | true =>
      cases hb : inB b S.length with
      | false =>
        have G : Hid (((i : Int) + 1 + leftV S (2, a, b), slotsV S (2, a, b), D ++ sayV (2, a, b), (h || holdV (2, a, b))) = ((i : Int) + 1, S, D, h)) := Lib.hid (by simp [leftV, slotsV, sayV, holdV, hb])
        have F3 := F2.call (below_one _ (.cells #[.int .i64 5, .int .i64 5, .bool true, .bool true, .func (.func 138) #[] #[]] 200))
        go_wp2_with fail
        refine (has_any F3 _ hS).mono ?_
        rintro e w2 ⟨rfl, rfl⟩
        rw [ha]
        go_wp2_with fail
        refine (has_any F3 _ hS).mono ?_
        rintro e w3 ⟨rfl, rfl⟩
        rw [hb]
        go_wp2
        go_ret
        have G' := G.out
        simp only [Prod.mk.injEq] at G'
        rw [G'.1, G'.2.1, G'.2.2.1, G'.2.2.2]
        exact ⟨rfl, _, F3⟩
      | true =>
        obtain ⟨k, rfl⟩ : ∃ k : Nat, a = k := ⟨a.toNat, by simp only [inB, decide_eq_true_eq] at ha; omega⟩
        have hk : k < S.length := by simp only [inB, decide_eq_true_eq] at ha; omega
        obtain ⟨j, rfl⟩ : ∃ j : Nat, b = j := ⟨b.toNat, by simp only [inB, decide_eq_true_eq] at hb; omega⟩
        have hj : j < S.length := by simp only [inB, decide_eq_true_eq] at hb; omega
        have G : Hid (((i : Int) + 1 + leftV S (2, (k : Int), (j : Int)), slotsV S (2, (k : Int), (j : Int)), D ++ sayV (2, (k : Int), (j : Int)), (h || holdV (2, (k : Int), (j : Int)))) = ((i : Int) + 1, S.set k S[j], D, h)) := Lib.hid (by simp [leftV, slotsV, sayV, holdV, ha, hb, List.getElem?_eq_getElem hj])
        have F3 := F2.call (below_one _ (.cells #[.int .i64 5, .int .i64 5, .bool true, .bool true, .func (.func 138) #[] #[]] 200))
        go_wp2_with fail
        refine (has_any F3 _ hS).mono ?_
        rintro e w2 ⟨rfl, rfl⟩
        rw [ha]
        go_wp2_with fail
        refine (has_any F3 _ hS).mono ?_
        rintro e w3 ⟨rfl, rfl⟩
        rw [hb]
        go_wp2_with fail
        refine (move_any F3 _ k j hk hj).mono ?_
        rintro e w4 ⟨rfl, F4⟩
        go_wp2
        go_ret
        have G' := G.out
        simp only [Prod.mk.injEq] at G'
        rw [G'.1, G'.2.1, G'.2.2.1, G'.2.2.2]
        exact ⟨rfl, _, F4⟩
  · have hq := hq rfl
    cases ha : inB a S.length with
    | false =>
      have G : Hid (((i : Int) + 1 + leftV S (3, a, b), slotsV S (3, a, b), D ++ sayV (3, a, b), (h || holdV (3, a, b))) = ((i : Int) + 1, S, D, h)) := Lib.hid (by simp [leftV, slotsV, sayV, holdV, ha])
      have F3 := F2.call (below_one _ (.cells #[.int .i64 5, .int .i64 8, .bool true, .bool false, .func (.func 139) #[] #[]] 200))
      go_wp2_with fail
      refine (has_any F3 _ hS).mono ?_
      rintro e w2 ⟨rfl, rfl⟩
      rw [ha]
      go_wp2
      go_ret
      have G' := G.out
      simp only [Prod.mk.injEq] at G'
      rw [G'.1, G'.2.1, G'.2.2.1, G'.2.2.2]
      exact ⟨rfl, _, F3⟩
    | true =>
      obtain ⟨k, rfl⟩ : ∃ k : Nat, a = k := ⟨a.toNat, by simp only [inB, decide_eq_true_eq] at ha; omega⟩
      have hk : k < S.length := by simp only [inB, decide_eq_true_eq] at ha; omega
      have G0 : (i : Int) + 1 + leftV S (3, (k : Int), b) = if S[k] = 0 then (i : Int) + 1 + b else (i : Int) + 1 := by
        by_cases hx : S[k] = 0 <;> simp [leftV, ha, hx, List.getElem?_eq_getElem hk]
      have G : Hid (((i : Int) + 1 + leftV S (3, (k : Int), b), slotsV S (3, (k : Int), b), D ++ sayV (3, (k : Int), b), (h || holdV (3, (k : Int), b))) = (if S[k] = 0 then (i : Int) + 1 + b else (i : Int) + 1, S, D, h)) := Lib.hid (by rw [G0]; simp [slotsV, sayV, holdV])
      clear G0
      have F3 := F2.call (below_one _ (.cells #[.int .i64 5, .int .i64 8, .bool true, .bool false, .func (.func 139) #[] #[]] 200))
      go_wp2_with fail
      refine (has_any F3 _ hS).mono ?_
      rintro e w2 ⟨rfl, rfl⟩
      rw [ha]
      go_wp2_with fail
      refine (skip_any F3 _ _ k hk (by omega) (by omega) (by omega) (by omega)).mono ?_
      rintro e w2 ⟨rfl, F4⟩
      go_wp2
      go_ret
      have G' := G.out
      simp only [Prod.mk.injEq] at G'
      rw [G'.1, G'.2.1, G'.2.2.1, G'.2.2.2]
      exact ⟨rfl, _, F4⟩
  · have G : Hid (((i : Int) + 1 + leftV S (4, a, b), slotsV S (4, a, b), D ++ sayV (4, a, b), (h || holdV (4, a, b))) = ((i : Int) + 1, S, D, true)) := Lib.hid (by simp [leftV, slotsV, sayV, holdV])
    have F3 := F2.call (below_one _ (.cells #[.int .i64 0, .int .i64 0, .bool false, .bool false, .func (.func 140) #[] #[]] 200))
    go_wp2_with fail
    refine (hold_any F3 _ _ _).mono ?_
    rintro e w2 ⟨rfl, F4⟩
    go_wp2
    go_ret
    have G' := G.out
    simp only [Prod.mk.injEq] at G'
    rw [G'.1, G'.2.1, G'.2.2.1, G'.2.2.2]
    exact ⟨rfl, _, F4⟩
  · have n0 : op ≠ 0 := by omega
    have n1 : op ≠ 1 := by omega
    have n2 : op ≠ 2 := by omega
    have n3 : op ≠ 3 := by omega
    have n4 : op ≠ 4 := by omega
    have G : Hid (((i : Int) + 1 + leftV S (op, a, b), slotsV S (op, a, b), D ++ sayV (op, a, b), (h || holdV (op, a, b))) = ((i : Int) + 1, S, D, h)) := Lib.hid (by simp [leftV, slotsV, sayV, holdV, n0, n1, n2, n3, n4])
    clear n0 n1 n2 n3 n4
    have F3 := F2.call (below_one _ (.cells #[.int .i64 0, .int .i64 0, .bool false, .bool false, .nilFunc] 200))
    go_wp2
    go_ret
    have G' := G.out
    simp only [Prod.mk.injEq] at G'
    rw [G'.1, G'.2.1, G'.2.2.1, G'.2.2.2]
    exact ⟨rfl, _, F3⟩
end
end Go.Proofs.YtneggppfffekdaaGreat.Fina

/-
  Contracts of slices.Clone of words, of fin's Step and Run.
-/
namespace Go.Proofs.YtneggppfffekdaaGreat.Fina
open Go.ChangeShapes Go.WideShapes Go.ChangeAt Go.RowKit
open Slic
set_option linter.unusedVariables false

def Cloned (w : World) (S : List Int) (e : Ending) (w' : World) : Prop := ∃ v, e = .returned v ∧ Own kU w' w.heap.size v S ∧ Below w.heap.size w w'
set_option maxHeartbeats 1000000 in
theorem clone_any (w : World) (v : Value) (S : List Int) (h : Sr kU w v S) (hS : S.length ≤ 100000) : Calls Tryz.prog 54 #[v] w (Cloned w S) := by
  have h' := h
  obtain ⟨A, c, rfl, h1, h2, h3, h4⟩ := h
  clear h4
  have q : ∀ (W : World) (a : Option Addr) (n c : Nat), (binOp .eql 48 (.slice a n c) (.slice none 0 0)).run Tryz.prog W = .ok (.bool a.isNone) W := fun W a n c => Lib.run_eql_slice_nil W _ _ a n c 0 0 kU.under
  rcases A with _ | x
  · have hc := h3 rfl
    subst hc
    have e : S = [] := List.eq_nil_of_length_eq_zero (by omega)
    subst e
    clear h' h1 h2 h3
    go_enter Tryz.func54, Tryz.ntmps54
    go_wp2
    go_ret
    exact ⟨_, rfl, Own.nil _ _, Below.refl _ _⟩
  · clear h3
    go_enter Tryz.func54, Tryz.ntmps54
    go_wp2_with (
      refine wpList_app (K := kU) rfl (.tmp 5) (.tmp 6) rfl rfl rfl rfl (Own.empty w w.heap.size (Nat.le_refl _)) (h'.alloc _) (by simp; omega) (by simp) ?_
      intro v' w' O' g' G')
    go_ret
    exact ⟨_, rfl, O', G'.below _ _ (Nat.le_refl _) (below_one _ _)⟩

theorem Fs.start {w0 w : World} {A : Option Addr} {c : Nat} {S : List Int} (h : Own kU w w0.heap.size (.slice A S.length c) S) (hB : Below w0.heap.size w0 w) (a : Int) :
    Fs w0 (w.alloc (.cells #[.int .i64 a, .slice A S.length c, .slice none 0 0, .bool false] 228)) w.heap.size a S [] false (.slice A S.length c) (.slice none 0 0) :=
  ⟨hB.alloc hB.size _, hB.size, by simp, by simp [go_sem], by simp [go_sem], by simp [go_sem], by simp [go_sem], fun o => by simp, h.below (below_one _ _), fun g e => (h.lt g e).2, Own.nil _ _⟩

/-- What Step tells. -/
def StepTold (w : World) (a : Int) (S D : List Int) (h : Bool) (e : Ending) (w' : World) : Prop :=
  ∃ vs vd, e = .returned (.tuple #[.int .i64 a, vs, vd, .bool h]) ∧ Own kU w' w.heap.size vs S ∧ Own kI w' w.heap.size vd D ∧ Below w.heap.size w w'
theorem Fs.told {w0 w : World} {p : Nat} {a : Int} {S D : List Int} {h : Bool} {vs vd : Value} (F : Fs w0 w p a S D h vs vd) : StepTold w0 a S D h (.returned (.tuple #[.int .i64 a, vs, vd, .bool h])) w :=
  ⟨vs, vd, rfl, F.slots, F.said.zero (by have := F.own; omega), F.below⟩
/-- What Run tells. -/
def RunTold (w : World) (r : R) (e : Ending) (w' : World) : Prop :=
  ∃ vs vd, e = .returned (.tuple #[vs, vd, .bool r.held, .int .i64 r.n]) ∧ Own kU w' w.heap.size vs r.S ∧ Own kI w' w.heap.size vd r.said ∧ Below w.heap.size w w'
theorem Fs.ran {w0 w : World} {p : Nat} {a : Int} {S D : List Int} {h : Bool} {vs vd : Value} (F : Fs w0 w p a S D h vs vd) (n : Nat) (r : R) (hr : r = ⟨S, D, h, n⟩) : RunTold w0 r (.returned (.tuple #[vs, vd, .bool h, .int .i64 n])) w := by
  subst hr
  exact ⟨vs, vd, rfl, F.slots, F.said.zero (by have := F.own; omega), F.below⟩
/-- A run from its beginning is what was done, and what is done from here on. -/
def Runs (L : List O) (S0 : List Int) (i : Nat) (S D : List Int) (h : Bool) (n : Nat) : Prop := walk L 0 S0 = ⟨(goes L i S).S, D ++ (goes L i S).said, h || (goes L i S).held, n + (goes L i S).n⟩
theorem Runs.start (L : List O) (S : List Int) : Runs L S 0 S [] false 0 := by
  unfold Runs goes
  simp
theorem Runs.step {L : List O} {S0 : List Int} {i : Nat} {S D : List Int} {h : Bool} {n : Nat} (r : Runs L S0 i S D h n) (hi : i < L.length) : Runs L S0 (i + 1 + (leftV S L[i]).toNat) (slotsV S L[i]) (D ++ sayV L[i]) (h || holdV L[i]) (n + 1) := by
  unfold Runs at *
  rw [r, goes_step hi]
  simp [List.append_assoc, Bool.or_assoc]
  omega
theorem Runs.done {L : List O} {S0 : List Int} {i : Nat} {S D : List Int} {h : Bool} {n : Nat} (r : Runs L S0 i S D h n) (hi : L.length ≤ i) : walk L 0 S0 = ⟨S, D, h, n⟩ := by
  unfold Runs at r
  rw [r, goes_end hi]
  simp
set_option maxRecDepth 100000 in
set_option maxHeartbeats 4000000 in
theorem run_any (w : World) (v u : Value) (L : List O) (S : List Int) (hL : Sr kF w v L) (hl : L.length ≤ 100000) (hs : Sr kU w u S) (hS : S.length ≤ 100000) (hb : okO L) (hk : okL L) :
    Calls Tryz.prog 177 #[v, u] w (RunTold w (walk L 0 S)) := by
  have hL' := hL
  obtain ⟨A2, cl, rfl, l1, l2⟩ := hL.form
  clear hL
  go_enter Tryz.func177, Tryz.ntmps177
  go_wp2_with fail
  refine (clone_any _ _ S hs hS).mono ?_
  rintro e w1 ⟨x, rfl, O1, k1⟩
  obtain ⟨A, c, rfl, c1, c2⟩ := O1.sr.form
  have F0 := Fs.start O1 k1 0
  have hp : w1.heap.size = w1.heap.size := rfl
  go_wp2
  go_loopw [9] (fun t wr => ∃ (n i : Nat) (S' D : List Int) (h : Bool) (vd : Value), n ≤ L.length ∧ t = .int .i64 n ∧ n ≤ i ∧ Fs w wr w1.heap.size i S' D h (.slice A S.length c) vd ∧ S'.length = S.length ∧ D.length ≤ n ∧ Hid (Runs L S i S' D h n)) (fun t _ => L.length - (intOf t).toNat)
  case atStart => exact ⟨0, 0, S, [], false, _, by omega, rfl, by omega, F0, rfl, by simp, Lib.hid (Runs.start L S)⟩
  case round =>
    obtain ⟨n, i, S', D, h, vd, hn, rfl, hni, F, hS', hD, hR⟩ := hrel
    by_cases hlt : n < L.length
    · have z1 : decide ((n : Int) < (L.length : Int)) = true := decide_eq_true (by omega)
      by_cases hi : i < L.length
      · go_wp2_with fail
        refine (step_yes F hL' hl hi hb hk (by omega) (by omega)).mono ?_
        rintro e w2 ⟨rfl, vd2, F1⟩
        have b := left_bd hk (List.getElem_mem hi) S'
        have e1 : (i : Int) + 1 + leftV S' L[i] = ((i + 1 + (leftV S' L[i]).toNat : Nat) : Int) := by omega
        rw [e1] at F1
        clear e1
        have Y := Lib.hid (hR.out.step hi)
        have hl2 := slots_len S' L[i]
        have hs2 : (D ++ sayV L[i]).length ≤ n + 1 := by
          have : (sayV L[i]).length ≤ 1 := by unfold sayV; split <;> simp
          rw [List.length_append]; omega
        go_wp2
        go_roundw
        case rel => exact ⟨n + 1, _, _, _, _, _, by omega, by go_num, by omega, F1, by omega, hs2, Y⟩
        case measure => simp [intOf]; omega
      · go_wp2_with fail
        refine (step_no F hL' hl (decide_eq_false (by omega))).mono ?_
        rintro e w2 ⟨rfl, F1⟩
        have Y := hR.out.done (by omega)
        have z2 := F1.c1
        have z3 := F1.c2
        have z4 := F1.c3
        have T := (F1.call (below_drew _)).ran n _ Y
        clear F F1 Y
        go_wp2
        go_region
        go_wp2
        exact bodyPost_ret (v := .tuple #[.slice A S.length c, vd, .bool h, .int .i64 n]) (by simp [results, Tryz.results177, go_sem]) rfl T
    · have z1 : decide ((n : Int) < (L.length : Int)) = false := decide_eq_false (by omega)
      have Y := hR.out.done (by omega)
      have z2 := F.c1
      have z3 := F.c2
      have z4 := F.c3
      have T := (F.call (below_drew _)).ran n _ Y
      clear F Y
      go_wp2
      go_region
      go_wp2
      exact bodyPost_ret (v := .tuple #[.slice A S.length c, vd, .bool h, .int .i64 n]) (by simp [results, Tryz.results177, go_sem]) rfl T
end Go.Proofs.YtneggppfffekdaaGreat.Fina
