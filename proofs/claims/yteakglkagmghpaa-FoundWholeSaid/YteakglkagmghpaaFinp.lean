/-
  Finalizers, plain mathematics: which ops may be, what one does, what a run of them does, and what is so of it.
-/
import Derived.Test.YteakglkagmghpaaProg
import Derived.Test.YteakglkagmghpaaBase
import Derived.Laws.Tables
import Derived.Laws.EntriesVeiled
import Derived.Deep.RegionLaw
import Derived.Lib.SliceRun
namespace Go.Proofs.Yteakglkagmghpaa.Fina
set_option linter.unusedVariables false

/-- An op: which, A, B. -/
abbrev O := Int × Int × Int
def oneP (o : O) : Prop := (o.1 = 0 ∧ 0 ≤ o.2.1 ∧ o.2.1 ≤ 99 ∧ o.2.2 = 0) ∨ (o.1 = 1 ∧ 0 ≤ o.2.1 ∧ o.2.1 ≤ 5 ∧ o.2.2 = 0) ∨ (o.1 = 2 ∧ 0 ≤ o.2.1 ∧ o.2.1 ≤ 5 ∧ 0 ≤ o.2.2 ∧ o.2.2 ≤ 5) ∨
  (o.1 = 3 ∧ 0 ≤ o.2.1 ∧ o.2.1 ≤ 5 ∧ 0 ≤ o.2.2 ∧ o.2.2 ≤ 8) ∨ (o.1 = 4 ∧ o.2.1 = 0 ∧ o.2.2 = 0)
instance (o : O) : Decidable (oneP o) := by unfold oneP; infer_instance
def oneB (o : O) : Bool := decide (oneP o)
def progB (L : List O) : Bool := decide (L.length ≤ 8) && L.all oneB
def rightB (L : List (List O)) : Bool := decide (L.length ≤ 8) && L.all progB

/-- Whether a slot is there. -/
def inB (n : Int) (k : Nat) : Bool := decide (0 ≤ n ∧ n < (k : Int))
def slotsV (S : List Int) (o : O) : List Int :=
  if o.1 = 1 then (if inB o.2.1 S.length = true then S.set o.2.1.toNat 0 else S)
  else if o.1 = 2 then (if inB o.2.1 S.length = true ∧ inB o.2.2 S.length = true then S.set o.2.1.toNat (S.getD o.2.2.toNat 0) else S)
  else S
/-- How many ops are left out. -/
def leftV (S : List Int) (o : O) : Int := if o.1 = 3 ∧ inB o.2.1 S.length = true ∧ S.getD o.2.1.toNat 0 = 0 then o.2.2 else 0
def sayV (o : O) : List Int := if o.1 = 0 then [o.2.1] else []
def holdV (o : O) : Bool := decide (o.1 = 4)

/-- What a run leaves. -/
structure R where
  S : List Int
  said : List Int
  held : Bool
  n : Nat
/-- A run of which the first k ops are left out. -/
def walk : List O → Nat → List Int → R
  | [], _, S => ⟨S, [], false, 0⟩
  | _ :: r, k + 1, S => walk r k S
  | o :: r, 0, S => ⟨(walk r (leftV S o).toNat (slotsV S o)).S, sayV o ++ (walk r (leftV S o).toNat (slotsV S o)).said, holdV o || (walk r (leftV S o).toNat (slotsV S o)).held, (walk r (leftV S o).toNat (slotsV S o)).n + 1⟩
theorem walk_drop : ∀ (L : List O) (k : Nat) (S : List Int), walk L k S = walk (L.drop k) 0 S
  | [], k, S => by simp [walk]
  | _ :: r, 0, S => rfl
  | _ :: r, k + 1, S => by rw [walk, List.drop_succ_cons]; exact walk_drop r k S
/-- What a run does from a place on. -/
def goes (L : List O) (i : Nat) (S : List Int) : R := walk (L.drop i) 0 S
theorem goes_end {L : List O} {i : Nat} {S : List Int} (h : L.length ≤ i) : goes L i S = ⟨S, [], false, 0⟩ := by
  unfold goes
  rw [List.drop_of_length_le h]
  rfl
theorem goes_step {L : List O} {i : Nat} {S : List Int} (h : i < L.length) : goes L i S =
    ⟨(goes L (i + 1 + (leftV S L[i]).toNat) (slotsV S L[i])).S, sayV L[i] ++ (goes L (i + 1 + (leftV S L[i]).toNat) (slotsV S L[i])).said, holdV L[i] || (goes L (i + 1 + (leftV S L[i]).toNat) (slotsV S L[i])).held, (goes L (i + 1 + (leftV S L[i]).toNat) (slotsV S L[i])).n + 1⟩ := by
  unfold goes
  rw [List.drop_eq_getElem_cons h, walk]
  have e : walk (L.drop (i + 1)) (leftV S L[i]).toNat (slotsV S L[i]) = walk (L.drop (i + 1 + (leftV S L[i]).toNat)) 0 (slotsV S L[i]) := by
    rw [walk_drop, List.drop_drop]
  rw [e]
/-- Ops that are bytes. -/
def okO (L : List O) : Prop := ∀ o ∈ L, 0 ≤ o.1 ∧ o.1 ≤ 255
/-- Ops of which none leads back, or far. -/
def okL (L : List O) : Prop := ∀ o ∈ L, o.1 = 3 → 0 ≤ o.2.2 ∧ o.2.2 ≤ 100
theorem slots_len (S : List Int) (o : O) : (slotsV S o).length = S.length := by
  unfold slotsV
  split
  · split <;> simp
  · split
    · split <;> simp
    · rfl
theorem walk_len : ∀ (L : List O) (k : Nat) (S : List Int), (walk L k S).S.length = S.length ∧ (walk L k S).n ≤ L.length ∧ (walk L k S).said.length ≤ (walk L k S).n
  | [], k, S => by simp [walk]
  | _ :: r, k + 1, S => by
    have := walk_len r k S
    rw [walk]
    simp only [List.length_cons]
    omega
  | o :: r, 0, S => by
    have := walk_len r (leftV S o).toNat (slotsV S o)
    rw [slots_len] at this
    rw [walk]
    have hs : (sayV o).length ≤ 1 := by unfold sayV; split <;> simp
    simp only [List.length_cons, List.length_append]
    omega
theorem slots_in (S : List Int) (o : O) : ∀ x ∈ slotsV S o, x = 0 ∨ x ∈ S := by
  intro x hx
  unfold slotsV at hx
  split at hx
  · split at hx
    · rcases List.mem_or_eq_of_mem_set hx with h | h
      · exact .inr h
      · exact .inl h
    · exact .inr hx
  · split at hx
    · split at hx
      · rename_i k
        rcases List.mem_or_eq_of_mem_set hx with h | h
        · exact .inr h
        · have hk := k.2
          simp only [inB, decide_eq_true_eq] at hk
          rw [List.getD_eq_getElem?_getD, List.getElem?_eq_getElem (by omega)] at h
          exact .inr (h ▸ List.getElem_mem _)
      · exact .inr hx
    · exact .inr hx
theorem walk_mem : ∀ (L : List O) (k : Nat) (S : List Int), ∀ x ∈ (walk L k S).S, x = 0 ∨ x ∈ S
  | [], k, S => by intro x hx; exact .inr hx
  | _ :: r, k + 1, S => by rw [walk]; exact walk_mem r k S
  | o :: r, 0, S => by
    intro x hx
    rw [walk] at hx
    rcases walk_mem r _ _ x hx with h | h
    · exact .inl h
    · exact slots_in S o x h
/-- The op that the document's Fit makes of another one. -/
def fitO (o : O) : O :=
  if o.1 % 5 = 0 then (0, o.2.1 % 64, 0) else if o.1 % 5 = 1 then (1, o.2.1 % 8 % 6, 0) else if o.1 % 5 = 2 then (2, o.2.1 % 8 % 6, o.2.2 % 8 % 6)
  else if o.1 % 5 = 3 then (3, o.2.1 % 8 % 6, o.2.2 % 8) else (4, 0, 0)
def fitP (L : List O) : List O := (L.take 8).map fitO
end Go.Proofs.Yteakglkagmghpaa.Fina

/-
  Finalizers in memory: slices of ops, words and numbers; a run's state; contracts of fin's small functions.
-/
namespace Go.Proofs.Yteakglkagmghpaa.Fina
open Go.ChangeShapes Go.WideShapes Go.ChangeAt Go.RowKit
open Slic
set_option linter.unusedVariables false

def kU : Kd Int := { X := 39, T := 30, m := 1, by_ := 8, z := .int .u64 0, enc := fun x => [.int .u64 x], len := fun _ => rfl, one := fun _ u h => by simp at h; subst h; rfl, pos := by decide, small := by decide, zs := rfl, under := by kernel_rfl, info := by kernel_rfl, elem := by kernel_rfl }
def kI : Kd Int := { X := 32, T := 3, m := 1, by_ := 8, z := .int .i64 0, enc := fun x => [.int .i64 x], len := fun _ => rfl, one := fun _ u h => by simp at h; subst h; rfl, pos := by decide, small := by decide, zs := rfl, under := by kernel_rfl, info := by kernel_rfl, elem := by kernel_rfl }
def kF : Kd O := { X := 145, T := 196, m := 3, by_ := 24, z := .agg #[.int .u8 0, .int .i64 0, .int .i64 0], enc := fun x => [.int .u8 x.1, .int .i64 x.2.1, .int .i64 x.2.2], len := fun _ => rfl, one := fun _ u h => by simp at h; rcases h with rfl | rfl | rfl <;> rfl, pos := by decide, small := by decide, zs := rfl, under := by kernel_rfl, info := by kernel_rfl, elem := by kernel_rfl }
/-- Rows of slices: where each begins, its length and room. -/
def kR : Kd (Option Addr × Nat × Nat) := { X := 41, T := 145, m := 1, by_ := 24, z := .slice none 0 0, enc := fun x => [.slice x.1 x.2.1 x.2.2], len := fun _ => rfl, one := fun _ u h => by simp at h; subst h; rfl, pos := by decide, small := by decide, zs := rfl, under := by kernel_rfl, info := by kernel_rfl, elem := by kernel_rfl }

theorem op_at {w : World} {A : Option Addr} {n c : Nat} {L : List O} (h : Sr kF w (.slice A n c) L) (i : Nat) (hi : i < L.length) : ∃ g o, A = some ⟨g, o, none⟩ ∧ g < w.heap.size ∧
    w.cell? ⟨g, o + i * 3, none⟩ = some (.int .u8 (L[i]).1) ∧ w.cell? ⟨g, o + i * 3 + 1, none⟩ = some (.int .i64 (L[i]).2.1) ∧ w.cell? ⟨g, o + i * 3 + 2, none⟩ = some (.int .i64 (L[i]).2.2) := by
  obtain ⟨g, o, rfl, hg, hc⟩ := h.at i hi
  exact ⟨g, o, rfl, hg, hc 0 _ rfl, hc 1 _ rfl, hc 2 _ rfl⟩
theorem row_at {w : World} {A : Option Addr} {n c : Nat} {L : List (Option Addr × Nat × Nat)} (h : Sr kR w (.slice A n c) L) (i : Nat) (hi : i < L.length) : ∃ g o, A = some ⟨g, o, none⟩ ∧ g < w.heap.size ∧ w.cell? ⟨g, o + i, none⟩ = some (.slice (L[i]).1 (L[i]).2.1 (L[i]).2.2) := by
  obtain ⟨g, o, rfl, hg, hc⟩ := h.at i hi
  have := hc 0 _ rfl
  rw [show kR.m = 1 from rfl, Nat.mul_one, Nat.add_zero] at this
  exact ⟨g, o, rfl, hg, this⟩

/-- What a run has come to: the next place, the slots, what was said, whether it holds. -/
structure Fs (w0 w : World) (p : Nat) (a : Int) (S D : List Int) (h : Bool) (vs vd : Value) : Prop where
  below : Below w0.heap.size w0 w
  own : w0.heap.size ≤ p
  lt : p < w.heap.size
  c0 : w.cell? ⟨p, 0, none⟩ = some (.int .i64 a)
  c1 : w.cell? ⟨p, 1, none⟩ = some vs
  c2 : w.cell? ⟨p, 2, none⟩ = some vd
  c3 : w.cell? ⟨p, 3, none⟩ = some (.bool h)
  fz : ∀ o, w.frozen? ⟨p, o, none⟩ = false
  slots : Own kU w w0.heap.size vs S
  far : ∀ g, vs.ownBlock = some g → g < p
  said : Own kI w (p + 1) vd D
section
variable {w0 w w' : World} {p : Nat} {a : Int} {S D : List Int} {h : Bool} {vs vd : Value}
theorem Fs.call (F : Fs w0 w p a S D h vs vd) (k : Below w.heap.size w w') : Fs w0 w' p a S D h vs vd :=
  ⟨F.below.trans (k.mono F.below.size), F.own, Nat.lt_of_lt_of_le F.lt k.size, (k.cell (p := ⟨p, 0, none⟩) F.lt).trans F.c0, (k.cell (p := ⟨p, 1, none⟩) F.lt).trans F.c1, (k.cell (p := ⟨p, 2, none⟩) F.lt).trans F.c2, (k.cell (p := ⟨p, 3, none⟩) F.lt).trans F.c3,
    fun o => (k.frozen (p := ⟨p, o, none⟩) F.lt).trans (F.fz o), F.slots.below k, F.far, F.said.below k⟩
theorem Fs.apart (F : Fs w0 w p a S D h vs vd) : (vs.ownBlock = none ∨ vs.ownBlock ≠ some p) ∧ (vd.ownBlock = none ∨ vd.ownBlock ≠ some p) := by
  constructor
  · cases e : vs.ownBlock with
    | none => exact .inl rfl
    | some g => exact .inr fun q => by injection q with q; have := F.far g e; omega
  · cases e : vd.ownBlock with
    | none => exact .inl rfl
    | some g => exact .inr fun q => by injection q with q; have := (F.said.lt g e).1; omega
/-- A slot is stored. -/
theorem Fs.slot {g c : Nat} (F : Fs w0 w p a S D h (.slice (some ⟨g, 0, none⟩) S.length c) vd) (i : Nat) (x : Int) (hi : i < S.length) : Fs w0 (w.setCell ⟨g, i, none⟩ (.int .u64 x)) p a (S.set i x) D h (.slice (some ⟨g, 0, none⟩) S.length c) vd := by
  have hg := F.far g rfl
  obtain ⟨r1, r2⟩ := F.slots.put i 0 hi (by decide) x (.int .u64 x) rfl
  rw [show kU.m = 1 from rfl, Nat.mul_one, Nat.add_zero] at r1 r2
  have ne : p ≠ g := by omega
  refine ⟨F.below.setCell (F.slots.lt g rfl).1 _, F.own, by simpa [World.setCell] using F.lt, by simp [go_sem, F.c0], by simp [go_sem, F.c1], by simp [go_sem, F.c2], by simp [go_sem, F.c3], fun o => by simp [F.fz o], r1, F.far, F.said.kept r2 ?_⟩
  cases e : vd.ownBlock with
  | none => exact .inl rfl
  | some k => exact .inr fun q => by injection q with q; have := (F.said.lt k e).1; omega
end

def withB (n lo hi : Int) : Bool := decide (lo ≤ n ∧ n ≤ hi)
set_option maxHeartbeats 1000000 in
theorem within_any (n lo hi : Int) (w : World) : Calls Try.prog 91 #[.int .i64 n, .int .i64 lo, .int .i64 hi] w fun e w' => e = .returned (.bool (withB n lo hi)) ∧ w = w' := by
  by_cases h1 : lo ≤ n
  · by_cases h2 : n ≤ hi
    · have k1 : decide (lo ≤ n) = true := decide_eq_true h1
      have k2 : decide (n ≤ hi) = true := decide_eq_true h2
      have k : Hid (withB n lo hi = true) := Lib.hid (decide_eq_true ⟨h1, h2⟩)
      go_enter Try.func91, Try.ntmps91
      go_wp2
      go_ret
      exact ⟨ret_bool k.out.symm, rfl⟩
    · have k1 : decide (lo ≤ n) = true := decide_eq_true h1
      have k2 : decide (n ≤ hi) = false := decide_eq_false h2
      have k : Hid (withB n lo hi = false) := Lib.hid (decide_eq_false fun q => h2 q.2)
      go_enter Try.func91, Try.ntmps91
      go_wp2
      go_ret
      exact ⟨ret_bool k.out.symm, rfl⟩
  · have k1 : decide (lo ≤ n) = false := decide_eq_false h1
    have k : Hid (withB n lo hi = false) := Lib.hid (decide_eq_false fun q => h1 q.1)
    go_enter Try.func91, Try.ntmps91
    go_wp2
    go_ret
    exact ⟨ret_bool k.out.symm, rfl⟩
end Go.Proofs.Yteakglkagmghpaa.Fina

/-
  Contracts of fin's kindOf, rightOp, rightProgram, Right, and of the document's in, one, Right.
-/
namespace Go.Proofs.Yteakglkagmghpaa.Fina
open Go.ChangeShapes Go.WideShapes Go.ChangeAt Go.RowKit
open Slic
set_option linter.unusedVariables false

end Go.Proofs.Yteakglkagmghpaa.Fina

/-
  Contracts of fin's rightOp, rightProgram, Right, and of the document's in, one, Right.
-/
namespace Go.Proofs.Yteakglkagmghpaa.Fina
open Go.ChangeShapes Go.WideShapes Go.ChangeAt Go.RowKit
open Slic
set_option linter.unusedVariables false

end Go.Proofs.Yteakglkagmghpaa.Fina

/-
  Rows of slices of ops; contracts of fin's Right and Of, and of the document's in, one, Right, Of.
-/
namespace Go.Proofs.Yteakglkagmghpaa.Fina
open Go.ChangeShapes Go.WideShapes Go.ChangeAt Go.RowKit
open Slic
set_option linter.unusedVariables false

/-- A slice of slices that reads as a list of lists. -/
def Rows (w : World) (v : Value) (LL : List (List O)) : Prop := ∃ Hs : List (Option Addr × Nat × Nat), Sr kR w v Hs ∧ Hs.length = LL.length ∧ ∀ (i : Nat) (h : i < Hs.length) (h' : i < LL.length), Sr kF w (.slice (Hs[i]).1 (Hs[i]).2.1 (Hs[i]).2.2) LL[i]
theorem Rows.below {w w' : World} {v : Value} {LL : List (List O)} (h : Rows w v LL) (k : Below w.heap.size w w') : Rows w' v LL := by
  obtain ⟨Hs, h1, h2, h3⟩ := h
  exact ⟨Hs, h1.below k, h2, fun i h h' => (h3 i h h').below k⟩
theorem Rows.form {w : World} {v : Value} {LL : List (List O)} (h : Rows w v LL) : ∃ A c, v = .slice A LL.length c ∧ LL.length ≤ c ∧ c ≤ maxLen := by
  obtain ⟨Hs, h1, h2, h3⟩ := h
  obtain ⟨A, c, rfl, h4, h5⟩ := h1.form
  exact ⟨A, c, by rw [h2], by omega, h5⟩
/-- The slice that is there at a place. -/
theorem Rows.at {w : World} {A : Option Addr} {n c : Nat} {LL : List (List O)} (h : Rows w (.slice A n c) LL) (i : Nat) (hi : i < LL.length) : ∃ g o B d, A = some ⟨g, o, none⟩ ∧ g < w.heap.size ∧ w.cell? ⟨g, o + i, none⟩ = some (.slice B (LL[i]).length d) ∧ Sr kF w (.slice B (LL[i]).length d) LL[i] ∧ (LL[i]).length ≤ d ∧ d ≤ maxLen := by
  obtain ⟨Hs, h1, h2, h3⟩ := h
  obtain ⟨g, o, rfl, hg, hc⟩ := row_at h1 i (by omega)
  have hS := h3 i (by omega) hi
  obtain ⟨B, d, e, k1, k2⟩ := hS.form
  rw [e] at hc hS
  exact ⟨g, o, B, d, rfl, hg, hc, hS, k1, k2⟩
def okOs (LL : List (List O)) : Prop := ∀ L ∈ LL, okO L

/-- A program of a tag: the row that is there, or none. -/
def ofV (LL : List (List O)) (n : Int) : List O := if inB n LL.length = true then LL.getD n.toNat [] else []
def Told (w : World) (L : List O) (e : Ending) (w' : World) : Prop := ∃ v, e = .returned v ∧ Sr kF w v L ∧ w = w'
set_option maxHeartbeats 1000000 in
theorem refof_any (w : World) (v : Value) (LL : List (List O)) (n : Int) (h : Rows w v LL) : Calls Try.prog 70 #[v, .int .i64 n] w (Told w (ofV LL n)) := by
  have h' := h
  obtain ⟨A, c, rfl, h1, h2⟩ := h.form
  clear h
  have hlen : LL.length ≤ 9223372036854775807 := by unfold maxLen at h2; omega
  cases hn : inB n LL.length with
  | true =>
    have e : ofV LL n = LL.getD n.toNat [] := if_pos hn
    obtain ⟨k, rfl⟩ : ∃ k : Nat, n = k := ⟨n.toNat, by simp only [inB, decide_eq_true_eq] at hn; omega⟩
    have hlt : k < LL.length := by simp only [inB, decide_eq_true_eq] at hn; omega
    rw [Int.toNat_natCast, List.getD_eq_getElem?_getD, List.getElem?_eq_getElem hlt] at e
    have E := Lib.hid e
    clear e hn
    obtain ⟨g, o, B, d, rfl, hg, hc, hS, _, _⟩ := h'.at k hlt
    have i1 : (k : Int) < (LL.length : Int) := by omega
    have z1 : decide ((LL.length : Int) ≤ (k : Int)) = false := decide_eq_false (by omega)
    have z2 : decide ((k : Int) < 0) = false := decide_eq_false (by omega)
    go_enter Try.func70, Try.ntmps70
    go_wp2
    go_ret
    exact ⟨_, rfl, by rw [E.out]; exact hS, rfl⟩
  | false =>
    have E := Lib.hid (show ofV LL n = [] from if_neg (by rw [hn]; simp))
    by_cases h0 : n < 0
    · have z2 : decide (n < 0) = true := decide_eq_true h0
      clear hn
      go_enter Try.func70, Try.ntmps70
      go_wp2
      go_ret
      exact ⟨_, rfl, by rw [E.out]; exact Sr.nil w, rfl⟩
    · have z2 : decide (n < 0) = false := decide_eq_false h0
      have z1 : decide ((LL.length : Int) ≤ n) = true := decide_eq_true (by simp only [inB, decide_eq_false_iff_not] at hn; omega)
      clear hn
      go_enter Try.func70, Try.ntmps70
      go_wp2
      go_ret
      exact ⟨_, rfl, by rw [E.out]; exact Sr.nil w, rfl⟩

end Go.Proofs.Yteakglkagmghpaa.Fina

/-
  Contracts of what fin's ops do, of step, Step and Run.
-/
namespace Go.Proofs.Yteakglkagmghpaa.Fina
open Go.ChangeShapes Go.WideShapes Go.ChangeAt Go.RowKit
open Slic
set_option linter.unusedVariables false

section
variable {w0 w : World} {p : Nat} {a : Int} {S D : List Int} {h : Bool} {vs vd : Value}
end
end Go.Proofs.Yteakglkagmghpaa.Fina

/-
  Contracts of fin's hasSlot, step, Step and Run.
-/
namespace Go.Proofs.Yteakglkagmghpaa.Fina
open Go.ChangeShapes Go.WideShapes Go.ChangeAt Go.RowKit
open Slic
set_option linter.unusedVariables false

section
variable {w0 w : World} {p : Nat} {S D : List Int} {h : Bool} {vs vd : Value}
end
end Go.Proofs.Yteakglkagmghpaa.Fina

/-
  Contracts of slices.Clone of words, of fin's Step and Run.
-/
namespace Go.Proofs.Yteakglkagmghpaa.Fina
open Go.ChangeShapes Go.WideShapes Go.ChangeAt Go.RowKit
open Slic
set_option linter.unusedVariables false

/-- A run from its beginning is what was done, and what is done from here on. -/
def Runs (L : List O) (S0 : List Int) (i : Nat) (S D : List Int) (h : Bool) (n : Nat) : Prop := walk L 0 S0 = ⟨(goes L i S).S, D ++ (goes L i S).said, h || (goes L i S).held, n + (goes L i S).n⟩
theorem Runs.start (L : List O) (S : List Int) : Runs L S 0 S [] false 0 := by
  unfold Runs goes
  simp
theorem Runs.step {L : List O} {S0 : List Int} {i : Nat} {S D : List Int} {h : Bool} {n : Nat} (r : Runs L S0 i S D h n) (hi : i < L.length) : Runs L S0 (i + 1 + (leftV S L[i]).toNat) (slotsV S L[i]) (D ++ sayV L[i]) (h || holdV L[i]) (n + 1) := by
  unfold Runs at *
  rw [r, goes_step hi]
  simp [List.append_assoc, Bool.or_assoc]
  omega
theorem Runs.done {L : List O} {S0 : List Int} {i : Nat} {S D : List Int} {h : Bool} {n : Nat} (r : Runs L S0 i S D h n) (hi : L.length ≤ i) : walk L 0 S0 = ⟨S, D, h, n⟩ := by
  unfold Runs at r
  rw [r, goes_end hi]
  simp
end Go.Proofs.Yteakglkagmghpaa.Fina
