/-
  Finalizers, plain mathematics: which ops may be, what one does, what a run of them does, and what is so of it.
-/
import Derived.Test.YteakglkagmghpaaGreatProg
import Derived.Test.YteakglkagmghpaaGreatBase
import Derived.Laws.Tables
import Derived.Laws.EntriesVeiled
import Derived.Deep.RegionLaw
import Derived.Lib.SliceRun
namespace Go.Proofs.YteakglkagmghpaaGreat.Fina
set_option linter.unusedVariables false

/-- An op: which, A, B. -/
abbrev O := Int × Int × Int
def oneP (o : O) : Prop := (o.1 = 0 ∧ 0 ≤ o.2.1 ∧ o.2.1 ≤ 99 ∧ o.2.2 = 0) ∨ (o.1 = 1 ∧ 0 ≤ o.2.1 ∧ o.2.1 ≤ 5 ∧ o.2.2 = 0) ∨ (o.1 = 2 ∧ 0 ≤ o.2.1 ∧ o.2.1 ≤ 5 ∧ 0 ≤ o.2.2 ∧ o.2.2 ≤ 5) ∨
  (o.1 = 3 ∧ 0 ≤ o.2.1 ∧ o.2.1 ≤ 5 ∧ 0 ≤ o.2.2 ∧ o.2.2 ≤ 8) ∨ (o.1 = 4 ∧ o.2.1 = 0 ∧ o.2.2 = 0)
instance (o : O) : Decidable (oneP o) := by unfold oneP; infer_instance
def oneB (o : O) : Bool := decide (oneP o)
def progB (L : List O) : Bool := decide (L.length ≤ 8) && L.all oneB
def rightB (L : List (List O)) : Bool := decide (L.length ≤ 8) && L.all progB

/-- Whether a slot is there. -/
def inB (n : Int) (k : Nat) : Bool := decide (0 ≤ n ∧ n < (k : Int))
def slotsV (S : List Int) (o : O) : List Int :=
  if o.1 = 1 then (if inB o.2.1 S.length = true then S.set o.2.1.toNat 0 else S)
  else if o.1 = 2 then (if inB o.2.1 S.length = true ∧ inB o.2.2 S.length = true then S.set o.2.1.toNat (S.getD o.2.2.toNat 0) else S)
  else S
/-- How many ops are left out. -/
def leftV (S : List Int) (o : O) : Int := if o.1 = 3 ∧ inB o.2.1 S.length = true ∧ S.getD o.2.1.toNat 0 = 0 then o.2.2 else 0
def sayV (o : O) : List Int := if o.1 = 0 then [o.2.1] else []
def holdV (o : O) : Bool := decide (o.1 = 4)

/-- What a run leaves. -/
structure R where
  S : List Int
  said : List Int
  held : Bool
  n : Nat
/-- A run of which the first k ops are left out. -/
def walk : List O → Nat → List Int → R
  | [], _, S => ⟨S, [], false, 0⟩
  | _ :: r, k + 1, S => walk r k S
  | o :: r, 0, S => ⟨(walk r (leftV S o).toNat (slotsV S o)).S, sayV o ++ (walk r (leftV S o).toNat (slotsV S o)).said, holdV o || (walk r (leftV S o).toNat (slotsV S o)).held, (walk r (leftV S o).toNat (slotsV S o)).n + 1⟩
theorem walk_drop : ∀ (L : List O) (k : Nat) (S : List Int), walk L k S = walk (L.drop k) 0 S
  | [], k, S => by simp [walk]
  | _ :: r, 0, S => rfl
  | _ :: r, k + 1, S => by rw [walk, List.drop_succ_cons]; exact walk_drop r k S
/-- What a run does from a place on. -/
def goes (L : List O) (i : Nat) (S : List Int) : R := walk (L.drop i) 0 S
theorem goes_end {L : List O} {i : Nat} {S : List Int} (h : L.length ≤ i) : goes L i S = ⟨S, [], false, 0⟩ := by
  unfold goes
  rw [List.drop_of_length_le h]
  rfl
theorem goes_step {L : List O} {i : Nat} {S : List Int} (h : i < L.length) : goes L i S =
    ⟨(goes L (i + 1 + (leftV S L[i]).toNat) (slotsV S L[i])).S, sayV L[i] ++ (goes L (i + 1 + (leftV S L[i]).toNat) (slotsV S L[i])).said, holdV L[i] || (goes L (i + 1 + (leftV S L[i]).toNat) (slotsV S L[i])).held, (goes L (i + 1 + (leftV S L[i]).toNat) (slotsV S L[i])).n + 1⟩ := by
  unfold goes
  rw [List.drop_eq_getElem_cons h, walk]
  have e : walk (L.drop (i + 1)) (leftV S L[i]).toNat (slotsV S L[i]) = walk (L.drop (i + 1 + (leftV S L[i]).toNat)) 0 (slotsV S L[i]) := by
    rw [walk_drop, List.drop_drop]
  rw [e]
/-- Ops that are bytes. -/
def okO (L : List O) : Prop := ∀ o ∈ L, 0 ≤ o.1 ∧ o.1 ≤ 255
/-- Ops of which none leads back, or far. -/
def okL (L : List O) : Prop := ∀ o ∈ L, o.1 = 3 → 0 ≤ o.2.2 ∧ o.2.2 ≤ 100
theorem slots_len (S : List Int) (o : O) : (slotsV S o).length = S.length := by
  unfold slotsV
  split
  · split <;> simp
  · split
    · split <;> simp
    · rfl
theorem walk_len : ∀ (L : List O) (k : Nat) (S : List Int), (walk L k S).S.length = S.length ∧ (walk L k S).n ≤ L.length ∧ (walk L k S).said.length ≤ (walk L k S).n
  | [], k, S => by simp [walk]
  | _ :: r, k + 1, S => by
    have := walk_len r k S
    rw [walk]
    simp only [List.length_cons]
    omega
  | o :: r, 0, S => by
    have := walk_len r (leftV S o).toNat (slotsV S o)
    rw [slots_len] at this
    rw [walk]
    have hs : (sayV o).length ≤ 1 := by unfold sayV; split <;> simp
    simp only [List.length_cons, List.length_append]
    omega
theorem slots_in (S : List Int) (o : O) : ∀ x ∈ slotsV S o, x = 0 ∨ x ∈ S := by
  intro x hx
  unfold slotsV at hx
  split at hx
  · split at hx
    · rcases List.mem_or_eq_of_mem_set hx with h | h
      · exact .inr h
      · exact .inl h
    · exact .inr hx
  · split at hx
    · split at hx
      · rename_i k
        rcases List.mem_or_eq_of_mem_set hx with h | h
        · exact .inr h
        · have hk := k.2
          simp only [inB, decide_eq_true_eq] at hk
          rw [List.getD_eq_getElem?_getD, List.getElem?_eq_getElem (by omega)] at h
          exact .inr (h ▸ List.getElem_mem _)
      · exact .inr hx
    · exact .inr hx
theorem walk_mem : ∀ (L : List O) (k : Nat) (S : List Int), ∀ x ∈ (walk L k S).S, x = 0 ∨ x ∈ S
  | [], k, S => by intro x hx; exact .inr hx
  | _ :: r, k + 1, S => by rw [walk]; exact walk_mem r k S
  | o :: r, 0, S => by
    intro x hx
    rw [walk] at hx
    rcases walk_mem r _ _ x hx with h | h
    · exact .inl h
    · exact slots_in S o x h
/-- The op that the document's Fit makes of another one. -/
def fitO (o : O) : O :=
  if o.1 % 5 = 0 then (0, o.2.1 % 64, 0) else if o.1 % 5 = 1 then (1, o.2.1 % 8 % 6, 0) else if o.1 % 5 = 2 then (2, o.2.1 % 8 % 6, o.2.2 % 8 % 6)
  else if o.1 % 5 = 3 then (3, o.2.1 % 8 % 6, o.2.2 % 8) else (4, 0, 0)
def fitP (L : List O) : List O := (L.take 8).map fitO
def fitL (L : List (List O)) : List (List O) := (L.take 8).map fitP
end Go.Proofs.YteakglkagmghpaaGreat.Fina

/-
  Finalizers in memory: slices of ops, words and numbers; a run's state; contracts of fin's small functions.
-/
namespace Go.Proofs.YteakglkagmghpaaGreat.Fina
open Go.ChangeShapes Go.WideShapes Go.ChangeAt Go.RowKit
open Slic
set_option linter.unusedVariables false

def kU : Kd Int := { X := 48, T := 50, m := 1, by_ := 8, z := .int .u64 0, enc := fun x => [.int .u64 x], len := fun _ => rfl, one := fun _ u h => by simp at h; subst h; rfl, pos := by decide, small := by decide, zs := rfl, under := by kernel_rfl, info := by kernel_rfl, elem := by kernel_rfl }
def kI : Kd Int := { X := 40, T := 3, m := 1, by_ := 8, z := .int .i64 0, enc := fun x => [.int .i64 x], len := fun _ => rfl, one := fun _ u h => by simp at h; subst h; rfl, pos := by decide, small := by decide, zs := rfl, under := by kernel_rfl, info := by kernel_rfl, elem := by kernel_rfl }
def kF : Kd O := { X := 109, T := 111, m := 3, by_ := 24, z := .agg #[.int .u8 0, .int .i64 0, .int .i64 0], enc := fun x => [.int .u8 x.1, .int .i64 x.2.1, .int .i64 x.2.2], len := fun _ => rfl, one := fun _ u h => by simp at h; rcases h with rfl | rfl | rfl <;> rfl, pos := by decide, small := by decide, zs := rfl, under := by kernel_rfl, info := by kernel_rfl, elem := by kernel_rfl }
/-- Rows of slices: where each begins, its length and room. -/
def kR : Kd (Option Addr × Nat × Nat) := { X := 24, T := 109, m := 1, by_ := 24, z := .slice none 0 0, enc := fun x => [.slice x.1 x.2.1 x.2.2], len := fun _ => rfl, one := fun _ u h => by simp at h; subst h; rfl, pos := by decide, small := by decide, zs := rfl, under := by kernel_rfl, info := by kernel_rfl, elem := by kernel_rfl }

theorem op_at {w : World} {A : Option Addr} {n c : Nat} {L : List O} (h : Sr kF w (.slice A n c) L) (i : Nat) (hi : i < L.length) : ∃ g o, A = some ⟨g, o, none⟩ ∧ g < w.heap.size ∧
    w.cell? ⟨g, o + i * 3, none⟩ = some (.int .u8 (L[i]).1) ∧ w.cell? ⟨g, o + i * 3 + 1, none⟩ = some (.int .i64 (L[i]).2.1) ∧ w.cell? ⟨g, o + i * 3 + 2, none⟩ = some (.int .i64 (L[i]).2.2) := by
  obtain ⟨g, o, rfl, hg, hc⟩ := h.at i hi
  exact ⟨g, o, rfl, hg, hc 0 _ rfl, hc 1 _ rfl, hc 2 _ rfl⟩
theorem num_at {w : World} {A : Option Addr} {n c : Nat} {L : List Int} (h : Sr kI w (.slice A n c) L) (i : Nat) (hi : i < L.length) : ∃ g o, A = some ⟨g, o, none⟩ ∧ g < w.heap.size ∧ w.cell? ⟨g, o + i, none⟩ = some (.int .i64 L[i]) := by
  obtain ⟨g, o, rfl, hg, hc⟩ := h.at i hi
  have := hc 0 _ rfl
  rw [show kI.m = 1 from rfl, Nat.mul_one, Nat.add_zero] at this
  exact ⟨g, o, rfl, hg, this⟩
theorem row_at {w : World} {A : Option Addr} {n c : Nat} {L : List (Option Addr × Nat × Nat)} (h : Sr kR w (.slice A n c) L) (i : Nat) (hi : i < L.length) : ∃ g o, A = some ⟨g, o, none⟩ ∧ g < w.heap.size ∧ w.cell? ⟨g, o + i, none⟩ = some (.slice (L[i]).1 (L[i]).2.1 (L[i]).2.2) := by
  obtain ⟨g, o, rfl, hg, hc⟩ := h.at i hi
  have := hc 0 _ rfl
  rw [show kR.m = 1 from rfl, Nat.mul_one, Nat.add_zero] at this
  exact ⟨g, o, rfl, hg, this⟩

theorem put_grown (w : World) (a : Addr) (v : Value) : w.grownBy (w.setCell a v) (some a.block) :=
  ⟨rfl, rfl, rfl, by simp, fun k _ hk => heap_setCell_other w a k v (fun e => hk (by simp [e]))⟩

/-- What a run has come to: the next place, the slots, what was said, whether it holds. -/
structure Fs (w0 w : World) (p : Nat) (a : Int) (S D : List Int) (h : Bool) (vs vd : Value) : Prop where
  below : Below w0.heap.size w0 w
  own : w0.heap.size ≤ p
  lt : p < w.heap.size
  c0 : w.cell? ⟨p, 0, none⟩ = some (.int .i64 a)
  c1 : w.cell? ⟨p, 1, none⟩ = some vs
  c2 : w.cell? ⟨p, 2, none⟩ = some vd
  c3 : w.cell? ⟨p, 3, none⟩ = some (.bool h)
  fz : ∀ o, w.frozen? ⟨p, o, none⟩ = false
  slots : Own kU w w0.heap.size vs S
  far : ∀ g, vs.ownBlock = some g → g < p
  said : Own kI w (p + 1) vd D
section
variable {w0 w w' : World} {p : Nat} {a : Int} {S D : List Int} {h : Bool} {vs vd : Value}
theorem Fs.call (F : Fs w0 w p a S D h vs vd) (k : Below w.heap.size w w') : Fs w0 w' p a S D h vs vd :=
  ⟨F.below.trans (k.mono F.below.size), F.own, Nat.lt_of_lt_of_le F.lt k.size, (k.cell (p := ⟨p, 0, none⟩) F.lt).trans F.c0, (k.cell (p := ⟨p, 1, none⟩) F.lt).trans F.c1, (k.cell (p := ⟨p, 2, none⟩) F.lt).trans F.c2, (k.cell (p := ⟨p, 3, none⟩) F.lt).trans F.c3,
    fun o => (k.frozen (p := ⟨p, o, none⟩) F.lt).trans (F.fz o), F.slots.below k, F.far, F.said.below k⟩
theorem Fs.apart (F : Fs w0 w p a S D h vs vd) : (vs.ownBlock = none ∨ vs.ownBlock ≠ some p) ∧ (vd.ownBlock = none ∨ vd.ownBlock ≠ some p) := by
  constructor
  · cases e : vs.ownBlock with
    | none => exact .inl rfl
    | some g => exact .inr fun q => by injection q with q; have := F.far g e; omega
  · cases e : vd.ownBlock with
    | none => exact .inl rfl
    | some g => exact .inr fun q => by injection q with q; have := (F.said.lt g e).1; omega
/-- It holds. -/
theorem Fs.hold (F : Fs w0 w p a S D h vs vd) : Fs w0 (w.setCell ⟨p, 3, none⟩ (.bool true)) p a S D true vs vd := by
  have G := put_grown w ⟨p, 3, none⟩ (.bool true)
  refine ⟨F.below.setCell F.own _, F.own, by simpa [World.setCell] using F.lt, by simp [go_sem, F.c0], by simp [go_sem, F.c1], by simp [go_sem, F.c2], by simp [go_sem, F.c3], fun o => by simp [F.fz o], F.slots.kept G F.apart.1, F.far, F.said.kept G F.apart.2⟩
/-- A slot is stored. -/
theorem Fs.slot {g c : Nat} (F : Fs w0 w p a S D h (.slice (some ⟨g, 0, none⟩) S.length c) vd) (i : Nat) (x : Int) (hi : i < S.length) : Fs w0 (w.setCell ⟨g, i, none⟩ (.int .u64 x)) p a (S.set i x) D h (.slice (some ⟨g, 0, none⟩) S.length c) vd := by
  have hg := F.far g rfl
  obtain ⟨r1, r2⟩ := F.slots.put i 0 hi (by decide) x (.int .u64 x) rfl
  rw [show kU.m = 1 from rfl, Nat.mul_one, Nat.add_zero] at r1 r2
  have ne : p ≠ g := by omega
  refine ⟨F.below.setCell (F.slots.lt g rfl).1 _, F.own, by simpa [World.setCell] using F.lt, by simp [go_sem, F.c0], by simp [go_sem, F.c1], by simp [go_sem, F.c2], by simp [go_sem, F.c3], fun o => by simp [F.fz o], r1, F.far, F.said.kept r2 ?_⟩
  cases e : vd.ownBlock with
  | none => exact .inl rfl
  | some k => exact .inr fun q => by injection q with q; have := (F.said.lt k e).1; omega
end

def withB (n lo hi : Int) : Bool := decide (lo ≤ n ∧ n ≤ hi)
set_option maxHeartbeats 1000000 in
theorem within_any (n lo hi : Int) (w : World) : Calls Tryz.prog 90 #[.int .i64 n, .int .i64 lo, .int .i64 hi] w fun e w' => e = .returned (.bool (withB n lo hi)) ∧ w = w' := by
  by_cases h1 : lo ≤ n
  · by_cases h2 : n ≤ hi
    · have k1 : decide (lo ≤ n) = true := decide_eq_true h1
      have k2 : decide (n ≤ hi) = true := decide_eq_true h2
      have k : Hid (withB n lo hi = true) := Lib.hid (decide_eq_true ⟨h1, h2⟩)
      go_enter Tryz.func90, Tryz.ntmps90
      go_wp2
      go_ret
      exact ⟨ret_bool k.out.symm, rfl⟩
    · have k1 : decide (lo ≤ n) = true := decide_eq_true h1
      have k2 : decide (n ≤ hi) = false := decide_eq_false h2
      have k : Hid (withB n lo hi = false) := Lib.hid (decide_eq_false fun q => h2 q.2)
      go_enter Tryz.func90, Tryz.ntmps90
      go_wp2
      go_ret
      exact ⟨ret_bool k.out.symm, rfl⟩
  · have k1 : decide (lo ≤ n) = false := decide_eq_false h1
    have k : Hid (withB n lo hi = false) := Lib.hid (decide_eq_false fun q => h1 q.1)
    go_enter Tryz.func90, Tryz.ntmps90
    go_wp2
    go_ret
    exact ⟨ret_bool k.out.symm, rfl⟩
set_option maxHeartbeats 1000000 in
theorem place_any (n : Int) (k : Nat) (w : World) (hk : k ≤ 9223372036854775807) : Calls Tryz.prog 239 #[.int .i64 n, .int .i64 k] w fun e w' => e = .returned (.bool (inB n k)) ∧ w = w' := by
  have K : Hid (withB n 0 ((k : Int) - 1) = inB n k) := Lib.hid (decide_eq_decide.2 (by omega))
  go_enter Tryz.func239, Tryz.ntmps239
  go_wp2_with fail
  refine (within_any _ _ _ _).mono ?_
  rintro e w' ⟨rfl, rfl⟩
  rw [K.out]
  go_wp2
  go_ret
  exact ⟨rfl, rfl⟩
end Go.Proofs.YteakglkagmghpaaGreat.Fina

/-
  Contracts of fin's kindOf, rightOp, rightProgram, Right, and of the document's in, one, Right.
-/
namespace Go.Proofs.YteakglkagmghpaaGreat.Fina
open Go.ChangeShapes Go.WideShapes Go.ChangeAt Go.RowKit
open Slic
set_option linter.unusedVariables false

/-- The five kinds, laid one behind the other. -/
def ks : Array Value := #[.int .i64 99, .int .i64 0, .bool false, .bool false, .func (.func 204) #[] #[],
  .int .i64 5, .int .i64 0, .bool true, .bool false, .func (.func 205) #[] #[],
  .int .i64 5, .int .i64 5, .bool true, .bool true, .func (.func 206) #[] #[],
  .int .i64 5, .int .i64 8, .bool true, .bool false, .func (.func 207) #[] #[],
  .int .i64 0, .int .i64 0, .bool false, .bool false, .func (.func 208) #[] #[]]
theorem info_ks : (Tryz.prog.info? 275).map (·.size) = some ks.size := by kernel_rfl
theorem one_ks : ks.all (·.oneCell') = true := by kernel_rfl
theorem wpList_ks {ops : Array Oper} {rest : List Oper} {o : Oper} {a : Act} {w : World} {rc zs : Array Value} {Q : Exit → Act → World → Prop} (hg : o.guard = none) (x y : Operand) (ho : o.op = .store 275 x y)
    (hx : a.eval x = .pointer (some ⟨w.heap.size + 1, 0, none⟩)) (hy : a.eval y = .agg ks) (hz : zs.size = ks.size)
    (h : ∀ W, W.heap.size = w.heap.size + 2 → Below w.heap.size w W → (∀ k, W.cell? ⟨w.heap.size + 1, k, none⟩ = ks[k]?) → (∀ k, W.cell? ⟨w.heap.size, k, none⟩ = rc[k]?) → (∀ k, W.frozen? ⟨w.heap.size, k, none⟩ = false) → wpList Tryz.prog ops Q rest (a.put o.dst undef) W) :
    wpList Tryz.prog ops Q (o :: rest) a ((w.alloc (.cells rc 258)).alloc (.cells zs 275)) := by
  have e : (w.alloc (.cells rc 258)).heap.size = w.heap.size + 1 := by simp
  have hb := heap_alloc_new (w.alloc (.cells rc 258)) (.cells zs 275)
  rw [e] at hb
  have ho2 : ((w.alloc (.cells rc 258)).alloc (.cells zs 275)).heap[w.heap.size]? = some (.cells rc 258 (0, 0)) := by
    rw [Below.heap_alloc _ _ _ (by rw [e]; omega)]
    exact heap_alloc_new w _
  refine wpList_store_row hg 275 x y ho (w.heap.size + 1) ks hx hy 275 zs hb info_ks hz one_ks (h _ ?_ ?_ ?_ ?_ ?_)
  · simp [World.setRow]
  · refine ⟨rfl, rfl, rfl, by simp [World.setRow]; omega, fun k hk => ?_⟩
    rw [setRow_other _ _ k _ (by omega)]
    exact (Below.heap_alloc _ _ k (by rw [e]; omega)).trans (Below.heap_alloc w _ k hk)
  · exact fun k => cell_setRow_same _ _ k zs ks _ _ hb
  · intro k
    have hb' := (setRow_other ((w.alloc (.cells rc 258)).alloc (.cells zs 275)) (w.heap.size + 1) w.heap.size ks (by omega)).trans ho2
    exact cell_of_row _ w.heap.size k rc _ _ hb'
  · intro k
    have hb' := (setRow_other ((w.alloc (.cells rc 258)).alloc (.cells zs 275)) (w.heap.size + 1) w.heap.size ks (by omega)).trans ho2
    exact frozen_of_row _ w.heap.size k rc _ hb'

/-- Which kind an op is of. -/
def Kinds (op : Int) (w : World) (e : Ending) (w' : World) : Prop :=
  ((op = 0 ∧ e = .returned (.tuple #[.agg #[.int .i64 99, .int .i64 0, .bool false, .bool false, .func (.func 204) #[] #[]], .bool true])) ∨
   (op = 1 ∧ e = .returned (.tuple #[.agg #[.int .i64 5, .int .i64 0, .bool true, .bool false, .func (.func 205) #[] #[]], .bool true])) ∨
   (op = 2 ∧ e = .returned (.tuple #[.agg #[.int .i64 5, .int .i64 5, .bool true, .bool true, .func (.func 206) #[] #[]], .bool true])) ∨
   (op = 3 ∧ e = .returned (.tuple #[.agg #[.int .i64 5, .int .i64 8, .bool true, .bool false, .func (.func 207) #[] #[]], .bool true])) ∨
   (op = 4 ∧ e = .returned (.tuple #[.agg #[.int .i64 0, .int .i64 0, .bool false, .bool false, .func (.func 208) #[] #[]], .bool true])) ∨
   (5 ≤ op ∧ e = .returned (.tuple #[.agg #[.int .i64 0, .int .i64 0, .bool false, .bool false, .nilFunc], .bool false]))) ∧ Below w.heap.size w w'
set_option maxRecDepth 100000 in
set_option maxHeartbeats 2000000 in
theorem kind_any (op : Int) (w : World) (h0 : 0 ≤ op) (h1 : op ≤ 255) : Calls Tryz.prog 181 #[.int .u8 op] w (Kinds op w) := by
  by_cases h5 : 5 ≤ op
  · go_enter Tryz.func181, Tryz.ntmps181
    go_wp2_with (refine wpList_ks (o := ⟨none, _, _, _, _, _⟩) rfl (.tmp 4) (.tmp 10) rfl rfl rfl rfl ?_)
    intro W hz hB hc hr hf
    have r0 := hr 0
    have r1 := hr 1
    have r2 := hr 2
    have r3 := hr 3
    have r4 := hr 4
    have f0 := hf 0
    have f1 := hf 1
    have f2 := hf 2
    have f3 := hf 3
    have f4 := hf 4
    simp at r0 r1 r2 r3 r4
    clear hr hf hc
    have HZ := Lib.hid hz
    clear hz
    go_wp2
    refine bodyPost_ret (v := .tuple #[.agg #[.int .i64 0, .int .i64 0, .bool false, .bool false, .nilFunc], .bool false]) (by simp [results, Tryz.results181, go_sem, r0, r1, r2, r3, r4]) rfl ⟨.inr (.inr (.inr (.inr (.inr ⟨h5, rfl⟩)))), ?_⟩
    exact ((((hB.setCell (Nat.le_refl _) _).setCell (Nat.le_refl _) _).setCell (Nat.le_refl _) _).setCell (Nat.le_refl _) _).setCell (Nat.le_refl _) _
  · have : op = 0 ∨ op = 1 ∨ op = 2 ∨ op = 3 ∨ op = 4 := by omega
    clear h0 h1 h5
    rcases this with rfl | rfl | rfl | rfl | rfl
    · go_enter Tryz.func181, Tryz.ntmps181
      go_wp2_with (refine wpList_ks (o := ⟨none, _, _, _, _, _⟩) rfl (.tmp 4) (.tmp 10) rfl rfl rfl rfl ?_)
      intro W hz hB hc hr hf
      have r0 := hr 0
      have r1 := hr 1
      have r2 := hr 2
      have r3 := hr 3
      have r4 := hr 4
      have f0 := hf 0
      have f1 := hf 1
      have f2 := hf 2
      have f3 := hf 3
      have f4 := hf 4
      have d0 := (hc 0).trans rfl
      have d1 := (hc 1).trans rfl
      have d2 := (hc 2).trans rfl
      have d3 := (hc 3).trans rfl
      have d4 := (hc 4).trans rfl
      simp [ks] at r0 r1 r2 r3 r4 d0 d1 d2 d3 d4
      clear hr hf hc
      have HZ := Lib.hid hz
      clear hz
      go_wp2
      refine bodyPost_ret (v := .tuple #[.agg #[.int .i64 99, .int .i64 0, .bool false, .bool false, .func (.func 204) #[] #[]], .bool true]) (by simp [results, Tryz.results181, go_sem, r0, r1, r2, r3, r4]) rfl ⟨.inl ⟨rfl, rfl⟩, ?_⟩
      exact ((((hB.setCell (Nat.le_refl _) _).setCell (Nat.le_refl _) _).setCell (Nat.le_refl _) _).setCell (Nat.le_refl _) _).setCell (Nat.le_refl _) _
    · go_enter Tryz.func181, Tryz.ntmps181
      go_wp2_with (refine wpList_ks (o := ⟨none, _, _, _, _, _⟩) rfl (.tmp 4) (.tmp 10) rfl rfl rfl rfl ?_)
      intro W hz hB hc hr hf
      have r0 := hr 0
      have r1 := hr 1
      have r2 := hr 2
      have r3 := hr 3
      have r4 := hr 4
      have f0 := hf 0
      have f1 := hf 1
      have f2 := hf 2
      have f3 := hf 3
      have f4 := hf 4
      have d0 := (hc 5).trans rfl
      have d1 := (hc 6).trans rfl
      have d2 := (hc 7).trans rfl
      have d3 := (hc 8).trans rfl
      have d4 := (hc 9).trans rfl
      simp [ks] at r0 r1 r2 r3 r4 d0 d1 d2 d3 d4
      clear hr hf hc
      have HZ := Lib.hid hz
      clear hz
      go_wp2
      refine bodyPost_ret (v := .tuple #[.agg #[.int .i64 5, .int .i64 0, .bool true, .bool false, .func (.func 205) #[] #[]], .bool true]) (by simp [results, Tryz.results181, go_sem, r0, r1, r2, r3, r4]) rfl ⟨.inr (.inl ⟨rfl, rfl⟩), ?_⟩
      exact ((((hB.setCell (Nat.le_refl _) _).setCell (Nat.le_refl _) _).setCell (Nat.le_refl _) _).setCell (Nat.le_refl _) _).setCell (Nat.le_refl _) _
    · go_enter Tryz.func181, Tryz.ntmps181
      go_wp2_with (refine wpList_ks (o := ⟨none, _, _, _, _, _⟩) rfl (.tmp 4) (.tmp 10) rfl rfl rfl rfl ?_)
      intro W hz hB hc hr hf
      have r0 := hr 0
      have r1 := hr 1
      have r2 := hr 2
      have r3 := hr 3
      have r4 := hr 4
      have f0 := hf 0
      have f1 := hf 1
      have f2 := hf 2
      have f3 := hf 3
      have f4 := hf 4
      have d0 := (hc 10).trans rfl
      have d1 := (hc 11).trans rfl
      have d2 := (hc 12).trans rfl
      have d3 := (hc 13).trans rfl
      have d4 := (hc 14).trans rfl
      simp [ks] at r0 r1 r2 r3 r4 d0 d1 d2 d3 d4
      clear hr hf hc
      have HZ := Lib.hid hz
      clear hz
      go_wp2
      refine bodyPost_ret (v := .tuple #[.agg #[.int .i64 5, .int .i64 5, .bool true, .bool true, .func (.func 206) #[] #[]], .bool true]) (by simp [results, Tryz.results181, go_sem, r0, r1, r2, r3, r4]) rfl ⟨.inr (.inr (.inl ⟨rfl, rfl⟩)), ?_⟩
      exact ((((hB.setCell (Nat.le_refl _) _).setCell (Nat.le_refl _) _).setCell (Nat.le_refl _) _).setCell (Nat.le_refl _) _).setCell (Nat.le_refl _) _
    · go_enter Tryz.func181, Tryz.ntmps181
      go_wp2_with (refine wpList_ks (o := ⟨none, _, _, _, _, _⟩) rfl (.tmp 4) (.tmp 10) rfl rfl rfl rfl ?_)
      intro W hz hB hc hr hf
      have r0 := hr 0
      have r1 := hr 1
      have r2 := hr 2
      have r3 := hr 3
      have r4 := hr 4
      have f0 := hf 0
      have f1 := hf 1
      have f2 := hf 2
      have f3 := hf 3
      have f4 := hf 4
      have d0 := (hc 15).trans rfl
      have d1 := (hc 16).trans rfl
      have d2 := (hc 17).trans rfl
      have d3 := (hc 18).trans rfl
      have d4 := (hc 19).trans rfl
      simp [ks] at r0 r1 r2 r3 r4 d0 d1 d2 d3 d4
      clear hr hf hc
      have HZ := Lib.hid hz
      clear hz
      go_wp2
      refine bodyPost_ret (v := .tuple #[.agg #[.int .i64 5, .int .i64 8, .bool true, .bool false, .func (.func 207) #[] #[]], .bool true]) (by simp [results, Tryz.results181, go_sem, r0, r1, r2, r3, r4]) rfl ⟨.inr (.inr (.inr (.inl ⟨rfl, rfl⟩))), ?_⟩
      exact ((((hB.setCell (Nat.le_refl _) _).setCell (Nat.le_refl _) _).setCell (Nat.le_refl _) _).setCell (Nat.le_refl _) _).setCell (Nat.le_refl _) _
    · go_enter Tryz.func181, Tryz.ntmps181
      go_wp2_with (refine wpList_ks (o := ⟨none, _, _, _, _, _⟩) rfl (.tmp 4) (.tmp 10) rfl rfl rfl rfl ?_)
      intro W hz hB hc hr hf
      have r0 := hr 0
      have r1 := hr 1
      have r2 := hr 2
      have r3 := hr 3
      have r4 := hr 4
      have f0 := hf 0
      have f1 := hf 1
      have f2 := hf 2
      have f3 := hf 3
      have f4 := hf 4
      have d0 := (hc 20).trans rfl
      have d1 := (hc 21).trans rfl
      have d2 := (hc 22).trans rfl
      have d3 := (hc 23).trans rfl
      have d4 := (hc 24).trans rfl
      simp [ks] at r0 r1 r2 r3 r4 d0 d1 d2 d3 d4
      clear hr hf hc
      have HZ := Lib.hid hz
      clear hz
      go_wp2
      refine bodyPost_ret (v := .tuple #[.agg #[.int .i64 0, .int .i64 0, .bool false, .bool false, .func (.func 208) #[] #[]], .bool true]) (by simp [results, Tryz.results181, go_sem, r0, r1, r2, r3, r4]) rfl ⟨.inr (.inr (.inr (.inr (.inl ⟨rfl, rfl⟩)))), ?_⟩
      exact ((((hB.setCell (Nat.le_refl _) _).setCell (Nat.le_refl _) _).setCell (Nat.le_refl _) _).setCell (Nat.le_refl _) _).setCell (Nat.le_refl _) _
end Go.Proofs.YteakglkagmghpaaGreat.Fina

/-
  Contracts of fin's rightOp, rightProgram, Right, and of the document's in, one, Right.
-/
namespace Go.Proofs.YteakglkagmghpaaGreat.Fina
open Go.ChangeShapes Go.WideShapes Go.ChangeAt Go.RowKit
open Slic
set_option linter.unusedVariables false

set_option maxRecDepth 100000 in
set_option maxHeartbeats 2000000 in
theorem rightop_any (op a b : Int) (w : World) (h0 : 0 ≤ op) (h1 : op ≤ 255) : Calls Tryz.prog 137 #[.agg #[.int .u8 op, .int .i64 a, .int .i64 b]] w fun e w' => e = .returned (.bool (oneB (op, a, b))) ∧ Below w.heap.size w w' := by
  have go : ∀ x : Bool, Hid (oneB (op, a, b) = x) → Calls Tryz.prog 137 #[.agg #[.int .u8 op, .int .i64 a, .int .i64 b]] w fun e w' => e = .returned (.bool x) ∧ Below w.heap.size w w' := by
    intro x hx
    go_enter Tryz.func137, Tryz.ntmps137
    go_wp2_with fail
    refine (kind_any op _ h0 h1).mono ?_
    rintro e w1 ⟨hk, k1⟩
    have c0 : w1.cell? ⟨w.heap.size, 0, none⟩ = some (.int .u8 op) := (k1.cell (p := ⟨w.heap.size, 0, none⟩) (by simp)).trans (by simp [go_sem])
    have c1 : w1.cell? ⟨w.heap.size, 1, none⟩ = some (.int .i64 a) := (k1.cell (p := ⟨w.heap.size, 1, none⟩) (by simp)).trans (by simp [go_sem])
    have c2 : w1.cell? ⟨w.heap.size, 2, none⟩ = some (.int .i64 b) := (k1.cell (p := ⟨w.heap.size, 2, none⟩) (by simp)).trans (by simp [go_sem])
    have hz : w.heap.size < w1.heap.size := by have := k1.size; simp at this; omega
    have B1 : Below w.heap.size w w1 := (below_one _ _).trans (k1.mono (by simp))
    clear k1
    rcases hk with ⟨rfl, rfl⟩ | ⟨rfl, rfl⟩ | ⟨rfl, rfl⟩ | ⟨rfl, rfl⟩ | ⟨rfl, rfl⟩ | ⟨h5, rfl⟩
    · have q : (withB a 0 99 && withB b 0 0) = x := by
        rw [← hx.out, Bool.eq_iff_iff]; simp [withB, oneB, oneP]; omega
      clear hx
      cases h1' : withB a 0 99 with
      | false =>
        rw [h1', Bool.false_and] at q
        subst q
        go_wp2_with (go_at_call 90; refine (within_any _ _ _ _).mono ?_; rintro e w' ⟨rfl, rfl⟩)
        go_ret
        exact ⟨rfl, B1.alloc B1.size _⟩
      | true =>
        rw [h1', Bool.true_and] at q
        subst q
        go_wp2_with (go_at_call 90; refine (within_any _ _ _ _).mono ?_; rintro e w' ⟨rfl, rfl⟩)
        go_ret
        exact ⟨rfl, B1.alloc B1.size _⟩
    · have q : (withB a 0 5 && withB b 0 0) = x := by
        rw [← hx.out, Bool.eq_iff_iff]; simp [withB, oneB, oneP]; omega
      clear hx
      cases h1' : withB a 0 5 with
      | false =>
        rw [h1', Bool.false_and] at q
        subst q
        go_wp2_with (go_at_call 90; refine (within_any _ _ _ _).mono ?_; rintro e w' ⟨rfl, rfl⟩)
        go_ret
        exact ⟨rfl, B1.alloc B1.size _⟩
      | true =>
        rw [h1', Bool.true_and] at q
        subst q
        go_wp2_with (go_at_call 90; refine (within_any _ _ _ _).mono ?_; rintro e w' ⟨rfl, rfl⟩)
        go_ret
        exact ⟨rfl, B1.alloc B1.size _⟩
    · have q : (withB a 0 5 && withB b 0 5) = x := by
        rw [← hx.out, Bool.eq_iff_iff]; simp [withB, oneB, oneP]; omega
      clear hx
      cases h1' : withB a 0 5 with
      | false =>
        rw [h1', Bool.false_and] at q
        subst q
        go_wp2_with (go_at_call 90; refine (within_any _ _ _ _).mono ?_; rintro e w' ⟨rfl, rfl⟩)
        go_ret
        exact ⟨rfl, B1.alloc B1.size _⟩
      | true =>
        rw [h1', Bool.true_and] at q
        subst q
        go_wp2_with (go_at_call 90; refine (within_any _ _ _ _).mono ?_; rintro e w' ⟨rfl, rfl⟩)
        go_ret
        exact ⟨rfl, B1.alloc B1.size _⟩
    · have q : (withB a 0 5 && withB b 0 8) = x := by
        rw [← hx.out, Bool.eq_iff_iff]; simp [withB, oneB, oneP]; omega
      clear hx
      cases h1' : withB a 0 5 with
      | false =>
        rw [h1', Bool.false_and] at q
        subst q
        go_wp2_with (go_at_call 90; refine (within_any _ _ _ _).mono ?_; rintro e w' ⟨rfl, rfl⟩)
        go_ret
        exact ⟨rfl, B1.alloc B1.size _⟩
      | true =>
        rw [h1', Bool.true_and] at q
        subst q
        go_wp2_with (go_at_call 90; refine (within_any _ _ _ _).mono ?_; rintro e w' ⟨rfl, rfl⟩)
        go_ret
        exact ⟨rfl, B1.alloc B1.size _⟩
    · have q : (withB a 0 0 && withB b 0 0) = x := by
        rw [← hx.out, Bool.eq_iff_iff]; simp [withB, oneB, oneP]; omega
      clear hx
      cases h1' : withB a 0 0 with
      | false =>
        rw [h1', Bool.false_and] at q
        subst q
        go_wp2_with (go_at_call 90; refine (within_any _ _ _ _).mono ?_; rintro e w' ⟨rfl, rfl⟩)
        go_ret
        exact ⟨rfl, B1.alloc B1.size _⟩
      | true =>
        rw [h1', Bool.true_and] at q
        subst q
        go_wp2_with (go_at_call 90; refine (within_any _ _ _ _).mono ?_; rintro e w' ⟨rfl, rfl⟩)
        go_ret
        exact ⟨rfl, B1.alloc B1.size _⟩
    · have q : false = x := by
        rw [← hx.out, eq_comm]; exact decide_eq_false (fun h => by unfold oneP at h; simp only at h; omega)
      subst q
      clear hx
      go_wp2
      go_ret
      exact ⟨rfl, B1.alloc B1.size _⟩
  exact go _ (Lib.hid rfl)

set_option maxRecDepth 100000 in
set_option maxHeartbeats 2000000 in
theorem rightprog_any (w : World) (v : Value) (L : List O) (h : Sr kF w v L) (hb : okO L) : Calls Tryz.prog 92 #[v] w fun e w' => e = .returned (.bool (progB L)) ∧ Below w.heap.size w w' := by
  have h' := h
  obtain ⟨A, c, rfl, h1, h2⟩ := h.form
  clear h
  have hlen : L.length ≤ 9223372036854775807 := by unfold maxLen at h2; omega
  by_cases h8 : L.length ≤ 8
  · have z8 : decide (8 < (L.length : Int)) = false := decide_eq_false (by omega)
    have P := Lib.hid (show progB L = L.all oneB by simp [progB, h8])
    go_enter Tryz.func92, Tryz.ntmps92
    go_wp2
    go_loopw [10] (fun t wr => ∃ k : Nat, k ≤ L.length ∧ t = .int .i64 k ∧ Below w.heap.size w wr ∧ Hid ((L.take k).all oneB = true)) (fun t _ => L.length - (intOf t).toNat)
    case atStart => exact ⟨0, by omega, rfl, Below.refl _ _, Lib.hid (by simp)⟩
    case round =>
      obtain ⟨k, hk, rfl, hB, hA⟩ := hrel
      by_cases hlt : k < L.length
      · obtain ⟨g, o, rfl, hg, d0, d1, d2⟩ := op_at (h'.below hB) k hlt
        have ho := hb _ (List.getElem_mem hlt)
        have T := Lib.hid (List.take_succ_eq_append_getElem hlt)
        have M := Lib.hid (List.getElem_mem hlt)
        generalize L[k] = q at *
        obtain ⟨op, a, b⟩ := q
        simp only at d0 d1 d2 ho
        have i1 : (k : Int) < (L.length : Int) := by omega
        go_wp2_with fail
        refine (rightop_any op a b _ ho.1 ho.2).mono ?_
        rintro e w1 ⟨rfl, k1⟩
        have B1 : Below w.heap.size w w1 := (hB.alloc hB.size _).trans (k1.mono (by have := hB.size; simp; omega))
        clear d0 d1 d2 k1 hg
        cases hq : oneB (op, a, b) with
        | true =>
          have Y : Hid ((L.take (k + 1)).all oneB = true) := Lib.hid (by rw [T.out, List.all_append, hA.out]; simp [hq])
          clear hq hA T
          go_wp2
          go_roundw
          case rel => exact ⟨k + 1, by omega, by go_num, B1, Y⟩
          case measure => simp [intOf]; omega
        | false =>
          have Y : Hid (progB L = false) := Lib.hid (by rw [P.out]; exact List.all_eq_false.2 ⟨_, M.out, by simp [hq]⟩)
          clear hq hA T
          go_wp2
          go_ret
          exact ⟨ret_bool Y.out.symm, B1⟩
      · obtain rfl : k = L.length := by omega
        have Y : Hid (progB L = true) := Lib.hid (by rw [P.out, ← hA.out, List.take_length])
        go_wp2
        go_ret
        exact ⟨ret_bool Y.out.symm, hB⟩
  · have z8 : decide (8 < (L.length : Int)) = true := decide_eq_true (by omega)
    have Y : Hid (progB L = false) := Lib.hid (by simp [progB, h8])
    go_enter Tryz.func92, Tryz.ntmps92
    go_wp2
    go_ret
    exact ⟨ret_bool Y.out.symm, Below.refl _ _⟩
end Go.Proofs.YteakglkagmghpaaGreat.Fina

/-
  Rows of slices of ops; contracts of fin's Right and Of, and of the document's in, one, Right, Of.
-/
namespace Go.Proofs.YteakglkagmghpaaGreat.Fina
open Go.ChangeShapes Go.WideShapes Go.ChangeAt Go.RowKit
open Slic
set_option linter.unusedVariables false

/-- A slice of slices that reads as a list of lists. -/
def Rows (w : World) (v : Value) (LL : List (List O)) : Prop := ∃ Hs : List (Option Addr × Nat × Nat), Sr kR w v Hs ∧ Hs.length = LL.length ∧ ∀ (i : Nat) (h : i < Hs.length) (h' : i < LL.length), Sr kF w (.slice (Hs[i]).1 (Hs[i]).2.1 (Hs[i]).2.2) LL[i]
theorem Rows.below {w w' : World} {v : Value} {LL : List (List O)} (h : Rows w v LL) (k : Below w.heap.size w w') : Rows w' v LL := by
  obtain ⟨Hs, h1, h2, h3⟩ := h
  exact ⟨Hs, h1.below k, h2, fun i h h' => (h3 i h h').below k⟩
theorem Rows.form {w : World} {v : Value} {LL : List (List O)} (h : Rows w v LL) : ∃ A c, v = .slice A LL.length c ∧ LL.length ≤ c ∧ c ≤ maxLen := by
  obtain ⟨Hs, h1, h2, h3⟩ := h
  obtain ⟨A, c, rfl, h4, h5⟩ := h1.form
  exact ⟨A, c, by rw [h2], by omega, h5⟩
/-- The slice that is there at a place. -/
theorem Rows.at {w : World} {A : Option Addr} {n c : Nat} {LL : List (List O)} (h : Rows w (.slice A n c) LL) (i : Nat) (hi : i < LL.length) : ∃ g o B d, A = some ⟨g, o, none⟩ ∧ g < w.heap.size ∧ w.cell? ⟨g, o + i, none⟩ = some (.slice B (LL[i]).length d) ∧ Sr kF w (.slice B (LL[i]).length d) LL[i] ∧ (LL[i]).length ≤ d ∧ d ≤ maxLen := by
  obtain ⟨Hs, h1, h2, h3⟩ := h
  obtain ⟨g, o, rfl, hg, hc⟩ := row_at h1 i (by omega)
  have hS := h3 i (by omega) hi
  obtain ⟨B, d, e, k1, k2⟩ := hS.form
  rw [e] at hc hS
  exact ⟨g, o, B, d, rfl, hg, hc, hS, k1, k2⟩
def okOs (LL : List (List O)) : Prop := ∀ L ∈ LL, okO L

set_option maxRecDepth 100000 in
set_option maxHeartbeats 2000000 in
theorem right_any (w : World) (v : Value) (LL : List (List O)) (h : Rows w v LL) (hb : okOs LL) : Calls Tryz.prog 43 #[v] w fun e w' => e = .returned (.bool (rightB LL)) ∧ Below w.heap.size w w' := by
  have h' := h
  obtain ⟨A, c, rfl, h1, h2⟩ := h.form
  clear h
  have hlen : LL.length ≤ 9223372036854775807 := by unfold maxLen at h2; omega
  by_cases h8 : LL.length ≤ 8
  · have z8 : decide (8 < (LL.length : Int)) = false := decide_eq_false (by omega)
    have P := Lib.hid (show rightB LL = LL.all progB by simp [rightB, h8])
    go_enter Tryz.func43, Tryz.ntmps43
    go_wp2
    go_loopw [10] (fun t wr => ∃ k : Nat, k ≤ LL.length ∧ t = .int .i64 k ∧ Below w.heap.size w wr ∧ Hid ((LL.take k).all progB = true)) (fun t _ => LL.length - (intOf t).toNat)
    case atStart => exact ⟨0, by omega, rfl, Below.refl _ _, Lib.hid (by simp)⟩
    case round =>
      obtain ⟨k, hk, rfl, hB, hA⟩ := hrel
      by_cases hlt : k < LL.length
      · obtain ⟨g, o, B, d, rfl, hg, hc, hS, _, _⟩ := (h'.below hB).at k hlt
        have ho := hb _ (List.getElem_mem hlt)
        have T := Lib.hid (List.take_succ_eq_append_getElem hlt)
        have M := Lib.hid (List.getElem_mem hlt)
        generalize LL[k] = L at *
        have i1 : (k : Int) < (LL.length : Int) := by omega
        go_wp2_with fail
        refine (rightprog_any _ _ L hS ho).mono ?_
        rintro e w1 ⟨rfl, k1⟩
        have B1 : Below w.heap.size w w1 := hB.trans (k1.mono hB.size)
        clear hc k1 hg hS
        cases hq : progB L with
        | true =>
          have Y : Hid ((LL.take (k + 1)).all progB = true) := Lib.hid (by rw [T.out, List.all_append, hA.out]; simp [hq])
          clear hq hA T
          go_wp2
          go_roundw
          case rel => exact ⟨k + 1, by omega, by go_num, B1, Y⟩
          case measure => simp [intOf]; omega
        | false =>
          have Y : Hid (rightB LL = false) := Lib.hid (by rw [P.out]; exact List.all_eq_false.2 ⟨_, M.out, by simp [hq]⟩)
          clear hq hA T
          go_wp2
          go_ret
          exact ⟨ret_bool Y.out.symm, B1⟩
      · obtain rfl : k = LL.length := by omega
        have Y : Hid (rightB LL = true) := Lib.hid (by rw [P.out, ← hA.out, List.take_length])
        go_wp2
        go_ret
        exact ⟨ret_bool Y.out.symm, hB⟩
  · have z8 : decide (8 < (LL.length : Int)) = true := decide_eq_true (by omega)
    have Y : Hid (rightB LL = false) := Lib.hid (by simp [rightB, h8])
    go_enter Tryz.func43, Tryz.ntmps43
    go_wp2
    go_ret
    exact ⟨ret_bool Y.out.symm, Below.refl _ _⟩

/-- A program of a tag: the row that is there, or none. -/
def ofV (LL : List (List O)) (n : Int) : List O := if inB n LL.length = true then LL.getD n.toNat [] else []
def Told (w : World) (L : List O) (e : Ending) (w' : World) : Prop := ∃ v, e = .returned v ∧ Sr kF w v L ∧ w = w'
set_option maxHeartbeats 1000000 in
theorem refof_any (w : World) (v : Value) (LL : List (List O)) (n : Int) (h : Rows w v LL) : Calls Tryz.prog 110 #[v, .int .i64 n] w (Told w (ofV LL n)) := by
  have h' := h
  obtain ⟨A, c, rfl, h1, h2⟩ := h.form
  clear h
  have hlen : LL.length ≤ 9223372036854775807 := by unfold maxLen at h2; omega
  cases hn : inB n LL.length with
  | true =>
    have e : ofV LL n = LL.getD n.toNat [] := if_pos hn
    obtain ⟨k, rfl⟩ : ∃ k : Nat, n = k := ⟨n.toNat, by simp only [inB, decide_eq_true_eq] at hn; omega⟩
    have hlt : k < LL.length := by simp only [inB, decide_eq_true_eq] at hn; omega
    rw [Int.toNat_natCast, List.getD_eq_getElem?_getD, List.getElem?_eq_getElem hlt] at e
    have E := Lib.hid e
    clear e hn
    obtain ⟨g, o, B, d, rfl, hg, hc, hS, _, _⟩ := h'.at k hlt
    have i1 : (k : Int) < (LL.length : Int) := by omega
    have z1 : decide ((LL.length : Int) ≤ (k : Int)) = false := decide_eq_false (by omega)
    have z2 : decide ((k : Int) < 0) = false := decide_eq_false (by omega)
    go_enter Tryz.func110, Tryz.ntmps110
    go_wp2
    go_ret
    exact ⟨_, rfl, by rw [E.out]; exact hS, rfl⟩
  | false =>
    have E := Lib.hid (show ofV LL n = [] from if_neg (by rw [hn]; simp))
    by_cases h0 : n < 0
    · have z2 : decide (n < 0) = true := decide_eq_true h0
      clear hn
      go_enter Tryz.func110, Tryz.ntmps110
      go_wp2
      go_ret
      exact ⟨_, rfl, by rw [E.out]; exact Sr.nil w, rfl⟩
    · have z2 : decide (n < 0) = false := decide_eq_false h0
      have z1 : decide ((LL.length : Int) ≤ n) = true := decide_eq_true (by simp only [inB, decide_eq_false_iff_not] at hn; omega)
      clear hn
      go_enter Tryz.func110, Tryz.ntmps110
      go_wp2
      go_ret
      exact ⟨_, rfl, by rw [E.out]; exact Sr.nil w, rfl⟩

end Go.Proofs.YteakglkagmghpaaGreat.Fina

/-
  Contracts of what fin's ops do, of step, Step and Run.
-/
namespace Go.Proofs.YteakglkagmghpaaGreat.Fina
open Go.ChangeShapes Go.WideShapes Go.ChangeAt Go.RowKit
open Slic
set_option linter.unusedVariables false

section
variable {w0 w : World} {p : Nat} {a : Int} {S D : List Int} {h : Bool} {vs vd : Value}
end
end Go.Proofs.YteakglkagmghpaaGreat.Fina

/-
  Contracts of fin's hasSlot, step, Step and Run.
-/
namespace Go.Proofs.YteakglkagmghpaaGreat.Fina
open Go.ChangeShapes Go.WideShapes Go.ChangeAt Go.RowKit
open Slic
set_option linter.unusedVariables false

section
variable {w0 w : World} {p : Nat} {S D : List Int} {h : Bool} {vs vd : Value}
set_option maxHeartbeats 1000000 in
theorem has_any {a : Int} (F : Fs w0 w p a S D h vs vd) (n : Int) (hS : S.length ≤ 100000) : Calls Tryz.prog 242 #[.pointer (some ⟨p, 0, none⟩), .int .i64 n] w fun e w' => e = .returned (.bool (inB n S.length)) ∧ w = w' := by
  obtain ⟨A, c, rfl, h1, h2⟩ := F.slots.sr.form
  have c1 := F.c1
  clear F
  go_enter Tryz.func242, Tryz.ntmps242
  go_wp2_with fail
  refine (place_any _ _ _ (by omega)).mono ?_
  rintro e w' ⟨rfl, rfl⟩
  go_wp2
  go_ret
  exact ⟨rfl, rfl⟩

end
end Go.Proofs.YteakglkagmghpaaGreat.Fina

/-
  Contracts of slices.Clone of words, of fin's Step and Run.
-/
namespace Go.Proofs.YteakglkagmghpaaGreat.Fina
open Go.ChangeShapes Go.WideShapes Go.ChangeAt Go.RowKit
open Slic
set_option linter.unusedVariables false

def Cloned (w : World) (S : List Int) (e : Ending) (w' : World) : Prop := ∃ v, e = .returned v ∧ Own kU w' w.heap.size v S ∧ Below w.heap.size w w'
set_option maxHeartbeats 1000000 in
theorem clone_any (w : World) (v : Value) (S : List Int) (h : Sr kU w v S) (hS : S.length ≤ 100000) : Calls Tryz.prog 59 #[v] w (Cloned w S) := by
  have h' := h
  obtain ⟨A, c, rfl, h1, h2, h3, h4⟩ := h
  clear h4
  have q : ∀ (W : World) (a : Option Addr) (n c : Nat), (binOp .eql 48 (.slice a n c) (.slice none 0 0)).run Tryz.prog W = .ok (.bool a.isNone) W := fun W a n c => Lib.run_eql_slice_nil W _ _ a n c 0 0 kU.under
  rcases A with _ | x
  · have hc := h3 rfl
    subst hc
    have e : S = [] := List.eq_nil_of_length_eq_zero (by omega)
    subst e
    clear h' h1 h2 h3
    go_enter Tryz.func59, Tryz.ntmps59
    go_wp2
    go_ret
    exact ⟨_, rfl, Own.nil _ _, Below.refl _ _⟩
  · clear h3
    go_enter Tryz.func59, Tryz.ntmps59
    go_wp2_with (
      refine wpList_app (K := kU) rfl (.tmp 5) (.tmp 6) rfl rfl rfl rfl (Own.empty w w.heap.size (Nat.le_refl _)) (h'.alloc _) (by simp; omega) (by simp) ?_
      intro v' w' O' g' G')
    go_ret
    exact ⟨_, rfl, O', G'.below _ _ (Nat.le_refl _) (below_one _ _)⟩

theorem Fs.start {w0 w : World} {A : Option Addr} {c : Nat} {S : List Int} (h : Own kU w w0.heap.size (.slice A S.length c) S) (hB : Below w0.heap.size w0 w) (a : Int) :
    Fs w0 (w.alloc (.cells #[.int .i64 a, .slice A S.length c, .slice none 0 0, .bool false] 287)) w.heap.size a S [] false (.slice A S.length c) (.slice none 0 0) :=
  ⟨hB.alloc hB.size _, hB.size, by simp, by simp [go_sem], by simp [go_sem], by simp [go_sem], by simp [go_sem], fun o => by simp, h.below (below_one _ _), fun g e => (h.lt g e).2, Own.nil _ _⟩

/-- A run from its beginning is what was done, and what is done from here on. -/
def Runs (L : List O) (S0 : List Int) (i : Nat) (S D : List Int) (h : Bool) (n : Nat) : Prop := walk L 0 S0 = ⟨(goes L i S).S, D ++ (goes L i S).said, h || (goes L i S).held, n + (goes L i S).n⟩
theorem Runs.start (L : List O) (S : List Int) : Runs L S 0 S [] false 0 := by
  unfold Runs goes
  simp
theorem Runs.step {L : List O} {S0 : List Int} {i : Nat} {S D : List Int} {h : Bool} {n : Nat} (r : Runs L S0 i S D h n) (hi : i < L.length) : Runs L S0 (i + 1 + (leftV S L[i]).toNat) (slotsV S L[i]) (D ++ sayV L[i]) (h || holdV L[i]) (n + 1) := by
  unfold Runs at *
  rw [r, goes_step hi]
  simp [List.append_assoc, Bool.or_assoc]
  omega
theorem Runs.done {L : List O} {S0 : List Int} {i : Nat} {S D : List Int} {h : Bool} {n : Nat} (r : Runs L S0 i S D h n) (hi : L.length ≤ i) : walk L 0 S0 = ⟨S, D, h, n⟩ := by
  unfold Runs at r
  rw [r, goes_end hi]
  simp
end Go.Proofs.YteakglkagmghpaaGreat.Fina
