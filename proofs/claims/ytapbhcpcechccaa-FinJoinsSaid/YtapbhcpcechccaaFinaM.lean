/-
  Finalizers in memory: slices of ops, words and numbers; a run's state; contracts of fin's small functions.
-/
import Derived.Test.YtapbhcpcechccaaSlic
import Derived.Test.YtapbhcpcechccaaFina
namespace Go.Proofs.Ytapbhcpcechccaa.Fina
open Go.ChangeShapes Go.WideShapes Go.ChangeAt Go.RowKit
open Slic
set_option linter.unusedVariables false

def kU : Kd Int := { X := 24, T := 41, m := 1, by_ := 8, z := .int .u64 0, enc := fun x => [.int .u64 x], len := fun _ => rfl, one := fun _ u h => by simp at h; subst h; rfl, pos := by decide, small := by decide, zs := rfl, under := by kernel_rfl, info := by kernel_rfl, elem := by kernel_rfl }
def kI : Kd Int := { X := 33, T := 3, m := 1, by_ := 8, z := .int .i64 0, enc := fun x => [.int .i64 x], len := fun _ => rfl, one := fun _ u h => by simp at h; subst h; rfl, pos := by decide, small := by decide, zs := rfl, under := by kernel_rfl, info := by kernel_rfl, elem := by kernel_rfl }
def kF : Kd O := { X := 28, T := 32, m := 3, by_ := 24, z := .agg #[.int .u8 0, .int .i64 0, .int .i64 0], enc := fun x => [.int .u8 x.1, .int .i64 x.2.1, .int .i64 x.2.2], len := fun _ => rfl, one := fun _ u h => by simp at h; rcases h with rfl | rfl | rfl <;> rfl, pos := by decide, small := by decide, zs := rfl, under := by kernel_rfl, info := by kernel_rfl, elem := by kernel_rfl }
/-- Rows of slices: where each begins, its length and room. -/
def kR : Kd (Option Addr × Nat × Nat) := { X := 22, T := 28, m := 1, by_ := 24, z := .slice none 0 0, enc := fun x => [.slice x.1 x.2.1 x.2.2], len := fun _ => rfl, one := fun _ u h => by simp at h; subst h; rfl, pos := by decide, small := by decide, zs := rfl, under := by kernel_rfl, info := by kernel_rfl, elem := by kernel_rfl }

theorem op_at {w : World} {A : Option Addr} {n c : Nat} {L : List O} (h : Sr kF w (.slice A n c) L) (i : Nat) (hi : i < L.length) : ∃ g o, A = some ⟨g, o, none⟩ ∧ g < w.heap.size ∧
    w.cell? ⟨g, o + i * 3, none⟩ = some (.int .u8 (L[i]).1) ∧ w.cell? ⟨g, o + i * 3 + 1, none⟩ = some (.int .i64 (L[i]).2.1) ∧ w.cell? ⟨g, o + i * 3 + 2, none⟩ = some (.int .i64 (L[i]).2.2) := by
  obtain ⟨g, o, rfl, hg, hc⟩ := h.at i hi
  exact ⟨g, o, rfl, hg, hc 0 _ rfl, hc 1 _ rfl, hc 2 _ rfl⟩
theorem word_at {w : World} {A : Option Addr} {n c : Nat} {L : List Int} (h : Sr kU w (.slice A n c) L) (i : Nat) (hi : i < L.length) : ∃ g o, A = some ⟨g, o, none⟩ ∧ g < w.heap.size ∧ w.cell? ⟨g, o + i, none⟩ = some (.int .u64 L[i]) := by
  obtain ⟨g, o, rfl, hg, hc⟩ := h.at i hi
  have := hc 0 _ rfl
  rw [show kU.m = 1 from rfl, Nat.mul_one, Nat.add_zero] at this
  exact ⟨g, o, rfl, hg, this⟩
theorem num_at {w : World} {A : Option Addr} {n c : Nat} {L : List Int} (h : Sr kI w (.slice A n c) L) (i : Nat) (hi : i < L.length) : ∃ g o, A = some ⟨g, o, none⟩ ∧ g < w.heap.size ∧ w.cell? ⟨g, o + i, none⟩ = some (.int .i64 L[i]) := by
  obtain ⟨g, o, rfl, hg, hc⟩ := h.at i hi
  have := hc 0 _ rfl
  rw [show kI.m = 1 from rfl, Nat.mul_one, Nat.add_zero] at this
  exact ⟨g, o, rfl, hg, this⟩
theorem row_at {w : World} {A : Option Addr} {n c : Nat} {L : List (Option Addr × Nat × Nat)} (h : Sr kR w (.slice A n c) L) (i : Nat) (hi : i < L.length) : ∃ g o, A = some ⟨g, o, none⟩ ∧ g < w.heap.size ∧ w.cell? ⟨g, o + i, none⟩ = some (.slice (L[i]).1 (L[i]).2.1 (L[i]).2.2) := by
  obtain ⟨g, o, rfl, hg, hc⟩ := h.at i hi
  have := hc 0 _ rfl
  rw [show kR.m = 1 from rfl, Nat.mul_one, Nat.add_zero] at this
  exact ⟨g, o, rfl, hg, this⟩

theorem put_grown (w : World) (a : Addr) (v : Value) : w.grownBy (w.setCell a v) (some a.block) :=
  ⟨rfl, rfl, rfl, by simp, fun k _ hk => heap_setCell_other w a k v (fun e => hk (by simp [e]))⟩

/-- What a run has come to: the next place, the slots, what was said, whether it holds. -/
structure Fs (w0 w : World) (p : Nat) (a : Int) (S D : List Int) (h : Bool) (vs vd : Value) : Prop where
  below : Below w0.heap.size w0 w
  own : w0.heap.size ≤ p
  lt : p < w.heap.size
  c0 : w.cell? ⟨p, 0, none⟩ = some (.int .i64 a)
  c1 : w.cell? ⟨p, 1, none⟩ = some vs
  c2 : w.cell? ⟨p, 2, none⟩ = some vd
  c3 : w.cell? ⟨p, 3, none⟩ = some (.bool h)
  fz : ∀ o, w.frozen? ⟨p, o, none⟩ = false
  slots : Own kU w w0.heap.size vs S
  far : ∀ g, vs.ownBlock = some g → g < p
  said : Own kI w (p + 1) vd D
section
variable {w0 w w' : World} {p : Nat} {a : Int} {S D : List Int} {h : Bool} {vs vd : Value}
theorem Fs.call (F : Fs w0 w p a S D h vs vd) (k : Below w.heap.size w w') : Fs w0 w' p a S D h vs vd :=
  ⟨F.below.trans (k.mono F.below.size), F.own, Nat.lt_of_lt_of_le F.lt k.size, (k.cell (p := ⟨p, 0, none⟩) F.lt).trans F.c0, (k.cell (p := ⟨p, 1, none⟩) F.lt).trans F.c1, (k.cell (p := ⟨p, 2, none⟩) F.lt).trans F.c2, (k.cell (p := ⟨p, 3, none⟩) F.lt).trans F.c3,
    fun o => (k.frozen (p := ⟨p, o, none⟩) F.lt).trans (F.fz o), F.slots.below k, F.far, F.said.below k⟩
theorem Fs.apart (F : Fs w0 w p a S D h vs vd) : (vs.ownBlock = none ∨ vs.ownBlock ≠ some p) ∧ (vd.ownBlock = none ∨ vd.ownBlock ≠ some p) := by
  constructor
  · cases e : vs.ownBlock with
    | none => exact .inl rfl
    | some g => exact .inr fun q => by injection q with q; have := F.far g e; omega
  · cases e : vd.ownBlock with
    | none => exact .inl rfl
    | some g => exact .inr fun q => by injection q with q; have := (F.said.lt g e).1; omega
/-- The next place is stored. -/
theorem Fs.at' (F : Fs w0 w p a S D h vs vd) (b : Int) : Fs w0 (w.setCell ⟨p, 0, none⟩ (.int .i64 b)) p b S D h vs vd := by
  have G := put_grown w ⟨p, 0, none⟩ (.int .i64 b)
  refine ⟨F.below.setCell F.own _, F.own, by simpa [World.setCell] using F.lt, by simp [go_sem, F.c0], by simp [go_sem, F.c1], by simp [go_sem, F.c2], by simp [go_sem, F.c3], fun o => by simp [F.fz o], F.slots.kept G F.apart.1, F.far, F.said.kept G F.apart.2⟩
/-- It holds. -/
theorem Fs.hold (F : Fs w0 w p a S D h vs vd) : Fs w0 (w.setCell ⟨p, 3, none⟩ (.bool true)) p a S D true vs vd := by
  have G := put_grown w ⟨p, 3, none⟩ (.bool true)
  refine ⟨F.below.setCell F.own _, F.own, by simpa [World.setCell] using F.lt, by simp [go_sem, F.c0], by simp [go_sem, F.c1], by simp [go_sem, F.c2], by simp [go_sem, F.c3], fun o => by simp [F.fz o], F.slots.kept G F.apart.1, F.far, F.said.kept G F.apart.2⟩
/-- A slot is stored. -/
theorem Fs.slot {g c : Nat} (F : Fs w0 w p a S D h (.slice (some ⟨g, 0, none⟩) S.length c) vd) (i : Nat) (x : Int) (hi : i < S.length) : Fs w0 (w.setCell ⟨g, i, none⟩ (.int .u64 x)) p a (S.set i x) D h (.slice (some ⟨g, 0, none⟩) S.length c) vd := by
  have hg := F.far g rfl
  obtain ⟨r1, r2⟩ := F.slots.put i 0 hi (by decide) x (.int .u64 x) rfl
  rw [show kU.m = 1 from rfl, Nat.mul_one, Nat.add_zero] at r1 r2
  have ne : p ≠ g := by omega
  refine ⟨F.below.setCell (F.slots.lt g rfl).1 _, F.own, by simpa [World.setCell] using F.lt, by simp [go_sem, F.c0], by simp [go_sem, F.c1], by simp [go_sem, F.c2], by simp [go_sem, F.c3], fun o => by simp [F.fz o], r1, F.far, F.said.kept r2 ?_⟩
  cases e : vd.ownBlock with
  | none => exact .inl rfl
  | some k => exact .inr fun q => by injection q with q; have := (F.said.lt k e).1; omega
/-- More is said, and stored. -/
theorem Fs.more {vd' : Value} {D' : List Int} (F : Fs w0 w p a S D h vs vd) (O' : Own kI w' (p + 1) vd' D') (k : w.grownBy w' vd.ownBlock) : Fs w0 (w'.setCell ⟨p, 2, none⟩ vd') p a S D' h vs vd' := by
  have G := put_grown w' ⟨p, 2, none⟩ vd'
  have hp : some p ≠ vd.ownBlock := fun e => by have := (F.said.lt p e.symm).1; omega
  have e0 : ∀ o, w'.cell? ⟨p, o, none⟩ = w.cell? ⟨p, o, none⟩ := fun o => cell_only k F.lt hp o
  have e1 : ∀ o, w'.frozen? ⟨p, o, none⟩ = w.frozen? ⟨p, o, none⟩ := fun o => frozen_only k F.lt hp o
  have hs : vs.ownBlock = none ∨ vs.ownBlock ≠ vd.ownBlock := by
    cases e : vs.ownBlock with
    | none => exact .inl rfl
    | some g => exact .inr fun q => by have := F.far g e; have := (F.said.lt g q.symm).1; omega
  have hd : vd'.ownBlock = none ∨ vd'.ownBlock ≠ some p := by
    cases e : vd'.ownBlock with
    | none => exact .inl rfl
    | some g => exact .inr fun q => by injection q with q; have := (O'.lt g e).1; omega
  refine ⟨(F.below.grown k F.below.size fun j ej => ?_).setCell F.own _, F.own, ?_, by simp [go_sem, e0, F.c0], by simp [go_sem, e0, F.c1], by simp [go_sem, e0, F.c2], by simp [go_sem, e0, F.c3], fun o => by simp [e1, F.fz o], (F.slots.kept k hs).kept G F.apart.1, F.far, O'.kept G hd⟩
  · have := (F.said.lt j ej).1
    have := F.own
    omega
  · have := k.size
    have := F.lt
    simp [World.setCell]
    omega
end

def withB (n lo hi : Int) : Bool := decide (lo ≤ n ∧ n ≤ hi)
set_option maxHeartbeats 1000000 in
theorem within_any (n lo hi : Int) (w : World) : Calls Try.prog 27 #[.int .i64 n, .int .i64 lo, .int .i64 hi] w fun e w' => e = .returned (.bool (withB n lo hi)) ∧ w = w' := by
  by_cases h1 : lo ≤ n
  · by_cases h2 : n ≤ hi
    · have k1 : decide (lo ≤ n) = true := decide_eq_true h1
      have k2 : decide (n ≤ hi) = true := decide_eq_true h2
      have k : Hid (withB n lo hi = true) := Lib.hid (decide_eq_true ⟨h1, h2⟩)
      go_enter Try.func27, Try.ntmps27
      go_wp2
      go_ret
      exact ⟨ret_bool k.out.symm, rfl⟩
    · have k1 : decide (lo ≤ n) = true := decide_eq_true h1
      have k2 : decide (n ≤ hi) = false := decide_eq_false h2
      have k : Hid (withB n lo hi = false) := Lib.hid (decide_eq_false fun q => h2 q.2)
      go_enter Try.func27, Try.ntmps27
      go_wp2
      go_ret
      exact ⟨ret_bool k.out.symm, rfl⟩
  · have k1 : decide (lo ≤ n) = false := decide_eq_false h1
    have k : Hid (withB n lo hi = false) := Lib.hid (decide_eq_false fun q => h1 q.1)
    go_enter Try.func27, Try.ntmps27
    go_wp2
    go_ret
    exact ⟨ret_bool k.out.symm, rfl⟩
set_option maxHeartbeats 1000000 in
theorem place_any (n : Int) (k : Nat) (w : World) (hk : k ≤ 9223372036854775807) : Calls Try.prog 22 #[.int .i64 n, .int .i64 k] w fun e w' => e = .returned (.bool (inB n k)) ∧ w = w' := by
  have K : Hid (withB n 0 ((k : Int) - 1) = inB n k) := Lib.hid (decide_eq_decide.2 (by omega))
  go_enter Try.func22, Try.ntmps22
  go_wp2_with fail
  refine (within_any _ _ _ _).mono ?_
  rintro e w' ⟨rfl, rfl⟩
  rw [K.out]
  go_wp2
  go_ret
  exact ⟨rfl, rfl⟩
set_option maxHeartbeats 1000000 in
theorem add_ok (a b : Int) (w : World) (a1 : 0 ≤ a) (a2 : a ≤ 1000000) (b1 : 0 ≤ b) (b2 : b ≤ 1000000) : Calls Try.prog 37 #[.int .i64 a, .int .i64 b] w fun e w' => e = .returned (.tuple #[.int .i64 (a + b), .int .i64 0]) ∧ w = w' := by
  by_cases h : 0 < b
  · have k : decide (9223372036854775807 - b < a) = false := decide_eq_false (by omega)
    go_enter Try.func37, Try.ntmps37
    go_wp2
    go_ret2
    exact ⟨rfl, rfl⟩
  · go_enter Try.func37, Try.ntmps37
    go_wp2
    go_ret2
    exact ⟨rfl, rfl⟩
end Go.Proofs.Ytapbhcpcechccaa.Fina
