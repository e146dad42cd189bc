/-
  Contracts of package arena over one invariant, Ar: the arena whose struct is block B and whose bytes are block g holds n words, word i being f i; each call, for every argument, returns the named values and leaves the named state, changing no block but g.
-/
import Derived.Test.YtgihoicppeegaaaProg
import Derived.Test.YtgihoicppeegaaaMem
import Derived.WalkKit
import Derived.ProofKit
import Derived.OpenShut
import Derived.IntWalk
import Derived.Lib.Hide
import Derived.Deep.OwnRows
import Derived.RegionTactic
import Derived.BigRegion
import Derived.Laws.MakeOwn
import Derived.Laws.Entries
import Derived.OwnWalk
namespace Go.Proofs.Ytgihoicppeegaaa.Arena
open Go.ChangeShapes Go.WideShapes Go.ChangeAt Go.RowKit Mem
set_option linter.unusedVariables false

theorem ret_int {k : IntKind} {a b : Int} (h : a = b) : Ending.returned (.int k a) = .returned (.int k b) := by rw [h]
theorem ret_bool {a b : Bool} (h : a = b) : Ending.returned (.bool a) = .returned (.bool b) := by rw [h]

theorem only_drew {a w : World} {row : Option Nat} (h : a.grownBy w row) : a.grownBy w.drew row := ⟨h.os, h.tape, h.output, h.size, h.block⟩
theorem only_trans {a b c : World} {row : Option Nat} (h : a.grownBy b row) (k : b.grownBy c row) : a.grownBy c row :=
  ⟨k.os.trans h.os, k.tape.trans h.tape, k.output.trans h.output, Nat.le_trans h.size k.size, fun i hi hne => (k.block i (Nat.lt_of_lt_of_le hi h.size) hne).trans (h.block i hi hne)⟩
theorem only_setCell {a w : World} {g : Nat} (h : a.grownBy w (some g)) (o : Nat) (u : Value) : a.grownBy (w.setCell ⟨g, o, none⟩ u) (some g) :=
  ⟨h.os, h.tape, h.output, by simpa [World.setCell] using h.size, fun i hi hne => (Below.heap_setCell w ⟨g, o, none⟩ u i (by rintro rfl; exact hne rfl)).trans (h.block i hi hne)⟩

/-- The arena at block B, its bytes in block g, holds n words, word i being f i. -/
structure Ar (w : World) (B g n : Nat) (f : Nat → Int) : Prop where
  head : w.rowIs B 76 1 (fun _ => .slice (some ⟨g, 0, none⟩) (8 * n) (8 * n))
  body : w.rowIs g 5 (8 * n) (fun i => .int .u8 (byteV (f (i / 8)) (i % 8)))
  fit : Fit f
  len : n ≤ 8192

theorem rows_ne {w : World} {a b : Nat} {s t : TypeId} {m n : Nat} {f g : Nat → Value} (h : w.rowIs a s m f) (k : w.rowIs b t n g) (hne : s ≠ t) : a ≠ b := by
  rintro rfl
  obtain ⟨c, hc, _⟩ := h
  obtain ⟨d, hd, _⟩ := k
  rw [hc] at hd
  injection hd with hd
  injection hd with _ ht
  exact hne ht
theorem Ar.ne {w : World} {B g n : Nat} {f : Nat → Int} (h : Ar w B g n f) : B ≠ g := rows_ne h.head h.body (by decide)
theorem Ar.cell {w : World} {B g n : Nat} {f : Nat → Int} (h : Ar w B g n f) : w.cell? ⟨B, 0, none⟩ = some (.slice (some ⟨g, 0, none⟩) (8 * n) (8 * n)) := h.head.cell (i := 0) (by omega)
theorem Ar.kept {w w' : World} {B g n : Nat} {f : Nat → Int} {row : Option Nat} (h : Ar w B g n f) (k : w.grownBy w' row) (h1 : row ≠ some B) (h2 : row ≠ some g) : Ar w' B g n f :=
  ⟨h.head.of_block (k.block B h.head.lt (fun e => h1 e.symm)), h.body.of_block (k.block g h.body.lt (fun e => h2 e.symm)), h.fit, h.len⟩
theorem Ar.below {w w' : World} {B g n N : Nat} {f : Nat → Int} (h : Ar w B g n f) (k : Below N w w') (h1 : B < N) (h2 : g < N) : Ar w' B g n f :=
  ⟨h.head.of_block (k.block B h1), h.body.of_block (k.block g h2), h.fit, h.len⟩

def withinB (a lo hi : Int) : Bool := decide (lo ≤ a ∧ a ≤ hi)
def okB (n : Nat) (a : Int) : Bool := decide (0 ≤ a ∧ a < 8 * (n : Int))
def okW (n : Nat) (a : Int) : Bool := decide (0 ≤ a ∧ a < 8 * (n : Int) ∧ a % 8 = 0)
theorem okB_idx {n : Nat} {a : Int} (h : okB n a = true) : ∃ i : Nat, i < 8 * n ∧ a = (i : Int) ∧ a.toNat = i := by
  unfold okB at h
  have := of_decide_eq_true h
  exact ⟨a.toNat, by omega, by omega, rfl⟩
theorem okW_idx {n : Nat} {a : Int} (h : okW n a = true) : ∃ i : Nat, i < n ∧ a = 8 * (i : Int) ∧ a.toNat / 8 = i := by
  unfold okW at h
  have := of_decide_eq_true h
  exact ⟨a.toNat / 8, by omega, by omega, rfl⟩
theorem okB_yes {n : Nat} {a : Int} (h0 : 0 ≤ a) (h1 : a < 8 * (n : Int)) : okB n a = true := decide_eq_true ⟨h0, h1⟩
theorem okB_no {n : Nat} {a : Int} (h : a < 0 ∨ 8 * (n : Int) ≤ a) : okB n a = false := decide_eq_false (by omega)
theorem okW_yes {n : Nat} {a : Int} (h0 : 0 ≤ a) (h1 : a < 8 * (n : Int)) (h2 : a % 8 = 0) : okW n a = true := decide_eq_true ⟨h0, h1, h2⟩
theorem okW_no {n : Nat} {a : Int} (h : a < 0 ∨ 8 * (n : Int) ≤ a ∨ ¬ a % 8 = 0) : okW n a = false := decide_eq_false (by omega)
theorem okW_mk {n i : Nat} (h : i < n) : okW n (8 * (i : Int)) = true := decide_eq_true (by omega)
theorem okB_mk {n i : Nat} (h : i < 8 * n) : okB n (i : Int) = true := decide_eq_true (by omega)

set_option maxHeartbeats 400000 in
theorem within_any (a lo hi : Int) (w : World) :
    Calls Try.prog 31 #[.int .i64 a, .int .i64 lo, .int .i64 hi] w fun e w' => e = .returned (.bool (withinB a lo hi)) ∧ w = w' := by
  by_cases h1 : lo ≤ a
  · by_cases h2 : a ≤ hi
    all_goals
      go_enter Try.func31, Try.ntmps31
      go_wp2
      go_ret
      exact ⟨ret_bool (by simp [withinB]; omega), rfl⟩
  · go_enter Try.func31, Try.ntmps31
    go_wp2
    go_ret
    exact ⟨ret_bool (by simp [withinB]; omega), rfl⟩

set_option maxHeartbeats 400000 in
theorem place_any (w : World) (B g n : Nat) (f : Nat → Int) (a : Int) (h : Ar w B g n f) :
    Calls Try.prog 47 #[.pointer (some ⟨B, 0, none⟩), .int .i64 a] w fun e w' => e = .returned (.bool (okB n a)) ∧ w = w' := by
  have hl := h.len
  have hc := h.cell
  go_enter Try.func47, Try.ntmps47
  go_wp2_with (go_at_call 31; refine (within_any _ _ _ _).mono ?_; rintro e w' ⟨rfl, rfl⟩)
  go_ret
  exact ⟨ret_bool (by unfold withinB okB; exact decide_eq_decide.2 (by omega)), rfl⟩

set_option maxHeartbeats 400000 in
theorem wordplace_any (w : World) (B g n : Nat) (f : Nat → Int) (a : Int) (h : Ar w B g n f) (a1 : -9223372036854775808 ≤ a) (a2 : a ≤ 9223372036854775807) :
    Calls Try.prog 35 #[.pointer (some ⟨B, 0, none⟩), .int .i64 a] w fun e w' => e = .returned (.bool (okW n a)) ∧ w = w' := by
  have hl := h.len
  have e8 := tmod8 a
  by_cases h8 : a.tmod 8 = 0
  · have hq : a % 8 = 0 := e8.1 h8
    clear e8
    have q : (a.tmod 8 == 0) = true := by simpa using h8
    clear h8
    go_enter Try.func35, Try.ntmps35
    go_wp2_with (go_at_call 47; refine (place_any _ B g n f _ h).mono ?_; rintro e w' ⟨rfl, rfl⟩)
    go_ret
    exact ⟨ret_bool (by simp [okW, okB, hq]), rfl⟩
  · have hq : ¬ a % 8 = 0 := fun e => h8 (e8.2 e)
    clear e8
    have q : (a.tmod 8 == 0) = false := by simpa using h8
    clear h8
    go_enter Try.func35, Try.ntmps35
    go_wp2_with (go_at_call 47; refine (place_any _ B g n f _ h).mono ?_; rintro e w' ⟨rfl, rfl⟩)
    go_ret
    exact ⟨ret_bool (by simp [okW, hq]), rfl⟩

set_option maxHeartbeats 400000 in
theorem read_any (w : World) (B g n i : Nat) (f : Nat → Int) (h : Ar w B g n f) (hi : i < n) :
    Calls Try.prog 36 #[.pointer (some ⟨B, 0, none⟩), .int .i64 (8 * (i : Int))] w fun e w' => e = .returned (.int .u64 (f i)) ∧ w = w' := by
  have hl := h.len
  have hc := h.cell
  go_enter Try.func36, Try.ntmps36
  go_wp2
  go_loop [5, 7] (fun x t => ∃ k : Nat, k ≤ 8 ∧ t = .int .i64 k ∧ x = .int .u64 (f i % 2 ^ (8 * k))) (fun _ t => 8 - (intOf t).toNat)
  case atStart => exact ⟨0, by omega, rfl, by simp [Int.emod_one]⟩
  case round =>
    obtain ⟨k, hk, rfl, rfl⟩ := hrel
    by_cases hlt : k < 8
    · have hcell : w.cell? ⟨g, 8 * i + k, none⟩ = some (.int .u8 (byteV (f i) k)) := by
        rw [h.body.cell (i := 8 * i + k) (by omega), show (8 * i + k) / 8 = i by omega, show (8 * i + k) % 8 = k by omega]
      go_wp2
      go_round
      case rel => exact ⟨k + 1, by omega, by go_num, by rw [or_step _ _ hlt (h.fit i).1 (h.fit i).2]⟩
      case measure => simp [intOf]; omega
    · obtain rfl : k = 8 := by omega
      go_wp2
      go_ret
      exact ⟨ret_int (Int.emod_eq_of_lt (h.fit i).1 (by have := (h.fit i).2; omega)), rfl⟩

theorem write_step {wr : World} {g n i k : Nat} {x : Int} {f : Nat → Int} (hk : k < 8)
    (hb : wr.rowIs g 5 (8 * n) (fun j => .int .u8 (if 8 * i ≤ j ∧ j < 8 * i + k then byteV x (j - 8 * i) else byteV (f (j / 8)) (j % 8)))) :
    (wr.setCell ⟨g, 8 * i + k, none⟩ (.int .u8 (x / 2 ^ (8 * k) % 256))).rowIs g 5 (8 * n) (fun j => .int .u8 (if 8 * i ≤ j ∧ j < 8 * i + (k + 1) then byteV x (j - 8 * i) else byteV (f (j / 8)) (j % 8))) := by
  refine (hb.set (8 * i + k) _).congr fun j _ => ?_
  by_cases e : j = 8 * i + k
  · subst e
    rw [if_pos rfl, if_pos (by omega), show 8 * i + k - 8 * i = k by omega]
    rfl
  · rw [if_neg e]
    by_cases e' : 8 * i ≤ j ∧ j < 8 * i + k
    · rw [if_pos e', if_pos (by omega)]
    · rw [if_neg e', if_neg (by omega)]
theorem write_end {wr : World} {g n i : Nat} {x : Int} {f : Nat → Int}
    (hb : wr.rowIs g 5 (8 * n) (fun j => .int .u8 (if 8 * i ≤ j ∧ j < 8 * i + 8 then byteV x (j - 8 * i) else byteV (f (j / 8)) (j % 8)))) :
    wr.rowIs g 5 (8 * n) (fun j => .int .u8 (byteV (setF f i x (j / 8)) (j % 8))) := by
  refine hb.congr fun j _ => ?_
  by_cases e : 8 * i ≤ j ∧ j < 8 * i + 8
  · rw [if_pos e, show j / 8 = i by omega, setF_same, show j - 8 * i = j % 8 by omega]
  · rw [if_neg e, setF_other _ _ _ _ (by omega)]

set_option maxHeartbeats 400000 in
theorem write_any (w : World) (B g n i : Nat) (f : Nat → Int) (x : Int) (h : Ar w B g n f) (hi : i < n) (x1 : 0 ≤ x) (x2 : x ≤ 18446744073709551615) :
    Calls Try.prog 40 #[.pointer (some ⟨B, 0, none⟩), .int .i64 (8 * (i : Int)), .int .u64 x] w fun e w' => e = .returned (.tuple #[]) ∧ Ar w' B g n (setF f i x) ∧ w.grownBy w' (some g) := by
  have hl := h.len
  have hne := h.ne
  go_enter Try.func40, Try.ntmps40
  go_wp2
  go_loopw [7] (fun t wr => ∃ k : Nat, k ≤ 8 ∧ t = .int .i64 k ∧ wr.rowIs B 76 1 (fun _ => .slice (some ⟨g, 0, none⟩) (8 * n) (8 * n)) ∧
      wr.rowIs g 5 (8 * n) (fun j => .int .u8 (if 8 * i ≤ j ∧ j < 8 * i + k then byteV x (j - 8 * i) else byteV (f (j / 8)) (j % 8))) ∧ w.grownBy wr (some g)) (fun t _ => 8 - (intOf t).toNat)
  case atStart => exact ⟨0, by omega, rfl, h.head, h.body.congr (fun j hj => by rw [if_neg (by omega)]), World.grownBy.refl _ _⟩
  case round =>
    obtain ⟨k, hk, rfl, hh, hb, hg⟩ := hrel
    by_cases hlt : k < 8
    · have hc : wr.cell? ⟨B, 0, none⟩ = some (.slice (some ⟨g, 0, none⟩) (8 * n) (8 * n)) := hh.cell (i := 0) (by omega)
      have hcell := hb.cell (i := 8 * i + k) (by omega)
      have hfz := hb.frozen (8 * i + k)
      go_wp2
      go_region
      go_wp2
      go_roundw
      case rel => exact ⟨k + 1, by omega, by go_num, (hh.setOther hne _).drew, (write_step hlt hb).drew, only_drew (only_setCell hg _ _)⟩
      case measure => simp [intOf]; omega
    · obtain rfl : k = 8 := by omega
      go_wp2
      go_end0
      exact ⟨rfl, ⟨hh, write_end hb, h.fit.set i x x1 x2, hl⟩, hg⟩

theorem info_u8 : (Try.prog.info? 5).map (fun i => (i.zero, i.size, i.bytes)) = some (some (.int .u8 0), 1, 1) := by kernel_rfl
theorem under_bytes : Try.prog.underlying 74 = some (.slice 5) := by kernel_rfl

theorem make_bytes (k : Nat) (hk : k ≤ 8192) (W : World) : (Instr.makeSlice 74 (.int .i64 (8 * (k : Int))) (.int .i64 (8 * (k : Int)))).run Try.prog W =
    .ok (.slice (some ⟨W.heap.size, 0, none⟩) (8 * k) (8 * k)) (W.alloc (.cells (madeCells #[.int .u8 0] (8 * k)) 5)) := by
  obtain ⟨i0, hi, hz0, hz1, hz2⟩ := info_parts info_u8
  have h := run_make (P := Try.prog) W 74 5 i0 (.int .u8 0) under_bytes hi hz0 .i64 .i64 (8 * (k : Int)) (8 * (k : Int)) (by omega) (by omega) (by rw [hz2]; omega) (by omega)
  rw [hz1, Nat.mul_one, show (8 * (k : Int)).toNat = 8 * k by omega] at h
  exact h

theorem new_end (w : World) (k : Nat) (hk : k ≤ 8192) :
    Ar ((w.alloc (.cells (madeCells #[.int .u8 0] (8 * k)) 5)).alloc (.cells #[.slice (some ⟨w.heap.size, 0, none⟩) (8 * k) (8 * k)] 76)) (w.heap.size + 1) w.heap.size k (fun _ => 0) := by
  have e : (w.alloc (.cells (madeCells #[.int .u8 0] (8 * k)) 5)).heap.size = w.heap.size + 1 := by simp
  refine ⟨?_, ((World.rowIs_made w (.int .u8 0) (8 * k) 5).alloc _).congr (fun i _ => by rw [byteV_zero]), Fit.zero, hk⟩
  have := World.rowIs_alloc (w.alloc (.cells (madeCells #[.int .u8 0] (8 * k)) 5)) #[.slice (some ⟨w.heap.size, 0, none⟩) (8 * k) (8 * k)] 76 (fun _ => .slice (some ⟨w.heap.size, 0, none⟩) (8 * k) (8 * k))
    (fun i hi => by
      have : i = 0 := by simpa using hi
      subst this
      rfl)
  rw [e] at this
  exact this

set_option maxHeartbeats 400000 in
theorem new_any (w : World) (k : Nat) (hk : k ≤ 8192) :
    Calls Try.prog 19 #[.int .i64 (8 * (k : Int))] w fun e w' => e = .returned (.tuple #[.pointer (some ⟨w.heap.size + 1, 0, none⟩), .int .i64 0]) ∧ Ar w' (w.heap.size + 1) w.heap.size k (fun _ => 0) ∧ Below w.heap.size w w' ∧ w'.heap.size = w.heap.size + 2 := by
  have hwi : withinB (8 * (k : Int)) 0 65536 = true := decide_eq_true (by omega)
  have hmk := make_bytes k hk
  go_enter Try.func19, Try.ntmps19
  go_wp2_with (go_at_call 31; refine (within_any _ _ _ _).mono ?_; rintro e w' ⟨rfl, rfl⟩)
  go_ret2
  exact ⟨rfl, new_end w k hk, ((Below.refl _ _).alloc (Nat.le_refl _) _).alloc (by simp) _, by simp⟩

set_option maxHeartbeats 400000 in
theorem new_no (w : World) (m : Int) (hm : m < 0 ∨ 65536 < m ∨ ¬ m % 8 = 0) :
    Calls Try.prog 19 #[.int .i64 m] w fun e w' => e = .returned (.tuple #[.pointer none, .int .i64 1]) ∧ w = w' := by
  have e8 := tmod8 m
  by_cases h : 0 ≤ m ∧ m ≤ 65536
  · have hwi : withinB m 0 65536 = true := decide_eq_true h
    have h1 : (m % 8 != 0) = true := by simp; omega
    obtain ⟨h2, h3⟩ := h
    clear hm e8
    go_enter Try.func19, Try.ntmps19
    go_wp2_with (go_at_call 31; refine (within_any _ _ _ _).mono ?_; rintro e w' ⟨rfl, rfl⟩)
    go_ret2
    exact ⟨rfl, rfl⟩
  · have hwi : withinB m 0 65536 = false := decide_eq_false h
    clear hm e8
    go_enter Try.func19, Try.ntmps19
    go_wp2_with (go_at_call 31; refine (within_any _ _ _ _).mono ?_; rintro e w' ⟨rfl, rfl⟩)
    go_ret2
    exact ⟨rfl, rfl⟩

def wordV (n : Nat) (f : Nat → Int) (a : Int) : Int := if okW n a = true then f (a.toNat / 8) else 0
def errW (n : Nat) (a : Int) : Int := if okW n a = true then 0 else 1
def byteAt (n : Nat) (f : Nat → Int) (a : Int) : Int := if okB n a = true then byteV (f (a.toNat / 8)) (a.toNat % 8) else 0
def errB (n : Nat) (a : Int) : Int := if okB n a = true then 0 else 1
def putF (n : Nat) (f : Nat → Int) (a x : Int) : Nat → Int := if okW n a = true then setF f (a.toNat / 8) x else f
def putBF (n : Nat) (f : Nat → Int) (a b : Int) : Nat → Int := if okB n a = true then setF f (a.toNat / 8) (putB (f (a.toNat / 8)) (a.toNat % 8) b) else f
theorem errW_yes {n : Nat} {a : Int} (h : okW n a = true) : errW n a = 0 := by unfold errW; rw [if_pos h]
theorem errW_no {n : Nat} {a : Int} (h : okW n a = false) : errW n a = 1 := by unfold errW; rw [if_neg (by simp [h])]
theorem errB_yes {n : Nat} {a : Int} (h : okB n a = true) : errB n a = 0 := by unfold errB; rw [if_pos h]
theorem errB_no {n : Nat} {a : Int} (h : okB n a = false) : errB n a = 1 := by unfold errB; rw [if_neg (by simp [h])]
theorem ret2 {k l : IntKind} {a b c d : Int} (h : a = b) (h' : c = d) : Ending.returned (.tuple #[.int k a, .int l c]) = .returned (.tuple #[.int k b, .int l d]) := by rw [h, h']

set_option maxHeartbeats 400000 in
theorem word_any (w : World) (B g n : Nat) (f : Nat → Int) (a : Int) (h : Ar w B g n f) (a1 : -9223372036854775808 ≤ a) (a2 : a ≤ 9223372036854775807) :
    Calls Try.prog 18 #[.pointer (some ⟨B, 0, none⟩), .int .i64 a] w fun e w' => e = .returned (.tuple #[.int .u64 (wordV n f a), .int .i64 (errW n a)]) ∧ w = w' := by
  by_cases hk : okW n a = true
  · obtain ⟨i, hi, rfl, hj⟩ := okW_idx hk
    have HJ := Lib.hid hj
    clear hj
    go_enter Try.func18, Try.ntmps18
    go_wp2_with (first
      | (go_at_call 35; refine (wordplace_any _ B g n f _ h a1 a2).mono ?_; rintro e w' ⟨rfl, rfl⟩)
      | (go_at_call 36; refine (read_any _ B g n i f h hi).mono ?_; rintro e w' ⟨rfl, rfl⟩))
    go_ret2
    exact ⟨ret2 (by unfold wordV; rw [if_pos hk, HJ.out]) (by unfold errW; rw [if_pos hk]), rfl⟩
  · have hq : okW n a = false := by simpa using hk
    clear hk
    go_enter Try.func18, Try.ntmps18
    go_wp2_with (go_at_call 35; refine (wordplace_any _ B g n f _ h a1 a2).mono ?_; rintro e w' ⟨rfl, rfl⟩)
    go_ret2
    exact ⟨ret2 (by unfold wordV; rw [if_neg (by simp [hq])]) (by unfold errW; rw [if_neg (by simp [hq])]), rfl⟩

theorem putbyte_end {w : World} {B g n i : Nat} {f : Nat → Int} {b : Int} (h : Ar w B g n f) (hi : i < 8 * n) (b1 : 0 ≤ b) (b2 : b ≤ 255) :
    Ar (w.setCell ⟨g, i, none⟩ (.int .u8 b)) B g n (setF f (i / 8) (putB (f (i / 8)) (i % 8) b)) := by
  have hm : i % 8 < 8 := Nat.mod_lt _ (by decide)
  have hf := h.fit (i / 8)
  have hp := putB_le (f (i / 8)) (i % 8) b hm hf.1 hf.2 b1 b2
  refine ⟨h.head.setOther h.ne _, (h.body.set i _).congr fun j hj => ?_, h.fit.set _ _ hp.1 hp.2, h.len⟩
  by_cases e : j = i
  · subst e
    rw [if_pos rfl, setF_same, byte_putB _ _ _ hm _ hm hf.1 hf.2 b1 b2, if_pos rfl]
  · rw [if_neg e]
    by_cases e' : j / 8 = i / 8
    · rw [e', setF_same, byte_putB _ _ _ hm _ (Nat.mod_lt _ (by decide)) hf.1 hf.2 b1 b2, if_neg (by omega)]
    · rw [setF_other _ _ _ _ e']

set_option maxHeartbeats 400000 in
theorem put_any (w : World) (B g n : Nat) (f : Nat → Int) (a x : Int) (h : Ar w B g n f) (a1 : -9223372036854775808 ≤ a) (a2 : a ≤ 9223372036854775807) (x1 : 0 ≤ x) (x2 : x ≤ 18446744073709551615) :
    Calls Try.prog 24 #[.pointer (some ⟨B, 0, none⟩), .int .i64 a, .int .u64 x] w fun e w' => e = .returned (.int .i64 (errW n a)) ∧ Ar w' B g n (putF n f a x) ∧ w.grownBy w' (some g) := by
  by_cases hk : okW n a = true
  · obtain ⟨i, hi, rfl, hj⟩ := okW_idx hk
    have HJ := Lib.hid hj
    clear hj
    go_enter Try.func24, Try.ntmps24
    go_wp2_with (first
      | (go_at_call 35; refine (wordplace_any _ B g n f _ h a1 a2).mono ?_; rintro e w' ⟨rfl, rfl⟩)
      | (go_at_call 40; refine (write_any _ B g n i f _ h hi x1 x2).mono ?_; rintro e w' ⟨rfl, hw, hg⟩))
    go_ret
    exact ⟨ret_int (by unfold errW; rw [if_pos hk]), by unfold putF; rw [if_pos hk, HJ.out]; assumption, by assumption⟩
  · have hq : okW n a = false := by simpa using hk
    clear hk
    go_enter Try.func24, Try.ntmps24
    go_wp2_with (go_at_call 35; refine (wordplace_any _ B g n f _ h a1 a2).mono ?_; rintro e w' ⟨rfl, rfl⟩)
    go_ret
    exact ⟨ret_int (by unfold errW; rw [if_neg (by simp [hq])]), by unfold putF; rw [if_neg (by simp [hq])]; exact h, World.grownBy.refl _ _⟩
end Go.Proofs.Ytgihoicppeegaaa.Arena
