/-
  Plain mathematics of bytes and words: the eight bytes of a number below 2^64 make it up again; one byte put in place of another; states of words as functions of their index.
-/
import Derived.WalkKit
import Derived.Laws.BitsAllLaws
import Derived.Laws.BitsLemmas
import Derived.Deep.OwnRows
import Derived.Lib.Hide
import Derived.Test.YteakglkagmghpaaGreatProg
import Derived.ProofKit
import Derived.OpenShut
import Derived.IntWalk
import Derived.RegionTactic
import Derived.BigRegion
import Derived.Laws.MakeOwn
import Derived.Laws.Entries
import Derived.OwnWalk
import Derived.Laws.Externs
import Derived.Deep.QuietTactic
import Derived.BigQuiet
namespace Go.Proofs.YteakglkagmghpaaGreat.Amem
open Go.RowKit
set_option linter.unusedVariables false
set_option maxRecDepth 8000

/-- Byte k of a word. -/
def byteV (x : Int) (k : Nat) : Int := x / 2 ^ (8 * k) % 256
/-- One word put. -/
def setF (f : Nat → Int) (i : Nat) (x : Int) : Nat → Int := fun j => if j = i then x else f j
theorem setF_same (f : Nat → Int) (i : Nat) (x : Int) : setF f i x i = x := by simp [setF]
theorem setF_other (f : Nat → Int) (i j : Nat) (x : Int) (h : j ≠ i) : setF f i x j = f j := by simp [setF, h]
def Fit (f : Nat → Int) : Prop := ∀ i, 0 ≤ f i ∧ f i ≤ 18446744073709551615
theorem Fit.set {f : Nat → Int} (h : Fit f) (i : Nat) (x : Int) (h0 : 0 ≤ x) (h1 : x ≤ 18446744073709551615) : Fit (setF f i x) := by
  intro j
  unfold setF
  split
  · exact ⟨h0, h1⟩
  · exact h j
theorem Fit.zero : Fit (fun _ => 0) := fun _ => ⟨Int.le_refl 0, by show (0 : Int) ≤ _; decide⟩

theorem byteV_le (x : Int) (k : Nat) : 0 ≤ byteV x k ∧ byteV x k ≤ 255 := by unfold byteV; omega
theorem byteV_zero (k : Nat) : byteV 0 k = 0 := by simp [byteV]
theorem wrap_u64 (n : Int) : IntKind.u64.wrap n = n % 18446744073709551616 := by simp [IntKind.wrap, IntKind.bits, IntKind.signed]

theorem nat_or_step (x k : Nat) : (x % 2 ^ (8 * k)) ||| (x / 2 ^ (8 * k) % 256 * 2 ^ (8 * k)) = x % 2 ^ (8 * (k + 1)) := by
  rw [Nat.or_comm, nat_join (8 * k) _ _ (by simp) (Nat.mod_lt _ (Nat.two_pow_pos _))]
  have h := @Nat.mod_mul (2 ^ (8 * k)) 256 x
  have e : 2 ^ (8 * (k + 1)) = 2 ^ (8 * k) * 256 := by rw [Nat.mul_add, Nat.pow_add]
  rw [e, h, Nat.mul_comm (2 ^ (8 * k)) (x / 2 ^ (8 * k) % 256)]
  omega

theorem or_step (x : Int) (k : Nat) (hk : k < 8) (h0 : 0 ≤ x) (h1 : x ≤ 18446744073709551615) :
    bits .or .u64 (x % 2 ^ (8 * k)) (IntKind.u64.wrap (IntKind.u64.wrap (byteV x k) * 2 ^ (8 * k))) = x % 2 ^ (8 * (k + 1)) := by
  obtain ⟨a, rfl⟩ := Int.eq_ofNat_of_zero_le h0
  have e2 : IntKind.u64.wrap (byteV (a : Int) k) = ((a / 2 ^ (8 * k) % 256 : Nat) : Int) := by
    have := byteV_le (a : Int) k
    rw [wrap_u64, Int.emod_eq_of_lt this.1 (by omega)]
    unfold byteV
    rw [Int.natCast_emod, Int.natCast_ediv, Int.natCast_pow]
    rfl
  have hp : a / 2 ^ (8 * k) % 256 * 2 ^ (8 * k) < 18446744073709551616 := by
    have h1 : a / 2 ^ (8 * k) % 256 < 256 := Nat.mod_lt _ (by decide)
    have h2 : 2 ^ (8 * k) ≤ 2 ^ 56 := Nat.pow_le_pow_right (by decide) (by omega)
    calc a / 2 ^ (8 * k) % 256 * 2 ^ (8 * k) ≤ 255 * 2 ^ 56 := Nat.mul_le_mul (by omega) h2
      _ < 18446744073709551616 := by decide
  have e3 : IntKind.u64.wrap (IntKind.u64.wrap (byteV (a : Int) k) * 2 ^ (8 * k)) = ((a / 2 ^ (8 * k) % 256 * 2 ^ (8 * k) : Nat) : Int) := by
    rw [e2, wrap_u64]
    have : ((a / 2 ^ (8 * k) % 256 : Nat) : Int) * 2 ^ (8 * k) = ((a / 2 ^ (8 * k) % 256 * 2 ^ (8 * k) : Nat) : Int) := by rw [Int.natCast_mul, Int.natCast_pow]; rfl
    rw [this]
    omega
  rw [e3]
  have e4 : (a : Int) % 2 ^ (8 * k) = ((a % 2 ^ (8 * k) : Nat) : Int) := by rw [Int.natCast_emod, Int.natCast_pow]; rfl
  have e5 : (a : Int) % 2 ^ (8 * (k + 1)) = ((a % 2 ^ (8 * (k + 1)) : Nat) : Int) := by rw [Int.natCast_emod, Int.natCast_pow]; rfl
  rw [e4, e5, u64_or_nat _ _ (by have := Nat.mod_le a (2 ^ (8 * k)); omega) hp, nat_or_step]

/-- One byte put in place of another. -/
def putB (x : Int) (k : Nat) (b : Int) : Int := x - byteV x k * 2 ^ (8 * k) + b * 2 ^ (8 * k)
theorem pow_le (k : Nat) (hk : k < 8) : (2 : Int) ^ (8 * k) = 1 ∨ (2 : Int) ^ (8 * k) = 256 ∨ (2 : Int) ^ (8 * k) = 65536 ∨ (2 : Int) ^ (8 * k) = 16777216 ∨ (2 : Int) ^ (8 * k) = 4294967296 ∨ (2 : Int) ^ (8 * k) = 1099511627776 ∨ (2 : Int) ^ (8 * k) = 281474976710656 ∨ (2 : Int) ^ (8 * k) = 72057594037927936 := by
  match k, hk with
  | 0, _ | 1, _ | 2, _ | 3, _ | 4, _ | 5, _ | 6, _ | 7, _ => decide
theorem putB_le (x : Int) (k : Nat) (b : Int) (hk : k < 8) (h0 : 0 ≤ x) (h1 : x ≤ 18446744073709551615) (b0 : 0 ≤ b) (b1 : b ≤ 255) : 0 ≤ putB x k b ∧ putB x k b ≤ 18446744073709551615 := by
  unfold putB byteV
  rcases pow_le k hk with e | e | e | e | e | e | e | e <;> rw [e] <;> omega
theorem tmod8 (a : Int) : a.tmod 8 = 0 ↔ a % 8 = 0 := by
  rw [← Int.dvd_iff_tmod_eq_zero, Int.dvd_iff_emod_eq_zero]
end Go.Proofs.YteakglkagmghpaaGreat.Amem

/-
  Plain mathematics: a byte masked out of a word; a word with one byte replaced differs in the bits of that byte alone.
-/
namespace Go.Proofs.YteakglkagmghpaaGreat.Amem
open Go.RowKit
set_option linter.unusedVariables false
set_option maxRecDepth 8000

theorem clear_byte (c n x : Nat) (hc : c < 256) (hx : x / 2 ^ n % 256 = 0) : (c * 2 ^ n) &&& x = 0 := by
  apply Nat.eq_of_testBit_eq
  intro t
  rw [Nat.testBit_and, Nat.testBit_mul_two_pow, Nat.zero_testBit]
  by_cases h1 : n ≤ t
  · by_cases h2 : t - n < 8
    · have h3 : x.testBit t = false := by
        have e : x.testBit t = (x / 2 ^ n % 2 ^ 8).testBit (t - n) := by
          rw [Nat.testBit_mod_two_pow, decide_eq_true h2, Bool.true_and, Nat.testBit_div_two_pow, Nat.sub_add_cancel h1]
        rw [e, show (2 : Nat) ^ 8 = 256 from rfl, hx, Nat.zero_testBit]
      rw [h3, Bool.and_false]
    · have h3 : c.testBit (t - n) = false := Nat.testBit_lt_two_pow (Nat.lt_of_lt_of_le (show c < 2 ^ 8 from hc) (Nat.pow_le_pow_right (by decide) (by omega)))
      rw [h3, Bool.and_false, Bool.false_and]
  · rw [decide_eq_false h1, Bool.false_and, Bool.false_and]
theorem xor_out (a b n : Nat) (h1 : a / 2 ^ n / 256 = b / 2 ^ n / 256) (h2 : a % 2 ^ n = b % 2 ^ n) : ∃ c, c < 256 ∧ a ^^^ b = c * 2 ^ n := by
  have e1 : (a ^^^ b) / 2 ^ n / 2 ^ 8 = 0 := by
    rw [Nat.xor_div_two_pow, Nat.xor_div_two_pow, show (2 : Nat) ^ 8 = 256 from rfl, h1, Nat.xor_self]
  have e2 : (a ^^^ b) % 2 ^ n = 0 := by rw [Nat.xor_mod_two_pow, h2, Nat.xor_self]
  refine ⟨(a ^^^ b) / 2 ^ n, by omega, ?_⟩
  have := Nat.div_add_mod (a ^^^ b) (2 ^ n)
  rw [e2, Nat.add_zero, Nat.mul_comm] at this
  exact this.symm
theorem high (k : Nat) (hk : k < 8) : ∃ m : Nat, IntKind.u64.wrap (255 * 2 ^ (8 * k)) = (m : Int) ∧ m < 18446744073709551616 ∧ (18446744073709551615 - m) / 2 ^ (8 * k) % 256 = 0 := by
  have hs : k = 0 ∨ k = 1 ∨ k = 2 ∨ k = 3 ∨ k = 4 ∨ k = 5 ∨ k = 6 ∨ k = 7 := by omega
  refine ⟨255 * 2 ^ (8 * k), ?_, ?_, ?_⟩
  · rw [wrap_u64]
    rcases hs with rfl | rfl | rfl | rfl | rfl | rfl | rfl | rfl <;> simp
  · rcases hs with rfl | rfl | rfl | rfl | rfl | rfl | rfl | rfl <;> simp
  · rcases hs with rfl | rfl | rfl | rfl | rfl | rfl | rfl | rfl <;> simp
theorem apart (y b : Int) (k : Nat) (hk : k < 8) (h0 : 0 ≤ y) (h1 : y ≤ 18446744073709551615) (b0 : 0 ≤ b) (b1 : b ≤ 255) :
    bits .andNot .u64 (bits .xor .u64 (putB y k b) y) (IntKind.u64.wrap (255 * 2 ^ (8 * k))) = 0 := by
  have ⟨p0, p1⟩ := putB_le y k b hk h0 h1 b0 b1
  have hs : k = 0 ∨ k = 1 ∨ k = 2 ∨ k = 3 ∨ k = 4 ∨ k = 5 ∨ k = 6 ∨ k = 7 := by omega
  rw [u64_xor _ _ p0 (by omega) h0 (by omega)]
  have hx : ∃ c, c < 256 ∧ (putB y k b).toNat ^^^ y.toNat = c * 2 ^ (8 * k) := by
    apply xor_out
    · unfold putB byteV
      rcases hs with rfl | rfl | rfl | rfl | rfl | rfl | rfl | rfl <;> simp <;> omega
    · unfold putB byteV
      rcases hs with rfl | rfl | rfl | rfl | rfl | rfl | rfl | rfl <;> simp [Nat.mod_one] <;> omega
  obtain ⟨c, hc, e⟩ := hx
  rw [e]
  have hw := high k hk
  obtain ⟨m, hm, hm1, hm2⟩ := hw
  have hcb : c * 2 ^ (8 * k) < 18446744073709551616 := by
    have h2 : 2 ^ (8 * k) ≤ 2 ^ 56 := Nat.pow_le_pow_right (by decide) (by omega)
    exact Nat.lt_of_le_of_lt (Nat.mul_le_mul (show c ≤ 255 by omega) h2) (by decide)
  rw [hm, u64_andNot_nat _ _ hcb hm1, clear_byte c _ _ hc hm2]
  rfl
end Go.Proofs.YteakglkagmghpaaGreat.Amem

/-
  Contracts of package arena over one invariant, Ar: the arena whose struct is block B and whose bytes are block g holds n words, word i being f i; each call, for every argument, returns the named values and leaves the named state, changing no block but g.
-/
namespace Go.Proofs.YteakglkagmghpaaGreat.Arena
open Go.ChangeShapes Go.WideShapes Go.ChangeAt Go.RowKit Amem
set_option linter.unusedVariables false
set_option maxRecDepth 8000

theorem ret_int {k : IntKind} {a b : Int} (h : a = b) : Ending.returned (.int k a) = .returned (.int k b) := by rw [h]
theorem ret_bool {a b : Bool} (h : a = b) : Ending.returned (.bool a) = .returned (.bool b) := by rw [h]

theorem only_drew {a w : World} {row : Option Nat} (h : a.grownBy w row) : a.grownBy w.drew row := ⟨h.os, h.tape, h.output, h.size, h.block⟩
theorem only_trans {a b c : World} {row : Option Nat} (h : a.grownBy b row) (k : b.grownBy c row) : a.grownBy c row :=
  ⟨k.os.trans h.os, k.tape.trans h.tape, k.output.trans h.output, Nat.le_trans h.size k.size, fun i hi hne => (k.block i (Nat.lt_of_lt_of_le hi h.size) hne).trans (h.block i hi hne)⟩
theorem only_setCell {a w : World} {g : Nat} (h : a.grownBy w (some g)) (o : Nat) (u : Value) : a.grownBy (w.setCell ⟨g, o, none⟩ u) (some g) :=
  ⟨h.os, h.tape, h.output, by simpa [World.setCell] using h.size, fun i hi hne => (Below.heap_setCell w ⟨g, o, none⟩ u i (by rintro rfl; exact hne rfl)).trans (h.block i hi hne)⟩

/-- The arena at block B, its bytes in block g, holds n words, word i being f i. -/
structure Ar (w : World) (B g n : Nat) (f : Nat → Int) : Prop where
  head : w.rowIs B 188 1 (fun _ => .slice (some ⟨g, 0, none⟩) (8 * n) (8 * n))
  body : w.rowIs g 5 (8 * n) (fun i => .int .u8 (byteV (f (i / 8)) (i % 8)))
  fit : Fit f
  len : n ≤ 8192

theorem rows_ne {w : World} {a b : Nat} {s t : TypeId} {m n : Nat} {f g : Nat → Value} (h : w.rowIs a s m f) (k : w.rowIs b t n g) (hne : s ≠ t) : a ≠ b := by
  rintro rfl
  obtain ⟨c, hc, _⟩ := h
  obtain ⟨d, hd, _⟩ := k
  rw [hc] at hd
  injection hd with hd
  injection hd with _ ht
  exact hne ht
theorem Ar.ne {w : World} {B g n : Nat} {f : Nat → Int} (h : Ar w B g n f) : B ≠ g := rows_ne h.head h.body (by decide)
theorem Ar.cell {w : World} {B g n : Nat} {f : Nat → Int} (h : Ar w B g n f) : w.cell? ⟨B, 0, none⟩ = some (.slice (some ⟨g, 0, none⟩) (8 * n) (8 * n)) := h.head.cell (i := 0) (by omega)
theorem Ar.kept {w w' : World} {B g n : Nat} {f : Nat → Int} {row : Option Nat} (h : Ar w B g n f) (k : w.grownBy w' row) (h1 : row ≠ some B) (h2 : row ≠ some g) : Ar w' B g n f :=
  ⟨h.head.of_block (k.block B h.head.lt (fun e => h1 e.symm)), h.body.of_block (k.block g h.body.lt (fun e => h2 e.symm)), h.fit, h.len⟩
theorem Ar.below {w w' : World} {B g n N : Nat} {f : Nat → Int} (h : Ar w B g n f) (k : Below N w w') (h1 : B < N) (h2 : g < N) : Ar w' B g n f :=
  ⟨h.head.of_block (k.block B h1), h.body.of_block (k.block g h2), h.fit, h.len⟩

def withinB (a lo hi : Int) : Bool := decide (lo ≤ a ∧ a ≤ hi)
def okB (n : Nat) (a : Int) : Bool := decide (0 ≤ a ∧ a < 8 * (n : Int))
def okW (n : Nat) (a : Int) : Bool := decide (0 ≤ a ∧ a < 8 * (n : Int) ∧ a % 8 = 0)
theorem okW_idx {n : Nat} {a : Int} (h : okW n a = true) : ∃ i : Nat, i < n ∧ a = 8 * (i : Int) ∧ a.toNat / 8 = i := by
  unfold okW at h
  have := of_decide_eq_true h
  exact ⟨a.toNat / 8, by omega, by omega, rfl⟩
theorem okW_yes {n : Nat} {a : Int} (h0 : 0 ≤ a) (h1 : a < 8 * (n : Int)) (h2 : a % 8 = 0) : okW n a = true := decide_eq_true ⟨h0, h1, h2⟩
theorem okW_no {n : Nat} {a : Int} (h : a < 0 ∨ 8 * (n : Int) ≤ a ∨ ¬ a % 8 = 0) : okW n a = false := decide_eq_false (by omega)
theorem okW_mk {n i : Nat} (h : i < n) : okW n (8 * (i : Int)) = true := decide_eq_true (by omega)
set_option maxHeartbeats 400000 in
theorem within_any (a lo hi : Int) (w : World) :
    Calls Tryz.prog 90 #[.int .i64 a, .int .i64 lo, .int .i64 hi] w fun e w' => e = .returned (.bool (withinB a lo hi)) ∧ w = w' := by
  by_cases h1 : lo ≤ a
  · by_cases h2 : a ≤ hi
    all_goals
      go_enter Tryz.func90, Tryz.ntmps90
      go_wp2
      go_ret
      exact ⟨ret_bool (by simp [withinB]; omega), rfl⟩
  · go_enter Tryz.func90, Tryz.ntmps90
    go_wp2
    go_ret
    exact ⟨ret_bool (by simp [withinB]; omega), rfl⟩

set_option maxHeartbeats 400000 in
theorem place_any (w : World) (B g n : Nat) (f : Nat → Int) (a : Int) (h : Ar w B g n f) :
    Calls Tryz.prog 136 #[.pointer (some ⟨B, 0, none⟩), .int .i64 a] w fun e w' => e = .returned (.bool (okB n a)) ∧ w = w' := by
  have hl := h.len
  have hc := h.cell
  go_enter Tryz.func136, Tryz.ntmps136
  go_wp2_with (go_at_call 90; refine (within_any _ _ _ _).mono ?_; rintro e w' ⟨rfl, rfl⟩)
  go_ret
  exact ⟨ret_bool (by unfold withinB okB; exact decide_eq_decide.2 (by omega)), rfl⟩

set_option maxHeartbeats 400000 in
theorem wordplace_any (w : World) (B g n : Nat) (f : Nat → Int) (a : Int) (h : Ar w B g n f) (a1 : -9223372036854775808 ≤ a) (a2 : a ≤ 9223372036854775807) :
    Calls Tryz.prog 88 #[.pointer (some ⟨B, 0, none⟩), .int .i64 a] w fun e w' => e = .returned (.bool (okW n a)) ∧ w = w' := by
  have hl := h.len
  have e8 := tmod8 a
  by_cases h8 : a.tmod 8 = 0
  · have hq : a % 8 = 0 := e8.1 h8
    clear e8
    have q : (a.tmod 8 == 0) = true := by simpa using h8
    clear h8
    go_enter Tryz.func88, Tryz.ntmps88
    go_wp2_with (go_at_call 136; refine (place_any _ B g n f _ h).mono ?_; rintro e w' ⟨rfl, rfl⟩)
    go_ret
    exact ⟨ret_bool (by simp [okW, okB, hq]), rfl⟩
  · have hq : ¬ a % 8 = 0 := fun e => h8 (e8.2 e)
    clear e8
    have q : (a.tmod 8 == 0) = false := by simpa using h8
    clear h8
    go_enter Tryz.func88, Tryz.ntmps88
    go_wp2_with (go_at_call 136; refine (place_any _ B g n f _ h).mono ?_; rintro e w' ⟨rfl, rfl⟩)
    go_ret
    exact ⟨ret_bool (by simp [okW, hq]), rfl⟩

set_option maxHeartbeats 400000 in
theorem read_any (w : World) (B g n i : Nat) (f : Nat → Int) (h : Ar w B g n f) (hi : i < n) :
    Calls Tryz.prog 89 #[.pointer (some ⟨B, 0, none⟩), .int .i64 (8 * (i : Int))] w fun e w' => e = .returned (.int .u64 (f i)) ∧ w = w' := by
  have hl := h.len
  have hc := h.cell
  go_enter Tryz.func89, Tryz.ntmps89
  go_wp2
  go_loop [5, 7] (fun x t => ∃ k : Nat, k ≤ 8 ∧ t = .int .i64 k ∧ x = .int .u64 (f i % 2 ^ (8 * k))) (fun _ t => 8 - (intOf t).toNat)
  case atStart => exact ⟨0, by omega, rfl, by simp [Int.emod_one]⟩
  case round =>
    obtain ⟨k, hk, rfl, rfl⟩ := hrel
    by_cases hlt : k < 8
    · have hcell : w.cell? ⟨g, 8 * i + k, none⟩ = some (.int .u8 (byteV (f i) k)) := by
        rw [h.body.cell (i := 8 * i + k) (by omega), show (8 * i + k) / 8 = i by omega, show (8 * i + k) % 8 = k by omega]
      go_wp2
      go_round
      case rel => exact ⟨k + 1, by omega, by go_num, by rw [or_step _ _ hlt (h.fit i).1 (h.fit i).2]⟩
      case measure => simp [intOf]; omega
    · obtain rfl : k = 8 := by omega
      go_wp2
      go_ret
      exact ⟨ret_int (Int.emod_eq_of_lt (h.fit i).1 (by have := (h.fit i).2; omega)), rfl⟩

theorem write_step {wr : World} {g n i k : Nat} {x : Int} {f : Nat → Int} (hk : k < 8)
    (hb : wr.rowIs g 5 (8 * n) (fun j => .int .u8 (if 8 * i ≤ j ∧ j < 8 * i + k then byteV x (j - 8 * i) else byteV (f (j / 8)) (j % 8)))) :
    (wr.setCell ⟨g, 8 * i + k, none⟩ (.int .u8 (x / 2 ^ (8 * k) % 256))).rowIs g 5 (8 * n) (fun j => .int .u8 (if 8 * i ≤ j ∧ j < 8 * i + (k + 1) then byteV x (j - 8 * i) else byteV (f (j / 8)) (j % 8))) := by
  refine (hb.set (8 * i + k) _).congr fun j _ => ?_
  by_cases e : j = 8 * i + k
  · subst e
    rw [if_pos rfl, if_pos (by omega), show 8 * i + k - 8 * i = k by omega]
    rfl
  · rw [if_neg e]
    by_cases e' : 8 * i ≤ j ∧ j < 8 * i + k
    · rw [if_pos e', if_pos (by omega)]
    · rw [if_neg e', if_neg (by omega)]
theorem write_end {wr : World} {g n i : Nat} {x : Int} {f : Nat → Int}
    (hb : wr.rowIs g 5 (8 * n) (fun j => .int .u8 (if 8 * i ≤ j ∧ j < 8 * i + 8 then byteV x (j - 8 * i) else byteV (f (j / 8)) (j % 8)))) :
    wr.rowIs g 5 (8 * n) (fun j => .int .u8 (byteV (setF f i x (j / 8)) (j % 8))) := by
  refine hb.congr fun j _ => ?_
  by_cases e : 8 * i ≤ j ∧ j < 8 * i + 8
  · rw [if_pos e, show j / 8 = i by omega, setF_same, show j - 8 * i = j % 8 by omega]
  · rw [if_neg e, setF_other _ _ _ _ (by omega)]

set_option maxHeartbeats 400000 in
theorem write_any (w : World) (B g n i : Nat) (f : Nat → Int) (x : Int) (h : Ar w B g n f) (hi : i < n) (x1 : 0 ≤ x) (x2 : x ≤ 18446744073709551615) :
    Calls Tryz.prog 202 #[.pointer (some ⟨B, 0, none⟩), .int .i64 (8 * (i : Int)), .int .u64 x] w fun e w' => e = .returned (.tuple #[]) ∧ Ar w' B g n (setF f i x) ∧ w.grownBy w' (some g) := by
  have hl := h.len
  have hne := h.ne
  go_enter Tryz.func202, Tryz.ntmps202
  go_wp2
  go_loopw [7] (fun t wr => ∃ k : Nat, k ≤ 8 ∧ t = .int .i64 k ∧ wr.rowIs B 188 1 (fun _ => .slice (some ⟨g, 0, none⟩) (8 * n) (8 * n)) ∧
      wr.rowIs g 5 (8 * n) (fun j => .int .u8 (if 8 * i ≤ j ∧ j < 8 * i + k then byteV x (j - 8 * i) else byteV (f (j / 8)) (j % 8))) ∧ w.grownBy wr (some g)) (fun t _ => 8 - (intOf t).toNat)
  case atStart => exact ⟨0, by omega, rfl, h.head, h.body.congr (fun j hj => by rw [if_neg (by omega)]), World.grownBy.refl _ _⟩
  case round =>
    obtain ⟨k, hk, rfl, hh, hb, hg⟩ := hrel
    by_cases hlt : k < 8
    · have hc : wr.cell? ⟨B, 0, none⟩ = some (.slice (some ⟨g, 0, none⟩) (8 * n) (8 * n)) := hh.cell (i := 0) (by omega)
      have hcell := hb.cell (i := 8 * i + k) (by omega)
      have hfz := hb.frozen (8 * i + k)
      go_wp2
      go_region
      go_wp2
      go_roundw
      case rel => exact ⟨k + 1, by omega, by go_num, (hh.setOther hne _).drew, (write_step hlt hb).drew, only_drew (only_setCell hg _ _)⟩
      case measure => simp [intOf]; omega
    · obtain rfl : k = 8 := by omega
      go_wp2
      go_end0
      exact ⟨rfl, ⟨hh, write_end hb, h.fit.set i x x1 x2, hl⟩, hg⟩

theorem info_u8 : (Tryz.prog.info? 5).map (fun i => (i.zero, i.size, i.bytes)) = some (some (.int .u8 0), 1, 1) := by kernel_rfl
theorem under_bytes : Tryz.prog.underlying 186 = some (.slice 5) := by kernel_rfl

theorem make_bytes (k : Nat) (hk : k ≤ 8192) (W : World) : (Instr.makeSlice 186 (.int .i64 (8 * (k : Int))) (.int .i64 (8 * (k : Int)))).run Tryz.prog W =
    .ok (.slice (some ⟨W.heap.size, 0, none⟩) (8 * k) (8 * k)) (W.alloc (.cells (madeCells #[.int .u8 0] (8 * k)) 5)) := by
  obtain ⟨i0, hi, hz0, hz1, hz2⟩ := info_parts info_u8
  have h := run_make (P := Tryz.prog) W 186 5 i0 (.int .u8 0) under_bytes hi hz0 .i64 .i64 (8 * (k : Int)) (8 * (k : Int)) (by omega) (by omega) (by rw [hz2]; omega) (by omega)
  rw [hz1, Nat.mul_one, show (8 * (k : Int)).toNat = 8 * k by omega] at h
  exact h

theorem new_end (w : World) (k : Nat) (hk : k ≤ 8192) :
    Ar ((w.alloc (.cells (madeCells #[.int .u8 0] (8 * k)) 5)).alloc (.cells #[.slice (some ⟨w.heap.size, 0, none⟩) (8 * k) (8 * k)] 188)) (w.heap.size + 1) w.heap.size k (fun _ => 0) := by
  have e : (w.alloc (.cells (madeCells #[.int .u8 0] (8 * k)) 5)).heap.size = w.heap.size + 1 := by simp
  refine ⟨?_, ((World.rowIs_made w (.int .u8 0) (8 * k) 5).alloc _).congr (fun i _ => by rw [byteV_zero]), Fit.zero, hk⟩
  have := World.rowIs_alloc (w.alloc (.cells (madeCells #[.int .u8 0] (8 * k)) 5)) #[.slice (some ⟨w.heap.size, 0, none⟩) (8 * k) (8 * k)] 188 (fun _ => .slice (some ⟨w.heap.size, 0, none⟩) (8 * k) (8 * k))
    (fun i hi => by
      have : i = 0 := by simpa using hi
      subst this
      rfl)
  rw [e] at this
  exact this

set_option maxHeartbeats 400000 in
theorem new_any (w : World) (k : Nat) (hk : k ≤ 8192) :
    Calls Tryz.prog 118 #[.int .i64 (8 * (k : Int))] w fun e w' => e = .returned (.tuple #[.pointer (some ⟨w.heap.size + 1, 0, none⟩), .int .i64 0]) ∧ Ar w' (w.heap.size + 1) w.heap.size k (fun _ => 0) ∧ Below w.heap.size w w' ∧ w'.heap.size = w.heap.size + 2 := by
  have hwi : withinB (8 * (k : Int)) 0 65536 = true := decide_eq_true (by omega)
  have hmk := make_bytes k hk
  go_enter Tryz.func118, Tryz.ntmps118
  go_wp2_with (go_at_call 90; refine (within_any _ _ _ _).mono ?_; rintro e w' ⟨rfl, rfl⟩)
  go_ret2
  exact ⟨rfl, new_end w k hk, ((Below.refl _ _).alloc (Nat.le_refl _) _).alloc (by simp) _, by simp⟩

set_option maxHeartbeats 400000 in
theorem len_any (w : World) (B g n : Nat) (f : Nat → Int) (h : Ar w B g n f) :
    Calls Tryz.prog 40 #[.pointer (some ⟨B, 0, none⟩)] w fun e w' => e = .returned (.int .i64 (8 * (n : Int))) ∧ w = w' := by
  have hl := h.len
  have hc := h.cell
  go_enter Tryz.func40, Tryz.ntmps40
  go_wp2
  go_ret
  exact ⟨rfl, rfl⟩

def wordV (n : Nat) (f : Nat → Int) (a : Int) : Int := if okW n a = true then f (a.toNat / 8) else 0
def errW (n : Nat) (a : Int) : Int := if okW n a = true then 0 else 1
def putF (n : Nat) (f : Nat → Int) (a x : Int) : Nat → Int := if okW n a = true then setF f (a.toNat / 8) x else f
theorem errW_yes {n : Nat} {a : Int} (h : okW n a = true) : errW n a = 0 := by unfold errW; rw [if_pos h]
theorem errW_no {n : Nat} {a : Int} (h : okW n a = false) : errW n a = 1 := by unfold errW; rw [if_neg (by simp [h])]
theorem ret2 {k l : IntKind} {a b c d : Int} (h : a = b) (h' : c = d) : Ending.returned (.tuple #[.int k a, .int l c]) = .returned (.tuple #[.int k b, .int l d]) := by rw [h, h']

set_option maxHeartbeats 400000 in
theorem word_any (w : World) (B g n : Nat) (f : Nat → Int) (a : Int) (h : Ar w B g n f) (a1 : -9223372036854775808 ≤ a) (a2 : a ≤ 9223372036854775807) :
    Calls Tryz.prog 39 #[.pointer (some ⟨B, 0, none⟩), .int .i64 a] w fun e w' => e = .returned (.tuple #[.int .u64 (wordV n f a), .int .i64 (errW n a)]) ∧ w = w' := by
  by_cases hk : okW n a = true
  · obtain ⟨i, hi, rfl, hj⟩ := okW_idx hk
    have HJ := Lib.hid hj
    clear hj
    go_enter Tryz.func39, Tryz.ntmps39
    go_wp2_with (first
      | (go_at_call 88; refine (wordplace_any _ B g n f _ h a1 a2).mono ?_; rintro e w' ⟨rfl, rfl⟩)
      | (go_at_call 89; refine (read_any _ B g n i f h hi).mono ?_; rintro e w' ⟨rfl, rfl⟩))
    go_ret2
    exact ⟨ret2 (by unfold wordV; rw [if_pos hk, HJ.out]) (by unfold errW; rw [if_pos hk]), rfl⟩
  · have hq : okW n a = false := by simpa using hk
    clear hk
    go_enter Tryz.func39, Tryz.ntmps39
    go_wp2_with (go_at_call 88; refine (wordplace_any _ B g n f _ h a1 a2).mono ?_; rintro e w' ⟨rfl, rfl⟩)
    go_ret2
    exact ⟨ret2 (by unfold wordV; rw [if_neg (by simp [hq])]) (by unfold errW; rw [if_neg (by simp [hq])]), rfl⟩

set_option maxHeartbeats 400000 in
theorem put_any (w : World) (B g n : Nat) (f : Nat → Int) (a x : Int) (h : Ar w B g n f) (a1 : -9223372036854775808 ≤ a) (a2 : a ≤ 9223372036854775807) (x1 : 0 ≤ x) (x2 : x ≤ 18446744073709551615) :
    Calls Tryz.prog 173 #[.pointer (some ⟨B, 0, none⟩), .int .i64 a, .int .u64 x] w fun e w' => e = .returned (.int .i64 (errW n a)) ∧ Ar w' B g n (putF n f a x) ∧ w.grownBy w' (some g) := by
  by_cases hk : okW n a = true
  · obtain ⟨i, hi, rfl, hj⟩ := okW_idx hk
    have HJ := Lib.hid hj
    clear hj
    go_enter Tryz.func173, Tryz.ntmps173
    go_wp2_with (first
      | (go_at_call 88; refine (wordplace_any _ B g n f _ h a1 a2).mono ?_; rintro e w' ⟨rfl, rfl⟩)
      | (go_at_call 202; refine (write_any _ B g n i f _ h hi x1 x2).mono ?_; rintro e w' ⟨rfl, hw, hg⟩))
    go_ret
    exact ⟨ret_int (by unfold errW; rw [if_pos hk]), by unfold putF; rw [if_pos hk, HJ.out]; assumption, by assumption⟩
  · have hq : okW n a = false := by simpa using hk
    clear hk
    go_enter Tryz.func173, Tryz.ntmps173
    go_wp2_with (go_at_call 88; refine (wordplace_any _ B g n f _ h a1 a2).mono ?_; rintro e w' ⟨rfl, rfl⟩)
    go_ret
    exact ⟨ret_int (by unfold errW; rw [if_neg (by simp [hq])]), by unfold putF; rw [if_neg (by simp [hq])]; exact h, World.grownBy.refl _ _⟩
end Go.Proofs.YteakglkagmghpaaGreat.Arena

/-
  Contracts of arena's Cas, Claim and Zero, for every argument, over the invariant Ar; with them math/bits.Add64 at this program.
-/
namespace Go.Proofs.YteakglkagmghpaaGreat.Arena
open Go.ChangeShapes Go.WideShapes Go.ChangeAt Go.RowKit Amem
set_option linter.unusedVariables false
set_option maxRecDepth 8000

end Go.Proofs.YteakglkagmghpaaGreat.Arena

/-
  The document's example at the head of all laws of layer 2 returns true and changes nothing that was there; arena.New at a size that is spelled otherwise; words at place 8 times i.
-/
namespace Go.Proofs.YteakglkagmghpaaGreat.Arena
open Go.ChangeShapes Go.WideShapes Go.ChangeAt Go.RowKit Amem
set_option linter.unusedVariables false
set_option maxRecDepth 8000

theorem new_at (w : World) (m : Int) (k : Nat) (hm : m = 8 * (k : Int)) (hk : k ≤ 8192) :
    Calls Tryz.prog 118 #[.int .i64 m] w fun e w' => e = .returned (.tuple #[.pointer (some ⟨w.heap.size + 1, 0, none⟩), .int .i64 0]) ∧ Ar w' (w.heap.size + 1) w.heap.size k (fun _ => 0) ∧ Below w.heap.size w w' ∧ w'.heap.size = w.heap.size + 2 := by
  subst hm
  exact new_any w k hk

/-- What is below a number stays, if the block that changes is not below it. -/
theorem below_only {N g : Nat} {a w w' : World} (h : Below N a w) (k : w.grownBy w' (some g)) (hN : N ≤ w.heap.size) (hg : N ≤ g) : Below N a w' :=
  h.grown k hN (fun _ e => by injection e; omega)

theorem word_ok (w : World) (B g n i : Nat) (f : Nat → Int) (a : Int) (h : Ar w B g n f) (hi : i < n) (ha : a = 8 * (i : Int)) :
    Calls Tryz.prog 39 #[.pointer (some ⟨B, 0, none⟩), .int .i64 a] w fun e w' => e = .returned (.tuple #[.int .u64 (f i), .int .i64 0]) ∧ w = w' := by
  have hl := h.len
  subst ha
  refine (word_any w B g n f _ h (by omega) (by omega)).mono fun e w' ⟨he, hw⟩ => ⟨he.trans (ret2 ?_ ?_), hw⟩
  · unfold wordV; rw [if_pos (okW_mk hi)]; congr 1; omega
  · unfold errW; rw [if_pos (okW_mk hi)]
theorem put_ok (w : World) (B g n i : Nat) (f : Nat → Int) (a x : Int) (h : Ar w B g n f) (hi : i < n) (ha : a = 8 * (i : Int)) (x1 : 0 ≤ x) (x2 : x ≤ 18446744073709551615) :
    Calls Tryz.prog 173 #[.pointer (some ⟨B, 0, none⟩), .int .i64 a, .int .u64 x] w fun e w' => e = .returned (.int .i64 0) ∧ Ar w' B g n (setF f i x) ∧ w.grownBy w' (some g) := by
  have hl := h.len
  subst ha
  refine (put_any w B g n f _ x h (by omega) (by omega) x1 x2).mono fun e w' ⟨he, hw, hg⟩ => ⟨he.trans (ret_int ?_), ?_, hg⟩
  · unfold errW; rw [if_pos (okW_mk hi)]
  · unfold putF at hw; rw [if_pos (okW_mk hi), show (8 * (i : Int)).toNat / 8 = i by omega] at hw; exact hw
end Go.Proofs.YteakglkagmghpaaGreat.Arena

/-
  Contracts of the document's own answers for layer 2 (penfoldref02) over the invariant Rf: the words lie in one row; each call returns the very values that arena's contracts name, and leaves the same state.
-/
namespace Go.Proofs.YteakglkagmghpaaGreat.Aref
open Go.ChangeShapes Go.WideShapes Go.ChangeAt Go.RowKit Amem Arena
set_option linter.unusedVariables false
set_option maxRecDepth 8000

structure Rf (w : World) (B g n : Nat) (f : Nat → Int) : Prop where
  head : w.rowIs B 103 1 (fun _ => .slice (some ⟨g, 0, none⟩) n n)
  body : w.rowIs g 50 n (fun i => .int .u64 (f i))
  fit : Fit f
  len : n ≤ 8192

theorem Rf.ne {w : World} {B g n : Nat} {f : Nat → Int} (h : Rf w B g n f) : B ≠ g := rows_ne h.head h.body (by decide)
theorem Rf.cell {w : World} {B g n : Nat} {f : Nat → Int} (h : Rf w B g n f) : w.cell? ⟨B, 0, none⟩ = some (.slice (some ⟨g, 0, none⟩) n n) := h.head.cell (i := 0) (by omega)
theorem Rf.kept {w w' : World} {B g n : Nat} {f : Nat → Int} {row : Option Nat} (h : Rf w B g n f) (k : w.grownBy w' row) (h1 : row ≠ some B) (h2 : row ≠ some g) : Rf w' B g n f :=
  ⟨h.head.of_block (k.block B h.head.lt (fun e => h1 e.symm)), h.body.of_block (k.block g h.body.lt (fun e => h2 e.symm)), h.fit, h.len⟩
theorem Rf.below {w w' : World} {B g n N : Nat} {f : Nat → Int} (h : Rf w B g n f) (k : Below N w w') (h1 : B < N) (h2 : g < N) : Rf w' B g n f :=
  ⟨h.head.of_block (k.block B h1), h.body.of_block (k.block g h2), h.fit, h.len⟩
theorem Rf.set {w : World} {B g n : Nat} {f : Nat → Int} (h : Rf w B g n f) (i : Nat) (x : Int) (x1 : 0 ≤ x) (x2 : x ≤ 18446744073709551615) : Rf (w.setCell ⟨g, i, none⟩ (.int .u64 x)) B g n (setF f i x) := by
  refine ⟨h.head.setOther h.ne _, (h.body.set i _).congr fun j _ => ?_, h.fit.set _ _ x1 x2, h.len⟩
  unfold setF
  split <;> rfl
theorem Rf.drew {w : World} {B g n : Nat} {f : Nat → Int} (h : Rf w B g n f) : Rf w.drew B g n f := ⟨h.head.drew, h.body.drew, h.fit, h.len⟩

theorem info_u64 : (Tryz.prog.info? 50).map (fun i => (i.zero, i.size, i.bytes)) = some (some (.int .u64 0), 1, 8) := by kernel_rfl
theorem under_words : Tryz.prog.underlying 48 = some (.slice 50) := by kernel_rfl
theorem make_words (k : Nat) (hk : k ≤ 8192) (W : World) : (Instr.makeSlice 48 (.int .i64 (k : Int)) (.int .i64 (k : Int))).run Tryz.prog W =
    .ok (.slice (some ⟨W.heap.size, 0, none⟩) k k) (W.alloc (.cells (madeCells #[.int .u64 0] k) 50)) := by
  obtain ⟨i0, hi, hz0, hz1, hz2⟩ := info_parts info_u64
  have h := run_make (P := Tryz.prog) W 48 50 i0 (.int .u64 0) under_words hi hz0 .i64 .i64 (k : Int) (k : Int) (by omega) (by omega) (by rw [hz2]; omega) (by omega)
  rw [hz1, Nat.mul_one, show (k : Int).toNat = k by omega] at h
  exact h
theorem new_end (w : World) (k : Nat) (hk : k ≤ 8192) :
    Rf ((w.alloc (.cells (madeCells #[.int .u64 0] k) 50)).alloc (.cells #[.slice (some ⟨w.heap.size, 0, none⟩) k k] 103)) (w.heap.size + 1) w.heap.size k (fun _ => 0) := by
  have e : (w.alloc (.cells (madeCells #[.int .u64 0] k) 50)).heap.size = w.heap.size + 1 := by simp
  refine ⟨?_, (World.rowIs_made w (.int .u64 0) k 50).alloc _, Fit.zero, hk⟩
  have := World.rowIs_alloc (w.alloc (.cells (madeCells #[.int .u64 0] k) 50)) #[.slice (some ⟨w.heap.size, 0, none⟩) k k] 103 (fun _ => .slice (some ⟨w.heap.size, 0, none⟩) k k)
    (fun i hi => by
      have : i = 0 := by simpa using hi
      subst this
      rfl)
  rw [e] at this
  exact this

set_option maxHeartbeats 400000 in
theorem new_any (w : World) (k : Nat) (hk : k ≤ 8192) :
    Calls Tryz.prog 70 #[.int .i64 (8 * (k : Int))] w fun e w' => e = .returned (.pointer (some ⟨w.heap.size + 1, 0, none⟩)) ∧ Rf w' (w.heap.size + 1) w.heap.size k (fun _ => 0) ∧ Below w.heap.size w w' ∧ w'.heap.size = w.heap.size + 2 := by
  have hmk := make_words k hk
  have hd : 8 * (k : Int) / 8 = (k : Int) := by omega
  go_enter Tryz.func70, Tryz.ntmps70
  go_wp2
  go_ret
  exact ⟨rfl, new_end w k hk, ((Below.refl _ _).alloc (Nat.le_refl _) _).alloc (by simp) _, by simp⟩

set_option maxHeartbeats 400000 in
theorem is_any (w : World) (B g n : Nat) (f : Nat → Int) (a : Int) (h : Rf w B g n f) (a1 : -9223372036854775808 ≤ a) (a2 : a ≤ 9223372036854775807) :
    Calls Tryz.prog 163 #[.pointer (some ⟨B, 0, none⟩), .int .i64 a] w fun e w' => e = .returned (.bool (okW n a)) ∧ w = w' := by
  have hl := h.len
  have hc := h.cell
  by_cases h0 : 0 ≤ a
  · have b0 : decide (0 ≤ a) = true := decide_eq_true h0
    by_cases h1 : a < 8 * (n : Int)
    · have b1 : decide (a < 8 * (n : Int)) = true := decide_eq_true h1
      by_cases h8 : a % 8 = 0
      · have q : (a % 8 == 0) = true := by simpa using h8
        have K := Lib.hid (okW_yes h0 h1 h8)
        clear h8
        go_enter Tryz.func163, Tryz.ntmps163
        go_wp2
        go_ret
        exact ⟨ret_bool K.out.symm, rfl⟩
      · have q : (a % 8 == 0) = false := by simpa using h8
        have K := Lib.hid (okW_no (n := n) (a := a) (.inr (.inr h8)))
        clear h8
        go_enter Tryz.func163, Tryz.ntmps163
        go_wp2
        go_ret
        exact ⟨ret_bool K.out.symm, rfl⟩
    · have b1 : decide (a < 8 * (n : Int)) = false := decide_eq_false h1
      have K := Lib.hid (okW_no (n := n) (a := a) (.inr (.inl (by omega))))
      go_enter Tryz.func163, Tryz.ntmps163
      go_wp2
      go_ret
      exact ⟨ret_bool K.out.symm, rfl⟩
  · have b0 : decide (0 ≤ a) = false := decide_eq_false h0
    have K := Lib.hid (okW_no (n := n) (a := a) (.inl (by omega)))
    go_enter Tryz.func163, Tryz.ntmps163
    go_wp2
    go_ret
    exact ⟨ret_bool K.out.symm, rfl⟩

set_option maxHeartbeats 400000 in
theorem word_any (w : World) (B g n : Nat) (f : Nat → Int) (a : Int) (h : Rf w B g n f) (a1 : -9223372036854775808 ≤ a) (a2 : a ≤ 9223372036854775807) :
    Calls Tryz.prog 135 #[.pointer (some ⟨B, 0, none⟩), .int .i64 a] w fun e w' => e = .returned (.tuple #[.int .u64 (wordV n f a), .int .i64 (errW n a)]) ∧ w = w' := by
  have hl := h.len
  have hc := h.cell
  by_cases hk : okW n a = true
  · obtain ⟨i, hi, rfl, hj⟩ := okW_idx hk
    have hcell := h.body.cell hi
    have hd : 8 * (i : Int) / 8 = (i : Int) := by omega
    have HJ := Lib.hid hj
    clear hj
    go_enter Tryz.func135, Tryz.ntmps135
    go_wp2_with (go_at_call 163; refine (is_any _ B g n f _ h a1 a2).mono ?_; rintro e w' ⟨rfl, rfl⟩)
    go_ret2
    exact ⟨ret2 (by unfold wordV; rw [if_pos hk, HJ.out]) (errW_yes hk).symm, rfl⟩
  · have hq : okW n a = false := by simpa using hk
    clear hk
    go_enter Tryz.func135, Tryz.ntmps135
    go_wp2_with (go_at_call 163; refine (is_any _ B g n f _ h a1 a2).mono ?_; rintro e w' ⟨rfl, rfl⟩)
    go_ret2
    exact ⟨ret2 (by unfold wordV; rw [if_neg (by simp [hq])]) (errW_no hq).symm, rfl⟩

set_option maxHeartbeats 400000 in
theorem put_any (w : World) (B g n : Nat) (f : Nat → Int) (a x : Int) (h : Rf w B g n f) (a1 : -9223372036854775808 ≤ a) (a2 : a ≤ 9223372036854775807) (x1 : 0 ≤ x) (x2 : x ≤ 18446744073709551615) :
    Calls Tryz.prog 122 #[.pointer (some ⟨B, 0, none⟩), .int .i64 a, .int .u64 x] w fun e w' => e = .returned (.int .i64 (errW n a)) ∧ Rf w' B g n (putF n f a x) ∧ w.grownBy w' (some g) := by
  have hl := h.len
  have hc := h.cell
  by_cases hk : okW n a = true
  · obtain ⟨i, hi, rfl, hj⟩ := okW_idx hk
    have hcell := h.body.cell hi
    have hfz := h.body.frozen i
    have hd : 8 * (i : Int) / 8 = (i : Int) := by omega
    have HJ := Lib.hid hj
    clear hj
    go_enter Tryz.func122, Tryz.ntmps122
    go_wp2_with (go_at_call 163; refine (is_any _ B g n f _ h a1 a2).mono ?_; rintro e w' ⟨rfl, rfl⟩)
    go_ret
    exact ⟨ret_int (errW_yes hk).symm, by unfold putF; rw [if_pos hk, HJ.out]; exact h.set i x x1 x2, only_setCell (World.grownBy.refl _ _) _ _⟩
  · have hq : okW n a = false := by simpa using hk
    clear hk
    go_enter Tryz.func122, Tryz.ntmps122
    go_wp2_with (go_at_call 163; refine (is_any _ B g n f _ h a1 a2).mono ?_; rintro e w' ⟨rfl, rfl⟩)
    go_ret
    exact ⟨ret_int (errW_no hq).symm, by unfold putF; rw [if_neg (by simp [hq])]; exact h, World.grownBy.refl _ _⟩
end Go.Proofs.YteakglkagmghpaaGreat.Aref

/-
  Contracts of the document's own answers for layer 2, second part: power, Byte, PutByte, Cas, Claim and Zero.
-/
namespace Go.Proofs.YteakglkagmghpaaGreat.Aref
open Go.ChangeShapes Go.WideShapes Go.ChangeAt Go.RowKit Amem Arena
set_option linter.unusedVariables false
set_option maxRecDepth 8000

theorem Rf.drewN {w : World} {B g n : Nat} {f : Nat → Int} (h : Rf w B g n f) (m : Nat) : Rf (w.drewN m) B g n f := ⟨h.head, h.body, h.fit, h.len⟩
theorem only_drewN {a w : World} {row : Option Nat} (h : a.grownBy w row) (n : Nat) : a.grownBy (w.drewN n) row := ⟨h.os, h.tape, h.output, h.size, h.block⟩

theorem word_ok (w : World) (B g n i : Nat) (f : Nat → Int) (a : Int) (h : Rf w B g n f) (hi : i < n) (ha : a = 8 * (i : Int)) :
    Calls Tryz.prog 135 #[.pointer (some ⟨B, 0, none⟩), .int .i64 a] w fun e w' => e = .returned (.tuple #[.int .u64 (f i), .int .i64 0]) ∧ w = w' := by
  have hl := h.len
  subst ha
  refine (word_any w B g n f _ h (by omega) (by omega)).mono fun e w' ⟨he, hw⟩ => ⟨he.trans (ret2 ?_ (errW_yes (okW_mk hi))), hw⟩
  unfold wordV; rw [if_pos (okW_mk hi)]; congr 1; omega
theorem put_ok (w : World) (B g n i : Nat) (f : Nat → Int) (a x : Int) (h : Rf w B g n f) (hi : i < n) (ha : a = 8 * (i : Int)) (x1 : 0 ≤ x) (x2 : x ≤ 18446744073709551615) :
    Calls Tryz.prog 122 #[.pointer (some ⟨B, 0, none⟩), .int .i64 a, .int .u64 x] w fun e w' => e = .returned (.int .i64 0) ∧ Rf w' B g n (setF f i x) ∧ w.grownBy w' (some g) := by
  have hl := h.len
  subst ha
  refine (put_any w B g n f _ x h (by omega) (by omega) x1 x2).mono fun e w' ⟨he, hw, hg⟩ => ⟨he.trans (ret_int (errW_yes (okW_mk hi))), ?_, hg⟩
  unfold putF at hw; rw [if_pos (okW_mk hi), show (8 * (i : Int)).toNat / 8 = i by omega] at hw; exact hw

end Go.Proofs.YteakglkagmghpaaGreat.Aref
