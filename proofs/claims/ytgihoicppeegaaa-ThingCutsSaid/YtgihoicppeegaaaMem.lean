/-
  Plain mathematics of bytes and words: the eight bytes of a number below 2^64 make it up again; one byte put in place of another; states of words as functions of their index.
-/
import Derived.WalkKit
import Derived.Laws.BitsAllLaws
import Derived.Laws.BitsLemmas
import Derived.Deep.OwnRows
import Derived.Lib.Hide
namespace Go.Proofs.Ytgihoicppeegaaa.Mem
open Go.RowKit
set_option linter.unusedVariables false

/-- Byte k of a word. -/
def byteV (x : Int) (k : Nat) : Int := x / 2 ^ (8 * k) % 256
/-- One word put. -/
def setF (f : Nat → Int) (i : Nat) (x : Int) : Nat → Int := fun j => if j = i then x else f j
theorem setF_same (f : Nat → Int) (i : Nat) (x : Int) : setF f i x i = x := by simp [setF]
theorem setF_other (f : Nat → Int) (i j : Nat) (x : Int) (h : j ≠ i) : setF f i x j = f j := by simp [setF, h]
def Fit (f : Nat → Int) : Prop := ∀ i, 0 ≤ f i ∧ f i ≤ 18446744073709551615
theorem Fit.set {f : Nat → Int} (h : Fit f) (i : Nat) (x : Int) (h0 : 0 ≤ x) (h1 : x ≤ 18446744073709551615) : Fit (setF f i x) := by
  intro j
  unfold setF
  split
  · exact ⟨h0, h1⟩
  · exact h j
theorem Fit.zero : Fit (fun _ => 0) := fun _ => ⟨Int.le_refl 0, by show (0 : Int) ≤ _; decide⟩

theorem byteV_le (x : Int) (k : Nat) : 0 ≤ byteV x k ∧ byteV x k ≤ 255 := by unfold byteV; omega
theorem byteV_zero (k : Nat) : byteV 0 k = 0 := by simp [byteV]
theorem wrap_u64 (n : Int) : IntKind.u64.wrap n = n % 18446744073709551616 := by simp [IntKind.wrap, IntKind.bits, IntKind.signed]

theorem nat_or_step (x k : Nat) : (x % 2 ^ (8 * k)) ||| (x / 2 ^ (8 * k) % 256 * 2 ^ (8 * k)) = x % 2 ^ (8 * (k + 1)) := by
  rw [Nat.or_comm, nat_join (8 * k) _ _ (by simp) (Nat.mod_lt _ (Nat.two_pow_pos _))]
  have h := @Nat.mod_mul (2 ^ (8 * k)) 256 x
  have e : 2 ^ (8 * (k + 1)) = 2 ^ (8 * k) * 256 := by rw [Nat.mul_add, Nat.pow_add]
  rw [e, h, Nat.mul_comm (2 ^ (8 * k)) (x / 2 ^ (8 * k) % 256)]
  omega

theorem or_step (x : Int) (k : Nat) (hk : k < 8) (h0 : 0 ≤ x) (h1 : x ≤ 18446744073709551615) :
    bits .or .u64 (x % 2 ^ (8 * k)) (IntKind.u64.wrap (IntKind.u64.wrap (byteV x k) * 2 ^ (8 * k))) = x % 2 ^ (8 * (k + 1)) := by
  obtain ⟨a, rfl⟩ := Int.eq_ofNat_of_zero_le h0
  have e2 : IntKind.u64.wrap (byteV (a : Int) k) = ((a / 2 ^ (8 * k) % 256 : Nat) : Int) := by
    have := byteV_le (a : Int) k
    rw [wrap_u64, Int.emod_eq_of_lt this.1 (by omega)]
    unfold byteV
    rw [Int.natCast_emod, Int.natCast_ediv, Int.natCast_pow]
    rfl
  have hp : a / 2 ^ (8 * k) % 256 * 2 ^ (8 * k) < 18446744073709551616 := by
    have h1 : a / 2 ^ (8 * k) % 256 < 256 := Nat.mod_lt _ (by decide)
    have h2 : 2 ^ (8 * k) ≤ 2 ^ 56 := Nat.pow_le_pow_right (by decide) (by omega)
    calc a / 2 ^ (8 * k) % 256 * 2 ^ (8 * k) ≤ 255 * 2 ^ 56 := Nat.mul_le_mul (by omega) h2
      _ < 18446744073709551616 := by decide
  have e3 : IntKind.u64.wrap (IntKind.u64.wrap (byteV (a : Int) k) * 2 ^ (8 * k)) = ((a / 2 ^ (8 * k) % 256 * 2 ^ (8 * k) : Nat) : Int) := by
    rw [e2, wrap_u64]
    have : ((a / 2 ^ (8 * k) % 256 : Nat) : Int) * 2 ^ (8 * k) = ((a / 2 ^ (8 * k) % 256 * 2 ^ (8 * k) : Nat) : Int) := by rw [Int.natCast_mul, Int.natCast_pow]; rfl
    rw [this]
    omega
  rw [e3]
  have e4 : (a : Int) % 2 ^ (8 * k) = ((a % 2 ^ (8 * k) : Nat) : Int) := by rw [Int.natCast_emod, Int.natCast_pow]; rfl
  have e5 : (a : Int) % 2 ^ (8 * (k + 1)) = ((a % 2 ^ (8 * (k + 1)) : Nat) : Int) := by rw [Int.natCast_emod, Int.natCast_pow]; rfl
  rw [e4, e5, u64_or_nat _ _ (by have := Nat.mod_le a (2 ^ (8 * k)); omega) hp, nat_or_step]

/-- One byte put in place of another. -/
def putB (x : Int) (k : Nat) (b : Int) : Int := x - byteV x k * 2 ^ (8 * k) + b * 2 ^ (8 * k)
theorem pow_le (k : Nat) (hk : k < 8) : (2 : Int) ^ (8 * k) = 1 ∨ (2 : Int) ^ (8 * k) = 256 ∨ (2 : Int) ^ (8 * k) = 65536 ∨ (2 : Int) ^ (8 * k) = 16777216 ∨ (2 : Int) ^ (8 * k) = 4294967296 ∨ (2 : Int) ^ (8 * k) = 1099511627776 ∨ (2 : Int) ^ (8 * k) = 281474976710656 ∨ (2 : Int) ^ (8 * k) = 72057594037927936 := by
  match k, hk with
  | 0, _ | 1, _ | 2, _ | 3, _ | 4, _ | 5, _ | 6, _ | 7, _ => decide
theorem putB_le (x : Int) (k : Nat) (b : Int) (hk : k < 8) (h0 : 0 ≤ x) (h1 : x ≤ 18446744073709551615) (b0 : 0 ≤ b) (b1 : b ≤ 255) : 0 ≤ putB x k b ∧ putB x k b ≤ 18446744073709551615 := by
  unfold putB byteV
  rcases pow_le k hk with e | e | e | e | e | e | e | e <;> rw [e] <;> omega
theorem byte_putB (x : Int) (k : Nat) (b : Int) (hk : k < 8) (j : Nat) (hj : j < 8) (h0 : 0 ≤ x) (h1 : x ≤ 18446744073709551615) (b0 : 0 ≤ b) (b1 : b ≤ 255) :
    byteV (putB x k b) j = if j = k then b else byteV x j := by
  unfold putB byteV
  match k, hk with
  | 0, _ | 1, _ | 2, _ | 3, _ | 4, _ | 5, _ | 6, _ | 7, _ =>
    match j, hj with
    | 0, _ | 1, _ | 2, _ | 3, _ | 4, _ | 5, _ | 6, _ | 7, _ => simp <;> omega
theorem tmod8 (a : Int) : a.tmod 8 = 0 ↔ a % 8 = 0 := by
  rw [← Int.dvd_iff_tmod_eq_zero, Int.dvd_iff_emod_eq_zero]
end Go.Proofs.Ytgihoicppeegaaa.Mem
