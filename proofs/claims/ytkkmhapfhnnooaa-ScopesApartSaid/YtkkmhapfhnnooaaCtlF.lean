/-
  A mask of an integer of 64 bits, below 0 too; the contract of the document's Fit.
-/
import Derived.Test.YtkkmhapfhnnooaaCtlE
namespace Go.Proofs.Ytkkmhapfhnnooaa.Ctl
open Go.ChangeShapes Go.WideShapes Go.ChangeAt Go.RowKit
set_option linter.unusedVariables false

theorem mask_i64 (k : Nat) (hk : k ≤ 62) (x : Int) : bits .and .i64 x (2 ^ k - 1) = x % 2 ^ k := by
  have hpos : 0 < 2 ^ k := Nat.two_pow_pos k
  have hle : 2 ^ k ≤ 2 ^ 62 := Nat.pow_le_pow_right (by decide) hk
  have hc : ((2 : Int) ^ k - 1) = ((2 ^ k - 1 : Nat) : Int) := by rw [Int.natCast_sub hpos]; simp
  rw [hc]
  show IntKind.i64.wrap ((BitVec.ofInt 64 x &&& BitVec.ofInt 64 ((2 ^ k - 1 : Nat) : Int)).toNat : Int) = _
  have e : (BitVec.ofInt 64 ((2 ^ k - 1 : Nat) : Int)).toNat = 2 ^ k - 1 := by
    rw [BitVec.ofInt_natCast, BitVec.toNat_ofNat, Nat.mod_eq_of_lt (by omega)]
  rw [BitVec.toNat_and, e, Nat.and_two_pow_sub_one_eq_mod, BitVec.toNat_ofInt]
  have h1 : (((x % ((2 ^ 64 : Nat) : Int)).toNat % 2 ^ k : Nat) : Int) = x % 2 ^ k := by
    rw [Int.natCast_emod, Int.toNat_of_nonneg (Int.emod_nonneg _ (by decide))]
    have hd : ((2 ^ k : Nat) : Int) ∣ ((2 ^ 64 : Nat) : Int) := Int.natCast_dvd_natCast.2 (Nat.pow_dvd_pow 2 (by omega))
    rw [Int.emod_emod_of_dvd _ hd, Int.natCast_pow]
    rfl
  rw [h1, IntKind.wrap_i64]
  have h2 : (2 : Int) ^ k ≤ 2 ^ 62 := by exact_mod_cast hle
  have h3 : (0 : Int) < 2 ^ k := by exact_mod_cast hpos
  have h4 := Int.emod_nonneg x (show (2 : Int) ^ k ≠ 0 by omega)
  have h5 := Int.emod_lt_of_pos x h3
  omega

/-- What Fit makes. -/
def fitC (s c : Int) : Int := if s % 4 = 2 then 1 + c % 8 % 7 else 0
def fitP (s p : Int) : Int := if 2 ≤ s % 4 then p % 16 % 9 - 1 else -1
theorem fit_right (s c p e : Int) : rightB (s % 4) (fitC s c) (fitP s p) (e % 16777216) = true := by
  refine decide_eq_true ?_
  unfold fitC fitP
  by_cases h : s % 4 = 2
  · rw [if_pos h, if_pos (by omega)]; omega
  · rw [if_neg h]
    by_cases h' : 2 ≤ s % 4
    · rw [if_pos h']; omega
    · rw [if_neg h']; omega
theorem retA {s s' c c' p p' e e' : Int} (h1 : s = s') (h2 : c = c') (h3 : p = p') (h4 : e = e') :
    Ending.returned (.agg #[.int .i64 s, .int .i64 c, .int .i64 p, .int .i64 e]) = .returned (.agg #[.int .i64 s', .int .i64 c', .int .i64 p', .int .i64 e']) := by rw [h1, h2, h3, h4]

end Go.Proofs.Ytkkmhapfhnnooaa.Ctl
