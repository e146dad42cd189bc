/-
  Contracts of the calls of package num and of the document's own answers for it: each returns the plain numbers addV, upV, wordsV and their errors, for every two integers of 64 bits, and leaves the world as it was.
-/
import Derived.Test.YtkkmhapfhnnooaaProg
import Derived.WalkKit
import Derived.ProofKit
import Derived.OpenShut
import Derived.IntWalk
import Derived.Lib.Hide
namespace Go.Proofs.Ytkkmhapfhnnooaa.Num
open Go.ChangeShapes Go.WideShapes Go.ChangeAt Go.RowKit
set_option linter.unusedVariables false

def addV (a b : Int) : Int := if a + b < -9223372036854775808 ∨ 9223372036854775807 < a + b then 0 else a + b
def addE (a b : Int) : Int := if a + b < -9223372036854775808 ∨ 9223372036854775807 < a + b then 3 else 0
def upV (n : Int) : Int := if n < 0 ∨ 9223372036854775800 < n then 0 else (n + 7) / 8 * 8
def upE (n : Int) : Int := if n < 0 then 1 else if 9223372036854775800 < n then 3 else 0
def wordsV (n : Int) : Int := upV n / 8

theorem wrap_lo (a b : Int) (a1 : -9223372036854775808 ≤ a) (b1 : -9223372036854775808 ≤ b) (h : a + b < -9223372036854775808) : wrap64 (a + b) = a + b + 18446744073709551616 := by
  unfold wrap64; omega
theorem wrap_hi (a b : Int) (a1 : a ≤ 9223372036854775807) (b1 : b ≤ 9223372036854775807) (h : 9223372036854775807 < a + b) : wrap64 (a + b) = a + b - 18446744073709551616 := by
  unfold wrap64; omega
theorem ret2 {k : IntKind} {a b c d : Int} (h : a = b) (h' : c = d) : Ending.returned (.tuple #[.int k a, .int k c]) = .returned (.tuple #[.int k b, .int k d]) := by rw [h, h']

set_option maxHeartbeats 400000 in
theorem up_any (n : Int) (w : World) (n1 : -9223372036854775808 ≤ n) (n2 : n ≤ 9223372036854775807) :
    Calls Try.prog 43 #[.int .i64 n] w fun e w' => e = .returned (.tuple #[.int .i64 (upV n), .int .i64 (upE n)]) ∧ w = w' := by
  by_cases h : n < 0
  · go_enter Try.func43, Try.ntmps43
    go_wp2
    go_ret2
    exact ⟨ret2 (by unfold upV; rw [if_pos (by omega)]) (by unfold upE; rw [if_pos (by omega)]), rfl⟩
  · have h0 : 0 ≤ n := by omega
    by_cases h' : 9223372036854775800 < n
    · go_enter Try.func43, Try.ntmps43
      go_wp2
      go_ret2
      exact ⟨ret2 (by unfold upV; rw [if_pos (by omega)]) (by unfold upE; rw [if_neg (by omega), if_pos (by omega)]), rfl⟩
    · by_cases h8 : n % 8 = 0
      · go_enter Try.func43, Try.ntmps43
        go_wp2
        go_ret2
        exact ⟨ret2 (by unfold upV; rw [if_neg (by omega)]; omega) (by unfold upE; rw [if_neg (by omega), if_neg (by omega)]), rfl⟩
      · go_enter Try.func43, Try.ntmps43
        go_wp2
        go_ret2
        exact ⟨ret2 (by unfold upV; rw [if_neg (by omega)]; omega) (by unfold upE; rw [if_neg (by omega), if_neg (by omega)]), rfl⟩

theorem upV_le (n : Int) : 0 ≤ upV n ∧ upV n ≤ 9223372036854775800 := by
  unfold upV; split <;> omega
theorem upE_cases (n : Int) : upE n = 0 ∨ upE n = 1 ∨ upE n = 3 := by
  unfold upE; repeat' split
  all_goals simp
theorem upV_of (n : Int) (h : upE n ≠ 0) : upV n = 0 := by
  unfold upE at h; unfold upV; split at h
  · rw [if_pos (by omega)]
  · split at h
    · rw [if_pos (by omega)]
    · exact absurd rfl h
theorem addV_le (a b : Int) : -9223372036854775808 ≤ addV a b ∧ addV a b ≤ 9223372036854775807 := by
  unfold addV; split <;> omega

theorem bounds {a : Int} (h : (Lit.int .i64 a).wf = true) : -9223372036854775808 ≤ a ∧ a ≤ 9223372036854775807 := by
  simp only [Lit.wf, IntKind.min, IntKind.max, IntKind.signed, IntKind.bits, Bool.and_eq_true, decide_eq_true_eq, if_true] at h
  omega
theorem ubounds {a : Int} (h : (Lit.int .u64 a).wf = true) : 0 ≤ a ∧ a ≤ 18446744073709551615 := by
  simp [Lit.wf, IntKind.min, IntKind.max, IntKind.signed, IntKind.bits] at h
  omega
theorem bounds16 {a : Int} (h : (Lit.int .u16 a).wf = true) : 0 ≤ a ∧ a ≤ 65535 := by
  simp [Lit.wf, IntKind.min, IntKind.max, IntKind.signed, IntKind.bits] at h
  omega
theorem bounds8 {a : Int} (h : (Lit.int .u8 a).wf = true) : 0 ≤ a ∧ a ≤ 255 := by
  simp [Lit.wf, IntKind.min, IntKind.max, IntKind.signed, IntKind.bits] at h
  omega

theorem within_yes (n lo hi : Int) (w : World) (h1 : lo ≤ n) (h2 : n ≤ hi) :
    Calls Try.prog 42 #[.int .i64 n, .int .i64 lo, .int .i64 hi] w fun e w' => e = .returned (.bool true) ∧ w = w' := by
  go_enter Try.func42, Try.ntmps42
  go_wp2
  go_ret
  exact ⟨rfl, rfl⟩
theorem within_no (n lo hi : Int) (w : World) (h : ¬ (lo ≤ n ∧ n ≤ hi)) :
    Calls Try.prog 42 #[.int .i64 n, .int .i64 lo, .int .i64 hi] w fun e w' => e = .returned (.bool false) ∧ w = w' := by
  by_cases h1 : lo ≤ n
  · have h2 : decide (n ≤ hi) = false := by simp; omega
    clear h
    go_enter Try.func42, Try.ntmps42
    go_wp2
    go_ret
    exact ⟨rfl, rfl⟩
  · have h2 : decide (lo ≤ n) = false := by simp; omega
    clear h
    go_enter Try.func42, Try.ntmps42
    go_wp2
    go_ret
    exact ⟨rfl, rfl⟩

theorem up_ok (n : Int) (w : World) (n1 : 0 ≤ n) (n2 : n ≤ 9223372036854775800) :
    Calls Try.prog 43 #[.int .i64 n] w fun e w' => e = .returned (.tuple #[.int .i64 (upV n), .int .i64 0]) ∧ w = w' :=
  (up_any n w (by omega) (by omega)).mono fun e w' ⟨he, hw⟩ => ⟨by rw [he, show upE n = 0 by unfold upE; rw [if_neg (by omega), if_neg (by omega)]], hw⟩
theorem upV_ok (n : Int) (n1 : 0 ≤ n) (n2 : n ≤ 9223372036854775800) : upV n = (n + 7) / 8 * 8 := by
  unfold upV; rw [if_neg (by omega)]
theorem wraps_u64 (n : Int) (h₀ : 0 ≤ n) (h₁ : n < 2 ^ 64) : IntKind.u64.wrap n = n := by rw [IntKind.wrap_u64]; omega
theorem mask62 (c : Int) (h : 0 ≤ c) (h' : c ≤ 18446744073709551615) : bits .and .u64 c 4611686018427387903 = c % 4611686018427387904 := by
  have := bits_mask .u64 64 (by decide) wraps_u64 62 (by decide) c h (by omega)
  simpa using this
theorem mask60 (c : Int) (h : 0 ≤ c) (h' : c ≤ 18446744073709551615) : bits .and .u64 c 1152921504606846975 = c % 1152921504606846976 := by
  have := bits_mask .u64 64 (by decide) wraps_u64 60 (by decide) c h (by omega)
  simpa using this
theorem mask63 (c : Int) (h : 0 ≤ c) (h' : c ≤ 18446744073709551615) : bits .and .u64 c 9223372036854775807 = c % 9223372036854775808 := by
  have := bits_mask .u64 64 (by decide) wraps_u64 63 (by decide) c h (by omega)
  simpa using this

theorem up_neg (n : Int) (w : World) (n1 : -9223372036854775808 ≤ n) (n2 : n < 0) :
    Calls Try.prog 43 #[.int .i64 n] w fun e w' => e = .returned (.tuple #[.int .i64 0, .int .i64 1]) ∧ w = w' :=
  (up_any n w (by omega) (by omega)).mono fun e w' ⟨he, hw⟩ => ⟨by rw [he]; exact ret2 (by unfold upV; rw [if_pos (by omega)]) (by unfold upE; rw [if_pos (by omega)]), hw⟩
theorem up_over (n : Int) (w : World) (n1 : 9223372036854775800 < n) (n2 : n ≤ 9223372036854775807) :
    Calls Try.prog 43 #[.int .i64 n] w fun e w' => e = .returned (.tuple #[.int .i64 0, .int .i64 3]) ∧ w = w' :=
  (up_any n w (by omega) (by omega)).mono fun e w' ⟨he, hw⟩ => ⟨by rw [he]; exact ret2 (by unfold upV; rw [if_pos (by omega)]) (by unfold upE; rw [if_neg (by omega), if_pos (by omega)]), hw⟩

theorem nat_clear3 (a : Nat) (ha : a < 2 ^ 64) : a &&& 18446744073709551608 = a / 8 * 8 := by
  have e : 18446744073709551608 = (2 ^ 61 - 1) <<< 3 := by decide
  have e2 : a / 8 * 8 = (a >>> 3) <<< 3 := by rw [Nat.shiftLeft_eq, Nat.shiftRight_eq_div_pow]
  rw [e, e2]
  apply Nat.eq_of_testBit_eq
  intro j
  rw [Nat.testBit_and, Nat.testBit_shiftLeft, Nat.testBit_shiftLeft, Nat.testBit_two_pow_sub_one, Nat.testBit_shiftRight]
  by_cases h3 : 3 ≤ j
  · have e3 : 3 + (j - 3) = j := by omega
    by_cases h : j - 3 < 61
    · simp [h3, h, e3]
    · have hz : a.testBit j = false := Nat.testBit_lt_two_pow (Nat.lt_of_lt_of_le ha (Nat.pow_le_pow_right (by decide) (by omega)))
      simp [h3, e3, hz]
  · simp [h3]
theorem clear3 (x : Int) (h : 0 ≤ x) (h' : x ≤ 9223372036854775807) : bits .andNot .i64 x 7 = x / 8 * 8 := by
  obtain ⟨a, rfl⟩ := Int.eq_ofNat_of_zero_le h
  show IntKind.i64.wrap ((BitVec.ofInt 64 (a : Int) &&& ~~~BitVec.ofInt 64 (7 : Int)).toNat : Int) = _
  have e : (BitVec.ofInt 64 (a : Int)).toNat = a := by rw [BitVec.toNat_ofInt]; omega
  have e7 : (BitVec.ofInt 64 (7 : Int)).toNat = 7 := by decide
  rw [BitVec.toNat_and, BitVec.toNat_not, e, e7]
  have e8 : 2 ^ 64 - 1 - 7 = 18446744073709551608 := by decide
  rw [e8, nat_clear3 a (by omega), IntKind.wrap_i64]
  omega

end Go.Proofs.Ytkkmhapfhnnooaa.Num
