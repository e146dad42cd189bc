/-
  Contracts of the calls of package num and of the document's own answers for it: each returns the plain numbers addV, upV, wordsV and their errors, for every two integers of 64 bits, and leaves the world as it was.
-/
import Derived.Test.YtbflnjhmfnppkaaProg
import Derived.WalkKit
import Derived.ProofKit
import Derived.OpenShut
import Derived.IntWalk
import Derived.Lib.Hide
namespace Go.Proofs.Ytbflnjhmfnppkaa.Num
open Go.ChangeShapes Go.WideShapes Go.ChangeAt Go.RowKit
set_option linter.unusedVariables false

def addV (a b : Int) : Int := if a + b < -9223372036854775808 ∨ 9223372036854775807 < a + b then 0 else a + b
def addE (a b : Int) : Int := if a + b < -9223372036854775808 ∨ 9223372036854775807 < a + b then 3 else 0
def upV (n : Int) : Int := if n < 0 ∨ 9223372036854775800 < n then 0 else (n + 7) / 8 * 8
def upE (n : Int) : Int := if n < 0 then 1 else if 9223372036854775800 < n then 3 else 0
def wordsV (n : Int) : Int := upV n / 8

theorem wrap_lo (a b : Int) (a1 : -9223372036854775808 ≤ a) (b1 : -9223372036854775808 ≤ b) (h : a + b < -9223372036854775808) : wrap64 (a + b) = a + b + 18446744073709551616 := by
  unfold wrap64; omega
theorem wrap_hi (a b : Int) (a1 : a ≤ 9223372036854775807) (b1 : b ≤ 9223372036854775807) (h : 9223372036854775807 < a + b) : wrap64 (a + b) = a + b - 18446744073709551616 := by
  unfold wrap64; omega
theorem ret2 {k : IntKind} {a b c d : Int} (h : a = b) (h' : c = d) : Ending.returned (.tuple #[.int k a, .int k c]) = .returned (.tuple #[.int k b, .int k d]) := by rw [h, h']

set_option maxHeartbeats 400000 in
theorem add_any (a b : Int) (w : World) (a1 : -9223372036854775808 ≤ a) (a2 : a ≤ 9223372036854775807) (b1 : -9223372036854775808 ≤ b) (b2 : b ≤ 9223372036854775807) :
    Calls Try.prog 10 #[.int .i64 a, .int .i64 b] w fun e w' => e = .returned (.tuple #[.int .i64 (addV a b), .int .i64 (addE a b)]) ∧ w = w' := by
  by_cases hb : 0 < b
  · by_cases h : 9223372036854775807 - b < a
    · go_enter Try.func10, Try.ntmps10
      go_wp2
      go_ret2
      exact ⟨ret2 (by unfold addV; rw [if_pos (by omega)]) (by unfold addE; rw [if_pos (by omega)]), rfl⟩
    · have hn : ¬ b < 0 := by omega
      go_enter Try.func10, Try.ntmps10
      go_wp2
      go_ret2
      exact ⟨ret2 (by unfold addV; rw [if_neg (by omega)]) (by unfold addE; rw [if_neg (by omega)]), rfl⟩
  · by_cases hn : b < 0
    · by_cases h : a < -9223372036854775808 - b
      · go_enter Try.func10, Try.ntmps10
        go_wp2
        go_ret2
        exact ⟨ret2 (by unfold addV; rw [if_pos (by omega)]) (by unfold addE; rw [if_pos (by omega)]), rfl⟩
      · go_enter Try.func10, Try.ntmps10
        go_wp2
        go_ret2
        exact ⟨ret2 (by unfold addV; rw [if_neg (by omega)]) (by unfold addE; rw [if_neg (by omega)]), rfl⟩
    · go_enter Try.func10, Try.ntmps10
      go_wp2
      go_ret2
      exact ⟨ret2 (by unfold addV; rw [if_neg (by omega)]) (by unfold addE; rw [if_neg (by omega)]), rfl⟩

set_option maxHeartbeats 400000 in
theorem refadd_any (a b : Int) (w : World) (a1 : -9223372036854775808 ≤ a) (a2 : a ≤ 9223372036854775807) (b1 : -9223372036854775808 ≤ b) (b2 : b ≤ 9223372036854775807) :
    Calls Try.prog 11 #[.int .i64 a, .int .i64 b] w fun e w' => e = .returned (.tuple #[.int .i64 (addV a b), .int .i64 (addE a b)]) ∧ w = w' := by
  by_cases h1 : a + b < -9223372036854775808
  · have e := wrap_lo a b a1 b1 h1
    have l1 : decide (a < 0) = true := by simp; omega
    have l2 : decide (b < 0) = true := by simp; omega
    have l3 : decide (a + b + 18446744073709551616 < 0) = false := by simp; omega
    go_enter Try.func11, Try.ntmps11
    go_wp2
    go_ret2
    exact ⟨ret2 (by unfold addV; rw [if_pos (by omega)]) (by unfold addE; rw [if_pos (by omega)]), rfl⟩
  · by_cases h2 : 9223372036854775807 < a + b
    · have e := wrap_hi a b a2 b2 h2
      have l1 : decide (a < 0) = false := by simp; omega
      have l2 : decide (b < 0) = false := by simp; omega
      have l3 : decide (a + b - 18446744073709551616 < 0) = true := by simp; omega
      go_enter Try.func11, Try.ntmps11
      go_wp2
      go_ret2
      exact ⟨ret2 (by unfold addV; rw [if_pos (by omega)]) (by unfold addE; rw [if_pos (by omega)]), rfl⟩
    · by_cases l1 : a < 0 <;> by_cases l2 : b < 0 <;> by_cases l3 : a + b < 0 <;> try omega
      all_goals
        go_enter Try.func11, Try.ntmps11
        go_wp2
        go_ret2
        exact ⟨ret2 (by unfold addV; rw [if_neg (by omega)]) (by unfold addE; rw [if_neg (by omega)]), rfl⟩

set_option maxHeartbeats 400000 in
theorem up_any (n : Int) (w : World) (n1 : -9223372036854775808 ≤ n) (n2 : n ≤ 9223372036854775807) :
    Calls Try.prog 12 #[.int .i64 n] w fun e w' => e = .returned (.tuple #[.int .i64 (upV n), .int .i64 (upE n)]) ∧ w = w' := by
  by_cases h : n < 0
  · go_enter Try.func12, Try.ntmps12
    go_wp2
    go_ret2
    exact ⟨ret2 (by unfold upV; rw [if_pos (by omega)]) (by unfold upE; rw [if_pos (by omega)]), rfl⟩
  · have h0 : 0 ≤ n := by omega
    by_cases h' : 9223372036854775800 < n
    · go_enter Try.func12, Try.ntmps12
      go_wp2
      go_ret2
      exact ⟨ret2 (by unfold upV; rw [if_pos (by omega)]) (by unfold upE; rw [if_neg (by omega), if_pos (by omega)]), rfl⟩
    · by_cases h8 : n % 8 = 0
      · go_enter Try.func12, Try.ntmps12
        go_wp2
        go_ret2
        exact ⟨ret2 (by unfold upV; rw [if_neg (by omega)]; omega) (by unfold upE; rw [if_neg (by omega), if_neg (by omega)]), rfl⟩
      · go_enter Try.func12, Try.ntmps12
        go_wp2
        go_ret2
        exact ⟨ret2 (by unfold upV; rw [if_neg (by omega)]; omega) (by unfold upE; rw [if_neg (by omega), if_neg (by omega)]), rfl⟩

set_option maxHeartbeats 400000 in
theorem refup_any (n : Int) (w : World) (n1 : -9223372036854775808 ≤ n) (n2 : n ≤ 9223372036854775807) :
    Calls Try.prog 13 #[.int .i64 n] w fun e w' => e = .returned (.tuple #[.int .i64 (upV n), .int .i64 (upE n)]) ∧ w = w' := by
  by_cases h : n < 0
  · go_enter Try.func13, Try.ntmps13
    go_wp2
    go_ret2
    exact ⟨ret2 (by unfold upV; rw [if_pos (by omega)]) (by unfold upE; rw [if_pos (by omega)]), rfl⟩
  · have h0 : 0 ≤ n := by omega
    by_cases h8 : n % 8 = 0
    · go_enter Try.func13, Try.ntmps13
      go_wp2
      go_ret2
      exact ⟨ret2 (by unfold upV; rw [if_neg (by omega)]; omega) (by unfold upE; rw [if_neg (by omega), if_neg (by omega)]), rfl⟩
    · by_cases h' : 9223372036854775799 + n % 8 < n
      · go_enter Try.func13, Try.ntmps13
        go_wp2
        go_ret2
        exact ⟨ret2 (by unfold upV; rw [if_pos (by omega)]) (by unfold upE; rw [if_neg (by omega), if_pos (by omega)]), rfl⟩
      · go_enter Try.func13, Try.ntmps13
        go_wp2
        go_ret2
        exact ⟨ret2 (by unfold upV; rw [if_neg (by omega)]; omega) (by unfold upE; rw [if_neg (by omega), if_neg (by omega)]), rfl⟩


theorem upV_le (n : Int) : 0 ≤ upV n ∧ upV n ≤ 9223372036854775800 := by
  unfold upV; split <;> omega
theorem upE_cases (n : Int) : upE n = 0 ∨ upE n = 1 ∨ upE n = 3 := by
  unfold upE; repeat' split
  all_goals simp
theorem upV_of (n : Int) (h : upE n ≠ 0) : upV n = 0 := by
  unfold upE at h; unfold upV; split at h
  · rw [if_pos (by omega)]
  · split at h
    · rw [if_pos (by omega)]
    · exact absurd rfl h
theorem addV_le (a b : Int) : -9223372036854775808 ≤ addV a b ∧ addV a b ≤ 9223372036854775807 := by
  unfold addV; split <;> omega

set_option maxHeartbeats 400000 in
theorem words_any (n : Int) (w : World) (n1 : -9223372036854775808 ≤ n) (n2 : n ≤ 9223372036854775807) :
    Calls Try.prog 14 #[.int .i64 n] w fun e w' => e = .returned (.tuple #[.int .i64 (wordsV n), .int .i64 (upE n)]) ∧ w = w' := by
  have ⟨u1, u2⟩ := upV_le n
  by_cases h : (upE n == 0) = true
  · have h0 : (upE n != 0) = false := by simpa using h
    have hE := Lib.hid (show upE n = 0 by simpa using h)
    clear h
    go_enter Try.func14, Try.ntmps14
    go_wp2_with (go_at_call 12; refine (up_any _ _ n1 n2).mono ?_; rintro e w' ⟨rfl, rfl⟩)
    go_ret2
    exact ⟨ret2 rfl hE.out.symm, rfl⟩
  · have h0 : (upE n != 0) = true := by simpa using h
    have hE := Lib.hid (show upV n = 0 from upV_of n (by simpa using h))
    clear h
    go_enter Try.func14, Try.ntmps14
    go_wp2_with (go_at_call 12; refine (up_any _ _ n1 n2).mono ?_; rintro e w' ⟨rfl, rfl⟩)
    go_ret2
    exact ⟨ret2 (by unfold wordsV; rw [hE.out]; rfl) rfl, rfl⟩

set_option maxHeartbeats 400000 in
theorem refwords_any (n : Int) (w : World) (n1 : -9223372036854775808 ≤ n) (n2 : n ≤ 9223372036854775807) :
    Calls Try.prog 15 #[.int .i64 n] w fun e w' => e = .returned (.tuple #[.int .i64 (wordsV n), .int .i64 (upE n)]) ∧ w = w' := by
  have ⟨u1, u2⟩ := upV_le n
  go_enter Try.func15, Try.ntmps15
  go_wp2_with (go_at_call 13; refine (refup_any _ _ n1 n2).mono ?_; rintro e w' ⟨rfl, rfl⟩)
  go_ret2
  exact ⟨ret2 rfl rfl, rfl⟩

theorem shown_any (w : World) : Calls Try.prog 9 #[] w fun e w' => e = .returned (.bool true) ∧ w = w' := by
  go_enter Try.func9, Try.ntmps9
  go_wp2
  go_ret
  exact ⟨rfl, rfl⟩


theorem bounds {a : Int} (h : (Lit.int .i64 a).wf = true) : -9223372036854775808 ≤ a ∧ a ≤ 9223372036854775807 := by
  simp only [Lit.wf, IntKind.min, IntKind.max, IntKind.signed, IntKind.bits, Bool.and_eq_true, decide_eq_true_eq, if_true] at h
  omega
theorem ubounds {a : Int} (h : (Lit.int .u64 a).wf = true) : 0 ≤ a ∧ a ≤ 18446744073709551615 := by
  simp [Lit.wf, IntKind.min, IntKind.max, IntKind.signed, IntKind.bits] at h
  omega
theorem bounds16 {a : Int} (h : (Lit.int .u16 a).wf = true) : 0 ≤ a ∧ a ≤ 65535 := by
  simp [Lit.wf, IntKind.min, IntKind.max, IntKind.signed, IntKind.bits] at h
  omega
theorem bounds8 {a : Int} (h : (Lit.int .u8 a).wf = true) : 0 ≤ a ∧ a ≤ 255 := by
  simp [Lit.wf, IntKind.min, IntKind.max, IntKind.signed, IntKind.bits] at h
  omega

theorem within_yes (n lo hi : Int) (w : World) (h1 : lo ≤ n) (h2 : n ≤ hi) :
    Calls Try.prog 16 #[.int .i64 n, .int .i64 lo, .int .i64 hi] w fun e w' => e = .returned (.bool true) ∧ w = w' := by
  go_enter Try.func16, Try.ntmps16
  go_wp2
  go_ret
  exact ⟨rfl, rfl⟩
theorem within_no (n lo hi : Int) (w : World) (h : ¬ (lo ≤ n ∧ n ≤ hi)) :
    Calls Try.prog 16 #[.int .i64 n, .int .i64 lo, .int .i64 hi] w fun e w' => e = .returned (.bool false) ∧ w = w' := by
  by_cases h1 : lo ≤ n
  · have h2 : decide (n ≤ hi) = false := by simp; omega
    clear h
    go_enter Try.func16, Try.ntmps16
    go_wp2
    go_ret
    exact ⟨rfl, rfl⟩
  · have h2 : decide (lo ≤ n) = false := by simp; omega
    clear h
    go_enter Try.func16, Try.ntmps16
    go_wp2
    go_ret
    exact ⟨rfl, rfl⟩

theorem up_ok (n : Int) (w : World) (n1 : 0 ≤ n) (n2 : n ≤ 9223372036854775800) :
    Calls Try.prog 12 #[.int .i64 n] w fun e w' => e = .returned (.tuple #[.int .i64 (upV n), .int .i64 0]) ∧ w = w' :=
  (up_any n w (by omega) (by omega)).mono fun e w' ⟨he, hw⟩ => ⟨by rw [he, show upE n = 0 by unfold upE; rw [if_neg (by omega), if_neg (by omega)]], hw⟩
theorem words_ok (n : Int) (w : World) (n1 : 0 ≤ n) (n2 : n ≤ 9223372036854775800) :
    Calls Try.prog 14 #[.int .i64 n] w fun e w' => e = .returned (.tuple #[.int .i64 (wordsV n), .int .i64 0]) ∧ w = w' :=
  (words_any n w (by omega) (by omega)).mono fun e w' ⟨he, hw⟩ => ⟨by rw [he, show upE n = 0 by unfold upE; rw [if_neg (by omega), if_neg (by omega)]], hw⟩
theorem upV_ok (n : Int) (n1 : 0 ≤ n) (n2 : n ≤ 9223372036854775800) : upV n = (n + 7) / 8 * 8 := by
  unfold upV; rw [if_neg (by omega)]
theorem wraps_u64 (n : Int) (h₀ : 0 ≤ n) (h₁ : n < 2 ^ 64) : IntKind.u64.wrap n = n := by rw [IntKind.wrap_u64]; omega
theorem mask62 (c : Int) (h : 0 ≤ c) (h' : c ≤ 18446744073709551615) : bits .and .u64 c 4611686018427387903 = c % 4611686018427387904 := by
  have := bits_mask .u64 64 (by decide) wraps_u64 62 (by decide) c h (by omega)
  simpa using this
theorem mask60 (c : Int) (h : 0 ≤ c) (h' : c ≤ 18446744073709551615) : bits .and .u64 c 1152921504606846975 = c % 1152921504606846976 := by
  have := bits_mask .u64 64 (by decide) wraps_u64 60 (by decide) c h (by omega)
  simpa using this
theorem mask63 (c : Int) (h : 0 ≤ c) (h' : c ≤ 18446744073709551615) : bits .and .u64 c 9223372036854775807 = c % 9223372036854775808 := by
  have := bits_mask .u64 64 (by decide) wraps_u64 63 (by decide) c h (by omega)
  simpa using this

theorem add_ok (a b : Int) (w : World) (a1 : -9223372036854775808 ≤ a) (a2 : a ≤ 9223372036854775807) (b1 : -9223372036854775808 ≤ b) (b2 : b ≤ 9223372036854775807) (h1 : -9223372036854775808 ≤ a + b) (h2 : a + b ≤ 9223372036854775807) :
    Calls Try.prog 10 #[.int .i64 a, .int .i64 b] w fun e w' => e = .returned (.tuple #[.int .i64 (a + b), .int .i64 0]) ∧ w = w' :=
  (add_any a b w a1 a2 b1 b2).mono fun e w' ⟨he, hw⟩ => ⟨by rw [he]; exact ret2 (by unfold addV; rw [if_neg (by omega)]) (by unfold addE; rw [if_neg (by omega)]), hw⟩
theorem add_over (a b : Int) (w : World) (a1 : -9223372036854775808 ≤ a) (a2 : a ≤ 9223372036854775807) (b1 : -9223372036854775808 ≤ b) (b2 : b ≤ 9223372036854775807) (h : a + b < -9223372036854775808 ∨ 9223372036854775807 < a + b) :
    Calls Try.prog 10 #[.int .i64 a, .int .i64 b] w fun e w' => e = .returned (.tuple #[.int .i64 0, .int .i64 3]) ∧ w = w' :=
  (add_any a b w a1 a2 b1 b2).mono fun e w' ⟨he, hw⟩ => ⟨by rw [he]; exact ret2 (by unfold addV; rw [if_pos h]) (by unfold addE; rw [if_pos h]), hw⟩
theorem add_back (a b : Int) (w : World) (a1 : -9223372036854775808 ≤ a) (a2 : a ≤ 9223372036854775807) (b1 : -9223372036854775808 < b) (b2 : b ≤ 9223372036854775807) (h1 : -9223372036854775808 ≤ a + b) (h2 : a + b ≤ 9223372036854775807) :
    Calls Try.prog 10 #[.int .i64 (a + b), .int .i64 (-b)] w fun e w' => e = .returned (.tuple #[.int .i64 a, .int .i64 0]) ∧ w = w' :=
  (add_any (a + b) (-b) w h1 h2 (by omega) (by omega)).mono fun e w' ⟨he, hw⟩ => ⟨by rw [he]; exact ret2 (by unfold addV; rw [if_neg (by omega)]; omega) (by unfold addE; rw [if_neg (by omega)]), hw⟩
theorem add_swap (a b : Int) (w : World) (a1 : -9223372036854775808 ≤ a) (a2 : a ≤ 9223372036854775807) (b1 : -9223372036854775808 ≤ b) (b2 : b ≤ 9223372036854775807) (h1 : -9223372036854775808 ≤ a + b) (h2 : a + b ≤ 9223372036854775807) :
    Calls Try.prog 10 #[.int .i64 b, .int .i64 a] w fun e w' => e = .returned (.tuple #[.int .i64 (a + b), .int .i64 0]) ∧ w = w' :=
  (add_any b a w b1 b2 a1 a2).mono fun e w' ⟨he, hw⟩ => ⟨by rw [he]; exact ret2 (by unfold addV; rw [if_neg (by omega)]; omega) (by unfold addE; rw [if_neg (by omega)]), hw⟩
theorem up_neg (n : Int) (w : World) (n1 : -9223372036854775808 ≤ n) (n2 : n < 0) :
    Calls Try.prog 12 #[.int .i64 n] w fun e w' => e = .returned (.tuple #[.int .i64 0, .int .i64 1]) ∧ w = w' :=
  (up_any n w (by omega) (by omega)).mono fun e w' ⟨he, hw⟩ => ⟨by rw [he]; exact ret2 (by unfold upV; rw [if_pos (by omega)]) (by unfold upE; rw [if_pos (by omega)]), hw⟩
theorem words_neg (n : Int) (w : World) (n1 : -9223372036854775808 ≤ n) (n2 : n < 0) :
    Calls Try.prog 14 #[.int .i64 n] w fun e w' => e = .returned (.tuple #[.int .i64 0, .int .i64 1]) ∧ w = w' :=
  (words_any n w (by omega) (by omega)).mono fun e w' ⟨he, hw⟩ => ⟨by rw [he]; exact ret2 (by unfold wordsV upV; rw [if_pos (by omega)]; rfl) (by unfold upE; rw [if_pos (by omega)]), hw⟩
theorem up_over (n : Int) (w : World) (n1 : 9223372036854775800 < n) (n2 : n ≤ 9223372036854775807) :
    Calls Try.prog 12 #[.int .i64 n] w fun e w' => e = .returned (.tuple #[.int .i64 0, .int .i64 3]) ∧ w = w' :=
  (up_any n w (by omega) (by omega)).mono fun e w' ⟨he, hw⟩ => ⟨by rw [he]; exact ret2 (by unfold upV; rw [if_pos (by omega)]) (by unfold upE; rw [if_neg (by omega), if_pos (by omega)]), hw⟩

theorem nat_clear3 (a : Nat) (ha : a < 2 ^ 64) : a &&& 18446744073709551608 = a / 8 * 8 := by
  have e : 18446744073709551608 = (2 ^ 61 - 1) <<< 3 := by decide
  have e2 : a / 8 * 8 = (a >>> 3) <<< 3 := by rw [Nat.shiftLeft_eq, Nat.shiftRight_eq_div_pow]
  rw [e, e2]
  apply Nat.eq_of_testBit_eq
  intro j
  rw [Nat.testBit_and, Nat.testBit_shiftLeft, Nat.testBit_shiftLeft, Nat.testBit_two_pow_sub_one, Nat.testBit_shiftRight]
  by_cases h3 : 3 ≤ j
  · have e3 : 3 + (j - 3) = j := by omega
    by_cases h : j - 3 < 61
    · simp [h3, h, e3]
    · have hz : a.testBit j = false := Nat.testBit_lt_two_pow (Nat.lt_of_lt_of_le ha (Nat.pow_le_pow_right (by decide) (by omega)))
      simp [h3, e3, hz]
  · simp [h3]
theorem clear3 (x : Int) (h : 0 ≤ x) (h' : x ≤ 9223372036854775807) : bits .andNot .i64 x 7 = x / 8 * 8 := by
  obtain ⟨a, rfl⟩ := Int.eq_ofNat_of_zero_le h
  show IntKind.i64.wrap ((BitVec.ofInt 64 (a : Int) &&& ~~~BitVec.ofInt 64 (7 : Int)).toNat : Int) = _
  have e : (BitVec.ofInt 64 (a : Int)).toNat = a := by rw [BitVec.toNat_ofInt]; omega
  have e7 : (BitVec.ofInt 64 (7 : Int)).toNat = 7 := by decide
  rw [BitVec.toNat_and, BitVec.toNat_not, e, e7]
  have e8 : 2 ^ 64 - 1 - 7 = 18446744073709551608 := by decide
  rw [e8, nat_clear3 a (by omega), IntKind.wrap_i64]
  omega

end Go.Proofs.Ytbflnjhmfnppkaa.Num
