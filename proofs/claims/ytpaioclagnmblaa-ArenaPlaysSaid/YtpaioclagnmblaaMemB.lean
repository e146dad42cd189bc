/-
  Plain mathematics: a byte masked out of a word; a word with one byte replaced differs in the bits of that byte alone.
-/
import Derived.Test.YtpaioclagnmblaaMem
namespace Go.Proofs.Ytpaioclagnmblaa.Mem
open Go.RowKit
set_option linter.unusedVariables false

theorem mask (y : Int) (h : Nat) (h0 : 0 ≤ y) (h1 : y ≤ 18446744073709551615) : bits .and .u64 (y / 2 ^ (8 * h)) 255 = y / 2 ^ (8 * h) % 256 := by
  have hp : (0 : Int) < 2 ^ (8 * h) := Int.pow_pos (by decide)
  have a0 : 0 ≤ y / 2 ^ (8 * h) := Int.ediv_nonneg h0 (Int.le_of_lt hp)
  have a1 : y / 2 ^ (8 * h) ≤ 18446744073709551615 := Int.le_trans (Int.ediv_le_self _ h0) h1
  rw [u64_and _ _ a0 (by omega) (by decide) (by decide), show (255 : Int).toNat = 255 from rfl, nat_mask8]
  omega
theorem clear_byte (c n x : Nat) (hc : c < 256) (hx : x / 2 ^ n % 256 = 0) : (c * 2 ^ n) &&& x = 0 := by
  apply Nat.eq_of_testBit_eq
  intro t
  rw [Nat.testBit_and, Nat.testBit_mul_two_pow, Nat.zero_testBit]
  by_cases h1 : n ≤ t
  · by_cases h2 : t - n < 8
    · have h3 : x.testBit t = false := by
        have e : x.testBit t = (x / 2 ^ n % 2 ^ 8).testBit (t - n) := by
          rw [Nat.testBit_mod_two_pow, decide_eq_true h2, Bool.true_and, Nat.testBit_div_two_pow, Nat.sub_add_cancel h1]
        rw [e, show (2 : Nat) ^ 8 = 256 from rfl, hx, Nat.zero_testBit]
      rw [h3, Bool.and_false]
    · have h3 : c.testBit (t - n) = false := Nat.testBit_lt_two_pow (Nat.lt_of_lt_of_le (show c < 2 ^ 8 from hc) (Nat.pow_le_pow_right (by decide) (by omega)))
      rw [h3, Bool.and_false, Bool.false_and]
  · rw [decide_eq_false h1, Bool.false_and, Bool.false_and]
theorem xor_out (a b n : Nat) (h1 : a / 2 ^ n / 256 = b / 2 ^ n / 256) (h2 : a % 2 ^ n = b % 2 ^ n) : ∃ c, c < 256 ∧ a ^^^ b = c * 2 ^ n := by
  have e1 : (a ^^^ b) / 2 ^ n / 2 ^ 8 = 0 := by
    rw [Nat.xor_div_two_pow, Nat.xor_div_two_pow, show (2 : Nat) ^ 8 = 256 from rfl, h1, Nat.xor_self]
  have e2 : (a ^^^ b) % 2 ^ n = 0 := by rw [Nat.xor_mod_two_pow, h2, Nat.xor_self]
  refine ⟨(a ^^^ b) / 2 ^ n, by omega, ?_⟩
  have := Nat.div_add_mod (a ^^^ b) (2 ^ n)
  rw [e2, Nat.add_zero, Nat.mul_comm] at this
  exact this.symm
theorem high (k : Nat) (hk : k < 8) : ∃ m : Nat, IntKind.u64.wrap (255 * 2 ^ (8 * k)) = (m : Int) ∧ m < 18446744073709551616 ∧ (18446744073709551615 - m) / 2 ^ (8 * k) % 256 = 0 := by
  have hs : k = 0 ∨ k = 1 ∨ k = 2 ∨ k = 3 ∨ k = 4 ∨ k = 5 ∨ k = 6 ∨ k = 7 := by omega
  refine ⟨255 * 2 ^ (8 * k), ?_, ?_, ?_⟩
  · rw [wrap_u64]
    rcases hs with rfl | rfl | rfl | rfl | rfl | rfl | rfl | rfl <;> simp
  · rcases hs with rfl | rfl | rfl | rfl | rfl | rfl | rfl | rfl <;> simp
  · rcases hs with rfl | rfl | rfl | rfl | rfl | rfl | rfl | rfl <;> simp
theorem apart (y b : Int) (k : Nat) (hk : k < 8) (h0 : 0 ≤ y) (h1 : y ≤ 18446744073709551615) (b0 : 0 ≤ b) (b1 : b ≤ 255) :
    bits .andNot .u64 (bits .xor .u64 (putB y k b) y) (IntKind.u64.wrap (255 * 2 ^ (8 * k))) = 0 := by
  have ⟨p0, p1⟩ := putB_le y k b hk h0 h1 b0 b1
  have hs : k = 0 ∨ k = 1 ∨ k = 2 ∨ k = 3 ∨ k = 4 ∨ k = 5 ∨ k = 6 ∨ k = 7 := by omega
  rw [u64_xor _ _ p0 (by omega) h0 (by omega)]
  have hx : ∃ c, c < 256 ∧ (putB y k b).toNat ^^^ y.toNat = c * 2 ^ (8 * k) := by
    apply xor_out
    · unfold putB byteV
      rcases hs with rfl | rfl | rfl | rfl | rfl | rfl | rfl | rfl <;> simp <;> omega
    · unfold putB byteV
      rcases hs with rfl | rfl | rfl | rfl | rfl | rfl | rfl | rfl <;> simp [Nat.mod_one] <;> omega
  obtain ⟨c, hc, e⟩ := hx
  rw [e]
  have hw := high k hk
  obtain ⟨m, hm, hm1, hm2⟩ := hw
  have hcb : c * 2 ^ (8 * k) < 18446744073709551616 := by
    have h2 : 2 ^ (8 * k) ≤ 2 ^ 56 := Nat.pow_le_pow_right (by decide) (by omega)
    exact Nat.lt_of_le_of_lt (Nat.mul_le_mul (show c ≤ 255 by omega) h2) (by decide)
  rw [hm, u64_andNot_nat _ _ hcb hm1, clear_byte c _ _ hc hm2]
  rfl
end Go.Proofs.Ytpaioclagnmblaa.Mem
