/-
  penfoldlaw06.RefTurns returns true for every ref of three integers and every byte; no condition.
-/
import Derived.Test.YtbbedeelomfanaaRows
import Derived.Test.YtbbedeelomfanaaArgs
import Derived.Test.YtbbedeelomfanaaRefsC
namespace Go.Proofs.Ytbbedeelomfanaa.refTurns
open Go.ChangeShapes Go.WideShapes Go.ChangeAt Go.RowKit
set_option linter.unusedVariables false

open Refs Held

theorem xor_one (x : Nat) : x ^^^ 1 = if x % 2 = 1 then x - 1 else x + 1 := by
  have h1 : (x ^^^ 1) / 2 = x / 2 := by have := Nat.xor_div_two_pow (a := x) (b := 1) (n := 1); simpa using this
  have h2 : (x ^^^ 1) % 2 = x % 2 ^^^ 1 := by have := Nat.xor_mod_two_pow (a := x) (b := 1) (n := 1); simpa using this
  by_cases h : x % 2 = 1
  · rw [if_pos h]
    rw [h] at h2
    have h3 : 1 ^^^ 1 = 0 := rfl
    rw [h3] at h2
    omega
  · have h' : x % 2 = 0 := by omega
    rw [if_neg h]
    rw [h'] at h2
    have h3 : 0 ^^^ 1 = 1 := rfl
    rw [h3] at h2
    omega
theorem xor_pow (n k : Nat) : n ^^^ 2 ^ k = if n / 2 ^ k % 2 = 1 then n - 2 ^ k else n + 2 ^ k := by
  have hp : 0 < 2 ^ k := Nat.two_pow_pos k
  have h1 : (n ^^^ 2 ^ k) % 2 ^ k = n % 2 ^ k := by rw [Nat.xor_mod_two_pow, Nat.mod_self, Nat.xor_zero]
  have h2 : (n ^^^ 2 ^ k) / 2 ^ k = n / 2 ^ k ^^^ 1 := by rw [Nat.xor_div_two_pow, Nat.div_self hp]
  have h3 := Nat.div_add_mod (n ^^^ 2 ^ k) (2 ^ k)
  have h4 := Nat.div_add_mod n (2 ^ k)
  rw [h1, h2, xor_one] at h3
  by_cases h : n / 2 ^ k % 2 = 1
  · rw [if_pos h] at h3 ⊢
    rw [Nat.mul_sub, Nat.mul_one] at h3
    have h6 : 1 ≤ n / 2 ^ k := by generalize n / 2 ^ k = q at h; omega
    have h5 : 2 ^ k * 1 ≤ 2 ^ k * (n / 2 ^ k) := Nat.mul_le_mul_left _ h6
    omega
  · rw [if_neg h] at h3 ⊢
    rw [Nat.mul_add, Nat.mul_one] at h3
    omega
/-- One bit, turned. -/
theorem turned (n K : Int) (k : Nat) (hK : K.toNat = k) (hk : k ≤ 63) (h1 : 0 ≤ n) (h2 : n ≤ 18446744073709551615) :
    bits .xor .u64 n (IntKind.u64.wrap (2 ^ K.toNat)) = if n / 2 ^ k % 2 = 1 then n - 2 ^ k else n + 2 ^ k := by
  rw [hK]
  obtain ⟨m, rfl⟩ := Int.eq_ofNat_of_zero_le h1
  have hl : 2 ^ k ≤ 2 ^ 63 := Nat.pow_le_pow_right (by decide) hk
  have hp : 0 < 2 ^ k := Nat.two_pow_pos k
  have hc : (2 : Int) ^ k = ((2 ^ k : Nat) : Int) := by simp
  rw [hc, wraps_u64 _ (by omega) (by omega), u64_xor_nat _ _ (by omega) (by omega), xor_pow]
  have e : ((m : Int) / ((2 ^ k : Nat) : Int) % 2 = 1) = (m / 2 ^ k % 2 = 1) := by
    rw [← Int.natCast_ediv]
    exact propext ⟨fun h => by omega, fun h => by omega⟩
  simp only [e]
  by_cases h : m / 2 ^ k % 2 = 1
  · rw [if_pos h, if_pos h]
    have : 2 ^ k ≤ m := by
      apply Classical.byContradiction
      intro hn
      rw [Nat.div_eq_of_lt (by omega)] at h
      omega
    omega
  · rw [if_neg h, if_neg h]
    omega
theorem wrapped (K : Int) (k : Nat) (hK : K.toNat = k) (hk : k ≤ 63) : IntKind.u64.wrap (2 ^ K.toNat) = 2 ^ k := by
  rw [hK]
  have hl : 2 ^ k ≤ 2 ^ 63 := Nat.pow_le_pow_right (by decide) hk
  have hp : 0 < 2 ^ k := Nat.two_pow_pos k
  have hc : (2 : Int) ^ k = ((2 ^ k : Nat) : Int) := by simp
  rw [hc, wraps_u64 _ (by omega) (by omega)]
theorem un_back {s e a : Int} (hr : rightB s e a = true) : unV (handle s e a) = ⟨s, e, a, 0⟩ := by
  obtain ⟨b1, b2, b3, b4, b5, b6, b7⟩ := rbounds hr
  have e1 : handle s e a / 16777216 % 256 = s := by unfold handle; omega
  have e2 : handle s e a / 4294967296 = e := by unfold handle; omega
  have e3 : 8 * (handle s e a % 16777216) = a := by unfold handle; omega
  unfold unV unB
  rw [e1, e2, e3, if_pos hr]
theorem un_none {g : Int} (h : ¬ (0 ≤ g / 16777216 % 256 ∧ g / 16777216 % 256 ≤ 7 ∧ 0 ≤ g / 4294967296 ∧ g / 4294967296 ≤ 16777215 ∧ 8 ≤ 8 * (g % 16777216) ∧ 8 * (g % 16777216) ≤ 65528 ∧ 8 * (g % 16777216) % 8 = 0)) : unV g = ⟨0, 0, 0, 18⟩ :=
  if_neg (fun k => h (of_decide_eq_true (show decide _ = true from k)))

set_option maxHeartbeats 2000000 in
theorem low {s e a K : Int} (hr : rightB s e a = true) (k1 : 0 ≤ K) (k2 : K < 13) : ∃ a', ¬ a' = a ∧ 0 ≤ a' ∧ a' ≤ 65528 ∧ a' % 8 = 0 ∧ bits .xor .u64 (handle s e a) (IntKind.u64.wrap (2 ^ K.toNat)) = handle s e a' ∧ (a' = 0 → handle s e a % 16777216 = IntKind.u64.wrap (2 ^ K.toNat)) := by
  obtain ⟨b1, b2, b3, b4, b5, b6, b7⟩ := rbounds hr
  have n1 : 0 ≤ handle s e a := by unfold handle; omega
  have n2 : handle s e a ≤ 18446744073709551615 := by unfold handle; omega
  rcases (show K = 0 ∨ K = 1 ∨ K = 2 ∨ K = 3 ∨ K = 4 ∨ K = 5 ∨ K = 6 ∨ K = 7 ∨ K = 8 ∨ K = 9 ∨ K = 10 ∨ K = 11 ∨ K = 12 by omega) with rfl | rfl | rfl | rfl | rfl | rfl | rfl | rfl | rfl | rfl | rfl | rfl | rfl
  · rw [turned _ _ 0 rfl (by decide) n1 n2, wrapped _ 0 rfl (by decide)]
    simp only [Int.reducePow]
    unfold handle
    by_cases c : (a / 8 + 16777216 * s + 4294967296 * e) / 1 % 2 = 1
    · rw [if_pos c]; exact ⟨a - 8, by omega, by omega, by omega, by omega, by omega, by omega⟩
    · rw [if_neg c]; exact ⟨a + 8, by omega, by omega, by omega, by omega, by omega, by omega⟩
  · rw [turned _ _ 1 rfl (by decide) n1 n2, wrapped _ 1 rfl (by decide)]
    simp only [Int.reducePow]
    unfold handle
    by_cases c : (a / 8 + 16777216 * s + 4294967296 * e) / 2 % 2 = 1
    · rw [if_pos c]; exact ⟨a - 16, by omega, by omega, by omega, by omega, by omega, by omega⟩
    · rw [if_neg c]; exact ⟨a + 16, by omega, by omega, by omega, by omega, by omega, by omega⟩
  · rw [turned _ _ 2 rfl (by decide) n1 n2, wrapped _ 2 rfl (by decide)]
    simp only [Int.reducePow]
    unfold handle
    by_cases c : (a / 8 + 16777216 * s + 4294967296 * e) / 4 % 2 = 1
    · rw [if_pos c]; exact ⟨a - 32, by omega, by omega, by omega, by omega, by omega, by omega⟩
    · rw [if_neg c]; exact ⟨a + 32, by omega, by omega, by omega, by omega, by omega, by omega⟩
  · rw [turned _ _ 3 rfl (by decide) n1 n2, wrapped _ 3 rfl (by decide)]
    simp only [Int.reducePow]
    unfold handle
    by_cases c : (a / 8 + 16777216 * s + 4294967296 * e) / 8 % 2 = 1
    · rw [if_pos c]; exact ⟨a - 64, by omega, by omega, by omega, by omega, by omega, by omega⟩
    · rw [if_neg c]; exact ⟨a + 64, by omega, by omega, by omega, by omega, by omega, by omega⟩
  · rw [turned _ _ 4 rfl (by decide) n1 n2, wrapped _ 4 rfl (by decide)]
    simp only [Int.reducePow]
    unfold handle
    by_cases c : (a / 8 + 16777216 * s + 4294967296 * e) / 16 % 2 = 1
    · rw [if_pos c]; exact ⟨a - 128, by omega, by omega, by omega, by omega, by omega, by omega⟩
    · rw [if_neg c]; exact ⟨a + 128, by omega, by omega, by omega, by omega, by omega, by omega⟩
  · rw [turned _ _ 5 rfl (by decide) n1 n2, wrapped _ 5 rfl (by decide)]
    simp only [Int.reducePow]
    unfold handle
    by_cases c : (a / 8 + 16777216 * s + 4294967296 * e) / 32 % 2 = 1
    · rw [if_pos c]; exact ⟨a - 256, by omega, by omega, by omega, by omega, by omega, by omega⟩
    · rw [if_neg c]; exact ⟨a + 256, by omega, by omega, by omega, by omega, by omega, by omega⟩
  · rw [turned _ _ 6 rfl (by decide) n1 n2, wrapped _ 6 rfl (by decide)]
    simp only [Int.reducePow]
    unfold handle
    by_cases c : (a / 8 + 16777216 * s + 4294967296 * e) / 64 % 2 = 1
    · rw [if_pos c]; exact ⟨a - 512, by omega, by omega, by omega, by omega, by omega, by omega⟩
    · rw [if_neg c]; exact ⟨a + 512, by omega, by omega, by omega, by omega, by omega, by omega⟩
  · rw [turned _ _ 7 rfl (by decide) n1 n2, wrapped _ 7 rfl (by decide)]
    simp only [Int.reducePow]
    unfold handle
    by_cases c : (a / 8 + 16777216 * s + 4294967296 * e) / 128 % 2 = 1
    · rw [if_pos c]; exact ⟨a - 1024, by omega, by omega, by omega, by omega, by omega, by omega⟩
    · rw [if_neg c]; exact ⟨a + 1024, by omega, by omega, by omega, by omega, by omega, by omega⟩
  · rw [turned _ _ 8 rfl (by decide) n1 n2, wrapped _ 8 rfl (by decide)]
    simp only [Int.reducePow]
    unfold handle
    by_cases c : (a / 8 + 16777216 * s + 4294967296 * e) / 256 % 2 = 1
    · rw [if_pos c]; exact ⟨a - 2048, by omega, by omega, by omega, by omega, by omega, by omega⟩
    · rw [if_neg c]; exact ⟨a + 2048, by omega, by omega, by omega, by omega, by omega, by omega⟩
  · rw [turned _ _ 9 rfl (by decide) n1 n2, wrapped _ 9 rfl (by decide)]
    simp only [Int.reducePow]
    unfold handle
    by_cases c : (a / 8 + 16777216 * s + 4294967296 * e) / 512 % 2 = 1
    · rw [if_pos c]; exact ⟨a - 4096, by omega, by omega, by omega, by omega, by omega, by omega⟩
    · rw [if_neg c]; exact ⟨a + 4096, by omega, by omega, by omega, by omega, by omega, by omega⟩
  · rw [turned _ _ 10 rfl (by decide) n1 n2, wrapped _ 10 rfl (by decide)]
    simp only [Int.reducePow]
    unfold handle
    by_cases c : (a / 8 + 16777216 * s + 4294967296 * e) / 1024 % 2 = 1
    · rw [if_pos c]; exact ⟨a - 8192, by omega, by omega, by omega, by omega, by omega, by omega⟩
    · rw [if_neg c]; exact ⟨a + 8192, by omega, by omega, by omega, by omega, by omega, by omega⟩
  · rw [turned _ _ 11 rfl (by decide) n1 n2, wrapped _ 11 rfl (by decide)]
    simp only [Int.reducePow]
    unfold handle
    by_cases c : (a / 8 + 16777216 * s + 4294967296 * e) / 2048 % 2 = 1
    · rw [if_pos c]; exact ⟨a - 16384, by omega, by omega, by omega, by omega, by omega, by omega⟩
    · rw [if_neg c]; exact ⟨a + 16384, by omega, by omega, by omega, by omega, by omega, by omega⟩
  · rw [turned _ _ 12 rfl (by decide) n1 n2, wrapped _ 12 rfl (by decide)]
    simp only [Int.reducePow]
    unfold handle
    by_cases c : (a / 8 + 16777216 * s + 4294967296 * e) / 4096 % 2 = 1
    · rw [if_pos c]; exact ⟨a - 32768, by omega, by omega, by omega, by omega, by omega, by omega⟩
    · rw [if_neg c]; exact ⟨a + 32768, by omega, by omega, by omega, by omega, by omega, by omega⟩
set_option maxHeartbeats 2000000 in
theorem mid {s e a K : Int} (hr : rightB s e a = true) (k1 : 24 ≤ K) (k2 : K < 27) : ∃ s', ¬ s' = s ∧ 0 ≤ s' ∧ s' ≤ 7 ∧ bits .xor .u64 (handle s e a) (IntKind.u64.wrap (2 ^ K.toNat)) = handle s' e a := by
  obtain ⟨b1, b2, b3, b4, b5, b6, b7⟩ := rbounds hr
  have n1 : 0 ≤ handle s e a := by unfold handle; omega
  have n2 : handle s e a ≤ 18446744073709551615 := by unfold handle; omega
  rcases (show K = 24 ∨ K = 25 ∨ K = 26 by omega) with rfl | rfl | rfl
  · rw [turned _ _ 24 rfl (by decide) n1 n2]
    simp only [Int.reducePow]
    unfold handle
    by_cases c : (a / 8 + 16777216 * s + 4294967296 * e) / 16777216 % 2 = 1
    · rw [if_pos c]; exact ⟨s - 1, by omega, by omega, by omega, by omega⟩
    · rw [if_neg c]; exact ⟨s + 1, by omega, by omega, by omega, by omega⟩
  · rw [turned _ _ 25 rfl (by decide) n1 n2]
    simp only [Int.reducePow]
    unfold handle
    by_cases c : (a / 8 + 16777216 * s + 4294967296 * e) / 33554432 % 2 = 1
    · rw [if_pos c]; exact ⟨s - 2, by omega, by omega, by omega, by omega⟩
    · rw [if_neg c]; exact ⟨s + 2, by omega, by omega, by omega, by omega⟩
  · rw [turned _ _ 26 rfl (by decide) n1 n2]
    simp only [Int.reducePow]
    unfold handle
    by_cases c : (a / 8 + 16777216 * s + 4294967296 * e) / 67108864 % 2 = 1
    · rw [if_pos c]; exact ⟨s - 4, by omega, by omega, by omega, by omega⟩
    · rw [if_neg c]; exact ⟨s + 4, by omega, by omega, by omega, by omega⟩
set_option maxHeartbeats 2000000 in
theorem high {s e a K : Int} (hr : rightB s e a = true) (k1 : 32 ≤ K) (k2 : K < 56) : ∃ e', ¬ e' = e ∧ 0 ≤ e' ∧ e' ≤ 16777215 ∧ bits .xor .u64 (handle s e a) (IntKind.u64.wrap (2 ^ K.toNat)) = handle s e' a := by
  obtain ⟨b1, b2, b3, b4, b5, b6, b7⟩ := rbounds hr
  have n1 : 0 ≤ handle s e a := by unfold handle; omega
  have n2 : handle s e a ≤ 18446744073709551615 := by unfold handle; omega
  rcases (show K = 32 ∨ K = 33 ∨ K = 34 ∨ K = 35 ∨ K = 36 ∨ K = 37 ∨ K = 38 ∨ K = 39 ∨ K = 40 ∨ K = 41 ∨ K = 42 ∨ K = 43 ∨ K = 44 ∨ K = 45 ∨ K = 46 ∨ K = 47 ∨ K = 48 ∨ K = 49 ∨ K = 50 ∨ K = 51 ∨ K = 52 ∨ K = 53 ∨ K = 54 ∨ K = 55 by omega) with rfl | rfl | rfl | rfl | rfl | rfl | rfl | rfl | rfl | rfl | rfl | rfl | rfl | rfl | rfl | rfl | rfl | rfl | rfl | rfl | rfl | rfl | rfl | rfl
  · rw [turned _ _ 32 rfl (by decide) n1 n2]
    simp only [Int.reducePow]
    unfold handle
    by_cases c : (a / 8 + 16777216 * s + 4294967296 * e) / 4294967296 % 2 = 1
    · rw [if_pos c]; exact ⟨e - 1, by omega, by omega, by omega, by omega⟩
    · rw [if_neg c]; exact ⟨e + 1, by omega, by omega, by omega, by omega⟩
  · rw [turned _ _ 33 rfl (by decide) n1 n2]
    simp only [Int.reducePow]
    unfold handle
    by_cases c : (a / 8 + 16777216 * s + 4294967296 * e) / 8589934592 % 2 = 1
    · rw [if_pos c]; exact ⟨e - 2, by omega, by omega, by omega, by omega⟩
    · rw [if_neg c]; exact ⟨e + 2, by omega, by omega, by omega, by omega⟩
  · rw [turned _ _ 34 rfl (by decide) n1 n2]
    simp only [Int.reducePow]
    unfold handle
    by_cases c : (a / 8 + 16777216 * s + 4294967296 * e) / 17179869184 % 2 = 1
    · rw [if_pos c]; exact ⟨e - 4, by omega, by omega, by omega, by omega⟩
    · rw [if_neg c]; exact ⟨e + 4, by omega, by omega, by omega, by omega⟩
  · rw [turned _ _ 35 rfl (by decide) n1 n2]
    simp only [Int.reducePow]
    unfold handle
    by_cases c : (a / 8 + 16777216 * s + 4294967296 * e) / 34359738368 % 2 = 1
    · rw [if_pos c]; exact ⟨e - 8, by omega, by omega, by omega, by omega⟩
    · rw [if_neg c]; exact ⟨e + 8, by omega, by omega, by omega, by omega⟩
  · rw [turned _ _ 36 rfl (by decide) n1 n2]
    simp only [Int.reducePow]
    unfold handle
    by_cases c : (a / 8 + 16777216 * s + 4294967296 * e) / 68719476736 % 2 = 1
    · rw [if_pos c]; exact ⟨e - 16, by omega, by omega, by omega, by omega⟩
    · rw [if_neg c]; exact ⟨e + 16, by omega, by omega, by omega, by omega⟩
  · rw [turned _ _ 37 rfl (by decide) n1 n2]
    simp only [Int.reducePow]
    unfold handle
    by_cases c : (a / 8 + 16777216 * s + 4294967296 * e) / 137438953472 % 2 = 1
    · rw [if_pos c]; exact ⟨e - 32, by omega, by omega, by omega, by omega⟩
    · rw [if_neg c]; exact ⟨e + 32, by omega, by omega, by omega, by omega⟩
  · rw [turned _ _ 38 rfl (by decide) n1 n2]
    simp only [Int.reducePow]
    unfold handle
    by_cases c : (a / 8 + 16777216 * s + 4294967296 * e) / 274877906944 % 2 = 1
    · rw [if_pos c]; exact ⟨e - 64, by omega, by omega, by omega, by omega⟩
    · rw [if_neg c]; exact ⟨e + 64, by omega, by omega, by omega, by omega⟩
  · rw [turned _ _ 39 rfl (by decide) n1 n2]
    simp only [Int.reducePow]
    unfold handle
    by_cases c : (a / 8 + 16777216 * s + 4294967296 * e) / 549755813888 % 2 = 1
    · rw [if_pos c]; exact ⟨e - 128, by omega, by omega, by omega, by omega⟩
    · rw [if_neg c]; exact ⟨e + 128, by omega, by omega, by omega, by omega⟩
  · rw [turned _ _ 40 rfl (by decide) n1 n2]
    simp only [Int.reducePow]
    unfold handle
    by_cases c : (a / 8 + 16777216 * s + 4294967296 * e) / 1099511627776 % 2 = 1
    · rw [if_pos c]; exact ⟨e - 256, by omega, by omega, by omega, by omega⟩
    · rw [if_neg c]; exact ⟨e + 256, by omega, by omega, by omega, by omega⟩
  · rw [turned _ _ 41 rfl (by decide) n1 n2]
    simp only [Int.reducePow]
    unfold handle
    by_cases c : (a / 8 + 16777216 * s + 4294967296 * e) / 2199023255552 % 2 = 1
    · rw [if_pos c]; exact ⟨e - 512, by omega, by omega, by omega, by omega⟩
    · rw [if_neg c]; exact ⟨e + 512, by omega, by omega, by omega, by omega⟩
  · rw [turned _ _ 42 rfl (by decide) n1 n2]
    simp only [Int.reducePow]
    unfold handle
    by_cases c : (a / 8 + 16777216 * s + 4294967296 * e) / 4398046511104 % 2 = 1
    · rw [if_pos c]; exact ⟨e - 1024, by omega, by omega, by omega, by omega⟩
    · rw [if_neg c]; exact ⟨e + 1024, by omega, by omega, by omega, by omega⟩
  · rw [turned _ _ 43 rfl (by decide) n1 n2]
    simp only [Int.reducePow]
    unfold handle
    by_cases c : (a / 8 + 16777216 * s + 4294967296 * e) / 8796093022208 % 2 = 1
    · rw [if_pos c]; exact ⟨e - 2048, by omega, by omega, by omega, by omega⟩
    · rw [if_neg c]; exact ⟨e + 2048, by omega, by omega, by omega, by omega⟩
  · rw [turned _ _ 44 rfl (by decide) n1 n2]
    simp only [Int.reducePow]
    unfold handle
    by_cases c : (a / 8 + 16777216 * s + 4294967296 * e) / 17592186044416 % 2 = 1
    · rw [if_pos c]; exact ⟨e - 4096, by omega, by omega, by omega, by omega⟩
    · rw [if_neg c]; exact ⟨e + 4096, by omega, by omega, by omega, by omega⟩
  · rw [turned _ _ 45 rfl (by decide) n1 n2]
    simp only [Int.reducePow]
    unfold handle
    by_cases c : (a / 8 + 16777216 * s + 4294967296 * e) / 35184372088832 % 2 = 1
    · rw [if_pos c]; exact ⟨e - 8192, by omega, by omega, by omega, by omega⟩
    · rw [if_neg c]; exact ⟨e + 8192, by omega, by omega, by omega, by omega⟩
  · rw [turned _ _ 46 rfl (by decide) n1 n2]
    simp only [Int.reducePow]
    unfold handle
    by_cases c : (a / 8 + 16777216 * s + 4294967296 * e) / 70368744177664 % 2 = 1
    · rw [if_pos c]; exact ⟨e - 16384, by omega, by omega, by omega, by omega⟩
    · rw [if_neg c]; exact ⟨e + 16384, by omega, by omega, by omega, by omega⟩
  · rw [turned _ _ 47 rfl (by decide) n1 n2]
    simp only [Int.reducePow]
    unfold handle
    by_cases c : (a / 8 + 16777216 * s + 4294967296 * e) / 140737488355328 % 2 = 1
    · rw [if_pos c]; exact ⟨e - 32768, by omega, by omega, by omega, by omega⟩
    · rw [if_neg c]; exact ⟨e + 32768, by omega, by omega, by omega, by omega⟩
  · rw [turned _ _ 48 rfl (by decide) n1 n2]
    simp only [Int.reducePow]
    unfold handle
    by_cases c : (a / 8 + 16777216 * s + 4294967296 * e) / 281474976710656 % 2 = 1
    · rw [if_pos c]; exact ⟨e - 65536, by omega, by omega, by omega, by omega⟩
    · rw [if_neg c]; exact ⟨e + 65536, by omega, by omega, by omega, by omega⟩
  · rw [turned _ _ 49 rfl (by decide) n1 n2]
    simp only [Int.reducePow]
    unfold handle
    by_cases c : (a / 8 + 16777216 * s + 4294967296 * e) / 562949953421312 % 2 = 1
    · rw [if_pos c]; exact ⟨e - 131072, by omega, by omega, by omega, by omega⟩
    · rw [if_neg c]; exact ⟨e + 131072, by omega, by omega, by omega, by omega⟩
  · rw [turned _ _ 50 rfl (by decide) n1 n2]
    simp only [Int.reducePow]
    unfold handle
    by_cases c : (a / 8 + 16777216 * s + 4294967296 * e) / 1125899906842624 % 2 = 1
    · rw [if_pos c]; exact ⟨e - 262144, by omega, by omega, by omega, by omega⟩
    · rw [if_neg c]; exact ⟨e + 262144, by omega, by omega, by omega, by omega⟩
  · rw [turned _ _ 51 rfl (by decide) n1 n2]
    simp only [Int.reducePow]
    unfold handle
    by_cases c : (a / 8 + 16777216 * s + 4294967296 * e) / 2251799813685248 % 2 = 1
    · rw [if_pos c]; exact ⟨e - 524288, by omega, by omega, by omega, by omega⟩
    · rw [if_neg c]; exact ⟨e + 524288, by omega, by omega, by omega, by omega⟩
  · rw [turned _ _ 52 rfl (by decide) n1 n2]
    simp only [Int.reducePow]
    unfold handle
    by_cases c : (a / 8 + 16777216 * s + 4294967296 * e) / 4503599627370496 % 2 = 1
    · rw [if_pos c]; exact ⟨e - 1048576, by omega, by omega, by omega, by omega⟩
    · rw [if_neg c]; exact ⟨e + 1048576, by omega, by omega, by omega, by omega⟩
  · rw [turned _ _ 53 rfl (by decide) n1 n2]
    simp only [Int.reducePow]
    unfold handle
    by_cases c : (a / 8 + 16777216 * s + 4294967296 * e) / 9007199254740992 % 2 = 1
    · rw [if_pos c]; exact ⟨e - 2097152, by omega, by omega, by omega, by omega⟩
    · rw [if_neg c]; exact ⟨e + 2097152, by omega, by omega, by omega, by omega⟩
  · rw [turned _ _ 54 rfl (by decide) n1 n2]
    simp only [Int.reducePow]
    unfold handle
    by_cases c : (a / 8 + 16777216 * s + 4294967296 * e) / 18014398509481984 % 2 = 1
    · rw [if_pos c]; exact ⟨e - 4194304, by omega, by omega, by omega, by omega⟩
    · rw [if_neg c]; exact ⟨e + 4194304, by omega, by omega, by omega, by omega⟩
  · rw [turned _ _ 55 rfl (by decide) n1 n2]
    simp only [Int.reducePow]
    unfold handle
    by_cases c : (a / 8 + 16777216 * s + 4294967296 * e) / 36028797018963968 % 2 = 1
    · rw [if_pos c]; exact ⟨e - 8388608, by omega, by omega, by omega, by omega⟩
    · rw [if_neg c]; exact ⟨e + 8388608, by omega, by omega, by omega, by omega⟩
set_option maxHeartbeats 2000000 in
theorem none_a {s e a K : Int} (hr : rightB s e a = true) (k1 : 13 ≤ K) (k2 : K < 24) : 0 ≤ bits .xor .u64 (handle s e a) (IntKind.u64.wrap (2 ^ K.toNat)) ∧ bits .xor .u64 (handle s e a) (IntKind.u64.wrap (2 ^ K.toNat)) ≤ 18446744073709551615 ∧ unV (bits .xor .u64 (handle s e a) (IntKind.u64.wrap (2 ^ K.toNat))) = ⟨0, 0, 0, 18⟩ := by
  obtain ⟨b1, b2, b3, b4, b5, b6, b7⟩ := rbounds hr
  have n1 : 0 ≤ handle s e a := by unfold handle; omega
  have n2 : handle s e a ≤ 18446744073709551615 := by unfold handle; omega
  rcases (show K = 13 ∨ K = 14 ∨ K = 15 ∨ K = 16 ∨ K = 17 ∨ K = 18 ∨ K = 19 ∨ K = 20 ∨ K = 21 ∨ K = 22 ∨ K = 23 by omega) with rfl | rfl | rfl | rfl | rfl | rfl | rfl | rfl | rfl | rfl | rfl
  · rw [turned _ _ 13 rfl (by decide) n1 n2]
    simp only [Int.reducePow]
    unfold handle
    rw [if_neg (by omega)]
    exact ⟨by omega, by omega, un_none (by omega)⟩
  · rw [turned _ _ 14 rfl (by decide) n1 n2]
    simp only [Int.reducePow]
    unfold handle
    rw [if_neg (by omega)]
    exact ⟨by omega, by omega, un_none (by omega)⟩
  · rw [turned _ _ 15 rfl (by decide) n1 n2]
    simp only [Int.reducePow]
    unfold handle
    rw [if_neg (by omega)]
    exact ⟨by omega, by omega, un_none (by omega)⟩
  · rw [turned _ _ 16 rfl (by decide) n1 n2]
    simp only [Int.reducePow]
    unfold handle
    rw [if_neg (by omega)]
    exact ⟨by omega, by omega, un_none (by omega)⟩
  · rw [turned _ _ 17 rfl (by decide) n1 n2]
    simp only [Int.reducePow]
    unfold handle
    rw [if_neg (by omega)]
    exact ⟨by omega, by omega, un_none (by omega)⟩
  · rw [turned _ _ 18 rfl (by decide) n1 n2]
    simp only [Int.reducePow]
    unfold handle
    rw [if_neg (by omega)]
    exact ⟨by omega, by omega, un_none (by omega)⟩
  · rw [turned _ _ 19 rfl (by decide) n1 n2]
    simp only [Int.reducePow]
    unfold handle
    rw [if_neg (by omega)]
    exact ⟨by omega, by omega, un_none (by omega)⟩
  · rw [turned _ _ 20 rfl (by decide) n1 n2]
    simp only [Int.reducePow]
    unfold handle
    rw [if_neg (by omega)]
    exact ⟨by omega, by omega, un_none (by omega)⟩
  · rw [turned _ _ 21 rfl (by decide) n1 n2]
    simp only [Int.reducePow]
    unfold handle
    rw [if_neg (by omega)]
    exact ⟨by omega, by omega, un_none (by omega)⟩
  · rw [turned _ _ 22 rfl (by decide) n1 n2]
    simp only [Int.reducePow]
    unfold handle
    rw [if_neg (by omega)]
    exact ⟨by omega, by omega, un_none (by omega)⟩
  · rw [turned _ _ 23 rfl (by decide) n1 n2]
    simp only [Int.reducePow]
    unfold handle
    rw [if_neg (by omega)]
    exact ⟨by omega, by omega, un_none (by omega)⟩
set_option maxHeartbeats 2000000 in
theorem none_b {s e a K : Int} (hr : rightB s e a = true) (k1 : 27 ≤ K) (k2 : K < 32) : 0 ≤ bits .xor .u64 (handle s e a) (IntKind.u64.wrap (2 ^ K.toNat)) ∧ bits .xor .u64 (handle s e a) (IntKind.u64.wrap (2 ^ K.toNat)) ≤ 18446744073709551615 ∧ unV (bits .xor .u64 (handle s e a) (IntKind.u64.wrap (2 ^ K.toNat))) = ⟨0, 0, 0, 18⟩ := by
  obtain ⟨b1, b2, b3, b4, b5, b6, b7⟩ := rbounds hr
  have n1 : 0 ≤ handle s e a := by unfold handle; omega
  have n2 : handle s e a ≤ 18446744073709551615 := by unfold handle; omega
  rcases (show K = 27 ∨ K = 28 ∨ K = 29 ∨ K = 30 ∨ K = 31 by omega) with rfl | rfl | rfl | rfl | rfl
  · rw [turned _ _ 27 rfl (by decide) n1 n2]
    simp only [Int.reducePow]
    unfold handle
    rw [if_neg (by omega)]
    exact ⟨by omega, by omega, un_none (by omega)⟩
  · rw [turned _ _ 28 rfl (by decide) n1 n2]
    simp only [Int.reducePow]
    unfold handle
    rw [if_neg (by omega)]
    exact ⟨by omega, by omega, un_none (by omega)⟩
  · rw [turned _ _ 29 rfl (by decide) n1 n2]
    simp only [Int.reducePow]
    unfold handle
    rw [if_neg (by omega)]
    exact ⟨by omega, by omega, un_none (by omega)⟩
  · rw [turned _ _ 30 rfl (by decide) n1 n2]
    simp only [Int.reducePow]
    unfold handle
    rw [if_neg (by omega)]
    exact ⟨by omega, by omega, un_none (by omega)⟩
  · rw [turned _ _ 31 rfl (by decide) n1 n2]
    simp only [Int.reducePow]
    unfold handle
    rw [if_neg (by omega)]
    exact ⟨by omega, by omega, un_none (by omega)⟩
set_option maxHeartbeats 2000000 in
theorem none_c {s e a K : Int} (hr : rightB s e a = true) (k1 : 56 ≤ K) (k2 : K < 64) : 0 ≤ bits .xor .u64 (handle s e a) (IntKind.u64.wrap (2 ^ K.toNat)) ∧ bits .xor .u64 (handle s e a) (IntKind.u64.wrap (2 ^ K.toNat)) ≤ 18446744073709551615 ∧ unV (bits .xor .u64 (handle s e a) (IntKind.u64.wrap (2 ^ K.toNat))) = ⟨0, 0, 0, 18⟩ := by
  obtain ⟨b1, b2, b3, b4, b5, b6, b7⟩ := rbounds hr
  have n1 : 0 ≤ handle s e a := by unfold handle; omega
  have n2 : handle s e a ≤ 18446744073709551615 := by unfold handle; omega
  rcases (show K = 56 ∨ K = 57 ∨ K = 58 ∨ K = 59 ∨ K = 60 ∨ K = 61 ∨ K = 62 ∨ K = 63 by omega) with rfl | rfl | rfl | rfl | rfl | rfl | rfl | rfl
  · rw [turned _ _ 56 rfl (by decide) n1 n2]
    simp only [Int.reducePow]
    unfold handle
    rw [if_neg (by omega)]
    exact ⟨by omega, by omega, un_none (by omega)⟩
  · rw [turned _ _ 57 rfl (by decide) n1 n2]
    simp only [Int.reducePow]
    unfold handle
    rw [if_neg (by omega)]
    exact ⟨by omega, by omega, un_none (by omega)⟩
  · rw [turned _ _ 58 rfl (by decide) n1 n2]
    simp only [Int.reducePow]
    unfold handle
    rw [if_neg (by omega)]
    exact ⟨by omega, by omega, un_none (by omega)⟩
  · rw [turned _ _ 59 rfl (by decide) n1 n2]
    simp only [Int.reducePow]
    unfold handle
    rw [if_neg (by omega)]
    exact ⟨by omega, by omega, un_none (by omega)⟩
  · rw [turned _ _ 60 rfl (by decide) n1 n2]
    simp only [Int.reducePow]
    unfold handle
    rw [if_neg (by omega)]
    exact ⟨by omega, by omega, un_none (by omega)⟩
  · rw [turned _ _ 61 rfl (by decide) n1 n2]
    simp only [Int.reducePow]
    unfold handle
    rw [if_neg (by omega)]
    exact ⟨by omega, by omega, un_none (by omega)⟩
  · rw [turned _ _ 62 rfl (by decide) n1 n2]
    simp only [Int.reducePow]
    unfold handle
    rw [if_neg (by omega)]
    exact ⟨by omega, by omega, un_none (by omega)⟩
  · rw [turned _ _ 63 rfl (by decide) n1 n2]
    simp only [Int.reducePow]
    unfold handle
    rw [if_neg (by omega)]
    exact ⟨by omega, by omega, un_none (by omega)⟩
theorem turn_all {s e a K : Int} (hr : rightB s e a = true) (k1 : 0 ≤ K) (k2 : K < 64) : ∃ s' e' a' x, (0 ≤ bits .xor .u64 (handle s e a) (IntKind.u64.wrap (2 ^ K.toNat)) ∧ bits .xor .u64 (handle s e a) (IntKind.u64.wrap (2 ^ K.toNat)) ≤ 18446744073709551615) ∧ unV (bits .xor .u64 (handle s e a) (IntKind.u64.wrap (2 ^ K.toNat))) = ⟨s', e', a', x⟩ ∧
    (K < 13 ∧ s' = 0 ∧ e' = 0 ∧ a' = 0 ∧ x = 18 ∧ (handle s e a % 16777216 == IntKind.u64.wrap (2 ^ K.toNat)) = true ∨
     K < 13 ∧ s' = s ∧ e' = e ∧ (a' == a) = false ∧ x = 0 ∨
     13 ≤ K ∧ K < 24 ∧ s' = 0 ∧ e' = 0 ∧ a' = 0 ∧ x = 18 ∨
     24 ≤ K ∧ K < 27 ∧ (s' == s) = false ∧ e' = e ∧ a' = a ∧ x = 0 ∨
     27 ≤ K ∧ K < 32 ∧ s' = 0 ∧ e' = 0 ∧ a' = 0 ∧ x = 18 ∨
     32 ≤ K ∧ K < 56 ∧ s' = s ∧ (e' == e) = false ∧ a' = a ∧ x = 0 ∨
     56 ≤ K ∧ s' = 0 ∧ e' = 0 ∧ a' = 0 ∧ x = 18) := by
  obtain ⟨b1, b2, b3, b4, b5, b6, b7⟩ := rbounds hr
  rcases (show K < 13 ∨ (13 ≤ K ∧ K < 24) ∨ (24 ≤ K ∧ K < 27) ∨ (27 ≤ K ∧ K < 32) ∨ (32 ≤ K ∧ K < 56) ∨ 56 ≤ K by omega) with h | h | h | h | h | h
  · obtain ⟨a', h1, h2, h3, h4, h5, h6⟩ := low hr k1 h
    have hb : 0 ≤ handle s e a' ∧ handle s e a' ≤ 18446744073709551615 := by unfold handle; omega
    rw [h5]
    by_cases h0 : a' = 0
    · refine ⟨0, 0, 0, 18, hb, ?_, .inl ⟨h, rfl, rfl, rfl, rfl, by rw [h6 h0]; simp⟩⟩
      subst h0
      exact un_none (by unfold handle; omega)
    · exact ⟨s, e, a', 0, hb, un_back (decide_eq_true (by omega)), .inr (.inl ⟨h, rfl, rfl, by simpa using h1, rfl⟩)⟩
  · obtain ⟨c1, c2, c3⟩ := none_a hr h.1 h.2
    exact ⟨0, 0, 0, 18, ⟨c1, c2⟩, c3, .inr (.inr (.inl ⟨h.1, h.2, rfl, rfl, rfl, rfl⟩))⟩
  · obtain ⟨s', h1, h2, h3, h5⟩ := mid hr h.1 h.2
    have hb : 0 ≤ handle s' e a ∧ handle s' e a ≤ 18446744073709551615 := by unfold handle; omega
    rw [h5]
    exact ⟨s', e, a, 0, hb, un_back (decide_eq_true (by omega)), .inr (.inr (.inr (.inl ⟨h.1, h.2, by simpa using h1, rfl, rfl, rfl⟩)))⟩
  · obtain ⟨c1, c2, c3⟩ := none_b hr h.1 h.2
    exact ⟨0, 0, 0, 18, ⟨c1, c2⟩, c3, .inr (.inr (.inr (.inr (.inl ⟨h.1, h.2, rfl, rfl, rfl, rfl⟩))))⟩
  · obtain ⟨e', h1, h2, h3, h5⟩ := high hr h.1 h.2
    have hb : 0 ≤ handle s e' a ∧ handle s e' a ≤ 18446744073709551615 := by unfold handle; omega
    rw [h5]
    exact ⟨s, e', a, 0, hb, un_back (decide_eq_true (by omega)), .inr (.inr (.inr (.inr (.inr (.inl ⟨h.1, h.2, rfl, by simpa using h1, rfl, rfl⟩)))))⟩
  · obtain ⟨c1, c2, c3⟩ := none_c hr h k2
    exact ⟨0, 0, 0, 18, ⟨c1, c2⟩, c3, .inr (.inr (.inr (.inr (.inr (.inr ⟨h, rfl, rfl, rfl, rfl⟩)))))⟩

set_option maxRecDepth 100000 in
set_option maxHeartbeats 8000000 in
theorem walk (r0 r1 r2 : Int) (bit : Int) (w : World) (wr0 : (Lit.int .i64 r0).wf = true) (wr1 : (Lit.int .i64 r1).wf = true) (wr2 : (Lit.int .i64 r2).wf = true) (wbit : (Lit.int .u8 bit).wf = true) :
    Calls Try.prog 7 #[.agg #[.int .i64 r0, .int .i64 r1, .int .i64 r2], .int .u8 bit] w fun e w' => e = .returned (.bool true) ∧ Below w.heap.size w w' := by
  have ⟨n1, n2⟩ := bounds_u8 wbit
  clear wbit wr0 wr1 wr2
  obtain ⟨s, e, a, hr, F⟩ := fit_all r0 r1 r2
  have H : Hid (packV s e a = ⟨handle s e a, 0⟩) := Lib.hid (pack_yes hr)
  obtain ⟨s', e', a', x, ⟨g1, g2⟩, hu, hc⟩ := turn_all (K := bit % 64) hr (by omega) (by omega)
  have HU := Lib.hid hu
  have p1 : 0 ≤ handle s e a := by have := rbounds hr; unfold handle; omega
  clear hr hu
  generalize handle s e a = P at *
  have m1 := mask_i64 6 (by decide) bit
  simp only [Int.reducePow, Int.reduceSub] at m1
  have k1 : 0 ≤ bit % 64 := by omega
  have k2 : bit % 64 < 64 := by omega
  go_enter Try.func7, Try.ntmps7
  have S0 := (St.start w).new [.int .i64 r0, .int .i64 r1, .int .i64 r2] 23
  go_wp2_with fail
  refine (lift S0 (shown_any _)).mono ?_
  rintro z w1 ⟨rfl, S1⟩
  clear S0
  obtain ⟨qrl, qr0, qr1, qr2⟩ := S1.get3 0 rfl
  go_wp2_with fail
  refine (lift S1 (F _)).mono ?_
  rintro z w2 ⟨rfl, S2⟩
  clear qrl qr0 qr1 qr2 S1
  have T2 := S2.new [.int .i64 s, .int .i64 e, .int .i64 a] 23
  clear S2
  have S2 := T2
  clear T2
  go_wp2_with fail
  refine (lift S2 (pack_any _ _ _ _)).mono ?_
  rintro z w3 ⟨rfl, S3⟩
  rw [H.out]
  clear S2
  obtain ⟨qxl, qx0, qx1, qx2⟩ := S3.get3 0 rfl
  go_wp2_with fail
  refine (lift S3 (unpack_any _ _ g1 g2)).mono ?_
  rintro z w4 ⟨rfl, S4⟩
  rw [HU.out]
  clear qxl qx0 qx1 qx2 S3
  obtain ⟨qxl, qx0, qx1, qx2⟩ := S4.get3 0 rfl
  clear H HU F g1 g2
  rcases hc with ⟨c1, rfl, rfl, rfl, rfl, t⟩ | ⟨c1, rfl, rfl, t, rfl⟩ | ⟨c1, c2, rfl, rfl, rfl, rfl⟩ | ⟨c1, c2, t, rfl, rfl, rfl⟩ | ⟨c1, c2, rfl, rfl, rfl, rfl⟩ | ⟨c1, c2, rfl, t, rfl, rfl⟩ | ⟨c1, rfl, rfl, rfl, rfl⟩
  · as_aux_lemma =>
      have d1 : decide (13 ≤ bit % 64) = false := by simp; omega
      have d2 : decide (bit % 64 < 24) = true := by simp; omega
      have d3 : decide (27 ≤ bit % 64) = false := by simp; omega
      have d4 : decide (bit % 64 < 32) = true := by simp; omega
      have d5 : decide (56 ≤ bit % 64) = false := by simp; omega
      have d6 : decide (24 ≤ bit % 64) = false := by simp; omega
      have d7 : decide (bit % 64 < 27) = true := by simp; omega
      have d8 : decide (32 ≤ bit % 64) = false := by simp; omega
      have d9 : decide (bit % 64 < 13) = true := by simp; omega
      clear c1
      go_wp2
      go_ret
      exact ⟨rfl, (S4.new _ _).below⟩
  · as_aux_lemma =>
      have d1 : decide (13 ≤ bit % 64) = false := by simp; omega
      have d2 : decide (bit % 64 < 24) = true := by simp; omega
      have d3 : decide (27 ≤ bit % 64) = false := by simp; omega
      have d4 : decide (bit % 64 < 32) = true := by simp; omega
      have d5 : decide (56 ≤ bit % 64) = false := by simp; omega
      have d6 : decide (24 ≤ bit % 64) = false := by simp; omega
      have d7 : decide (bit % 64 < 27) = true := by simp; omega
      have d8 : decide (32 ≤ bit % 64) = false := by simp; omega
      have d9 : decide (bit % 64 < 13) = true := by simp; omega
      have u : (a' != a) = true := by simpa using t
      clear c1
      go_wp2
      go_ret
      exact ⟨rfl, (S4.new _ _).below⟩
  · as_aux_lemma =>
      have d1 : decide (13 ≤ bit % 64) = true := by simp; omega
      have d2 : decide (bit % 64 < 24) = true := by simp; omega
      have d3 : decide (27 ≤ bit % 64) = false := by simp; omega
      have d4 : decide (bit % 64 < 32) = true := by simp; omega
      have d5 : decide (56 ≤ bit % 64) = false := by simp; omega
      have d6 : decide (24 ≤ bit % 64) = false := by simp; omega
      have d7 : decide (bit % 64 < 27) = true := by simp; omega
      have d8 : decide (32 ≤ bit % 64) = false := by simp; omega
      have d9 : decide (bit % 64 < 13) = false := by simp; omega
      clear c1 c2
      go_wp2
      go_ret
      exact ⟨rfl, (S4.new _ _).below⟩
  · as_aux_lemma =>
      have d1 : decide (13 ≤ bit % 64) = true := by simp; omega
      have d2 : decide (bit % 64 < 24) = false := by simp; omega
      have d3 : decide (27 ≤ bit % 64) = false := by simp; omega
      have d4 : decide (bit % 64 < 32) = true := by simp; omega
      have d5 : decide (56 ≤ bit % 64) = false := by simp; omega
      have d6 : decide (24 ≤ bit % 64) = true := by simp; omega
      have d7 : decide (bit % 64 < 27) = true := by simp; omega
      have d8 : decide (32 ≤ bit % 64) = false := by simp; omega
      have d9 : decide (bit % 64 < 13) = false := by simp; omega
      have u : (s' != s) = true := by simpa using t
      clear c1 c2
      go_wp2
      go_ret
      exact ⟨rfl, (S4.new _ _).below⟩
  · as_aux_lemma =>
      have d1 : decide (13 ≤ bit % 64) = true := by simp; omega
      have d2 : decide (bit % 64 < 24) = false := by simp; omega
      have d3 : decide (27 ≤ bit % 64) = true := by simp; omega
      have d4 : decide (bit % 64 < 32) = true := by simp; omega
      have d5 : decide (56 ≤ bit % 64) = false := by simp; omega
      have d6 : decide (24 ≤ bit % 64) = true := by simp; omega
      have d7 : decide (bit % 64 < 27) = false := by simp; omega
      have d8 : decide (32 ≤ bit % 64) = false := by simp; omega
      have d9 : decide (bit % 64 < 13) = false := by simp; omega
      clear c1 c2
      go_wp2
      go_ret
      exact ⟨rfl, (S4.new _ _).below⟩
  · as_aux_lemma =>
      have d1 : decide (13 ≤ bit % 64) = true := by simp; omega
      have d2 : decide (bit % 64 < 24) = false := by simp; omega
      have d3 : decide (27 ≤ bit % 64) = true := by simp; omega
      have d4 : decide (bit % 64 < 32) = false := by simp; omega
      have d5 : decide (56 ≤ bit % 64) = false := by simp; omega
      have d6 : decide (24 ≤ bit % 64) = true := by simp; omega
      have d7 : decide (bit % 64 < 27) = false := by simp; omega
      have d8 : decide (32 ≤ bit % 64) = true := by simp; omega
      have d9 : decide (bit % 64 < 13) = false := by simp; omega
      have u : (e' != e) = true := by simpa using t
      clear c1 c2
      go_wp2
      go_ret
      exact ⟨rfl, (S4.new _ _).below⟩
  · as_aux_lemma =>
      have d1 : decide (13 ≤ bit % 64) = true := by simp; omega
      have d2 : decide (bit % 64 < 24) = false := by simp; omega
      have d3 : decide (27 ≤ bit % 64) = true := by simp; omega
      have d4 : decide (bit % 64 < 32) = false := by simp; omega
      have d5 : decide (56 ≤ bit % 64) = true := by simp; omega
      have d6 : decide (24 ≤ bit % 64) = true := by simp; omega
      have d7 : decide (bit % 64 < 27) = false := by simp; omega
      have d8 : decide (32 ≤ bit % 64) = true := by simp; omega
      have d9 : decide (bit % 64 < 13) = false := by simp; omega
      clear c1
      go_wp2
      go_ret
      exact ⟨rfl, (S4.new _ _).below⟩

set_option maxRecDepth 100000 in
theorem lifted (os : Os) (started : os.Started) (H : Type) (enc : TypeId × Value → H) :
    ReturnsInHanded {} Try.checked os 7 .any (Rows.refTurnsSpec.pre6 enc Try.prog Try.f7 Rows.refTurnsRow.domain false) (Rows.refTurnsSpec.post enc Try.prog Try.f7 false true false false) := by
  refine returnsInHanded_of_change (C := Try.checked) Args.own started (by kernel_rfl) Try.func7
    (ChangeSpec.witness6 (enc := enc) (C := Try.checked) false ⟨#[], #[.agg #[.int .i64 0, .int .i64 0, .int .i64 0], .int .u8 0], []⟩ 8 (by kernel_rfl) (by kernel_rfl) (by kernel_rfl) (by kernel_rfl)) ?_
  intro W base args ds gs before hval0 hW hcnd _
  have hval : ∀ (j : Nat) t v, Try.f7.params[j]? = some t → args[j]? = some v → Value.okWide Try.prog W .any base t v := hval0
  have hW' := hW
  obtain ⟨p, q, hA0, hV, rfl, hfz, hnd⟩ := hW
  have hA : DataW.TrodAll enc Try.prog W 0 (fun _ => true) true Try.f7.params.toList args.toList ds p := hA0
  rw [Try.params7] at hA hval
  obtain ⟨v0, vs0, d0, ds0, p0, q0, hargs, rfl, rfl, h0, r0⟩ := trodAll_cons hA
  obtain ⟨v1, vs1, d1, ds1, p1, q1, rfl, rfl, rfl, h1, r1⟩ := trodAll_cons r0
  obtain ⟨rfl, rfl, rfl⟩ := trodAll_nil r1
  obtain rfl : args = #[v0, v1] := by cases args; simp_all
  obtain ⟨rfl, rfl⟩ := trodVars_none hV
  have lt0 := Args.trod_below h0
  obtain ⟨rz, hv0, hr⟩ := Args.rec_in (ks := [.i64, .i64, .i64]) Try.underlying23 (by kernel_rfl) (by kernel_rfl) (hval 0 23 v0 rfl rfl) h0
  obtain rfl : v0 = .agg #[.int .i64 (rz 0), .int .i64 (rz 1), .int .i64 (rz 2)] := hv0
  have lt1 := Args.trod_below h1
  obtain ⟨bit, rfl, rfl, rfl, wbit⟩ := open_int Try.underlying5 (hval 1 5 v1 rfl rfl) h1
  clear hA0 hval0
  refine (walk (rz 0) (rz 1) (rz 2) bit W (hr 0) (hr 1) (hr 2) wbit).mono fun e W' ⟨he, bel⟩ => ?_
  subst he
  exact ⟨_, rfl, _, _, _, [], _, [], hW', trodAll_mk1 (shut_bool Try.underlying4 _), trodAll_cons_mk (Below.trod Args.laidOut (by kernel_rfl) (of_decide_eq_true (by kernel_rfl)) h0 bel lt0) (trodAll_cons_mk (Below.trod Args.laidOut (by kernel_rfl) (of_decide_eq_true (by kernel_rfl)) h1 bel lt1) (trodAll_mk0)), rfl, bel.frame _, fun h => by cases h⟩

theorem over : Rows.refTurnsRow.holds Try.pinned (OpenSpec.ofChange Rows.refTurnsSpec) :=
  OpenClaim.holds_of_wide 7 Try.f7 rfl rfl rfl rfl rfl rfl rfl ⟨rfl, rfl, rfl, rfl, rfl⟩ rfl rfl rfl rfl rfl (by kernel_rfl) Try.func7 (by kernel_rfl)
    (of_decide_eq_true (by kernel_rfl)) (by unfold Func.isWrapper; rw [if_neg (of_decide_eq_false (by kernel_rfl))]; exact ⟨rfl, rfl⟩)
    (fun os started H enc _ => lifted os started H enc)

theorem proved : Rows.RefTurnsSaid :=
  over
end Go.Proofs.Ytbbedeelomfanaa.refTurns
