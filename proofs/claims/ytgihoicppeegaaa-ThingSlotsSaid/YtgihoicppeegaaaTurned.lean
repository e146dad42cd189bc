/-
  Plain mathematics of bits turned: x ^^^ 2^k; words that differ in one bit are unlike; what a head's two words tell.
-/
import Derived.Test.YtgihoicppeegaaaHeadsE
namespace Go.Proofs.Ytgihoicppeegaaa.Heads
open Go.ChangeShapes Go.WideShapes Go.ChangeAt Go.RowKit
open Held
set_option linter.unusedVariables false

theorem xor_one (x : Nat) : x ^^^ 1 = if x % 2 = 1 then x - 1 else x + 1 := by
  have h1 : (x ^^^ 1) / 2 = x / 2 := by have := Nat.xor_div_two_pow (a := x) (b := 1) (n := 1); simpa using this
  have h2 : (x ^^^ 1) % 2 = x % 2 ^^^ 1 := by have := Nat.xor_mod_two_pow (a := x) (b := 1) (n := 1); simpa using this
  by_cases h : x % 2 = 1
  · rw [if_pos h]
    rw [h] at h2
    have h3 : 1 ^^^ 1 = 0 := rfl
    rw [h3] at h2
    omega
  · have h' : x % 2 = 0 := by omega
    rw [if_neg h]
    rw [h'] at h2
    have h3 : 0 ^^^ 1 = 1 := rfl
    rw [h3] at h2
    omega
theorem xor_pow (n k : Nat) : n ^^^ 2 ^ k = if n / 2 ^ k % 2 = 1 then n - 2 ^ k else n + 2 ^ k := by
  have hp : 0 < 2 ^ k := Nat.two_pow_pos k
  have h1 : (n ^^^ 2 ^ k) % 2 ^ k = n % 2 ^ k := by rw [Nat.xor_mod_two_pow, Nat.mod_self, Nat.xor_zero]
  have h2 : (n ^^^ 2 ^ k) / 2 ^ k = n / 2 ^ k ^^^ 1 := by rw [Nat.xor_div_two_pow, Nat.div_self hp]
  have h3 := Nat.div_add_mod (n ^^^ 2 ^ k) (2 ^ k)
  have h4 := Nat.div_add_mod n (2 ^ k)
  rw [h1, h2, xor_one] at h3
  by_cases h : n / 2 ^ k % 2 = 1
  · rw [if_pos h] at h3 ⊢
    rw [Nat.mul_sub, Nat.mul_one] at h3
    have h6 : 1 ≤ n / 2 ^ k := by generalize n / 2 ^ k = q at h; omega
    have h5 : 2 ^ k * 1 ≤ 2 ^ k * (n / 2 ^ k) := Nat.mul_le_mul_left _ h6
    omega
  · rw [if_neg h] at h3 ⊢
    rw [Nat.mul_add, Nat.mul_one] at h3
    omega
/-- A word with one bit turned is another word. -/
theorem turned_ne (n K : Int) (k1 : 0 ≤ K) (k2 : K < 64) (h1 : 0 ≤ n) (h2 : n ≤ 18446744073709551615) :
    ¬ bits .xor .u64 n (IntKind.u64.wrap (2 ^ K.toNat)) = n ∧ 0 ≤ bits .xor .u64 n (IntKind.u64.wrap (2 ^ K.toNat)) ∧ bits .xor .u64 n (IntKind.u64.wrap (2 ^ K.toNat)) ≤ 18446744073709551615 := by
  obtain ⟨m, rfl⟩ := Int.eq_ofNat_of_zero_le h1
  have hk : K.toNat ≤ 63 := by omega
  generalize K.toNat = k at hk
  have hl : 2 ^ k ≤ 2 ^ 63 := Nat.pow_le_pow_right (by decide) hk
  have hp : 0 < 2 ^ k := Nat.two_pow_pos k
  have hc : (2 : Int) ^ k = ((2 ^ k : Nat) : Int) := by simp
  rw [hc, wraps_u64 _ (by omega) (by omega), u64_xor_nat _ _ (by omega) (by omega)]
  have hx : m ^^^ 2 ^ k < 2 ^ 64 := Nat.xor_lt_two_pow (by omega) (by omega)
  refine ⟨fun h => ?_, by omega, by omega⟩
  have h3 : m ^^^ 2 ^ k = m := by exact_mod_cast h
  rw [xor_pow] at h3
  split at h3
  · rename_i h4
    have : 2 ^ k ≤ m := by
      apply Classical.byContradiction
      intro hn
      rw [Nat.div_eq_of_lt (by omega)] at h4
      omega
    omega
  · omega
theorem xor_done (X : Int) (h1 : 0 ≤ X) (h2 : X ≤ 18446462598732840960) (h3 : X / 281474976710656 % 2 = 0) : bits .xor .u64 X (X + 281474976710656) = 281474976710656 ∧ bits .xor .u64 (X + 281474976710656) X = 281474976710656 := by
  obtain ⟨m, rfl⟩ := Int.eq_ofNat_of_zero_le h1
  have e := xor_pow m 48
  rw [if_neg (by simp only [Nat.reducePow]; omega)] at e
  have hc : (m : Int) + 281474976710656 = ((m + 2 ^ 48 : Nat) : Int) := by simp
  have e2 : m ^^^ (m + 2 ^ 48) = 2 ^ 48 := by rw [← e, ← Nat.xor_assoc, Nat.xor_self, Nat.zero_xor]
  rw [hc, u64_xor_nat _ _ (by omega) (by omega), u64_xor_nat _ _ (by omega) (by omega), Nat.xor_comm (m + 2 ^ 48) m, e2]
  exact ⟨rfl, rfl⟩

/-- What a head's two words are made of. -/
theorem words_parts {s n t c e : Int} (d : Bool) (h : rightB s n t c e = true) :
    firstV s n t d % 4294967296 = s ∧ firstV s n t d / 4294967296 % 256 = n ∧ firstV s n t d / 1099511627776 % 256 = t ∧ firstV s n t d / 281474976710656 % 256 = bit d ∧ firstV s n t d / 72057594037927936 = 165 ∧ secondV c e % 256 = c ∧ secondV c e / 256 = e ∧
    0 ≤ firstV s n t d ∧ firstV s n t d ≤ 18446744073709551615 ∧ 0 ≤ secondV c e ∧ secondV c e ≤ 18446744073709551615 := by
  obtain ⟨b1, b2, b3, b4, b5, b6, b7, b8, b9, b10⟩ := rbounds h
  have ⟨d1, d2⟩ := bit_le d
  unfold firstV secondV
  refine ⟨?_, ?_, ?_, ?_, ?_, ?_, ?_, ?_, ?_, ?_, ?_⟩ <;> omega
theorem un_back {s n t c e : Int} (d : Bool) (h : rightB s n t c e = true) : unV (firstV s n t d) (secondV c e) = ⟨s, n, t, d, c, e, 0⟩ := by
  obtain ⟨e1, e2, e3, e4, e5, e6, e7, _⟩ := words_parts d h
  have hb : unB (firstV s n t d) (secondV c e) = true := by
    unfold unB
    rw [e1, e2, e3, e4, e5, e6, e7, h, Bool.and_true]
    exact decide_eq_true ⟨rfl, (bit_le d).2⟩
  unfold unV
  rw [if_pos hb, e1, e2, e3, e4, e6, e7, bit_one]
/-- Words that tell something are those of what they tell. -/
theorem un_all (f g : Int) (f1 : 0 ≤ f) (f2 : f ≤ 18446744073709551615) (g1 : 0 ≤ g) (g2 : g ≤ 18446744073709551615) :
    ∃ s n t d c e k a b m, unV f g = ⟨s, n, t, d, c, e, k⟩ ∧ packV s n t d c e = ⟨a, b, m⟩ ∧ (k = 0 ∧ m = 0 ∧ a = f ∧ b = g ∨ k = 18) := by
  rcases refun_parts f g f1 f2 g1 g2 with ⟨h1, h2⟩ | ⟨h1, _⟩ | ⟨h1, _⟩ | ⟨h1, _⟩
  · exact ⟨_, _, _, _, _, _, _, _, _, _, h1, h2, .inl ⟨rfl, rfl, rfl, rfl⟩⟩
  all_goals exact ⟨_, _, _, _, _, _, _, _, _, _, h1, rfl, .inr rfl⟩
/-- Two heads, compared as a whole. -/
def sameB (s n t : Int) (d : Bool) (c e s' n' t' : Int) (d' : Bool) (c' e' : Int) : Bool := decide (s = s' ∧ n = n' ∧ t = t' ∧ d = d' ∧ c = c' ∧ e = e')
theorem beq_dec {α : Type} [DecidableEq α] [BEq α] [LawfulBEq α] (a b : α) : (a == b) = decide (a = b) := by
  rw [Bool.eq_iff_iff]; simp
theorem run_same (s n t : Int) (d : Bool) (c e s' n' t' : Int) (d' : Bool) (c' e' : Int) (W : World) :
    (Op.equalIn 10000 30 (.agg #[.int .i64 s, .int .i64 n, .int .i64 t, .bool d, .int .i64 c, .int .i64 e]) (.agg #[.int .i64 s', .int .i64 n', .int .i64 t', .bool d', .int .i64 c', .int .i64 e'])).run Try.prog W = .ok (sameB s n t d c e s' n' t' d' c' e') W := by
  unfold sameB
  by_cases h1 : s = s'
  · by_cases h2 : n = n'
    · by_cases h3 : t = t'
      · by_cases h4 : d = d'
        · by_cases h5 : c = c'
          · by_cases h6 : e = e'
            · subst h1 h2 h3 h4 h5 h6
              simp [go_sem]
            · subst h1 h2 h3 h4 h5
              simp [go_sem, h6]
          · subst h1 h2 h3 h4
            simp [go_sem, h5]
        · subst h1 h2 h3
          simp [go_sem, h4]
      · subst h1 h2
        simp [go_sem, h3]
    · subst h1
      simp [go_sem, h2]
  · simp [go_sem, h1]
end Go.Proofs.Ytgihoicppeegaaa.Heads
