/-
  Contracts of the document's own answers for plan, of its Fit, and of the examples at the head of all laws of layer 5.
-/
import Derived.Test.YtkkmhapfhnnooaaPlanC
import Derived.Test.YtkkmhapfhnnooaaSt
namespace Go.Proofs.Ytkkmhapfhnnooaa.Plan
open Go.ChangeShapes Go.WideShapes Go.ChangeAt Go.RowKit
open Held
set_option linter.unusedVariables false

theorem retE {a b c d : Int} (h : a = b) (h' : c = d) : Ending.returned (.agg #[.int .i64 a, .int .i64 c]) = .returned (.agg #[.int .i64 b, .int .i64 d]) := by rw [h, h']

theorem refimm_any (s t i h : Int) (w : World) (hr : rightB s t i h = true) :
    Calls Try.prog 36 #[.agg #[.int .i64 s, .int .i64 t, .int .i64 i, .int .i64 h]] w fun z w' => z = .returned (.agg #[.int .i64 (64 * s), .int .i64 i]) ∧ Below w.heap.size w w' := by
  obtain ⟨b1, b2, b3, b4, b5, b6, b7, b8, b9, b10⟩ := rbounds hr
  go_enter Try.func36, Try.ntmps36
  go_wp2
  refine bodyPost_ret (v := .agg #[.int .i64 (64 * s), .int .i64 i]) (by simp [results, Try.results36, go_sem]) rfl ⟨rfl, ?_⟩
  exact ((Below.refl _ _).alloc (Nat.le_refl _) _).alloc (by simp) _
theorem refheap_any (s t i h : Int) (w : World) (hr : rightB s t i h = true) :
    Calls Try.prog 33 #[.agg #[.int .i64 s, .int .i64 t, .int .i64 i, .int .i64 h]] w fun z w' => z = .returned (.agg #[.int .i64 (64 * s + i), .int .i64 h]) ∧ Below w.heap.size w w' := by
  obtain ⟨b1, b2, b3, b4, b5, b6, b7, b8, b9, b10⟩ := rbounds hr
  go_enter Try.func33, Try.ntmps33
  go_wp2
  refine bodyPost_ret (v := .agg #[.int .i64 (64 * s + i), .int .i64 h]) (by simp [results, Try.results33, go_sem]) rfl ⟨rfl, ?_⟩
  exact ((Below.refl _ _).alloc (Nat.le_refl _) _).alloc (by simp) _

theorem mask_i64 (k : Nat) (hk : k ≤ 62) (x : Int) : bits .and .i64 x (2 ^ k - 1) = x % 2 ^ k := by
  have hpos : 0 < 2 ^ k := Nat.two_pow_pos k
  have hle : 2 ^ k ≤ 2 ^ 62 := Nat.pow_le_pow_right (by decide) hk
  have hc : ((2 : Int) ^ k - 1) = ((2 ^ k - 1 : Nat) : Int) := by rw [Int.natCast_sub hpos]; simp
  rw [hc]
  show IntKind.i64.wrap ((BitVec.ofInt 64 x &&& BitVec.ofInt 64 ((2 ^ k - 1 : Nat) : Int)).toNat : Int) = _
  have e : (BitVec.ofInt 64 ((2 ^ k - 1 : Nat) : Int)).toNat = 2 ^ k - 1 := by
    rw [BitVec.ofInt_natCast, BitVec.toNat_ofNat, Nat.mod_eq_of_lt (by omega)]
  rw [BitVec.toNat_and, e, Nat.and_two_pow_sub_one_eq_mod, BitVec.toNat_ofInt]
  have h1 : (((x % ((2 ^ 64 : Nat) : Int)).toNat % 2 ^ k : Nat) : Int) = x % 2 ^ k := by
    rw [Int.natCast_emod, Int.toNat_of_nonneg (Int.emod_nonneg _ (by decide))]
    have hd : ((2 ^ k : Nat) : Int) ∣ ((2 ^ 64 : Nat) : Int) := Int.natCast_dvd_natCast.2 (Nat.pow_dvd_pow 2 (by omega))
    rw [Int.emod_emod_of_dvd _ hd, Int.natCast_pow]
    rfl
  rw [h1, IntKind.wrap_i64]
  have h2 : (2 : Int) ^ k ≤ 2 ^ 62 := by exact_mod_cast hle
  have h3 : (0 : Int) < 2 ^ k := by exact_mod_cast hpos
  have h4 := Int.emod_nonneg x (show (2 : Int) ^ k ≠ 0 by omega)
  have h5 := Int.emod_lt_of_pos x h3
  omega

/-- What Fit makes may be. -/
theorem fit_any (a0 a1 a2 a3 : Int) (w : World) :
    Calls Try.prog 11 #[.agg #[.int .i64 a0, .int .i64 a1, .int .i64 a2, .int .i64 a3]] w fun z w' => z = .returned (.agg #[.int .i64 (1 + a0 % 8), .int .i64 (1 + a1 % 4), .int .i64 (8 * (a2 % 64)), .int .i64 (8 * (a3 % 128))]) ∧ Below w.heap.size w w' := by
  have m1 := mask_i64 3 (by decide) a0
  have m2 := mask_i64 2 (by decide) a1
  have m3 := mask_i64 6 (by decide) a2
  have m4 := mask_i64 7 (by decide) a3
  simp only [Int.reducePow, Int.reduceSub] at m1 m2 m3 m4
  go_enter Try.func11, Try.ntmps11
  go_wp2
  refine bodyPost_ret (v := .agg #[.int .i64 (1 + a0 % 8), .int .i64 (1 + a1 % 4), .int .i64 (8 * (a2 % 64)), .int .i64 (8 * (a3 % 128))]) (by simp [results, Try.results11, go_sem]) rfl ⟨rfl, ?_⟩
  exact ((Below.refl _ _).alloc (Nat.le_refl _) _).alloc (by simp) _
theorem fit_all (a0 a1 a2 a3 : Int) : ∃ s t i h : Int, (1 ≤ s ∧ s ≤ 8 ∧ 1 ≤ t ∧ t ≤ 4 ∧ 0 ≤ i ∧ i ≤ 504 ∧ i % 8 = 0 ∧ 0 ≤ h ∧ h ≤ 1016 ∧ h % 8 = 0) ∧
    ∀ w, Calls Try.prog 11 #[.agg #[.int .i64 a0, .int .i64 a1, .int .i64 a2, .int .i64 a3]] w fun z w' => z = .returned (.agg #[.int .i64 s, .int .i64 t, .int .i64 i, .int .i64 h]) ∧ Below w.heap.size w w' :=
  ⟨_, _, _, _, by omega, fit_any a0 a1 a2 a3⟩

end Go.Proofs.Ytkkmhapfhnnooaa.Plan
