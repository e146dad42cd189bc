/-
  Contracts of the document's own answers for plan, of its Fit, and of the examples at the head of all laws of layer 5.
-/
import Derived.Test.YtgkcaijgonadgaaPlanC
import Derived.Test.YtgkcaijgonadgaaSt
namespace Go.Proofs.Ytgkcaijgonadgaa.Plan
open Go.ChangeShapes Go.WideShapes Go.ChangeAt Go.RowKit
open Held
set_option linter.unusedVariables false

theorem retE {a b c d : Int} (h : a = b) (h' : c = d) : Ending.returned (.agg #[.int .i64 a, .int .i64 c]) = .returned (.agg #[.int .i64 b, .int .i64 d]) := by rw [h, h']

theorem refat_any (p c : Int) (w : World) (p1 : 0 ≤ p) (p2 : p ≤ 4) (c1 : 0 ≤ c) (c2 : c ≤ 7) :
    Calls Try.prog 14 #[.int .i64 p, .int .i64 c] w fun z w' => z = .returned (.int .i64 (64 * c + 8 * p)) ∧ Below w.heap.size w w' := by
  go_enter Try.func14, Try.ntmps14
  go_wp2
  go_ret
  exact ⟨rfl, Below.refl _ _⟩
theorem refsize_any (s t i h : Int) (w : World) (hr : rightB s t i h = true) :
    Calls Try.prog 15 #[.agg #[.int .i64 s, .int .i64 t, .int .i64 i, .int .i64 h]] w fun z w' => z = .returned (.int .i64 (64 * s + i + h)) ∧ Below w.heap.size w w' := by
  obtain ⟨b1, b2, b3, b4, b5, b6, b7, b8, b9, b10⟩ := rbounds hr
  go_enter Try.func15, Try.ntmps15
  go_wp2
  go_ret
  exact ⟨rfl, (Below.refl _ _).alloc (Nat.le_refl _) _⟩
theorem refimm_any (s t i h : Int) (w : World) (hr : rightB s t i h = true) :
    Calls Try.prog 16 #[.agg #[.int .i64 s, .int .i64 t, .int .i64 i, .int .i64 h]] w fun z w' => z = .returned (.agg #[.int .i64 (64 * s), .int .i64 i]) ∧ Below w.heap.size w w' := by
  obtain ⟨b1, b2, b3, b4, b5, b6, b7, b8, b9, b10⟩ := rbounds hr
  go_enter Try.func16, Try.ntmps16
  go_wp2
  refine bodyPost_ret (v := .agg #[.int .i64 (64 * s), .int .i64 i]) (by simp [results, Try.results16, go_sem]) rfl ⟨rfl, ?_⟩
  exact ((Below.refl _ _).alloc (Nat.le_refl _) _).alloc (by simp) _
theorem refheap_any (s t i h : Int) (w : World) (hr : rightB s t i h = true) :
    Calls Try.prog 17 #[.agg #[.int .i64 s, .int .i64 t, .int .i64 i, .int .i64 h]] w fun z w' => z = .returned (.agg #[.int .i64 (64 * s + i), .int .i64 h]) ∧ Below w.heap.size w w' := by
  obtain ⟨b1, b2, b3, b4, b5, b6, b7, b8, b9, b10⟩ := rbounds hr
  go_enter Try.func17, Try.ntmps17
  go_wp2
  refine bodyPost_ret (v := .agg #[.int .i64 (64 * s + i), .int .i64 h]) (by simp [results, Try.results17, go_sem]) rfl ⟨rfl, ?_⟩
  exact ((Below.refl _ _).alloc (Nat.le_refl _) _).alloc (by simp) _

theorem mask_i64 (k : Nat) (hk : k ≤ 62) (x : Int) : bits .and .i64 x (2 ^ k - 1) = x % 2 ^ k := by
  have hpos : 0 < 2 ^ k := Nat.two_pow_pos k
  have hle : 2 ^ k ≤ 2 ^ 62 := Nat.pow_le_pow_right (by decide) hk
  have hc : ((2 : Int) ^ k - 1) = ((2 ^ k - 1 : Nat) : Int) := by rw [Int.natCast_sub hpos]; simp
  rw [hc]
  show IntKind.i64.wrap ((BitVec.ofInt 64 x &&& BitVec.ofInt 64 ((2 ^ k - 1 : Nat) : Int)).toNat : Int) = _
  have e : (BitVec.ofInt 64 ((2 ^ k - 1 : Nat) : Int)).toNat = 2 ^ k - 1 := by
    rw [BitVec.ofInt_natCast, BitVec.toNat_ofNat, Nat.mod_eq_of_lt (by omega)]
  rw [BitVec.toNat_and, e, Nat.and_two_pow_sub_one_eq_mod, BitVec.toNat_ofInt]
  have h1 : (((x % ((2 ^ 64 : Nat) : Int)).toNat % 2 ^ k : Nat) : Int) = x % 2 ^ k := by
    rw [Int.natCast_emod, Int.toNat_of_nonneg (Int.emod_nonneg _ (by decide))]
    have hd : ((2 ^ k : Nat) : Int) ∣ ((2 ^ 64 : Nat) : Int) := Int.natCast_dvd_natCast.2 (Nat.pow_dvd_pow 2 (by omega))
    rw [Int.emod_emod_of_dvd _ hd, Int.natCast_pow]
    rfl
  rw [h1, IntKind.wrap_i64]
  have h2 : (2 : Int) ^ k ≤ 2 ^ 62 := by exact_mod_cast hle
  have h3 : (0 : Int) < 2 ^ k := by exact_mod_cast hpos
  have h4 := Int.emod_nonneg x (show (2 : Int) ^ k ≠ 0 by omega)
  have h5 := Int.emod_lt_of_pos x h3
  omega

/-- What Fit makes may be. -/
theorem fit_any (a0 a1 a2 a3 : Int) (w : World) :
    Calls Try.prog 18 #[.agg #[.int .i64 a0, .int .i64 a1, .int .i64 a2, .int .i64 a3]] w fun z w' => z = .returned (.agg #[.int .i64 (1 + a0 % 8), .int .i64 (1 + a1 % 4), .int .i64 (8 * (a2 % 64)), .int .i64 (8 * (a3 % 128))]) ∧ Below w.heap.size w w' := by
  have m1 := mask_i64 3 (by decide) a0
  have m2 := mask_i64 2 (by decide) a1
  have m3 := mask_i64 6 (by decide) a2
  have m4 := mask_i64 7 (by decide) a3
  simp only [Int.reducePow, Int.reduceSub] at m1 m2 m3 m4
  go_enter Try.func18, Try.ntmps18
  go_wp2
  refine bodyPost_ret (v := .agg #[.int .i64 (1 + a0 % 8), .int .i64 (1 + a1 % 4), .int .i64 (8 * (a2 % 64)), .int .i64 (8 * (a3 % 128))]) (by simp [results, Try.results18, go_sem]) rfl ⟨rfl, ?_⟩
  exact ((Below.refl _ _).alloc (Nat.le_refl _) _).alloc (by simp) _
theorem fit_all (a0 a1 a2 a3 : Int) : ∃ s t i h : Int, (1 ≤ s ∧ s ≤ 8 ∧ 1 ≤ t ∧ t ≤ 4 ∧ 0 ≤ i ∧ i ≤ 504 ∧ i % 8 = 0 ∧ 0 ≤ h ∧ h ≤ 1016 ∧ h % 8 = 0) ∧
    ∀ w, Calls Try.prog 18 #[.agg #[.int .i64 a0, .int .i64 a1, .int .i64 a2, .int .i64 a3]] w fun z w' => z = .returned (.agg #[.int .i64 s, .int .i64 t, .int .i64 i, .int .i64 h]) ∧ Below w.heap.size w w' :=
  ⟨_, _, _, _, by omega, fit_any a0 a1 a2 a3⟩

set_option maxHeartbeats 1000000 in
theorem shown_any (w : World) : Calls Try.prog 7 #[] w fun e w' => e = .returned (.bool true) ∧ Below w.heap.size w w' := by
  have H1 : Hid (sizeV 2 1 16 64 = ⟨208, 0⟩) := Lib.hid (by unfold sizeV; rw [if_pos (by decide)]; rfl)
  have H2 : Hid (atV 2 1 16 64 3 1 = ⟨88, 0⟩) := Lib.hid (by unfold atV; rw [if_pos ⟨by decide, by decide⟩, if_pos (by decide)]; rfl)
  have H3 : Hid (heapV 2 1 16 64 = ⟨144, 64, 0⟩) := Lib.hid (by unfold heapV; rw [if_pos (by decide)]; rfl)
  go_enter Try.func7, Try.ntmps7
  go_wp2_with fail
  have S0 := (St.start w).new [.int .i64 2, .int .i64 1, .int .i64 16, .int .i64 64] 23
  refine (lift S0 (size_any _ _ _ _ _)).mono ?_
  rintro z w1 ⟨rfl, S1⟩
  rw [H1.out]
  obtain ⟨q, q0, q1, q2, q3⟩ := S1.get4 0 rfl
  go_wp2_with fail
  refine (lift S1 (at_any _ _ _ _ _ _ _)).mono ?_
  rintro z w2 ⟨rfl, S2⟩
  rw [H2.out]
  clear q q0 q1 q2 q3
  obtain ⟨q, q0, q1, q2, q3⟩ := S2.get4 0 rfl
  go_wp2_with fail
  refine (lift S2 (heap_any _ _ _ _ _)).mono ?_
  rintro z w3 ⟨rfl, S3⟩
  rw [H3.out]
  go_wp2
  go_ret
  exact ⟨rfl, (S3.alloc _).below⟩
end Go.Proofs.Ytgkcaijgonadgaa.Plan
