/-
  Contracts of the document's own answers for head, of its Fit, and of the example at the head of all laws of layer 7.
-/
import Derived.Test.YtgihoicppeegaaaHeadsD
namespace Go.Proofs.Ytgihoicppeegaaa.Heads
open Go.ChangeShapes Go.WideShapes Go.ChangeAt Go.RowKit
open Held
set_option linter.unusedVariables false

theorem firstV_false (s n t : Int) : firstV s n t false = s + n * 4294967296 + t * 1099511627776 + 11889503016258109440 := by unfold firstV bit; simp
theorem firstV_true (s n t : Int) : firstV s n t true = s + n * 4294967296 + t * 1099511627776 + 281474976710656 + 11889503016258109440 := by unfold firstV bit; simp

set_option maxHeartbeats 2000000 in
theorem refpack_any (s n t : Int) (d : Bool) (c e : Int) (w : World) :
    Calls Try.prog 21 #[.agg #[.int .i64 s, .int .i64 n, .int .i64 t, .bool d, .int .i64 c, .int .i64 e]] w fun z w' => z = .returned (.tuple #[.int .u64 (packV s n t d c e).a, .int .u64 (packV s n t d c e).b, .int .i64 (packV s n t d c e).err]) ∧ Below w.heap.size w w' := by
  by_cases hr : rightB s n t c e = true
  · have HP : Hid (packV s n t d c e = ⟨_, _, _⟩) := Lib.hid (pack_yes d hr)
    have HR := Lib.hid hr
    obtain ⟨b1, b2, b3, b4, b5, b6, b7, b8, b9, b10⟩ := rbounds hr
    clear hr
    cases d
    all_goals
      go_enter Try.func21, Try.ntmps21
      go_wp2_with fail
      first
        | refine (lift ((St.start w).new [.int .i64 s, .int .i64 n, .int .i64 t, .bool false, .int .i64 c, .int .i64 e] 30) (refright_any _ _ _ _ _ _ _)).mono ?_
        | refine (lift ((St.start w).new [.int .i64 s, .int .i64 n, .int .i64 t, .bool true, .int .i64 c, .int .i64 e] 30) (refright_any _ _ _ _ _ _ _)).mono ?_
      rintro z w1 ⟨rfl, S1⟩
      rw [HR.out]
      obtain ⟨ql, q0, q1, q2, q3, q4, q5⟩ := S1.get6 0 rfl
      go_wp2
      go_quiet (fail)
      go_wp2
      go_ret3
      exact ⟨retP (HP.out.trans (by first | (rw [firstV_false]; rfl) | (rw [firstV_true]; rfl))), below_drewN S1.below _⟩
  · have hr' : rightB s n t c e = false := by simpa using hr
    have HP := Lib.hid (pack_no d hr')
    have HR := Lib.hid hr'
    clear hr hr'
    go_enter Try.func21, Try.ntmps21
    have S0 := (St.start w).new [.int .i64 s, .int .i64 n, .int .i64 t, .bool d, .int .i64 c, .int .i64 e] 30
    go_wp2_with fail
    refine (lift S0 (refright_any _ _ _ _ _ _ _)).mono ?_
    rintro z w1 ⟨rfl, S1⟩
    rw [HR.out]
    clear S0
    go_wp2
    go_ret3
    exact ⟨retP HP.out, S1.below⟩

/-- What two words tell, packed again: the same words, another first one, another second one, or none. -/
theorem refun_parts (f g : Int) (f1 : 0 ≤ f) (f2 : f ≤ 18446744073709551615) (g1 : 0 ≤ g) (g2 : g ≤ 18446744073709551615) :
    (unV f g = ⟨f % 4294967296, f / 4294967296 % 256, f / 1099511627776 % 256, f / 281474976710656 % 256 == 1, g % 256, g / 256 % 16777216, 0⟩ ∧ packV (f % 4294967296) (f / 4294967296 % 256) (f / 1099511627776 % 256) (f / 281474976710656 % 256 == 1) (g % 256) (g / 256 % 16777216) = ⟨f, g, 0⟩) ∨
    (unV f g = ⟨0, 0, 0, false, 0, 0, 18⟩ ∧ packV (f % 4294967296) (f / 4294967296 % 256) (f / 1099511627776 % 256) (f / 281474976710656 % 256 == 1) (g % 256) (g / 256 % 16777216) = ⟨0, 0, 1⟩) ∨
    (unV f g = ⟨0, 0, 0, false, 0, 0, 18⟩ ∧ ∃ a b, (a != f) = true ∧ packV (f % 4294967296) (f / 4294967296 % 256) (f / 1099511627776 % 256) (f / 281474976710656 % 256 == 1) (g % 256) (g / 256 % 16777216) = ⟨a, b, 0⟩) ∨
    (unV f g = ⟨0, 0, 0, false, 0, 0, 18⟩ ∧ ∃ b, (b != g) = true ∧ packV (f % 4294967296) (f / 4294967296 % 256) (f / 1099511627776 % 256) (f / 281474976710656 % 256 == 1) (g % 256) (g / 256 % 16777216) = ⟨f, b, 0⟩) := by
  have hd : f / 281474976710656 % 256 ≤ 1 → bit (f / 281474976710656 % 256 == 1) = f / 281474976710656 % 256 := by
    intro h
    by_cases k : f / 281474976710656 % 256 = 1
    · rw [k]; rfl
    · have : f / 281474976710656 % 256 = 0 := by omega
      rw [this]; rfl
  have hb := bit_le (f / 281474976710656 % 256 == 1)
  by_cases hu : unB f g = true
  · have hu' := hu
    unfold unB at hu'
    rw [Bool.and_eq_true] at hu'
    obtain ⟨k1, k2⟩ := hu'
    obtain ⟨k1, k3⟩ := of_decide_eq_true k1
    obtain ⟨b1, b2, b3, b4, b5, b6, b7, b8, b9, b10⟩ := rbounds k2
    have e5 : g / 256 % 16777216 = g / 256 := by omega
    rw [e5]
    refine .inl ⟨if_pos hu, ?_⟩
    rw [pack_yes _ k2]
    unfold firstV secondV
    rw [hd k3]
    congr 1 <;> omega
  · have hv := un_no hu
    by_cases hr : rightB (f % 4294967296) (f / 4294967296 % 256) (f / 1099511627776 % 256) (g % 256) (g / 256 % 16777216) = true
    · have hp := pack_yes (f / 281474976710656 % 256 == 1) hr
      by_cases ha : firstV (f % 4294967296) (f / 4294967296 % 256) (f / 1099511627776 % 256) (f / 281474976710656 % 256 == 1) = f
      · rw [ha] at hp
        refine .inr (.inr (.inr ⟨hv, _, ?_, hp⟩))
        rw [bne_iff_ne]
        intro hg
        refine hu ?_
        unfold unB
        unfold firstV at ha
        unfold secondV at hg
        have e5 : g / 256 % 16777216 = g / 256 := by omega
        rw [e5] at hr
        rw [hr, Bool.and_true]
        obtain ⟨b1, b2, b3, b4, b5, b6, b7, b8, b9, b10⟩ := rbounds hr
        exact decide_eq_true (by omega)
      · exact .inr (.inr (.inl ⟨hv, _, _, by simpa using ha, hp⟩))
    · exact .inr (.inl ⟨hv, pack_no _ (by simpa using hr)⟩)

set_option maxRecDepth 100000 in
set_option maxHeartbeats 4000000 in
theorem refunpack_any (f g : Int) (w : World) (f1 : 0 ≤ f) (f2 : f ≤ 18446744073709551615) (g1 : 0 ≤ g) (g2 : g ≤ 18446744073709551615) :
    Calls Try.prog 30 #[.int .u64 f, .int .u64 g] w fun z w' => z = .returned (.tuple #[.agg #[.int .i64 (unV f g).s, .int .i64 (unV f g).n, .int .i64 (unV f g).t, .bool (unV f g).d, .int .i64 (unV f g).c, .int .i64 (unV f g).e], .int .i64 (unV f g).err]) ∧ Below w.heap.size w w' := by
  have hp := refun_parts f g f1 f2 g1 g2
  generalize unV f g = R at hp ⊢
  have HPS := Lib.hid hp
  clear hp
  go_enter Try.func30, Try.ntmps30
  have S0 := ((St.start w).new [.int .i64 0, .int .i64 0, .int .i64 0, .bool false, .int .i64 0, .int .i64 0] 30).new [.int .i64 (f % 4294967296), .int .i64 (f / 4294967296 % 256), .int .i64 (f / 1099511627776 % 256), .bool (f / 281474976710656 % 256 == 1), .int .i64 (g % 256), .int .i64 (g / 256 % 16777216)] 30
  simp only [World.size_alloc] at S0
  go_wp2_with fail
  refine (lift S0 (refpack_any _ _ _ _ _ _ _)).mono ?_
  rintro z w1 ⟨rfl, S1⟩
  clear S0
  have hp := HPS.out
  clear HPS
  generalize (f / 281474976710656 % 256 == 1) = d at *
  generalize f / 1099511627776 % 256 = t at *
  generalize f / 4294967296 % 256 = n at *
  generalize f % 4294967296 = s at *
  generalize g % 256 = c at *
  generalize g / 256 % 16777216 = e at *
  obtain ⟨ql, q0, q1, q2, q3, q4, q5⟩ := S1.get6 0 rfl
  obtain ⟨pl, p0, p1, p2, p3, p4, p5⟩ := S1.get6 1 rfl
  have pf := (S1.get 1 rfl).fz
  rcases hp with ⟨rfl, hp⟩ | ⟨rfl, hp⟩ | ⟨rfl, a, b, ha, hp⟩ | ⟨rfl, b, hb, hp⟩
  · rw [hp]
    clear hp
    go_wp2
    refine bodyPost_ret (v := .tuple #[.agg #[.int .i64 s, .int .i64 n, .int .i64 t, .bool d, .int .i64 c, .int .i64 e], .int .i64 0]) (by simp [results, Try.results30, go_sem, p0, p1, p2, p3, p4, p5]) rfl ⟨rfl, ?_⟩
    exact (((((S1.below.setCell (by simp) _).setCell (by simp) _).setCell (by simp) _).setCell (by simp) _).setCell (by simp) _).setCell (by simp) _
  all_goals
    rw [hp]
    clear hp
    go_wp2
    refine bodyPost_ret (v := .tuple #[.agg #[.int .i64 0, .int .i64 0, .int .i64 0, .bool false, .int .i64 0, .int .i64 0], .int .i64 18]) (by simp [results, Try.results30, go_sem, p0, p1, p2, p3, p4, p5]) rfl ⟨rfl, ?_⟩
    exact (((((S1.below.setCell (by simp) _).setCell (by simp) _).setCell (by simp) _).setCell (by simp) _).setCell (by simp) _).setCell (by simp) _

theorem mask_i64 (k : Nat) (hk : k ≤ 62) (x : Int) : bits .and .i64 x (2 ^ k - 1) = x % 2 ^ k := by
  have hpos : 0 < 2 ^ k := Nat.two_pow_pos k
  have hle : 2 ^ k ≤ 2 ^ 62 := Nat.pow_le_pow_right (by decide) hk
  have hc : ((2 : Int) ^ k - 1) = ((2 ^ k - 1 : Nat) : Int) := by rw [Int.natCast_sub hpos]; simp
  rw [hc]
  show IntKind.i64.wrap ((BitVec.ofInt 64 x &&& BitVec.ofInt 64 ((2 ^ k - 1 : Nat) : Int)).toNat : Int) = _
  have e : (BitVec.ofInt 64 ((2 ^ k - 1 : Nat) : Int)).toNat = 2 ^ k - 1 := by
    rw [BitVec.ofInt_natCast, BitVec.toNat_ofNat, Nat.mod_eq_of_lt (by omega)]
  rw [BitVec.toNat_and, e, Nat.and_two_pow_sub_one_eq_mod, BitVec.toNat_ofInt]
  have h1 : (((x % ((2 ^ 64 : Nat) : Int)).toNat % 2 ^ k : Nat) : Int) = x % 2 ^ k := by
    rw [Int.natCast_emod, Int.toNat_of_nonneg (Int.emod_nonneg _ (by decide))]
    have hd : ((2 ^ k : Nat) : Int) ∣ ((2 ^ 64 : Nat) : Int) := Int.natCast_dvd_natCast.2 (Nat.pow_dvd_pow 2 (by omega))
    rw [Int.emod_emod_of_dvd _ hd, Int.natCast_pow]
    rfl
  rw [h1, IntKind.wrap_i64]
  have h2 : (2 : Int) ^ k ≤ 2 ^ 62 := by exact_mod_cast hle
  have h3 : (0 : Int) < 2 ^ k := by exact_mod_cast hpos
  have h4 := Int.emod_nonneg x (show (2 : Int) ^ k ≠ 0 by omega)
  have h5 := Int.emod_lt_of_pos x h3
  omega

set_option maxHeartbeats 1000000 in
/-- What Fit makes may be. -/
theorem fit_any (s n t : Int) (d : Bool) (c e : Int) (w : World) :
    Calls Try.prog 20 #[.agg #[.int .i64 s, .int .i64 n, .int .i64 t, .bool d, .int .i64 c, .int .i64 e]] w fun z w' => z = .returned (.agg #[.int .i64 (2 + n % 8 % 7 + s % 64), .int .i64 (n % 8 % 7), .int .i64 (t % 8), .bool d, .int .i64 (c % 8), .int .i64 (e % 16777216)]) ∧ Below w.heap.size w w' := by
  have m1 := mask_i64 3 (by decide) n
  have m2 := mask_i64 6 (by decide) s
  have m3 := mask_i64 3 (by decide) t
  have m4 := mask_i64 3 (by decide) c
  have m5 := mask_i64 24 (by decide) e
  simp only [Int.reducePow, Int.reduceSub] at m1 m2 m3 m4 m5
  go_enter Try.func20, Try.ntmps20
  go_wp2
  refine bodyPost_ret (v := .agg #[.int .i64 (2 + n % 8 % 7 + s % 64), .int .i64 (n % 8 % 7), .int .i64 (t % 8), .bool d, .int .i64 (c % 8), .int .i64 (e % 16777216)]) (by simp [results, Try.results20, go_sem]) rfl ⟨rfl, ?_⟩
  exact ((Below.refl _ _).alloc (Nat.le_refl _) _).alloc (by simp) _
theorem fit_all (a0 a1 a2 : Int) (d : Bool) (a4 a5 : Int) : ∃ s n t c e : Int, rightB s n t c e = true ∧
    ∀ w, Calls Try.prog 20 #[.agg #[.int .i64 a0, .int .i64 a1, .int .i64 a2, .bool d, .int .i64 a4, .int .i64 a5]] w fun z w' => z = .returned (.agg #[.int .i64 s, .int .i64 n, .int .i64 t, .bool d, .int .i64 c, .int .i64 e]) ∧ Below w.heap.size w w' :=
  ⟨_, _, _, _, _, decide_eq_true (by omega), fit_any a0 a1 a2 d a4 a5⟩

end Go.Proofs.Ytgihoicppeegaaa.Heads
