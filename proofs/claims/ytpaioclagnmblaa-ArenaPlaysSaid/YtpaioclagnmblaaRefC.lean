/-
  The contract of the document's own Claim, for every argument: the values and the state that arena's Claim has.
-/
import Derived.Test.YtpaioclagnmblaaRefB
namespace Go.Proofs.Ytpaioclagnmblaa.Ref
open Go.ChangeShapes Go.WideShapes Go.ChangeAt Go.RowKit Mem Arena
set_option linter.unusedVariables false

/-- The ways through the second half of a claim. -/
theorem pair_ways (n : Nat) (base u : Int) : (pairB n base u = true ∧ u ≤ 65536 ∧ 0 ≤ base ∧ base ≤ 65536 ∧ okW n (base + u) = true ∧ okW n (base + u + 8) = true) ∨
    (pairB n base u = false ∧ (65536 < u ∨ (u ≤ 65536 ∧ base < 0) ∨ (u ≤ 65536 ∧ 0 ≤ base ∧ 65536 < base) ∨
      (u ≤ 65536 ∧ 0 ≤ base ∧ base ≤ 65536 ∧ okW n (base + u) = false) ∨ (u ≤ 65536 ∧ 0 ≤ base ∧ base ≤ 65536 ∧ okW n (base + u) = true ∧ okW n (base + u + 8) = false))) := by
  by_cases h1 : u ≤ 65536
  · by_cases h2 : 0 ≤ base
    · by_cases h3 : base ≤ 65536
      · cases k1 : okW n (base + u)
        · exact .inr ⟨by unfold pairB; rw [k1]; simp, .inr (.inr (.inr (.inl ⟨h1, h2, h3, rfl⟩)))⟩
        · cases k2 : okW n (base + u + 8)
          · exact .inr ⟨by unfold pairB; rw [k2]; simp, .inr (.inr (.inr (.inr ⟨h1, h2, h3, rfl, rfl⟩)))⟩
          · exact .inl ⟨by unfold pairB; rw [k1, k2]; simp [h1, h2, h3], h1, h2, h3, rfl, rfl⟩
      · exact .inr ⟨by unfold pairB; simp [h3], .inr (.inr (.inl ⟨h1, h2, by omega⟩))⟩
    · exact .inr ⟨by unfold pairB; simp [h2], .inr (.inl ⟨h1, by omega⟩)⟩
  · exact .inr ⟨by unfold pairB; simp [h1], .inl (by omega)⟩

set_option maxHeartbeats 2000000 in
theorem claim_any (w : World) (B g n : Nat) (f : Nat → Int) (a by_ most base one two : Int) (h : Rf w B g n f) (a1 : -9223372036854775808 ≤ a) (a2 : a ≤ 9223372036854775807)
    (y1 : 0 ≤ by_) (y2 : by_ ≤ 18446744073709551615) (m1 : 0 ≤ most) (m2 : most ≤ 18446744073709551615) (b1 : -9223372036854775808 ≤ base) (b2 : base ≤ 9223372036854775807)
    (o1 : 0 ≤ one) (o2 : one ≤ 18446744073709551615) (t1 : 0 ≤ two) (t2 : two ≤ 18446744073709551615) :
    Calls Try.prog 22 #[.pointer (some ⟨B, 0, none⟩), .int .i64 a, .int .u64 by_, .int .u64 most, .int .i64 base, .int .u64 one, .int .u64 two] w fun e w' =>
      e = .returned (.tuple #[.int .u64 (claimV n f a by_ most base), .bool (claimB n f a by_ most base), .int .i64 (claimE n f a by_ most base)]) ∧ Rf w' B g n (claimF n f a by_ most base one two) ∧ w.grownBy w' (some g) := by
  have hl := h.len
  by_cases hk : okW n a = true
  · obtain ⟨i, hi, rfl, hj⟩ := okW_idx hk
    have hwd : wd f (8 * (i : Int)) = f i := by unfold wd; rw [hj]
    have ⟨f1, f2⟩ := h.fit i
    by_cases hf : f i + by_ ≤ most
    · have hfb : fitsB f (8 * (i : Int)) by_ most = true := decide_eq_true (by rw [hwd]; exact hf)
      have hf' : by_ ≤ most - f i := by omega
      have hf'' : f i ≤ most := by omega
      rcases pair_ways n base (f i) with ⟨hp, p1, p2, p3, p4, p5⟩ | ⟨hp, hno⟩
      · have hB : claimB n f (8 * (i : Int)) by_ most base = true := by simp [claimB, hk, hfb, hwd, hp]
        have hT : claimT n f (8 * (i : Int)) by_ most base = true := by simp [claimT, hk, hwd, hp]
        obtain ⟨j, hj1, hj2, hj3⟩ := okW_idx p4
        obtain ⟨l, hl1, hl2, hl3⟩ := okW_idx p5
        have hlj : l = j + 1 := by omega
        subst hlj
        have HF := Lib.hid (show claimF n f (8 * (i : Int)) by_ most base one two = setF (setF (setF f i (f i + by_)) j one) (j + 1) two by unfold claimF; rw [if_pos hB, hwd, hj, hj3, hl3])
        have HB := Lib.hid hB
        have HT := Lib.hid hT
        have HW := Lib.hid hwd
        have HJ := Lib.hid hj2
        clear hB hT hwd hj hfb hj3 hl3 hl2 hj2
        go_enter Try.func22, Try.ntmps22
        go_wp2_with (first
          | (go_at_call 14; refine (word_ok _ B g n i f _ h hi rfl).mono ?_; rintro e w' ⟨rfl, rfl⟩)
          | (go_at_call 32; refine (is_any _ B g n f _ h (by omega) (by omega)).mono ?_; rintro e w' ⟨rfl, rfl⟩)
          | fail)
        refine (put_ok _ B g n i f _ _ h hi rfl (by omega) (by omega)).mono ?_
        rintro e w1 ⟨rfl, h1, g1⟩
        go_wp2_with fail
        refine (put_ok _ B g n j _ _ one h1 hj1 HJ.out o1 o2).mono ?_
        rintro e w2 ⟨rfl, h2, g2⟩
        go_wp2_with fail
        refine (put_ok _ B g n (j + 1) _ _ two h2 hl1 (by have := HJ.out; omega) t1 t2).mono ?_
        rintro e w3 ⟨rfl, h3, g3⟩
        go_wp2_with fail
        go_ret3
        exact ⟨ret3 (by unfold claimV; rw [if_pos HT.out, HW.out]) HB.out.symm (by unfold claimE; rw [if_pos HT.out]), by rw [HF.out]; exact h3, only_trans (only_trans g1 g2) g3⟩
      · have HB := Lib.hid (show claimB n f (8 * (i : Int)) by_ most base = false by simp [claimB, hwd, hp])
        have HT := Lib.hid (show claimT n f (8 * (i : Int)) by_ most base = false by simp [claimT, hfb, hwd, hp])
        clear hwd hj hfb hp
        rcases hno with q1 | ⟨q1, q2⟩ | ⟨q1, q2, q3⟩ | ⟨q1, q2, q3, q4⟩ | ⟨q1, q2, q3, q4, q5⟩
        all_goals
          go_enter Try.func22, Try.ntmps22
          go_wp2_with (first
            | (go_at_call 14; refine (word_ok _ B g n i f _ h hi rfl).mono ?_; rintro e w' ⟨rfl, rfl⟩)
            | (go_at_call 32; refine (is_any _ B g n f _ h (by omega) (by omega)).mono ?_; rintro e w' ⟨rfl, rfl⟩))
          go_ret3
          exact ⟨ret3 (by unfold claimV; rw [if_neg (by simp [HT.out])]) HB.out.symm (by unfold claimE; rw [if_neg (by simp [HT.out])]), by unfold claimF; rw [if_neg (by simp [HB.out])]; exact h, World.grownBy.refl _ _⟩
    · have hfb : fitsB f (8 * (i : Int)) by_ most = false := decide_eq_false (by rw [hwd]; exact hf)
      have HB := Lib.hid (show claimB n f (8 * (i : Int)) by_ most base = false by simp [claimB, hfb])
      have HT := Lib.hid (show claimT n f (8 * (i : Int)) by_ most base = true by simp [claimT, hk, hfb])
      have HW := Lib.hid hwd
      clear hwd hj hfb
      rcases (show most < f i ∨ (f i ≤ most ∧ most - f i < by_) by omega) with q1 | ⟨q1, q2⟩
      all_goals
        go_enter Try.func22, Try.ntmps22
        go_wp2_with (go_at_call 14; refine (word_ok _ B g n i f _ h hi rfl).mono ?_; rintro e w' ⟨rfl, rfl⟩)
        go_ret3
        exact ⟨ret3 (by unfold claimV; rw [if_pos HT.out, HW.out]) HB.out.symm (by unfold claimE; rw [if_pos HT.out]), by unfold claimF; rw [if_neg (by simp [HB.out])]; exact h, World.grownBy.refl _ _⟩
  · have hq : okW n a = false := by simpa using hk
    have E := Lib.hid (errW_no hq)
    have HB := Lib.hid (show claimB n f a by_ most base = false by simp [claimB, hq])
    have HT := Lib.hid (show claimT n f a by_ most base = false by simp [claimT, hq])
    clear hk hq
    go_enter Try.func22, Try.ntmps22
    go_wp2_with (go_at_call 14; refine (word_any _ B g n f _ h a1 a2).mono ?_; rintro e w' ⟨rfl, rfl⟩; rw [E.out])
    go_ret3
    exact ⟨ret3 (by unfold claimV; rw [if_neg (by simp [HT.out])]) HB.out.symm (by unfold claimE; rw [if_neg (by simp [HT.out])]), by unfold claimF; rw [if_neg (by simp [HB.out])]; exact h, World.grownBy.refl _ _⟩
end Go.Proofs.Ytpaioclagnmblaa.Ref
