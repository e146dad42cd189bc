/-
  Contracts of the document's own answers for layer 2, second part: power, Byte, PutByte, Cas, Claim and Zero.
-/
import Derived.Test.YtpaioclagnmblaaRef
namespace Go.Proofs.Ytpaioclagnmblaa.Ref
open Go.ChangeShapes Go.WideShapes Go.ChangeAt Go.RowKit Mem Arena
set_option linter.unusedVariables false

theorem pow_step (i : Nat) : (2 : Int) ^ (8 * i) * 256 = 2 ^ (8 * (i + 1)) := by
  rw [show 8 * (i + 1) = 8 * i + 8 by omega, Int.pow_add]
  rfl
theorem pow_bd (k : Nat) (hk : k < 8) : (1 : Int) ≤ 2 ^ (8 * k) ∧ (2 : Int) ^ (8 * k) ≤ 72057594037927936 := by
  rcases pow_le k hk with e | e | e | e | e | e | e | e <;> rw [e] <;> decide

set_option maxHeartbeats 400000 in
theorem power_any (w : World) (k : Nat) (hk : k < 8) :
    Calls Try.prog 34 #[.int .i64 (k : Int)] w fun e w' => e = .returned (.int .u64 (2 ^ (8 * k))) ∧ w' = w := by
  go_enter Try.func34, Try.ntmps34
  go_wp2
  go_loop [3, 4] (fun p t => ∃ i : Nat, i ≤ k ∧ t = .int .i64 i ∧ p = .int .u64 (2 ^ (8 * i))) (fun _ t => k - (intOf t).toNat)
  case atStart => exact ⟨0, by omega, rfl, rfl⟩
  case round =>
    obtain ⟨i, hi, rfl, rfl⟩ := hrel
    by_cases hlt : i < k
    · have ⟨p1, p2⟩ := pow_bd (i + 1) (by omega)
      have ps := pow_step i
      have ⟨p3, p4⟩ := pow_bd i (by omega)
      have p5 : (2 : Int) ^ (8 * i) * 256 ≤ 18446744073709551615 := by omega
      have PS := Lib.hid ps
      clear ps p1 p2
      go_wp2
      go_round
      case rel => exact ⟨i + 1, by omega, by go_num, by rw [← PS.out]⟩
      case measure => simp [intOf]; omega
    · obtain rfl : i = k := by omega
      go_wp2
      go_ret
      exact ⟨rfl, rfl⟩

theorem byte_tmod (x : Int) (r : Nat) (h : 0 ≤ x) : (x / 2 ^ (8 * r)).tmod 256 % 256 = byteV x r := by
  have hp : (0 : Int) < 2 ^ (8 * r) := Int.pow_pos (by decide)
  rw [Int.tmod_eq_emod_of_nonneg (Int.ediv_nonneg h (Int.le_of_lt hp))]
  unfold byteV
  omega
theorem mul_bd (x b : Int) (k : Nat) (hk : k < 8) (h0 : 0 ≤ x) (h1 : x ≤ 18446744073709551615) (b0 : 0 ≤ b) (b1 : b ≤ 255) :
    0 ≤ byteV x k * 2 ^ (8 * k) ∧ byteV x k * 2 ^ (8 * k) ≤ x ∧ 0 ≤ b * 2 ^ (8 * k) ∧ b * 2 ^ (8 * k) ≤ 18446744073709551615 ∧ x - byteV x k * 2 ^ (8 * k) + b * 2 ^ (8 * k) ≤ 18446744073709551615 := by
  unfold byteV
  rcases pow_le k hk with e | e | e | e | e | e | e | e <;> rw [e] <;> omega
theorem okB_parts {n : Nat} {a : Int} (h : okB n a = true) : ∃ q r : Nat, q < n ∧ r < 8 ∧ a = 8 * (q : Int) + (r : Int) ∧ a.toNat / 8 = q ∧ a.toNat % 8 = r := by
  obtain ⟨i, hi, rfl, hj⟩ := okB_idx h
  exact ⟨i / 8, i % 8, by omega, by omega, by omega, by omega, by omega⟩
theorem Rf.drewN {w : World} {B g n : Nat} {f : Nat → Int} (h : Rf w B g n f) (m : Nat) : Rf (w.drewN m) B g n f := ⟨h.head, h.body, h.fit, h.len⟩
theorem only_drewN {a w : World} {row : Option Nat} (h : a.grownBy w row) (n : Nat) : a.grownBy (w.drewN n) row := ⟨h.os, h.tape, h.output, h.size, h.block⟩

set_option maxHeartbeats 800000 in
theorem byte_any (w : World) (B g n : Nat) (f : Nat → Int) (a : Int) (h : Rf w B g n f) (a1 : -9223372036854775808 ≤ a) (a2 : a ≤ 9223372036854775807) :
    Calls Try.prog 16 #[.pointer (some ⟨B, 0, none⟩), .int .i64 a] w fun e w' => e = .returned (.tuple #[.int .u8 (byteAt n f a), .int .i64 (errB n a)]) ∧ Rf w' B g n f ∧ w.grownBy w' (some g) := by
  have hl := h.len
  have hc := h.cell
  by_cases hk : okB n a = true
  · obtain ⟨q, r, hq, hr, rfl, hj1, hj2⟩ := okB_parts hk
    have hcell := h.body.cell hq
    have ⟨f1, f2⟩ := h.fit q
    have hd : (8 * (q : Int) + (r : Int)) / 8 = (q : Int) := by omega
    have hm : (8 * (q : Int) + (r : Int)) % 8 = (r : Int) := by omega
    have ⟨p1, p2⟩ := pow_bd r hr
    have J1 := Lib.hid hj1
    have J2 := Lib.hid hj2
    clear hj1 hj2
    go_enter Try.func16, Try.ntmps16
    go_wp2_with fail
    go_quiet ((go_at_call 34; exact Calls.quiet_of_same (power_any _ r hr)))
    go_wp2
    go_ret2
    exact ⟨ret2 (by unfold byteAt; rw [if_pos hk, J1.out, J2.out]; exact byte_tmod _ _ f1) (errB_yes hk).symm, h.drewN _, only_drewN (World.grownBy.refl _ _) _⟩
  · have hq : okB n a = false := by simpa using hk
    have hno : a < 0 ∨ 8 * (n : Int) ≤ a := by
      rcases Int.lt_or_le a 0 with h0 | h0
      · exact .inl h0
      · rcases Int.lt_or_le a (8 * (n : Int)) with h1 | h1
        · exact absurd (okB_yes h0 h1) hk
        · exact .inr h1
    have HQ := Lib.hid hq
    clear hk hq
    rcases hno with h0 | h0
    all_goals
      go_enter Try.func16, Try.ntmps16
      go_wp2
      go_ret2
      exact ⟨ret2 (by unfold byteAt; rw [if_neg (by simp [HQ.out])]) (errB_no HQ.out).symm, h, World.grownBy.refl _ _⟩

set_option maxHeartbeats 800000 in
theorem putbyte_any (w : World) (B g n : Nat) (f : Nat → Int) (a b : Int) (h : Rf w B g n f) (a1 : -9223372036854775808 ≤ a) (a2 : a ≤ 9223372036854775807) (b1 : 0 ≤ b) (b2 : b ≤ 255) :
    Calls Try.prog 18 #[.pointer (some ⟨B, 0, none⟩), .int .i64 a, .int .u8 b] w fun e w' => e = .returned (.int .i64 (errB n a)) ∧ Rf w' B g n (putBF n f a b) ∧ w.grownBy w' (some g) := by
  have hl := h.len
  have hc := h.cell
  by_cases hk : okB n a = true
  · obtain ⟨q, r, hq, hr, rfl, hj1, hj2⟩ := okB_parts hk
    have ⟨f1, f2⟩ := h.fit q
    have hd : (8 * (q : Int) + (r : Int)) / 8 = (q : Int) := by omega
    have hm : (8 * (q : Int) + (r : Int)) % 8 = (r : Int) := by omega
    have ⟨p1, p2⟩ := pow_bd r hr
    have ⟨y1, y2⟩ := byteV_le (f q) r
    have ⟨m1, m2, m3, m4, m5⟩ := mul_bd (f q) b r hr f1 f2 b1 b2
    have BV := Lib.hid (show byteAt n f (8 * (q : Int) + (r : Int)) = byteV (f q) r by unfold byteAt; rw [if_pos hk, hj1, hj2])
    have PF := Lib.hid (show putBF n f (8 * (q : Int) + (r : Int)) b = setF f q (f q - byteV (f q) r * 2 ^ (8 * r) + b * 2 ^ (8 * r)) by unfold putBF; rw [if_pos hk, hj1, hj2]; rfl)
    have ⟨k1, k2⟩ := putB_le (f q) r b hr f1 f2 b1 b2
    clear hj1 hj2
    go_enter Try.func18, Try.ntmps18
    go_wp2_with fail
    refine (byte_any _ B g n f _ h a1 a2).mono ?_
    rintro e w1 ⟨rfl, h1, g1⟩
    have hc1 := h1.cell
    have hcell := h1.body.cell hq
    have hfz := h1.body.frozen q
    rw [BV.out]
    go_wp2_with fail
    refine (power_any _ r hr).mono ?_
    rintro e w2 ⟨rfl, rfl⟩
    go_wp2_with fail
    go_region
    all_goals
      go_wp2
      go_ret
      exact ⟨ret_int (errB_yes hk).symm, by rw [PF.out]; exact (h1.set q _ k1 k2).drew, only_trans g1 (only_drew (only_setCell (World.grownBy.refl _ _) _ _))⟩
  · have hq : okB n a = false := by simpa using hk
    have hno : a < 0 ∨ 8 * (n : Int) ≤ a := by
      rcases Int.lt_or_le a 0 with h0 | h0
      · exact .inl h0
      · rcases Int.lt_or_le a (8 * (n : Int)) with h1 | h1
        · exact absurd (okB_yes h0 h1) hk
        · exact .inr h1
    have HQ := Lib.hid hq
    clear hk hq
    rcases hno with h0 | h0
    all_goals
      go_enter Try.func18, Try.ntmps18
      go_wp2
      go_ret
      exact ⟨ret_int (errB_no HQ.out).symm, by unfold putBF; rw [if_neg (by simp [HQ.out])]; exact h, World.grownBy.refl _ _⟩

theorem word_ok (w : World) (B g n i : Nat) (f : Nat → Int) (a : Int) (h : Rf w B g n f) (hi : i < n) (ha : a = 8 * (i : Int)) :
    Calls Try.prog 14 #[.pointer (some ⟨B, 0, none⟩), .int .i64 a] w fun e w' => e = .returned (.tuple #[.int .u64 (f i), .int .i64 0]) ∧ w = w' := by
  have hl := h.len
  subst ha
  refine (word_any w B g n f _ h (by omega) (by omega)).mono fun e w' ⟨he, hw⟩ => ⟨he.trans (ret2 ?_ (errW_yes (okW_mk hi))), hw⟩
  unfold wordV; rw [if_pos (okW_mk hi)]; congr 1; omega
theorem put_ok (w : World) (B g n i : Nat) (f : Nat → Int) (a x : Int) (h : Rf w B g n f) (hi : i < n) (ha : a = 8 * (i : Int)) (x1 : 0 ≤ x) (x2 : x ≤ 18446744073709551615) :
    Calls Try.prog 26 #[.pointer (some ⟨B, 0, none⟩), .int .i64 a, .int .u64 x] w fun e w' => e = .returned (.int .i64 0) ∧ Rf w' B g n (setF f i x) ∧ w.grownBy w' (some g) := by
  have hl := h.len
  subst ha
  refine (put_any w B g n f _ x h (by omega) (by omega) x1 x2).mono fun e w' ⟨he, hw, hg⟩ => ⟨he.trans (ret_int (errW_yes (okW_mk hi))), ?_, hg⟩
  unfold putF at hw; rw [if_pos (okW_mk hi), show (8 * (i : Int)).toNat / 8 = i by omega] at hw; exact hw

set_option maxHeartbeats 400000 in
theorem cas_any (w : World) (B g n : Nat) (f : Nat → Int) (a old x : Int) (h : Rf w B g n f) (a1 : -9223372036854775808 ≤ a) (a2 : a ≤ 9223372036854775807) (x1 : 0 ≤ x) (x2 : x ≤ 18446744073709551615) :
    Calls Try.prog 20 #[.pointer (some ⟨B, 0, none⟩), .int .i64 a, .int .u64 old, .int .u64 x] w fun e w' => e = .returned (.tuple #[.bool (casB n f a old), .int .i64 (errW n a)]) ∧ Rf w' B g n (casF n f a old x) ∧ w.grownBy w' (some g) := by
  by_cases hk : okW n a = true
  · obtain ⟨i, hi, rfl, hj⟩ := okW_idx hk
    by_cases ho : f i = old
    · have HB := Lib.hid (show casB n f (8 * (i : Int)) old = true by simp [casB, hk, hj, ho])
      have HJ := Lib.hid hj
      subst ho
      clear hj
      go_enter Try.func20, Try.ntmps20
      go_wp2_with (first
        | (go_at_call 14; refine (word_ok _ B g n i f _ h hi rfl).mono ?_; rintro e w' ⟨rfl, rfl⟩)
        | (go_at_call 26; refine (put_ok _ B g n i f _ x h hi rfl x1 x2).mono ?_; rintro e w' ⟨rfl, hw, hg⟩))
      go_ret2
      exact ⟨retbi HB.out.symm (errW_yes hk).symm, by unfold casF; rw [if_pos HB.out, HJ.out]; assumption, by assumption⟩
    · have HB := Lib.hid (show casB n f (8 * (i : Int)) old = false by simp [casB, hj, ho])
      have ho' : (f i != old) = true := by simpa using ho
      clear hj
      go_enter Try.func20, Try.ntmps20
      go_wp2_with (go_at_call 14; refine (word_ok _ B g n i f _ h hi rfl).mono ?_; rintro e w' ⟨rfl, rfl⟩)
      go_ret2
      exact ⟨retbi HB.out.symm (errW_yes hk).symm, by unfold casF; rw [if_neg (by simp [HB.out])]; exact h, World.grownBy.refl _ _⟩
  · have hq : okW n a = false := by simpa using hk
    have E := Lib.hid (errW_no hq)
    have HB := Lib.hid (show casB n f a old = false by simp [casB, hq])
    clear hk hq
    go_enter Try.func20, Try.ntmps20
    go_wp2_with (go_at_call 14; refine (word_any _ B g n f _ h a1 a2).mono ?_; rintro e w' ⟨rfl, rfl⟩; rw [E.out])
    go_ret2
    exact ⟨retbi HB.out.symm E.out.symm, by unfold casF; rw [if_neg (by simp [HB.out])]; exact h, World.grownBy.refl _ _⟩

set_option maxHeartbeats 400000 in
theorem zero_any (w : World) (B g n : Nat) (f : Nat → Int) (a m : Int) (h : Rf w B g n f) (a1 : -9223372036854775808 ≤ a) (a2 : a ≤ 9223372036854775807) (m1 : -9223372036854775808 ≤ m) (m2 : m ≤ 9223372036854775807) :
    Calls Try.prog 24 #[.pointer (some ⟨B, 0, none⟩), .int .i64 a, .int .i64 m] w fun e w' => e = .returned (.int .i64 (zeroE n a m)) ∧ Rf w' B g n (zeroF n f a m) ∧ w.grownBy w' (some g) := by
  have hl := h.len
  have hc := h.cell
  by_cases h0 : m < 0
  · have HZ := Lib.hid (show zeroB n a m = false by simp [zeroB]; omega)
    go_enter Try.func24, Try.ntmps24
    go_wp2
    go_ret
    exact ⟨ret_int (by unfold zeroE; rw [if_neg (by simp [HZ.out])]), by unfold zeroF; rw [if_neg (by simp [HZ.out])]; exact h, World.grownBy.refl _ _⟩
  · by_cases h1 : m = 0
    · subst h1
      have HZ := Lib.hid (show zeroB n a 0 = true by simp [zeroB])
      have HF := Lib.hid (show zeroUp f (a.toNat / 8) (Int.toNat 0) = f from zeroUp_none f _)
      go_enter Try.func24, Try.ntmps24
      go_wp2
      go_ret
      exact ⟨ret_int (by unfold zeroE; rw [if_pos HZ.out]), by unfold zeroF; rw [if_pos HZ.out, HF.out]; exact h, World.grownBy.refl _ _⟩
    · have h2 : 0 < m := by omega
      clear h0 h1
      by_cases hk : okW n a = true
      · obtain ⟨i, hi, rfl, hj⟩ := okW_idx hk
        have HJ := Lib.hid hj
        have hd : (8 * (i : Int)) / 8 = i := by omega
        by_cases h3 : m ≤ (n : Int) - i
        · have HZ := Lib.hid (show zeroB n (8 * (i : Int)) m = true by unfold zeroB; rw [hd]; simp [h2, hk, h3])
          obtain ⟨c, rfl⟩ := Int.eq_ofNat_of_zero_le (Int.le_of_lt h2)
          clear hj
          go_enter Try.func24, Try.ntmps24
          go_wp2_with (go_at_call 32; refine (is_any _ B g n f _ h a1 a2).mono ?_; rintro e w' ⟨rfl, rfl⟩)
          go_loopw [8] (fun t wr => ∃ k : Nat, k ≤ c ∧ t = .int .i64 k ∧ Rf wr B g n (zeroUp f i k) ∧ w.grownBy wr (some g)) (fun t _ => c - (intOf t).toNat)
          case atStart => exact ⟨0, by omega, rfl, by rw [zeroUp_none]; exact h, World.grownBy.refl _ _⟩
          case round =>
            obtain ⟨k, hkc, rfl, hh, hg⟩ := hrel
            by_cases hlt : k < c
            · have hc1 := hh.cell
              have hcell := hh.body.cell (i := i + k) (by omega)
              have hfz := hh.body.frozen (i + k)
              clear hc
              go_wp2
              go_roundw
              case rel => exact ⟨k + 1, by omega, by go_num, by rw [← zeroUp_step]; exact hh.set (i + k) 0 (by omega) (by omega), only_setCell hg _ _⟩
              case measure => simp [intOf]; omega
            · obtain rfl : k = c := by omega
              go_wp2
              go_ret
              exact ⟨ret_int (by unfold zeroE; rw [if_pos HZ.out]), by unfold zeroF; rw [if_pos HZ.out, HJ.out]; exact hh, hg⟩
        · have HZ := Lib.hid (show zeroB n (8 * (i : Int)) m = false by unfold zeroB; rw [hd]; simp [h3]; omega)
          clear hj
          go_enter Try.func24, Try.ntmps24
          go_wp2_with (go_at_call 32; refine (is_any _ B g n f _ h a1 a2).mono ?_; rintro e w' ⟨rfl, rfl⟩)
          go_ret
          exact ⟨ret_int (by unfold zeroE; rw [if_neg (by simp [HZ.out])]), by unfold zeroF; rw [if_neg (by simp [HZ.out])]; exact h, World.grownBy.refl _ _⟩
      · have hq : okW n a = false := by simpa using hk
        have HZ := Lib.hid (show zeroB n a m = false by simp [zeroB, hq]; omega)
        clear hk
        go_enter Try.func24, Try.ntmps24
        go_wp2_with (go_at_call 32; refine (is_any _ B g n f _ h a1 a2).mono ?_; rintro e w' ⟨rfl, rfl⟩)
        go_ret
        exact ⟨ret_int (by unfold zeroE; rw [if_neg (by simp [HZ.out])]), by unfold zeroF; rw [if_neg (by simp [HZ.out])]; exact h, World.grownBy.refl _ _⟩
end Go.Proofs.Ytpaioclagnmblaa.Ref
