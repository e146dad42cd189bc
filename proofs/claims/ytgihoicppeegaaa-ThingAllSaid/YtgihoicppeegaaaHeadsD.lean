/-
  The contract of head.Unpack, for every two words.
-/
import Derived.Test.YtgihoicppeegaaaHeadsC
namespace Go.Proofs.Ytgihoicppeegaaa.Heads
open Go.ChangeShapes Go.WideShapes Go.ChangeAt Go.RowKit
open Held
set_option linter.unusedVariables false

theorem un_no {f g : Int} (h : ¬ unB f g = true) : unV f g = ⟨0, 0, 0, false, 0, 0, 18⟩ := if_neg h
/-- What is taken off two words: a head's, another mark, a number that is no bool's, or a head that may not be. -/
theorem un_parts (f g : Int) (f1 : 0 ≤ f) (f2 : f ≤ 18446744073709551615) (g1 : 0 ≤ g) (g2 : g ≤ 18446744073709551615) :
    (∃ d : Bool, unV f g = ⟨f % 4294967296, f / 4294967296 % 256, f / 4294967296 / 256 % 256, d, g % 256, g / 256 % 72057594037927936, 0⟩ ∧ f / 4294967296 / 256 / 256 / 256 % 256 = 165 ∧ f / 4294967296 / 256 / 256 % 256 = bit d ∧ rightB (f % 4294967296) (f / 4294967296 % 256) (f / 4294967296 / 256 % 256) (g % 256) (g / 256 % 72057594037927936) = true) ∨
    (unV f g = ⟨0, 0, 0, false, 0, 0, 18⟩ ∧ (f / 4294967296 / 256 / 256 / 256 % 256 != 165) = true) ∨
    (unV f g = ⟨0, 0, 0, false, 0, 0, 18⟩ ∧ f / 4294967296 / 256 / 256 / 256 % 256 = 165 ∧ (f / 4294967296 / 256 / 256 % 256 == 1) = false ∧ (f / 4294967296 / 256 / 256 % 256 != 0) = true) ∨
    (unV f g = ⟨0, 0, 0, false, 0, 0, 18⟩ ∧ ∃ d : Bool, f / 4294967296 / 256 / 256 / 256 % 256 = 165 ∧ f / 4294967296 / 256 / 256 % 256 = bit d ∧ rightB (f % 4294967296) (f / 4294967296 % 256) (f / 4294967296 / 256 % 256) (g % 256) (g / 256 % 72057594037927936) = false) := by
  have e1 : f / 4294967296 / 256 = f / 1099511627776 := by omega
  have e2 : f / 1099511627776 / 256 = f / 281474976710656 := by omega
  have e3 : f / 281474976710656 / 256 = f / 72057594037927936 := by omega
  have e4 : f / 72057594037927936 % 256 = f / 72057594037927936 := by omega
  have e5 : g / 256 % 72057594037927936 = g / 256 := by omega
  rw [e1, e2, e3, e4, e5]
  by_cases h1 : f / 72057594037927936 = 165
  · by_cases h2 : f / 281474976710656 % 256 ≤ 1
    · have hd : f / 281474976710656 % 256 = bit (f / 281474976710656 % 256 == 1) := by
        by_cases k : f / 281474976710656 % 256 = 1
        · rw [k]; rfl
        · have : f / 281474976710656 % 256 = 0 := by omega
          rw [this]; rfl
      by_cases h3 : rightB (f % 4294967296) (f / 4294967296 % 256) (f / 1099511627776 % 256) (g % 256) (g / 256) = true
      · refine .inl ⟨_, if_pos ?_, h1, hd, h3⟩
        unfold unB
        rw [h3, decide_eq_true ⟨h1, h2⟩]
        rfl
      · refine .inr (.inr (.inr ⟨un_no fun k => ?_, _, h1, hd, by simpa using h3⟩))
        unfold unB at k
        rw [Bool.and_eq_true] at k
        exact h3 k.2
    · refine .inr (.inr (.inl ⟨un_no fun k => ?_, h1, ?_, ?_⟩))
      · unfold unB at k
        rw [Bool.and_eq_true] at k
        exact h2 (of_decide_eq_true k.1).2
      · simp only [beq_eq_false_iff_ne, ne_eq]; omega
      · simp only [bne_iff_ne, ne_eq]; omega
  · refine .inr (.inl ⟨un_no fun k => ?_, by simpa using h1⟩)
    unfold unB at k
    rw [Bool.and_eq_true] at k
    exact h1 (of_decide_eq_true k.1).1
theorem bit_one (d : Bool) : (bit d == 1) = d := by cases d <;> rfl
theorem bit_same (d : Bool) : (bit d != bit d) = false := by cases d <;> rfl

set_option maxRecDepth 100000 in
set_option maxHeartbeats 4000000 in
theorem unpack_any (f g : Int) (w : World) (f1 : 0 ≤ f) (f2 : f ≤ 18446744073709551615) (g1 : 0 ≤ g) (g2 : g ≤ 18446744073709551615) :
    Calls Try.prog 27 #[.int .u64 f, .int .u64 g] w fun z w' => z = .returned (.tuple #[.agg #[.int .i64 (unV f g).s, .int .i64 (unV f g).n, .int .i64 (unV f g).t, .bool (unV f g).d, .int .i64 (unV f g).c, .int .i64 (unV f g).e], .int .i64 (unV f g).err]) ∧ Below w.heap.size w w' := by
  have hp := un_parts f g f1 f2 g1 g2
  generalize unV f g = R at hp ⊢
  go_enter Try.func27, Try.ntmps27
  have S0 := ((St.start w).new [.int .i64 0, .int .i64 0, .int .i64 0, .bool false, .int .i64 0, .int .i64 0] 30).new [.int .i64 0, .int .i64 0, .int .i64 0, .bool false, .int .i64 0, .int .i64 0] 30
  simp only [World.size_alloc] at S0
  have HPS := Lib.hid hp
  clear hp
  go_wp2_with fail
  refine (taking_any _ _).mono ?_
  rintro z w1 ⟨rfl, rfl⟩
  have S1 := S0.new [.int .u64 f] 45
  simp only [World.size_alloc] at S1
  clear S0
  go_wp2_with fail
  refine (takes_32 f S1 0 rfl (by omega) (by omega)).mono ?_
  rintro z w2 ⟨rfl, S2⟩
  clear S1
  obtain ⟨ql, q0, q1, q2, q3, q4, q5⟩ := S2.get6 1 rfl
  have qf := (S2.get 1 rfl).fz
  go_wp2_with fail
  refine (takes_8 _ (S2.put 1 0 rfl (.int .i64 (f % 4294967296)) (Nat.le_of_ble_eq_true rfl)) 0 rfl (by omega) (by omega)).mono ?_
  rintro z w3 ⟨rfl, S3⟩
  clear S2 ql q0 q1 q2 q3 q4 q5 qf
  obtain ⟨ql, q0, q1, q2, q3, q4, q5⟩ := S3.get6 1 rfl
  have qf := (S3.get 1 rfl).fz
  go_wp2_with fail
  refine (takes_8 _ (S3.put 1 1 rfl (.int .i64 (f / 4294967296 % 256)) (Nat.le_of_ble_eq_true rfl)) 0 rfl (by omega) (by omega)).mono ?_
  rintro z w4 ⟨rfl, S4⟩
  clear S3 ql q0 q1 q2 q3 q4 q5 qf
  obtain ⟨ql, q0, q1, q2, q3, q4, q5⟩ := S4.get6 1 rfl
  have qf := (S4.get 1 rfl).fz
  go_wp2_with fail
  refine (takes_8 _ (S4.put 1 2 rfl (.int .i64 (f / 4294967296 / 256 % 256)) (Nat.le_of_ble_eq_true rfl)) 0 rfl (by omega) (by omega)).mono ?_
  rintro z w5 ⟨rfl, S5⟩
  clear S4 ql q0 q1 q2 q3 q4 q5 qf
  go_wp2_with fail
  refine (takes_8 _ S5 0 rfl (by omega) (by omega)).mono ?_
  rintro z w6 ⟨rfl, S6⟩
  clear S5
  go_wp2_with fail
  refine (taking_any _ _).mono ?_
  rintro z w7 ⟨rfl, rfl⟩
  have S7 := S6.new [.int .u64 g] 45
  clear S6
  go_wp2_with fail
  refine (takes_8 _ S7 0 rfl (by omega) (by omega)).mono ?_
  rintro z w8 ⟨rfl, S8⟩
  clear S7
  obtain ⟨ql, q0, q1, q2, q3, q4, q5⟩ := S8.get6 2 rfl
  have qf := (S8.get 2 rfl).fz
  go_wp2_with fail
  refine (takes_56 _ (S8.put 2 4 rfl (.int .i64 (g % 256)) (Nat.le_of_ble_eq_true rfl)) 0 rfl (by omega) (by omega)).mono ?_
  rintro z w9 ⟨rfl, S9⟩
  clear S8 ql q0 q1 q2 q3 q4 q5 qf
  have hp := HPS.out
  clear HPS
  generalize f / 4294967296 / 256 / 256 / 256 % 256 = top at *
  generalize f / 4294967296 / 256 / 256 % 256 = dn at *
  generalize f / 4294967296 / 256 % 256 = t at *
  generalize f / 4294967296 % 256 = n at *
  generalize f % 4294967296 = s at *
  generalize g % 256 = c at *
  generalize g / 256 % 72057594037927936 = e at *
  obtain ⟨ql, q0, q1, q2, q3, q4, q5⟩ := S9.get6 2 rfl
  have qf := (S9.get 2 rfl).fz
  rcases hp with ⟨d, rfl, rfl, rfl, hr⟩ | ⟨rfl, ht⟩ | ⟨rfl, rfl, hd, hn⟩ | ⟨rfl, d, rfl, rfl, hr⟩
  · have B1 := bit_one d
    have B2 := bit_same d
    have HR := Lib.hid hr
    clear hr
    go_wp2_with fail
    refine (asnum_any _ _).mono ?_
    rintro z w10 ⟨rfl, rfl⟩
    go_wp2_with fail
    refine (lift ((S9.put 2 5 rfl (.int .i64 e) (Nat.le_of_ble_eq_true rfl)).put 2 3 rfl (.bool d) (Nat.le_of_ble_eq_true rfl)) (right_any _ _ _ _ _ _ _)).mono ?_
    rintro z w10 ⟨rfl, S10⟩
    rw [HR.out]
    clear S9 ql q0 q1 q2 q3 q4 q5 qf
    obtain ⟨ql, q0, q1, q2, q3, q4, q5⟩ := S10.get6 2 rfl
    obtain ⟨pl, p0, p1, p2, p3, p4, p5⟩ := S10.get6 3 rfl
    have pf := (S10.get 3 rfl).fz
    go_wp2
    refine bodyPost_ret (v := .tuple #[.agg #[.int .i64 s, .int .i64 n, .int .i64 t, .bool d, .int .i64 c, .int .i64 e], .int .i64 0]) (by simp [results, Try.results27, go_sem, p0, p1, p2, p3, p4, p5]) rfl ⟨rfl, ?_⟩
    exact (((((S10.below.setCell (by simp) _).setCell (by simp) _).setCell (by simp) _).setCell (by simp) _).setCell (by simp) _).setCell (by simp) _
  · obtain ⟨pl, p0, p1, p2, p3, p4, p5⟩ := S9.get6 3 rfl
    have pf := (S9.get 3 rfl).fz
    have S10 := (S9.put 2 5 rfl (.int .i64 e) (Nat.le_of_ble_eq_true rfl)).put 2 3 rfl (.bool (dn == 1)) (Nat.le_of_ble_eq_true rfl)
    go_wp2
    refine bodyPost_ret (v := .tuple #[.agg #[.int .i64 0, .int .i64 0, .int .i64 0, .bool false, .int .i64 0, .int .i64 0], .int .i64 18]) (by simp [results, Try.results27, go_sem, p0, p1, p2, p3, p4, p5]) rfl ⟨rfl, ?_⟩
    exact (((((S10.below.setCell (by simp) _).setCell (by simp) _).setCell (by simp) _).setCell (by simp) _).setCell (by simp) _).setCell (by simp) _
  · obtain ⟨pl, p0, p1, p2, p3, p4, p5⟩ := S9.get6 3 rfl
    have pf := (S9.get 3 rfl).fz
    have S10 := (S9.put 2 5 rfl (.int .i64 e) (Nat.le_of_ble_eq_true rfl)).put 2 3 rfl (.bool false) (Nat.le_of_ble_eq_true rfl)
    go_wp2_with fail
    refine (asnum_any _ _).mono ?_
    rintro z w10 ⟨rfl, rfl⟩
    rw [show bit false = 0 from rfl]
    go_wp2
    refine bodyPost_ret (v := .tuple #[.agg #[.int .i64 0, .int .i64 0, .int .i64 0, .bool false, .int .i64 0, .int .i64 0], .int .i64 18]) (by simp [results, Try.results27, go_sem, p0, p1, p2, p3, p4, p5]) rfl ⟨rfl, ?_⟩
    exact (((((S10.below.setCell (by simp) _).setCell (by simp) _).setCell (by simp) _).setCell (by simp) _).setCell (by simp) _).setCell (by simp) _
  · have B1 := bit_one d
    have B2 := bit_same d
    have HR := Lib.hid hr
    clear hr
    go_wp2_with fail
    refine (asnum_any _ _).mono ?_
    rintro z w10 ⟨rfl, rfl⟩
    go_wp2_with fail
    refine (lift ((S9.put 2 5 rfl (.int .i64 e) (Nat.le_of_ble_eq_true rfl)).put 2 3 rfl (.bool d) (Nat.le_of_ble_eq_true rfl)) (right_any _ _ _ _ _ _ _)).mono ?_
    rintro z w10 ⟨rfl, S10⟩
    rw [HR.out]
    clear S9 ql q0 q1 q2 q3 q4 q5 qf
    obtain ⟨pl, p0, p1, p2, p3, p4, p5⟩ := S10.get6 3 rfl
    have pf := (S10.get 3 rfl).fz
    go_wp2
    refine bodyPost_ret (v := .tuple #[.agg #[.int .i64 0, .int .i64 0, .int .i64 0, .bool false, .int .i64 0, .int .i64 0], .int .i64 18]) (by simp [results, Try.results27, go_sem, p0, p1, p2, p3, p4, p5]) rfl ⟨rfl, ?_⟩
    exact (((((S10.below.setCell (by simp) _).setCell (by simp) _).setCell (by simp) _).setCell (by simp) _).setCell (by simp) _).setCell (by simp) _
end Go.Proofs.Ytgihoicppeegaaa.Heads
