/-
  Contracts of head.Pack and Unpack, for every argument: each returns plain values (packV, unV), and changes nothing that was there.
-/
import Derived.Test.YtgihoicppeegaaaHeadsB
namespace Go.Proofs.Ytgihoicppeegaaa.Heads
open Go.ChangeShapes Go.WideShapes Go.ChangeAt Go.RowKit
open Held
set_option linter.unusedVariables false

/-- Two words and an error; a head and an error. -/
structure P where
  a : Int
  b : Int
  err : Int
structure U where
  s : Int
  n : Int
  t : Int
  d : Bool
  c : Int
  e : Int
  err : Int
def firstV (s n t : Int) (d : Bool) : Int := s + n * 4294967296 + t * 1099511627776 + bit d * 281474976710656 + 11889503016258109440
def secondV (c e : Int) : Int := c + e * 256
def packV (s n t : Int) (d : Bool) (c e : Int) : P := if rightB s n t c e = true then ⟨firstV s n t d, secondV c e, 0⟩ else ⟨0, 0, 1⟩
def unB (f g : Int) : Bool := decide (f / 72057594037927936 = 165 ∧ f / 281474976710656 % 256 ≤ 1) && rightB (f % 4294967296) (f / 4294967296 % 256) (f / 1099511627776 % 256) (g % 256) (g / 256)
def unV (f g : Int) : U := if unB f g = true then ⟨f % 4294967296, f / 4294967296 % 256, f / 1099511627776 % 256, f / 281474976710656 % 256 == 1, g % 256, g / 256, 0⟩ else ⟨0, 0, 0, false, 0, 0, 18⟩
def hv (s n t : Int) (d : Bool) (c e : Int) : Value := .agg #[.int .i64 s, .int .i64 n, .int .i64 t, .bool d, .int .i64 c, .int .i64 e]
theorem retP {r : P} {a b e : Int} (h : r = ⟨a, b, e⟩) : Ending.returned (.tuple #[.int .u64 a, .int .u64 b, .int .i64 e]) = .returned (.tuple #[.int .u64 r.a, .int .u64 r.b, .int .i64 r.err]) := by subst h; rfl
theorem pack_yes {s n t c e : Int} (d : Bool) (h : rightB s n t c e = true) : packV s n t d c e = ⟨firstV s n t d, secondV c e, 0⟩ := if_pos h
theorem pack_no {s n t c e : Int} (d : Bool) (h : rightB s n t c e = false) : packV s n t d c e = ⟨0, 0, 1⟩ := if_neg (by rw [h]; decide)

set_option maxHeartbeats 2000000 in
theorem pack_any (s n t : Int) (d : Bool) (c e : Int) (w : World) :
    Calls Try.prog 34 #[.agg #[.int .i64 s, .int .i64 n, .int .i64 t, .bool d, .int .i64 c, .int .i64 e]] w fun z w' => z = .returned (.tuple #[.int .u64 (packV s n t d c e).a, .int .u64 (packV s n t d c e).b, .int .i64 (packV s n t d c e).err]) ∧ Below w.heap.size w w' := by
  by_cases hr : rightB s n t c e = true
  · have HP : Hid (packV s n t d c e = ⟨_, _, _⟩) := Lib.hid (pack_yes d hr)
    have HR := Lib.hid hr
    obtain ⟨b1, b2, b3, b4, b5, b6, b7, b8, b9, b10⟩ := rbounds hr
    have ⟨d1, d2⟩ := bit_le d
    clear hr
    go_enter Try.func34, Try.ntmps34
    have S0 := (St.start w).new [.int .i64 s, .int .i64 n, .int .i64 t, .bool d, .int .i64 c, .int .i64 e] 30
    go_wp2_with fail
    refine (lift S0 (right_any _ _ _ _ _ _ _)).mono ?_
    rintro z w1 ⟨rfl, S1⟩
    rw [HR.out]
    clear S0
    go_wp2_with fail
    refine (laying_any _).mono ?_
    rintro z w2 ⟨rfl, rfl⟩
    have S2 := (S1.new [.int .u64 0] 45).new [.int .u64 0] 78
    simp only [World.size_alloc] at S2
    clear S1
    obtain ⟨ql, q0, q1, q2, q3, q4, q5⟩ := S2.get6 2 rfl
    go_wp2_with fail
    refine (lays_0_32 _ S2 1 0 (by decide) rfl rfl (by omega) (by omega)).mono ?_
    rintro z w2 ⟨rfl, S3⟩
    clear S2 ql q0 q1 q2 q3 q4 q5
    obtain ⟨ql, q0, q1, q2, q3, q4, q5⟩ := S3.get6 2 rfl
    go_wp2_with fail
    refine (lays_32_8 _ _ S3 1 0 (by decide) rfl rfl (by omega) (by omega) (by omega) (by omega)).mono ?_
    rintro z w3 ⟨rfl, S4⟩
    clear S3 ql q0 q1 q2 q3 q4 q5
    obtain ⟨ql, q0, q1, q2, q3, q4, q5⟩ := S4.get6 2 rfl
    go_wp2_with fail
    refine (lays_40_8 _ _ S4 1 0 (by decide) rfl rfl (by omega) (by omega) (by omega) (by omega)).mono ?_
    rintro z w4 ⟨rfl, S5⟩
    clear S4 ql q0 q1 q2 q3 q4 q5
    obtain ⟨ql, q0, q1, q2, q3, q4, q5⟩ := S5.get6 2 rfl
    go_wp2_with fail
    refine (asnum_any _ _).mono ?_
    rintro z w5 ⟨rfl, rfl⟩
    go_wp2_with fail
    refine (lays_48_8 _ _ S5 1 0 (by decide) rfl rfl (by omega) (by omega) (by omega) (by omega)).mono ?_
    rintro z w5 ⟨rfl, S6⟩
    clear S5 ql q0 q1 q2 q3 q4 q5
    go_wp2_with fail
    refine (lays_56_8 _ _ S6 1 0 (by decide) rfl rfl (by omega) (by omega) (by omega) (by omega)).mono ?_
    rintro z w6 ⟨rfl, S7⟩
    clear S6
    go_wp2_with fail
    refine (laying_any _).mono ?_
    rintro z w7 ⟨rfl, rfl⟩
    have S8 := (S7.new [.int .u64 0] 45).new [.int .u64 0] 78
    simp only [World.size_alloc] at S8
    clear S7
    obtain ⟨ql, q0, q1, q2, q3, q4, q5⟩ := S8.get6 4 rfl
    go_wp2_with fail
    refine (lays_0_8 _ S8 1 0 (by decide) rfl rfl (by omega) (by omega)).mono ?_
    rintro z w7 ⟨rfl, S9⟩
    clear S8 ql q0 q1 q2 q3 q4 q5
    obtain ⟨ql, q0, q1, q2, q3, q4, q5⟩ := S9.get6 4 rfl
    go_wp2_with fail
    refine (lays_8_56 _ _ S9 1 0 (by decide) rfl rfl (by omega) (by omega) (by omega) (by omega)).mono ?_
    rintro z w8 ⟨rfl, S10⟩
    clear S9 ql q0 q1 q2 q3 q4 q5
    go_wp2
    refine bodyPost_ret (v := .tuple #[.int .u64 (s + n * 4294967296 + t * 1099511627776 + bit d * 281474976710656 + 165 * 72057594037927936), .int .u64 (c + e * 256), .int .i64 0]) (by simp [results, Try.results34, go_sem]) rfl ⟨?_, S10.below⟩
    exact retP HP.out
  · have hr' : rightB s n t c e = false := by simpa using hr
    have HP := Lib.hid (pack_no d hr')
    have HR := Lib.hid hr'
    clear hr hr'
    go_enter Try.func34, Try.ntmps34
    have S0 := (St.start w).new [.int .i64 s, .int .i64 n, .int .i64 t, .bool d, .int .i64 c, .int .i64 e] 30
    go_wp2_with fail
    refine (lift S0 (right_any _ _ _ _ _ _ _)).mono ?_
    rintro z w1 ⟨rfl, S1⟩
    rw [HR.out]
    clear S0
    go_wp2
    refine bodyPost_ret (v := .tuple #[.int .u64 0, .int .u64 0, .int .i64 1]) (by simp [results, Try.results34, go_sem]) rfl ⟨?_, S1.below⟩
    exact retP HP.out
end Go.Proofs.Ytgihoicppeegaaa.Heads
