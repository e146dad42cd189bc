/-
  Contracts of package ctl and of the document's own answers for it: each returns the plain values rightB, packV, .. for every four integers, and changes nothing that was there.
-/
import Derived.Test.YteakglkagmghpaaGreatProg
import Derived.WalkKit
import Derived.ProofKit
import Derived.OpenShut
import Derived.IntWalk
import Derived.Lib.Hide
import Derived.Below
import Derived.RegionTactic
import Derived.BigRegion
import Derived.Deep.QuietTactic
import Derived.BigQuiet
import Derived.Laws.BitsAllLaws
namespace Go.Proofs.YteakglkagmghpaaGreat.Ctl
open Go.ChangeShapes Go.WideShapes Go.ChangeAt Go.RowKit
set_option linter.unusedVariables false

theorem ret_int {k : IntKind} {a b : Int} (h : a = b) : Ending.returned (.int k a) = .returned (.int k b) := by rw [h]
theorem ret_bool {a b : Bool} (h : a = b) : Ending.returned (.bool a) = .returned (.bool b) := by rw [h]

def withinB (a lo hi : Int) : Bool := decide (lo ≤ a ∧ a ≤ hi)
def scopeB (a : Int) : Bool := decide (0 ≤ a ∧ a ≤ 7)
def parentB (a : Int) : Bool := decide (-1 ≤ a ∧ a ≤ 7)
def rightB (s c p e : Int) : Bool := decide (0 ≤ e ∧ e ≤ 16777215 ∧ (((s = 0 ∨ s = 1) ∧ c = 0 ∧ p = -1) ∨ (s = 2 ∧ 1 ≤ c ∧ c ≤ 7 ∧ -1 ≤ p ∧ p ≤ 7) ∨ (s = 3 ∧ c = 0 ∧ -1 ≤ p ∧ p ≤ 7)))

set_option maxHeartbeats 400000 in
theorem within_any (a lo hi : Int) (w : World) :
    Calls Tryz.prog 90 #[.int .i64 a, .int .i64 lo, .int .i64 hi] w fun e w' => e = .returned (.bool (withinB a lo hi)) ∧ w = w' := by
  by_cases h1 : lo ≤ a
  · by_cases h2 : a ≤ hi
    all_goals
      go_enter Tryz.func90, Tryz.ntmps90
      go_wp2
      go_ret
      exact ⟨ret_bool (by simp [withinB]; omega), rfl⟩
  · go_enter Tryz.func90, Tryz.ntmps90
    go_wp2
    go_ret
    exact ⟨ret_bool (by simp [withinB]; omega), rfl⟩

theorem isscope_any (a : Int) (w : World) :
    Calls Tryz.prog 203 #[.int .i64 a] w fun e w' => e = .returned (.bool (scopeB a)) ∧ w = w' := by
  go_enter Tryz.func203, Tryz.ntmps203
  go_wp2_with (go_at_call 90; refine (within_any _ _ _ _).mono ?_; rintro e w' ⟨rfl, rfl⟩)
  go_ret
  exact ⟨ret_bool (by simp [withinB, scopeB]), rfl⟩

theorem maybeparent_any (a : Int) (w : World) :
    Calls Tryz.prog 180 #[.int .i64 a] w fun e w' => e = .returned (.bool (parentB a)) ∧ w = w' := by
  by_cases h : a = -1
  · have h' : (a == -1) = true := by simpa using h
    subst h
    go_enter Tryz.func180, Tryz.ntmps180
    go_wp2_with (go_at_call 203; refine (isscope_any _ _).mono ?_; rintro e w' ⟨rfl, rfl⟩)
    go_ret
    exact ⟨ret_bool (by simp [parentB]), rfl⟩
  · have h' : (a == -1) = false := by simpa using h
    have H := Lib.hid h
    clear h
    go_enter Tryz.func180, Tryz.ntmps180
    go_wp2_with (go_at_call 203; refine (isscope_any _ _).mono ?_; rintro e w' ⟨rfl, rfl⟩)
    go_ret
    exact ⟨ret_bool (by have := H.out; unfold scopeB parentB; exact decide_eq_decide.2 (by omega)), rfl⟩

set_option maxHeartbeats 1000000 in
theorem right_any (s c p e : Int) (w : World) :
    Calls Tryz.prog 134 #[.agg #[.int .i64 s, .int .i64 c, .int .i64 p, .int .i64 e]] w fun z w' => z = .returned (.bool (rightB s c p e)) ∧ Below w.heap.size w w' := by
  go_enter Tryz.func134, Tryz.ntmps134
  go_wp2_with (first
    | (go_at_call 90; refine (within_any _ _ _ _).mono ?_; rintro e w' ⟨rfl, rfl⟩)
    | (go_at_call 180; refine (maybeparent_any _ _).mono ?_; rintro e w' ⟨rfl, rfl⟩))
  all_goals
    go_ret
    refine ⟨ret_bool ?_, (Below.refl _ _).alloc (Nat.le_refl _) _⟩
    simp only [Bool.not_eq_true', Bool.not_eq_false', withinB, parentB, decide_eq_true_eq, decide_eq_false_iff_not, beq_iff_eq, beq_eq_false_iff_ne, ne_eq] at *
    rw [Bool.eq_iff_iff]
    simp only [rightB, beq_iff_eq, decide_eq_true_eq, Bool.false_eq_true, false_iff]
    omega

set_option maxHeartbeats 1000000 in
theorem refright_any (s c p e : Int) (w : World) :
    Calls Tryz.prog 162 #[.agg #[.int .i64 s, .int .i64 c, .int .i64 p, .int .i64 e]] w fun z w' => z = .returned (.bool (rightB s c p e)) ∧ Below w.heap.size w w' := by
  go_enter Tryz.func162, Tryz.ntmps162
  go_wp2
  all_goals
    go_ret
    refine ⟨ret_bool ?_, (Below.refl _ _).alloc (Nat.le_refl _) _⟩
    try simp only [beq_iff_eq, beq_eq_false_iff_ne, ne_eq] at *
    rw [Bool.eq_iff_iff]
    simp only [rightB, beq_iff_eq, decide_eq_true_eq, Bool.false_eq_true, false_iff]
    omega
end Go.Proofs.YteakglkagmghpaaGreat.Ctl

/-
  Contracts of ctl.Pack and ctl.Unpack and of the document's own.
-/
namespace Go.Proofs.YteakglkagmghpaaGreat.Ctl
open Go.ChangeShapes Go.WideShapes Go.ChangeAt Go.RowKit
set_option linter.unusedVariables false

theorem ret2 {k k' : IntKind} {a b c d : Int} (h : a = b) (h' : c = d) : Ending.returned (.tuple #[.int k a, .int k' c]) = .returned (.tuple #[.int k b, .int k' d]) := by rw [h, h']
theorem bcell {W w1 : World} (hb : Below W.heap.size W w1) : (∀ b o, b < W.heap.size → w1.cell? ⟨b, o, none⟩ = W.cell? ⟨b, o, none⟩) ∧ (∀ b o, b < W.heap.size → w1.frozen? ⟨b, o, none⟩ = W.frozen? ⟨b, o, none⟩) :=
  ⟨fun b o h => hb.cell (p := ⟨b, o, none⟩) h, fun b o h => hb.frozen (p := ⟨b, o, none⟩) h⟩

def packV (s c p e : Int) : Int := if rightB s c p e = true then s + 4 * c + 1024 * (p + 1) + 262144 * e else 0
def packE (s c p e : Int) : Int := if rightB s c p e = true then 0 else 1

theorem or_join (k : Nat) (lo hi : Int) (h1 : 0 ≤ lo) (h2 : lo < 2 ^ k) (h3 : 0 ≤ hi) (h4 : hi % 2 ^ k = 0) (h5 : hi < 18446744073709551616) (h6 : lo < 18446744073709551616) : bits .or .u64 lo hi = lo + hi := by
  obtain ⟨a, rfl⟩ := Int.eq_ofNat_of_zero_le h1
  obtain ⟨b, rfl⟩ := Int.eq_ofNat_of_zero_le h3
  rw [u64_or_nat _ _ (by omega) (by omega)]
  have h2' : a < 2 ^ k := by exact_mod_cast h2
  have h4' : b % 2 ^ k = 0 := by exact_mod_cast h4
  have e : b = 2 ^ k * (b / 2 ^ k) := by have := Nat.div_add_mod b (2 ^ k); omega
  rw [e, Nat.or_comm, ← Nat.two_pow_add_eq_or_of_lt h2' (b / 2 ^ k)]
  push_cast
  omega

set_option maxHeartbeats 1000000 in
theorem pack_any (s c p e : Int) (w : World) :
    Calls Tryz.prog 161 #[.agg #[.int .i64 s, .int .i64 c, .int .i64 p, .int .i64 e]] w fun z w' => z = .returned (.tuple #[.int .u64 (packV s c p e), .int .i64 (packE s c p e)]) ∧ Below w.heap.size w w' := by
  by_cases hr : rightB s c p e = true
  · have hr' := of_decide_eq_true hr
    have HR := Lib.hid hr'
    have b1 : 0 ≤ s ∧ s ≤ 3 ∧ 0 ≤ c ∧ c ≤ 7 ∧ -1 ≤ p ∧ p ≤ 7 ∧ 0 ≤ e ∧ e ≤ 16777215 := by omega
    obtain ⟨b1, b2, b3, b4, b5, b6, b7, b8⟩ := b1
    clear hr'
    go_enter Tryz.func161, Tryz.ntmps161
    go_wp2_with fail
    refine (right_any _ _ _ _ _).mono ?_
    rintro z w1 ⟨rfl, k1⟩
    obtain ⟨q1, q2⟩ := bcell k1
    go_wp2
    go_ret2
    refine ⟨ret2 ?_ ?_, ((Below.refl _ _).alloc (Nat.le_refl _) _).trans (k1.mono (by simp))⟩
    · rw [or_join 2 s (c * 4) (by omega) (by omega) (by omega) (by omega) (by omega) (by omega), or_join 10 (s + c * 4) ((p + 1) * 1024) (by omega) (by omega) (by omega) (by omega) (by omega) (by omega),
        or_join 18 (s + c * 4 + (p + 1) * 1024) (e * 262144) (by omega) (by omega) (by omega) (by omega) (by omega) (by omega)]
      unfold packV
      rw [if_pos hr]
      omega
    · unfold packE
      rw [if_pos hr]
  · have hf : rightB s c p e = false := by simpa using hr
    clear hr
    go_enter Tryz.func161, Tryz.ntmps161
    go_wp2_with fail
    refine (right_any _ _ _ _ _).mono ?_
    rintro z w1 ⟨rfl, k1⟩
    go_wp2
    go_ret2
    refine ⟨ret2 ?_ ?_, ((Below.refl _ _).alloc (Nat.le_refl _) _).trans (k1.mono (by simp))⟩
    · unfold packV; rw [if_neg (by rw [hf]; decide)]
    · unfold packE; rw [if_neg (by rw [hf]; decide)]

set_option maxHeartbeats 1000000 in
theorem refpack_any (s c p e : Int) (w : World) :
    Calls Tryz.prog 121 #[.agg #[.int .i64 s, .int .i64 c, .int .i64 p, .int .i64 e]] w fun z w' => z = .returned (.tuple #[.int .u64 (packV s c p e), .int .i64 (packE s c p e)]) ∧ Below w.heap.size w w' := by
  by_cases hr : rightB s c p e = true
  · have hr' := of_decide_eq_true hr
    have b1 : 0 ≤ s ∧ s ≤ 3 ∧ 0 ≤ c ∧ c ≤ 7 ∧ -1 ≤ p ∧ p ≤ 7 ∧ 0 ≤ e ∧ e ≤ 16777215 := by omega
    obtain ⟨b1, b2, b3, b4, b5, b6, b7, b8⟩ := b1
    clear hr'
    go_enter Tryz.func121, Tryz.ntmps121
    go_wp2_with fail
    refine (refright_any _ _ _ _ _).mono ?_
    rintro z w1 ⟨rfl, k1⟩
    obtain ⟨q1, q2⟩ := bcell k1
    go_wp2
    go_ret2
    refine ⟨ret2 ?_ ?_, ((Below.refl _ _).alloc (Nat.le_refl _) _).trans (k1.mono (by simp))⟩
    · unfold packV; rw [if_pos hr]
    · unfold packE; rw [if_pos hr]
  · have hf : rightB s c p e = false := by simpa using hr
    clear hr
    go_enter Tryz.func121, Tryz.ntmps121
    go_wp2_with fail
    refine (refright_any _ _ _ _ _).mono ?_
    rintro z w1 ⟨rfl, k1⟩
    go_wp2
    go_ret2
    refine ⟨ret2 ?_ ?_, ((Below.refl _ _).alloc (Nat.le_refl _) _).trans (k1.mono (by simp))⟩
    · unfold packV; rw [if_neg (by rw [hf]; decide)]
    · unfold packE; rw [if_neg (by rw [hf]; decide)]

/-- Four parts, and an error. -/
structure R where
  s : Int
  c : Int
  p : Int
  e : Int
  x : Int
def no (x : Int) : R := ⟨0, 0, 0, 0, x⟩
theorem retR {r : R} {s c p e x : Int} (h : r = ⟨s, c, p, e, x⟩) :
    Ending.returned (.tuple #[.agg #[.int .i64 s, .int .i64 c, .int .i64 p, .int .i64 e], .int .i64 x]) = .returned (.tuple #[.agg #[.int .i64 r.s, .int .i64 r.c, .int .i64 r.p, .int .i64 r.e], .int .i64 r.x]) := by subst h; rfl

/-- What a word tells. -/
def unB (x : Int) : Bool := rightB (x % 4) (x / 4 % 256) (x / 1024 % 256 - 1) (x / 262144)
def unV (x : Int) : R := if unB x = true then ⟨x % 4, x / 4 % 256, x / 1024 % 256 - 1, x / 262144, 0⟩ else no 1

theorem wraps_u64 (n : Int) (h₀ : 0 ≤ n) (h₁ : n < 2 ^ 64) : IntKind.u64.wrap n = n := by rw [IntKind.wrap_u64]; omega
theorem mask_u64 (k : Nat) (c : Int) (h : 0 ≤ c) (h' : c ≤ 18446744073709551615) (hk : k ≤ 64 := by decide) : bits .and .u64 c (2 ^ k - 1) = c % 2 ^ k := by
  have := bits_mask .u64 64 (by decide) wraps_u64 k hk c h (by omega)
  simpa using this

set_option maxHeartbeats 1000000 in
theorem unpack_any (x : Int) (w : World) (x1 : 0 ≤ x) (x2 : x ≤ 18446744073709551615) :
    Calls Tryz.prog 85 #[.int .u64 x] w fun z w' => z = .returned (.tuple #[.agg #[.int .i64 (unV x).s, .int .i64 (unV x).c, .int .i64 (unV x).p, .int .i64 (unV x).e], .int .i64 (unV x).x]) ∧ Below w.heap.size w w' := by
  have m1 := mask_u64 2 x x1 (by omega)
  have m2 := mask_u64 8 (x / 4) (by omega) (by omega)
  have m3 := mask_u64 8 (x / 1024) (by omega) (by omega)
  simp only [Int.reducePow, Int.reduceSub] at m1 m2 m3
  by_cases hu : unB x = true
  · have hr : rightB (x % 4) (x / 4 % 256) (x / 1024 % 256 + -1) (x / 262144) = true := hu
    have HU := Lib.hid hu
    clear hu
    go_enter Tryz.func85, Tryz.ntmps85
    go_wp2_with fail
    refine (right_any _ _ _ _ _).mono ?_
    rintro z w1 ⟨rfl, k1⟩
    obtain ⟨q1, q2⟩ := bcell k1
    have hz : w.heap.size + 1 < w1.heap.size := by have := k1.size; simp at this; omega
    go_wp2
    have c0 : w1.cell? ⟨w.heap.size, 0, none⟩ = some (.int .i64 0) := by rw [q1 _ _ (by simp; try omega)]; simp [go_sem]
    have c1 : w1.cell? ⟨w.heap.size, 1, none⟩ = some (.int .i64 0) := by rw [q1 _ _ (by simp; try omega)]; simp [go_sem]
    have c2 : w1.cell? ⟨w.heap.size, 2, none⟩ = some (.int .i64 0) := by rw [q1 _ _ (by simp; try omega)]; simp [go_sem]
    have c3 : w1.cell? ⟨w.heap.size, 3, none⟩ = some (.int .i64 0) := by rw [q1 _ _ (by simp; try omega)]; simp [go_sem]
    refine bodyPost_ret (v := .tuple #[.agg #[.int .i64 (x % 4), .int .i64 (x / 4 % 256), .int .i64 (x / 1024 % 256 + -1), .int .i64 (x / 262144)], .int .i64 0]) (by simp [results, Tryz.results85, go_sem, c0, c1, c2, c3]) rfl ⟨retR ?_, ?_⟩
    · unfold unV; rw [if_pos HU.out]; rfl
    · exact (((((((Below.refl _ _).alloc (Nat.le_refl _) _).alloc (by simp) _).trans (k1.mono (by simp; omega))).setCell (by simp) _).setCell (by simp) _).setCell (by simp) _).setCell (by simp) _
  · have hr : rightB (x % 4) (x / 4 % 256) (x / 1024 % 256 + -1) (x / 262144) = false := (Bool.not_eq_true _).mp hu
    have HU := Lib.hid hu
    clear hu
    go_enter Tryz.func85, Tryz.ntmps85
    go_wp2_with fail
    refine (right_any _ _ _ _ _).mono ?_
    rintro z w1 ⟨rfl, k1⟩
    obtain ⟨q1, q2⟩ := bcell k1
    have hz : w.heap.size + 1 < w1.heap.size := by have := k1.size; simp at this; omega
    go_wp2
    have c0 : w1.cell? ⟨w.heap.size, 0, none⟩ = some (.int .i64 0) := by rw [q1 _ _ (by simp; try omega)]; simp [go_sem]
    have c1 : w1.cell? ⟨w.heap.size, 1, none⟩ = some (.int .i64 0) := by rw [q1 _ _ (by simp; try omega)]; simp [go_sem]
    have c2 : w1.cell? ⟨w.heap.size, 2, none⟩ = some (.int .i64 0) := by rw [q1 _ _ (by simp; try omega)]; simp [go_sem]
    have c3 : w1.cell? ⟨w.heap.size, 3, none⟩ = some (.int .i64 0) := by rw [q1 _ _ (by simp; try omega)]; simp [go_sem]
    refine bodyPost_ret (v := .tuple #[.agg #[.int .i64 0, .int .i64 0, .int .i64 0, .int .i64 0], .int .i64 1]) (by simp [results, Tryz.results85, go_sem, c0, c1, c2, c3]) rfl ⟨retR ?_, ?_⟩
    · unfold unV; rw [if_neg HU.out]; rfl
    · exact (((((((Below.refl _ _).alloc (Nat.le_refl _) _).alloc (by simp) _).trans (k1.mono (by simp; omega))).setCell (by simp) _).setCell (by simp) _).setCell (by simp) _).setCell (by simp) _
end Go.Proofs.YteakglkagmghpaaGreat.Ctl

/-
  Contracts of ctl.Enter, Leave, Open and Hold and of the document's own answers; of the document's Unpack and Fit.
-/
namespace Go.Proofs.YteakglkagmghpaaGreat.Ctl
open Go.ChangeShapes Go.WideShapes Go.ChangeAt Go.RowKit
set_option linter.unusedVariables false

theorem un_parts (x : Int) (x1 : 0 ≤ x) (x2 : x ≤ 18446744073709551615) :
    (unB x = true ∧ rightB (x % 4) (x / 4 % 256) (x / 1024 % 256 - 1) (x / 262144 % 16777216) = true ∧ packV (x % 4) (x / 4 % 256) (x / 1024 % 256 - 1) (x / 262144 % 16777216) = x ∧ packE (x % 4) (x / 4 % 256) (x / 1024 % 256 - 1) (x / 262144 % 16777216) = 0 ∧ x / 262144 % 16777216 = x / 262144) ∨
    (¬ unB x = true ∧ ¬ packV (x % 4) (x / 4 % 256) (x / 1024 % 256 - 1) (x / 262144 % 16777216) = x ∧ packE (x % 4) (x / 4 % 256) (x / 1024 % 256 - 1) (x / 262144 % 16777216) = 0) ∨
    (¬ unB x = true ∧ packE (x % 4) (x / 4 % 256) (x / 1024 % 256 - 1) (x / 262144 % 16777216) = 1) := by
  by_cases hu : unB x = true
  · have hu' := of_decide_eq_true (show decide _ = true from hu)
    have e : x / 262144 % 16777216 = x / 262144 := by omega
    have hr : rightB (x % 4) (x / 4 % 256) (x / 1024 % 256 - 1) (x / 262144) = true := hu
    refine .inl ⟨hu, ?_, ?_, ?_, e⟩
    · rw [e]; exact hr
    · rw [e]; unfold packV; rw [if_pos hr]; omega
    · rw [e]; unfold packE; rw [if_pos hr]
  · by_cases hr : rightB (x % 4) (x / 4 % 256) (x / 1024 % 256 - 1) (x / 262144 % 16777216) = true
    · refine .inr (.inl ⟨hu, ?_, ?_⟩)
      · unfold packV; rw [if_pos hr]
        intro h
        have e : x / 262144 % 16777216 = x / 262144 := by omega
        rw [e] at hr
        exact hu hr
      · unfold packE; rw [if_pos hr]
    · refine .inr (.inr ⟨hu, ?_⟩)
      unfold packE; rw [if_neg hr]

set_option maxHeartbeats 1000000 in
theorem refunpack_any (x : Int) (w : World) (x1 : 0 ≤ x) (x2 : x ≤ 18446744073709551615) :
    Calls Tryz.prog 86 #[.int .u64 x] w fun z w' => z = .returned (.tuple #[.agg #[.int .i64 (unV x).s, .int .i64 (unV x).c, .int .i64 (unV x).p, .int .i64 (unV x).e], .int .i64 (unV x).x]) ∧ Below w.heap.size w w' := by
  rcases un_parts x x1 x2 with ⟨hu, hr, hv, he, hm⟩ | ⟨hu, hv, he⟩ | ⟨hu, he⟩
  · have HU := Lib.hid hu
    have HE := Lib.hid he
    clear hu he
    have HV := Lib.hid hv
    have HM := Lib.hid hm
    clear hv hm hr
    go_enter Tryz.func86, Tryz.ntmps86
    go_wp2_with fail
    refine (refpack_any _ _ _ _ _).mono ?_
    rintro z w1 ⟨rfl, k1⟩
    rw [HE.out, HV.out]
    obtain ⟨q1, q2⟩ := bcell k1
    have hz : w.heap.size + 1 < w1.heap.size := by have := k1.size; simp at this; omega
    go_wp2
    have c0 : w1.cell? ⟨w.heap.size, 0, none⟩ = some (.int .i64 0) := by rw [q1 _ _ (by simp; try omega)]; simp [go_sem]
    have c1 : w1.cell? ⟨w.heap.size, 1, none⟩ = some (.int .i64 0) := by rw [q1 _ _ (by simp; try omega)]; simp [go_sem]
    have c2 : w1.cell? ⟨w.heap.size, 2, none⟩ = some (.int .i64 0) := by rw [q1 _ _ (by simp; try omega)]; simp [go_sem]
    have c3 : w1.cell? ⟨w.heap.size, 3, none⟩ = some (.int .i64 0) := by rw [q1 _ _ (by simp; try omega)]; simp [go_sem]
    refine bodyPost_ret (v := .tuple #[.agg #[.int .i64 (x % 4), .int .i64 (x / 4 % 256), .int .i64 (x / 1024 % 256 - 1), .int .i64 (x / 262144 % 16777216)], .int .i64 0]) (by simp [results, Tryz.results86, go_sem, c0, c1, c2, c3]) rfl ⟨retR ?_, ?_⟩
    · unfold unV; rw [if_pos HU.out, HM.out]
    · exact (((((((Below.refl _ _).alloc (Nat.le_refl _) _).alloc (by simp) _).trans (k1.mono (by simp; omega))).setCell (by simp) _).setCell (by simp) _).setCell (by simp) _).setCell (by simp) _
  · have HU := Lib.hid hu
    have HE := Lib.hid he
    clear hu he
    have tv : (packV (x % 4) (x / 4 % 256) (x / 1024 % 256 - 1) (x / 262144 % 16777216) != x) = true := by simpa using hv
    clear hv
    go_enter Tryz.func86, Tryz.ntmps86
    go_wp2_with fail
    refine (refpack_any _ _ _ _ _).mono ?_
    rintro z w1 ⟨rfl, k1⟩
    rw [HE.out]
    obtain ⟨q1, q2⟩ := bcell k1
    have hz : w.heap.size + 1 < w1.heap.size := by have := k1.size; simp at this; omega
    go_wp2
    have c0 : w1.cell? ⟨w.heap.size, 0, none⟩ = some (.int .i64 0) := by rw [q1 _ _ (by simp; try omega)]; simp [go_sem]
    have c1 : w1.cell? ⟨w.heap.size, 1, none⟩ = some (.int .i64 0) := by rw [q1 _ _ (by simp; try omega)]; simp [go_sem]
    have c2 : w1.cell? ⟨w.heap.size, 2, none⟩ = some (.int .i64 0) := by rw [q1 _ _ (by simp; try omega)]; simp [go_sem]
    have c3 : w1.cell? ⟨w.heap.size, 3, none⟩ = some (.int .i64 0) := by rw [q1 _ _ (by simp; try omega)]; simp [go_sem]
    refine bodyPost_ret (v := .tuple #[.agg #[.int .i64 0, .int .i64 0, .int .i64 0, .int .i64 0], .int .i64 1]) (by simp [results, Tryz.results86, go_sem, c0, c1, c2, c3]) rfl ⟨retR ?_, ?_⟩
    · unfold unV; rw [if_neg HU.out]; rfl
    · exact (((((((Below.refl _ _).alloc (Nat.le_refl _) _).alloc (by simp) _).trans (k1.mono (by simp; omega))).setCell (by simp) _).setCell (by simp) _).setCell (by simp) _).setCell (by simp) _
  · have HU := Lib.hid hu
    have HE := Lib.hid he
    clear hu he
    go_enter Tryz.func86, Tryz.ntmps86
    go_wp2_with fail
    refine (refpack_any _ _ _ _ _).mono ?_
    rintro z w1 ⟨rfl, k1⟩
    rw [HE.out]
    obtain ⟨q1, q2⟩ := bcell k1
    have hz : w.heap.size + 1 < w1.heap.size := by have := k1.size; simp at this; omega
    go_wp2
    have c0 : w1.cell? ⟨w.heap.size, 0, none⟩ = some (.int .i64 0) := by rw [q1 _ _ (by simp; try omega)]; simp [go_sem]
    have c1 : w1.cell? ⟨w.heap.size, 1, none⟩ = some (.int .i64 0) := by rw [q1 _ _ (by simp; try omega)]; simp [go_sem]
    have c2 : w1.cell? ⟨w.heap.size, 2, none⟩ = some (.int .i64 0) := by rw [q1 _ _ (by simp; try omega)]; simp [go_sem]
    have c3 : w1.cell? ⟨w.heap.size, 3, none⟩ = some (.int .i64 0) := by rw [q1 _ _ (by simp; try omega)]; simp [go_sem]
    refine bodyPost_ret (v := .tuple #[.agg #[.int .i64 0, .int .i64 0, .int .i64 0, .int .i64 0], .int .i64 1]) (by simp [results, Tryz.results86, go_sem, c0, c1, c2, c3]) rfl ⟨retR ?_, ?_⟩
    · unfold unV; rw [if_neg HU.out]; rfl
    · exact (((((((Below.refl _ _).alloc (Nat.le_refl _) _).alloc (by simp) _).trans (k1.mono (by simp; omega))).setCell (by simp) _).setCell (by simp) _).setCell (by simp) _).setCell (by simp) _

def askV (s c p e t : Int) : Int := if rightB s c p e = true then (if s = t then 0 else 11) else 1
end Go.Proofs.YteakglkagmghpaaGreat.Ctl

/-
  Contracts of ctl.Enter and of the document's own answer.
-/
namespace Go.Proofs.YteakglkagmghpaaGreat.Ctl
open Go.ChangeShapes Go.WideShapes Go.ChangeAt Go.RowKit
set_option linter.unusedVariables false

def entV (s c p e f : Int) : R := if rightB s c p e = true ∧ 0 ≤ f ∧ f ≤ 7 then (if s = 0 then no 11 else if s = 3 then no 10 else if s = 1 then ⟨2, 1, f, e, 0⟩ else if p = f then (if c = 7 then no 16 else ⟨2, c + 1, f, e, 0⟩) else no 15) else no 1

theorem ent_cases (s c p e f : Int) :
    (rightB s c p e = false ∧ entV s c p e f = no 1) ∨
    (rightB s c p e = true ∧ (f < 0 ∨ 7 < f) ∧ entV s c p e f = no 1) ∨
    (rightB s c p e = true ∧ 0 ≤ f ∧ f ≤ 7 ∧ s = 0 ∧ entV s c p e f = no 11) ∨
    (rightB s c p e = true ∧ 0 ≤ f ∧ f ≤ 7 ∧ s = 3 ∧ entV s c p e f = no 10) ∨
    (rightB s c p e = true ∧ 0 ≤ f ∧ f ≤ 7 ∧ s = 1 ∧ entV s c p e f = ⟨2, 1, f, e, 0⟩) ∨
    (rightB s c p e = true ∧ 0 ≤ f ∧ f ≤ 7 ∧ s = 2 ∧ ¬ p = f ∧ entV s c p e f = no 15) ∨
    (rightB s c p e = true ∧ 0 ≤ f ∧ f ≤ 7 ∧ s = 2 ∧ p = f ∧ c = 7 ∧ entV s c p e f = no 16) ∨
    (rightB s c p e = true ∧ 0 ≤ f ∧ f ≤ 7 ∧ s = 2 ∧ p = f ∧ 1 ≤ c ∧ c ≤ 6 ∧ entV s c p e f = ⟨2, c + 1, f, e, 0⟩) := by
  by_cases hr : rightB s c p e = true
  · have hr' := of_decide_eq_true (show decide _ = true from hr)
    by_cases hf : 0 ≤ f ∧ f ≤ 7
    · unfold entV
      rw [if_pos ⟨hr, hf⟩]
      rcases (show s = 0 ∨ s = 3 ∨ s = 1 ∨ s = 2 by omega) with rfl | rfl | rfl | rfl
      · exact .inr (.inr (.inl ⟨hr, hf.1, hf.2, rfl, rfl⟩))
      · exact .inr (.inr (.inr (.inl ⟨hr, hf.1, hf.2, rfl, rfl⟩)))
      · exact .inr (.inr (.inr (.inr (.inl ⟨hr, hf.1, hf.2, rfl, rfl⟩))))
      · by_cases hp : p = f
        · by_cases hc : c = 7
          · exact .inr (.inr (.inr (.inr (.inr (.inr (.inl ⟨hr, hf.1, hf.2, rfl, hp, hc, by rw [if_neg (by omega), if_neg (by omega), if_neg (by omega), if_pos hp, if_pos hc]⟩))))))
          · exact .inr (.inr (.inr (.inr (.inr (.inr (.inr ⟨hr, hf.1, hf.2, rfl, hp, by omega, by omega, by rw [if_neg (by omega), if_neg (by omega), if_neg (by omega), if_pos hp, if_neg hc]⟩))))))
        · exact .inr (.inr (.inr (.inr (.inr (.inl ⟨hr, hf.1, hf.2, rfl, hp, by rw [if_neg (by omega), if_neg (by omega), if_neg (by omega), if_neg hp]⟩)))))
    · exact .inr (.inl ⟨hr, by omega, by unfold entV; rw [if_neg (fun h => hf h.2)]⟩)
  · exact .inl ⟨by simpa using hr, by unfold entV; rw [if_neg (fun h => hr h.1)]⟩

set_option maxHeartbeats 2000000 in
theorem refenter_any (s c p e f : Int) (w : World) :
    Calls Tryz.prog 155 #[.agg #[.int .i64 s, .int .i64 c, .int .i64 p, .int .i64 e], .int .i64 f] w fun z w' => z = .returned (.tuple #[.agg #[.int .i64 (entV s c p e f).s, .int .i64 (entV s c p e f).c, .int .i64 (entV s c p e f).p, .int .i64 (entV s c p e f).e], .int .i64 (entV s c p e f).x]) ∧ Below w.heap.size w w' := by
  rcases ent_cases s c p e f with ⟨hr, he⟩ | ⟨hr, hf, he⟩ | ⟨hr, f1, f2, rfl, he⟩ | ⟨hr, f1, f2, rfl, he⟩ | ⟨hr, f1, f2, rfl, he⟩ | ⟨hr, f1, f2, rfl, hp, he⟩ | ⟨hr, f1, f2, rfl, rfl, rfl, he⟩ | ⟨hr, f1, f2, rfl, rfl, hc1, hc2, he⟩
  · have HE := Lib.hid he
    clear he
    go_enter Tryz.func155, Tryz.ntmps155
    go_wp2_with fail
    refine (refright_any _ _ _ _ _).mono ?_
    rintro z w1 ⟨rfl, k1⟩
    obtain ⟨q1, q2⟩ := bcell k1
    have hz : w.heap.size + 1 < w1.heap.size := by have := k1.size; simp at this; omega
    have c0 : w1.cell? ⟨w.heap.size + 1, 0, none⟩ = some (.int .i64 0) := by rw [q1 _ _ (by simp; try omega)]; simp [go_sem]
    have c1 : w1.cell? ⟨w.heap.size + 1, 1, none⟩ = some (.int .i64 0) := by rw [q1 _ _ (by simp; try omega)]; simp [go_sem]
    have c2 : w1.cell? ⟨w.heap.size + 1, 2, none⟩ = some (.int .i64 0) := by rw [q1 _ _ (by simp; try omega)]; simp [go_sem]
    have c3 : w1.cell? ⟨w.heap.size + 1, 3, none⟩ = some (.int .i64 0) := by rw [q1 _ _ (by simp; try omega)]; simp [go_sem]
    go_wp2
    refine bodyPost_ret (v := .tuple #[.agg #[.int .i64 0, .int .i64 0, .int .i64 0, .int .i64 0], .int .i64 1]) (by simp [results, Tryz.results155, go_sem, c0, c1, c2, c3]) rfl ⟨retR ?_, ?_⟩
    · rw [HE.out]; rfl
    · exact (((((((Below.refl _ _).alloc (Nat.le_refl _) _).alloc (by simp) _).trans (k1.mono (by simp; omega))).setCell (by simp) _).setCell (by simp) _).setCell (by simp) _).setCell (by simp) _
  · have HE := Lib.hid he
    clear he
    rcases hf with hf | hf
    all_goals
      go_enter Tryz.func155, Tryz.ntmps155
      go_wp2_with fail
      refine (refright_any _ _ _ _ _).mono ?_
      rintro z w1 ⟨rfl, k1⟩
      obtain ⟨q1, q2⟩ := bcell k1
      have hz : w.heap.size + 1 < w1.heap.size := by have := k1.size; simp at this; omega
      have c0 : w1.cell? ⟨w.heap.size + 1, 0, none⟩ = some (.int .i64 0) := by rw [q1 _ _ (by simp; try omega)]; simp [go_sem]
      have c1 : w1.cell? ⟨w.heap.size + 1, 1, none⟩ = some (.int .i64 0) := by rw [q1 _ _ (by simp; try omega)]; simp [go_sem]
      have c2 : w1.cell? ⟨w.heap.size + 1, 2, none⟩ = some (.int .i64 0) := by rw [q1 _ _ (by simp; try omega)]; simp [go_sem]
      have c3 : w1.cell? ⟨w.heap.size + 1, 3, none⟩ = some (.int .i64 0) := by rw [q1 _ _ (by simp; try omega)]; simp [go_sem]
      go_wp2
      refine bodyPost_ret (v := .tuple #[.agg #[.int .i64 0, .int .i64 0, .int .i64 0, .int .i64 0], .int .i64 1]) (by simp [results, Tryz.results155, go_sem, c0, c1, c2, c3]) rfl ⟨retR ?_, ?_⟩
      · rw [HE.out]; rfl
      · exact (((((((Below.refl _ _).alloc (Nat.le_refl _) _).alloc (by simp) _).trans (k1.mono (by simp; omega))).setCell (by simp) _).setCell (by simp) _).setCell (by simp) _).setCell (by simp) _
  · have HE := Lib.hid he
    clear he
    go_enter Tryz.func155, Tryz.ntmps155
    go_wp2_with fail
    refine (refright_any _ _ _ _ _).mono ?_
    rintro z w1 ⟨rfl, k1⟩
    obtain ⟨q1, q2⟩ := bcell k1
    have hz : w.heap.size + 1 < w1.heap.size := by have := k1.size; simp at this; omega
    have c0 : w1.cell? ⟨w.heap.size + 1, 0, none⟩ = some (.int .i64 0) := by rw [q1 _ _ (by simp; try omega)]; simp [go_sem]
    have c1 : w1.cell? ⟨w.heap.size + 1, 1, none⟩ = some (.int .i64 0) := by rw [q1 _ _ (by simp; try omega)]; simp [go_sem]
    have c2 : w1.cell? ⟨w.heap.size + 1, 2, none⟩ = some (.int .i64 0) := by rw [q1 _ _ (by simp; try omega)]; simp [go_sem]
    have c3 : w1.cell? ⟨w.heap.size + 1, 3, none⟩ = some (.int .i64 0) := by rw [q1 _ _ (by simp; try omega)]; simp [go_sem]
    go_wp2
    refine bodyPost_ret (v := .tuple #[.agg #[.int .i64 0, .int .i64 0, .int .i64 0, .int .i64 0], .int .i64 11]) (by simp [results, Tryz.results155, go_sem, c0, c1, c2, c3]) rfl ⟨retR ?_, ?_⟩
    · rw [HE.out]; rfl
    · exact (((((((Below.refl _ _).alloc (Nat.le_refl _) _).alloc (by simp) _).trans (k1.mono (by simp; omega))).setCell (by simp) _).setCell (by simp) _).setCell (by simp) _).setCell (by simp) _
  · have HE := Lib.hid he
    clear he
    go_enter Tryz.func155, Tryz.ntmps155
    go_wp2_with fail
    refine (refright_any _ _ _ _ _).mono ?_
    rintro z w1 ⟨rfl, k1⟩
    obtain ⟨q1, q2⟩ := bcell k1
    have hz : w.heap.size + 1 < w1.heap.size := by have := k1.size; simp at this; omega
    have c0 : w1.cell? ⟨w.heap.size + 1, 0, none⟩ = some (.int .i64 0) := by rw [q1 _ _ (by simp; try omega)]; simp [go_sem]
    have c1 : w1.cell? ⟨w.heap.size + 1, 1, none⟩ = some (.int .i64 0) := by rw [q1 _ _ (by simp; try omega)]; simp [go_sem]
    have c2 : w1.cell? ⟨w.heap.size + 1, 2, none⟩ = some (.int .i64 0) := by rw [q1 _ _ (by simp; try omega)]; simp [go_sem]
    have c3 : w1.cell? ⟨w.heap.size + 1, 3, none⟩ = some (.int .i64 0) := by rw [q1 _ _ (by simp; try omega)]; simp [go_sem]
    go_wp2
    refine bodyPost_ret (v := .tuple #[.agg #[.int .i64 0, .int .i64 0, .int .i64 0, .int .i64 0], .int .i64 10]) (by simp [results, Tryz.results155, go_sem, c0, c1, c2, c3]) rfl ⟨retR ?_, ?_⟩
    · rw [HE.out]; rfl
    · exact (((((((Below.refl _ _).alloc (Nat.le_refl _) _).alloc (by simp) _).trans (k1.mono (by simp; omega))).setCell (by simp) _).setCell (by simp) _).setCell (by simp) _).setCell (by simp) _
  · have HE := Lib.hid he
    clear he
    go_enter Tryz.func155, Tryz.ntmps155
    go_wp2_with fail
    refine (refright_any _ _ _ _ _).mono ?_
    rintro z w1 ⟨rfl, k1⟩
    obtain ⟨q1, q2⟩ := bcell k1
    have hz : w.heap.size + 1 < w1.heap.size := by have := k1.size; simp at this; omega
    have c0 : w1.cell? ⟨w.heap.size + 1, 0, none⟩ = some (.int .i64 0) := by rw [q1 _ _ (by simp; try omega)]; simp [go_sem]
    have c1 : w1.cell? ⟨w.heap.size + 1, 1, none⟩ = some (.int .i64 0) := by rw [q1 _ _ (by simp; try omega)]; simp [go_sem]
    have c2 : w1.cell? ⟨w.heap.size + 1, 2, none⟩ = some (.int .i64 0) := by rw [q1 _ _ (by simp; try omega)]; simp [go_sem]
    have c3 : w1.cell? ⟨w.heap.size + 1, 3, none⟩ = some (.int .i64 0) := by rw [q1 _ _ (by simp; try omega)]; simp [go_sem]
    have d0 : w1.cell? ⟨w.heap.size, 0, none⟩ = some (.int .i64 1) := by rw [q1 _ _ (by simp; try omega)]; simp [go_sem]
    have d1 : w1.cell? ⟨w.heap.size, 1, none⟩ = some (.int .i64 c) := by rw [q1 _ _ (by simp; try omega)]; simp [go_sem]
    have d2 : w1.cell? ⟨w.heap.size, 2, none⟩ = some (.int .i64 p) := by rw [q1 _ _ (by simp; try omega)]; simp [go_sem]
    have d3 : w1.cell? ⟨w.heap.size, 3, none⟩ = some (.int .i64 e) := by rw [q1 _ _ (by simp; try omega)]; simp [go_sem]
    go_wp2
    refine bodyPost_ret (v := .tuple #[.agg #[.int .i64 2, .int .i64 1, .int .i64 f, .int .i64 e], .int .i64 0]) (by simp [results, Tryz.results155, go_sem, c0, c1, c2, c3]) rfl ⟨retR ?_, ?_⟩
    · rw [HE.out]
    · exact (((((((Below.refl _ _).alloc (Nat.le_refl _) _).alloc (by simp) _).trans (k1.mono (by simp; omega))).setCell (by simp) _).setCell (by simp) _).setCell (by simp) _).setCell (by simp) _
  · have HE := Lib.hid he
    clear he
    have tp : (p != f) = true := by simpa using hp
    clear hp
    go_enter Tryz.func155, Tryz.ntmps155
    go_wp2_with fail
    refine (refright_any _ _ _ _ _).mono ?_
    rintro z w1 ⟨rfl, k1⟩
    obtain ⟨q1, q2⟩ := bcell k1
    have hz : w.heap.size + 1 < w1.heap.size := by have := k1.size; simp at this; omega
    have c0 : w1.cell? ⟨w.heap.size + 1, 0, none⟩ = some (.int .i64 0) := by rw [q1 _ _ (by simp; try omega)]; simp [go_sem]
    have c1 : w1.cell? ⟨w.heap.size + 1, 1, none⟩ = some (.int .i64 0) := by rw [q1 _ _ (by simp; try omega)]; simp [go_sem]
    have c2 : w1.cell? ⟨w.heap.size + 1, 2, none⟩ = some (.int .i64 0) := by rw [q1 _ _ (by simp; try omega)]; simp [go_sem]
    have c3 : w1.cell? ⟨w.heap.size + 1, 3, none⟩ = some (.int .i64 0) := by rw [q1 _ _ (by simp; try omega)]; simp [go_sem]
    go_wp2
    refine bodyPost_ret (v := .tuple #[.agg #[.int .i64 0, .int .i64 0, .int .i64 0, .int .i64 0], .int .i64 15]) (by simp [results, Tryz.results155, go_sem, c0, c1, c2, c3]) rfl ⟨retR ?_, ?_⟩
    · rw [HE.out]; rfl
    · exact (((((((Below.refl _ _).alloc (Nat.le_refl _) _).alloc (by simp) _).trans (k1.mono (by simp; omega))).setCell (by simp) _).setCell (by simp) _).setCell (by simp) _).setCell (by simp) _
  · have HE := Lib.hid he
    clear he
    go_enter Tryz.func155, Tryz.ntmps155
    go_wp2_with fail
    refine (refright_any _ _ _ _ _).mono ?_
    rintro z w1 ⟨rfl, k1⟩
    obtain ⟨q1, q2⟩ := bcell k1
    have hz : w.heap.size + 1 < w1.heap.size := by have := k1.size; simp at this; omega
    have c0 : w1.cell? ⟨w.heap.size + 1, 0, none⟩ = some (.int .i64 0) := by rw [q1 _ _ (by simp; try omega)]; simp [go_sem]
    have c1 : w1.cell? ⟨w.heap.size + 1, 1, none⟩ = some (.int .i64 0) := by rw [q1 _ _ (by simp; try omega)]; simp [go_sem]
    have c2 : w1.cell? ⟨w.heap.size + 1, 2, none⟩ = some (.int .i64 0) := by rw [q1 _ _ (by simp; try omega)]; simp [go_sem]
    have c3 : w1.cell? ⟨w.heap.size + 1, 3, none⟩ = some (.int .i64 0) := by rw [q1 _ _ (by simp; try omega)]; simp [go_sem]
    go_wp2
    refine bodyPost_ret (v := .tuple #[.agg #[.int .i64 0, .int .i64 0, .int .i64 0, .int .i64 0], .int .i64 16]) (by simp [results, Tryz.results155, go_sem, c0, c1, c2, c3]) rfl ⟨retR ?_, ?_⟩
    · rw [HE.out]; rfl
    · exact (((((((Below.refl _ _).alloc (Nat.le_refl _) _).alloc (by simp) _).trans (k1.mono (by simp; omega))).setCell (by simp) _).setCell (by simp) _).setCell (by simp) _).setCell (by simp) _
  · have HE := Lib.hid he
    clear he
    have tc : (c == 7) = false := by simp; omega
    go_enter Tryz.func155, Tryz.ntmps155
    go_wp2_with fail
    refine (refright_any _ _ _ _ _).mono ?_
    rintro z w1 ⟨rfl, k1⟩
    obtain ⟨q1, q2⟩ := bcell k1
    have hz : w.heap.size + 1 < w1.heap.size := by have := k1.size; simp at this; omega
    have c0 : w1.cell? ⟨w.heap.size + 1, 0, none⟩ = some (.int .i64 0) := by rw [q1 _ _ (by simp; try omega)]; simp [go_sem]
    have c1 : w1.cell? ⟨w.heap.size + 1, 1, none⟩ = some (.int .i64 0) := by rw [q1 _ _ (by simp; try omega)]; simp [go_sem]
    have c2 : w1.cell? ⟨w.heap.size + 1, 2, none⟩ = some (.int .i64 0) := by rw [q1 _ _ (by simp; try omega)]; simp [go_sem]
    have c3 : w1.cell? ⟨w.heap.size + 1, 3, none⟩ = some (.int .i64 0) := by rw [q1 _ _ (by simp; try omega)]; simp [go_sem]
    have d0 : w1.cell? ⟨w.heap.size, 0, none⟩ = some (.int .i64 2) := by rw [q1 _ _ (by simp; try omega)]; simp [go_sem]
    have d1 : w1.cell? ⟨w.heap.size, 1, none⟩ = some (.int .i64 c) := by rw [q1 _ _ (by simp; try omega)]; simp [go_sem]
    have d2 : w1.cell? ⟨w.heap.size, 2, none⟩ = some (.int .i64 p) := by rw [q1 _ _ (by simp; try omega)]; simp [go_sem]
    have d3 : w1.cell? ⟨w.heap.size, 3, none⟩ = some (.int .i64 e) := by rw [q1 _ _ (by simp; try omega)]; simp [go_sem]
    go_wp2
    refine bodyPost_ret (v := .tuple #[.agg #[.int .i64 2, .int .i64 (c + 1), .int .i64 p, .int .i64 e], .int .i64 0]) (by simp [results, Tryz.results155, go_sem, c0, c1, c2, c3]) rfl ⟨retR ?_, ?_⟩
    · rw [HE.out]
    · exact ((((((((Below.refl _ _).alloc (Nat.le_refl _) _).alloc (by simp) _).trans (k1.mono (by simp; omega))).setCell (by simp) _).setCell (by simp) _).setCell (by simp) _).setCell (by simp) _).setCell (by simp) _
end Go.Proofs.YteakglkagmghpaaGreat.Ctl

/-
  Contracts of ctl.Leave, Open and Hold, of the document's own answers, and of its Fit.
-/
namespace Go.Proofs.YteakglkagmghpaaGreat.Ctl
open Go.ChangeShapes Go.WideShapes Go.ChangeAt Go.RowKit
set_option linter.unusedVariables false

def leV (s c p e : Int) : R := if rightB s c p e = true then (if s = 2 then (if c = 1 then ⟨3, 0, p, e, 0⟩ else ⟨2, c - 1, p, e, 0⟩) else no 11) else no 1
def opV (s c p e : Int) : R := if rightB s c p e = true then (if s = 3 then ⟨1, 0, -1, (e + 1) % 16777216, 0⟩ else no 11) else no 1
def hoV (s c p e : Int) : R := if rightB s c p e = true then (if s = 3 then ⟨2, 1, p, e, 0⟩ else no 11) else no 1
theorem op_cases (s c p e : Int) :
    (rightB s c p e = false ∧ askV s c p e 3 = 1 ∧ opV s c p e = no 1 ∧ hoV s c p e = no 1) ∨
    (rightB s c p e = true ∧ ¬ s = 3 ∧ askV s c p e 3 = 11 ∧ opV s c p e = no 11 ∧ hoV s c p e = no 11) ∨
    (rightB s c p e = true ∧ s = 3 ∧ c = 0 ∧ 0 ≤ e ∧ e ≤ 16777215 ∧ askV s c p e 3 = 0 ∧ opV s c p e = ⟨1, 0, -1, (e + 1) % 16777216, 0⟩ ∧ hoV s c p e = ⟨2, 1, p, e, 0⟩) := by
  by_cases hr : rightB s c p e = true
  · have hr' := of_decide_eq_true (show decide _ = true from hr)
    unfold askV opV hoV
    rw [if_pos hr, if_pos hr, if_pos hr]
    by_cases hs : s = 3
    · rw [if_pos hs, if_pos hs, if_pos hs]
      exact .inr (.inr ⟨hr, hs, by omega, by omega, by omega, rfl, rfl, rfl⟩)
    · rw [if_neg hs, if_neg hs, if_neg hs]
      exact .inr (.inl ⟨hr, hs, rfl, rfl, rfl⟩)
  · exact .inl ⟨by simpa using hr, by unfold askV; rw [if_neg hr], by unfold opV; rw [if_neg hr], by unfold hoV; rw [if_neg hr]⟩

end Go.Proofs.YteakglkagmghpaaGreat.Ctl

/-
  A mask of an integer of 64 bits, below 0 too; the contract of the document's Fit.
-/
namespace Go.Proofs.YteakglkagmghpaaGreat.Ctl
open Go.ChangeShapes Go.WideShapes Go.ChangeAt Go.RowKit
set_option linter.unusedVariables false

theorem mask_i64 (k : Nat) (hk : k ≤ 62) (x : Int) : bits .and .i64 x (2 ^ k - 1) = x % 2 ^ k := by
  have hpos : 0 < 2 ^ k := Nat.two_pow_pos k
  have hle : 2 ^ k ≤ 2 ^ 62 := Nat.pow_le_pow_right (by decide) hk
  have hc : ((2 : Int) ^ k - 1) = ((2 ^ k - 1 : Nat) : Int) := by rw [Int.natCast_sub hpos]; simp
  rw [hc]
  show IntKind.i64.wrap ((BitVec.ofInt 64 x &&& BitVec.ofInt 64 ((2 ^ k - 1 : Nat) : Int)).toNat : Int) = _
  have e : (BitVec.ofInt 64 ((2 ^ k - 1 : Nat) : Int)).toNat = 2 ^ k - 1 := by
    rw [BitVec.ofInt_natCast, BitVec.toNat_ofNat, Nat.mod_eq_of_lt (by omega)]
  rw [BitVec.toNat_and, e, Nat.and_two_pow_sub_one_eq_mod, BitVec.toNat_ofInt]
  have h1 : (((x % ((2 ^ 64 : Nat) : Int)).toNat % 2 ^ k : Nat) : Int) = x % 2 ^ k := by
    rw [Int.natCast_emod, Int.toNat_of_nonneg (Int.emod_nonneg _ (by decide))]
    have hd : ((2 ^ k : Nat) : Int) ∣ ((2 ^ 64 : Nat) : Int) := Int.natCast_dvd_natCast.2 (Nat.pow_dvd_pow 2 (by omega))
    rw [Int.emod_emod_of_dvd _ hd, Int.natCast_pow]
    rfl
  rw [h1, IntKind.wrap_i64]
  have h2 : (2 : Int) ^ k ≤ 2 ^ 62 := by exact_mod_cast hle
  have h3 : (0 : Int) < 2 ^ k := by exact_mod_cast hpos
  have h4 := Int.emod_nonneg x (show (2 : Int) ^ k ≠ 0 by omega)
  have h5 := Int.emod_lt_of_pos x h3
  omega

def fitP (s p : Int) : Int := if 2 ≤ s % 4 then p % 16 % 9 - 1 else -1
end Go.Proofs.YteakglkagmghpaaGreat.Ctl
