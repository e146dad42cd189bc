/-
  Contracts of the document's own answers for layer 6 (ref), for a seat that has no package ref: of its Pack, Unpack and Fit.
-/
import Derived.Test.YtggbchjbiifpoaaSt
import Derived.RegionTactic
import Derived.BigRegion
import Derived.Deep.QuietTactic
import Derived.BigQuiet
import Derived.Laws.BitsAllLaws
namespace Go.Proofs.Ytggbchjbiifpoaa.R6
open Go.ChangeShapes Go.WideShapes Go.ChangeAt Go.RowKit
open Held
set_option linter.unusedVariables false

/-- A handle and an error; a Ref and an error. -/
structure Y where
  n : Int
  err : Int
structure X where
  s : Int
  e : Int
  a : Int
  err : Int
def rightB (s e a : Int) : Bool := decide (0 ≤ s ∧ s ≤ 7 ∧ 0 ≤ e ∧ e ≤ 16777215 ∧ 8 ≤ a ∧ a ≤ 65528 ∧ a % 8 = 0)
theorem rbounds {s e a : Int} (h : rightB s e a = true) : 0 ≤ s ∧ s ≤ 7 ∧ 0 ≤ e ∧ e ≤ 16777215 ∧ 8 ≤ a ∧ a ≤ 65528 ∧ a % 8 = 0 := of_decide_eq_true h
def handle (s e a : Int) : Int := a / 8 + 16777216 * s + 4294967296 * e
def packV (s e a : Int) : Y := if rightB s e a = true then ⟨handle s e a, 0⟩ else ⟨0, 1⟩
def unB (h : Int) : Bool := rightB (h / 16777216 % 256) (h / 4294967296) (8 * (h % 16777216))
def unV (h : Int) : X := if unB h = true then ⟨h / 16777216 % 256, h / 4294967296, 8 * (h % 16777216), 0⟩ else ⟨0, 0, 0, 18⟩
theorem retX {r : X} {s e a x : Int} (h : r = ⟨s, e, a, x⟩) :
    Ending.returned (.tuple #[.agg #[.int .i64 s, .int .i64 e, .int .i64 a], .int .i64 x]) = .returned (.tuple #[.agg #[.int .i64 r.s, .int .i64 r.e, .int .i64 r.a], .int .i64 r.err]) := by subst h; rfl
theorem retY {r : Y} {a e : Int} (h : r = ⟨a, e⟩) : Ending.returned (.tuple #[.int .u64 a, .int .i64 e]) = .returned (.tuple #[.int .u64 r.n, .int .i64 r.err]) := by subst h; rfl

set_option maxHeartbeats 1000000 in
theorem refpack_any (s e a : Int) (w : World) :
    Calls Try.prog 18 #[.agg #[.int .i64 s, .int .i64 e, .int .i64 a]] w fun z w' => z = .returned (.tuple #[.int .u64 (packV s e a).n, .int .i64 (packV s e a).err]) ∧ Below w.heap.size w w' := by
  by_cases hr : rightB s e a = true
  · obtain ⟨b1, b2, b3, b4, b5, b6, b7⟩ := rbounds hr
    have HR := Lib.hid hr
    clear hr
    go_enter Try.func18, Try.ntmps18
    go_wp2
    go_ret2
    refine ⟨retY ?_, (Below.refl _ _).alloc (Nat.le_refl _) _⟩
    unfold packV
    rw [if_pos HR.out]
    rfl
  · have hv : packV s e a = ⟨0, 1⟩ := by unfold packV; rw [if_neg hr]
    have HR : Hid (¬ (0 ≤ s ∧ s ≤ 7 ∧ 0 ≤ e ∧ e ≤ 16777215 ∧ 8 ≤ a ∧ a ≤ 65528 ∧ a % 8 = 0)) := Lib.hid (fun k => hr (decide_eq_true k))
    clear hr
    rw [hv]
    clear hv
    go_enter Try.func18, Try.ntmps18
    go_wp2
    all_goals
      go_ret2
      first
        | exact ⟨rfl, (Below.refl _ _).alloc (Nat.le_refl _) _⟩
        | (have k := HR.out
           exfalso
           try simp only [bne_eq_false_iff_eq] at *
           omega)

theorem refun_parts (h : Int) (h1 : 0 ≤ h) :
    (unV h = ⟨h / 16777216 % 256, h / 4294967296, 8 * (h % 16777216), 0⟩ ∧ packV (h / 16777216 % 256) (h / 4294967296) (8 * (h % 16777216)) = ⟨h, 0⟩ ∧ h < 1152921504606846976) ∨
    (unV h = ⟨0, 0, 0, 18⟩ ∧ packV (h / 16777216 % 256) (h / 4294967296) (8 * (h % 16777216)) = ⟨0, 1⟩) := by
  by_cases hu : unB h = true
  · obtain ⟨b1, b2, b3, b4, b5, b6, b7⟩ := rbounds (show rightB _ _ _ = true from hu)
    refine .inl ⟨if_pos hu, ?_, by omega⟩
    unfold packV
    rw [if_pos (show rightB _ _ _ = true from hu)]
    unfold handle
    congr 1
    omega
  · exact .inr ⟨if_neg hu, if_neg hu⟩

set_option maxHeartbeats 1000000 in
theorem refunpack_any (h : Int) (w : World) (h1 : 0 ≤ h) (h2 : h ≤ 18446744073709551615) :
    Calls Try.prog 20 #[.int .u64 h] w fun z w' => z = .returned (.tuple #[.agg #[.int .i64 (unV h).s, .int .i64 (unV h).e, .int .i64 (unV h).a], .int .i64 (unV h).err]) ∧ Below w.heap.size w w' := by
  have hp := refun_parts h h1
  generalize unV h = R at hp ⊢
  rcases hp with ⟨rfl, hp, hl⟩ | ⟨rfl, hp⟩
  · have HP := Lib.hid hp
    clear hp
    go_enter Try.func20, Try.ntmps20
    have S0 := ((St.start w).new [.int .i64 0, .int .i64 0, .int .i64 0] 41).new [.int .i64 (h / 16777216 % 256), .int .i64 (h / 4294967296), .int .i64 (8 * (h % 16777216))] 41
    simp only [World.size_alloc] at S0
    go_wp2_with fail
    refine (lift S0 (refpack_any _ _ _ _)).mono ?_
    rintro z w2 ⟨rfl, S3⟩
    rw [HP.out]
    obtain ⟨ql, q0, q1, q2⟩ := S3.get3 0 rfl
    obtain ⟨pl, p0, p1, p2⟩ := S3.get3 1 rfl
    have pf : ∀ o, w2.frozen? ⟨w.heap.size, o, none⟩ = false := (S3.get 1 rfl).fz
    go_wp2
    refine bodyPost_ret (v := .tuple #[.agg #[.int .i64 (h / 16777216 % 256), .int .i64 (h / 4294967296), .int .i64 (8 * (h % 16777216))], .int .i64 0]) (by simp [results, Try.results20, go_sem, p0, p1, p2]) rfl ⟨rfl, ?_⟩
    exact ((S3.below.setCell (by simp) _).setCell (by simp) _).setCell (by simp) _
  · by_cases hl : h < 1152921504606846976
    · have HP := Lib.hid hp
      clear hp
      go_enter Try.func20, Try.ntmps20
      have S0 := ((St.start w).new [.int .i64 0, .int .i64 0, .int .i64 0] 41).new [.int .i64 (h / 16777216 % 256), .int .i64 (h / 4294967296), .int .i64 (8 * (h % 16777216))] 41
      simp only [World.size_alloc] at S0
      go_wp2_with fail
      refine (lift S0 (refpack_any _ _ _ _)).mono ?_
      rintro z w2 ⟨rfl, S3⟩
      rw [HP.out]
      obtain ⟨ql, q0, q1, q2⟩ := S3.get3 0 rfl
      obtain ⟨pl, p0, p1, p2⟩ := S3.get3 1 rfl
      have pf : ∀ o, w2.frozen? ⟨w.heap.size, o, none⟩ = false := (S3.get 1 rfl).fz
      go_wp2
      refine bodyPost_ret (v := .tuple #[.agg #[.int .i64 0, .int .i64 0, .int .i64 0], .int .i64 18]) (by simp [results, Try.results20, go_sem, p0, p1, p2]) rfl ⟨rfl, ?_⟩
      exact ((S3.below.setCell (by simp) _).setCell (by simp) _).setCell (by simp) _
    · clear hp
      go_enter Try.func20, Try.ntmps20
      go_wp2
      refine bodyPost_ret (v := .tuple #[.agg #[.int .i64 0, .int .i64 0, .int .i64 0], .int .i64 18]) (by simp [results, Try.results20, go_sem]) rfl ⟨rfl, ?_⟩
      exact (Below.refl _ _).alloc (Nat.le_refl _) _

theorem mask_i64 (k : Nat) (hk : k ≤ 62) (x : Int) : bits .and .i64 x (2 ^ k - 1) = x % 2 ^ k := by
  have hpos : 0 < 2 ^ k := Nat.two_pow_pos k
  have hle : 2 ^ k ≤ 2 ^ 62 := Nat.pow_le_pow_right (by decide) hk
  have hc : ((2 : Int) ^ k - 1) = ((2 ^ k - 1 : Nat) : Int) := by rw [Int.natCast_sub hpos]; simp
  rw [hc]
  show IntKind.i64.wrap ((BitVec.ofInt 64 x &&& BitVec.ofInt 64 ((2 ^ k - 1 : Nat) : Int)).toNat : Int) = _
  have e : (BitVec.ofInt 64 ((2 ^ k - 1 : Nat) : Int)).toNat = 2 ^ k - 1 := by
    rw [BitVec.ofInt_natCast, BitVec.toNat_ofNat, Nat.mod_eq_of_lt (by omega)]
  rw [BitVec.toNat_and, e, Nat.and_two_pow_sub_one_eq_mod, BitVec.toNat_ofInt]
  have h1 : (((x % ((2 ^ 64 : Nat) : Int)).toNat % 2 ^ k : Nat) : Int) = x % 2 ^ k := by
    rw [Int.natCast_emod, Int.toNat_of_nonneg (Int.emod_nonneg _ (by decide))]
    have hd : ((2 ^ k : Nat) : Int) ∣ ((2 ^ 64 : Nat) : Int) := Int.natCast_dvd_natCast.2 (Nat.pow_dvd_pow 2 (by omega))
    rw [Int.emod_emod_of_dvd _ hd, Int.natCast_pow]
    rfl
  rw [h1, IntKind.wrap_i64]
  have h2 : (2 : Int) ^ k ≤ 2 ^ 62 := by exact_mod_cast hle
  have h3 : (0 : Int) < 2 ^ k := by exact_mod_cast hpos
  have h4 := Int.emod_nonneg x (show (2 : Int) ^ k ≠ 0 by omega)
  have h5 := Int.emod_lt_of_pos x h3
  omega

/-- What Fit makes may be. -/
theorem fit_any (s e a : Int) (w : World) :
    Calls Try.prog 19 #[.agg #[.int .i64 s, .int .i64 e, .int .i64 a]] w fun z w' => z = .returned (.agg #[.int .i64 (s % 8), .int .i64 (e % 16777216), .int .i64 (8 * (1 + a % 8192 % 8191))]) ∧ Below w.heap.size w w' := by
  have m1 := mask_i64 3 (by decide) s
  have m2 := mask_i64 24 (by decide) e
  have m3 := mask_i64 13 (by decide) a
  simp only [Int.reducePow, Int.reduceSub] at m1 m2 m3
  go_enter Try.func19, Try.ntmps19
  go_wp2
  refine bodyPost_ret (v := .agg #[.int .i64 (s % 8), .int .i64 (e % 16777216), .int .i64 (8 * (1 + a % 8192 % 8191))]) (by simp [results, Try.results19, go_sem]) rfl ⟨rfl, ?_⟩
  exact ((Below.refl _ _).alloc (Nat.le_refl _) _).alloc (by simp) _
theorem fit_all (a0 a1 a2 : Int) : ∃ s e a : Int, rightB s e a = true ∧
    ∀ w, Calls Try.prog 19 #[.agg #[.int .i64 a0, .int .i64 a1, .int .i64 a2]] w fun z w' => z = .returned (.agg #[.int .i64 s, .int .i64 e, .int .i64 a]) ∧ Below w.heap.size w w' :=
  ⟨_, _, _, decide_eq_true (by omega), fit_any a0 a1 a2⟩
theorem pack_yes {s e a : Int} (h : rightB s e a = true) : packV s e a = ⟨handle s e a, 0⟩ := if_pos h
end Go.Proofs.Ytggbchjbiifpoaa.R6
