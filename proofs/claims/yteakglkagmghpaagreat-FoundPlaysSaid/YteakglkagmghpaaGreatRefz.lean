/-
  Contracts of ref.join, split, Pack and Unpack, for every argument: each returns plain values (packV, unV), and changes nothing that was there.
-/
import Derived.Test.YteakglkagmghpaaGreatProg
import Derived.WalkKit
import Derived.ProofKit
import Derived.OpenShut
import Derived.IntWalk
import Derived.Lib.Hide
import Derived.Below
import Derived.RegionTactic
import Derived.BigRegion
import Derived.Deep.QuietTactic
import Derived.BigQuiet
import Derived.Laws.BitsAllLaws
import Derived.Deep.RegionHeld3
import Derived.Test.YteakglkagmghpaaGreatBase
namespace Go.Proofs.YteakglkagmghpaaGreat.Refs
open Go.ChangeShapes Go.WideShapes Go.ChangeAt Go.RowKit
open Held
set_option linter.unusedVariables false

theorem ret_int {k : IntKind} {a b : Int} (h : a = b) : Ending.returned (.int k a) = .returned (.int k b) := by rw [h]
theorem bcell {W w1 : World} (hb : Below W.heap.size W w1) : (∀ b o, b < W.heap.size → w1.cell? ⟨b, o, none⟩ = W.cell? ⟨b, o, none⟩) ∧ (∀ b o, b < W.heap.size → w1.frozen? ⟨b, o, none⟩ = W.frozen? ⟨b, o, none⟩) :=
  ⟨fun b o h => hb.cell (p := ⟨b, o, none⟩) h, fun b o h => hb.frozen (p := ⟨b, o, none⟩) h⟩
/-- A handle and an error; a Ref and an error. -/
structure Y where
  n : Int
  err : Int
structure X where
  s : Int
  e : Int
  a : Int
  err : Int
def rightB (s e a : Int) : Bool := decide (0 ≤ s ∧ s ≤ 7 ∧ 0 ≤ e ∧ e ≤ 16777215 ∧ 8 ≤ a ∧ a ≤ 65528 ∧ a % 8 = 0)
theorem rbounds {s e a : Int} (h : rightB s e a = true) : 0 ≤ s ∧ s ≤ 7 ∧ 0 ≤ e ∧ e ≤ 16777215 ∧ 8 ≤ a ∧ a ≤ 65528 ∧ a % 8 = 0 := of_decide_eq_true h
def handle (s e a : Int) : Int := a / 8 + 16777216 * s + 4294967296 * e
def packV (s e a : Int) : Y := if rightB s e a = true then ⟨handle s e a, 0⟩ else ⟨0, 1⟩
def unB (h : Int) : Bool := rightB (h / 16777216 % 256) (h / 4294967296) (8 * (h % 16777216))
def unV (h : Int) : X := if unB h = true then ⟨h / 16777216 % 256, h / 4294967296, 8 * (h % 16777216), 0⟩ else ⟨0, 0, 0, 18⟩
theorem retX {r : X} {s e a x : Int} (h : r = ⟨s, e, a, x⟩) :
    Ending.returned (.tuple #[.agg #[.int .i64 s, .int .i64 e, .int .i64 a], .int .i64 x]) = .returned (.tuple #[.agg #[.int .i64 r.s, .int .i64 r.e, .int .i64 r.a], .int .i64 r.err]) := by subst h; rfl
theorem retY {r : Y} {a e : Int} (h : r = ⟨a, e⟩) : Ending.returned (.tuple #[.int .u64 a, .int .i64 e]) = .returned (.tuple #[.int .u64 r.n, .int .i64 r.err]) := by subst h; rfl

theorem or_join (k : Nat) (lo hi : Int) (h1 : 0 ≤ lo) (h2 : lo < 2 ^ k) (h3 : 0 ≤ hi) (h4 : hi % 2 ^ k = 0) (h5 : hi < 18446744073709551616) (h6 : lo < 18446744073709551616) : bits .or .u64 lo hi = lo + hi := by
  obtain ⟨a, rfl⟩ := Int.eq_ofNat_of_zero_le h1
  obtain ⟨b, rfl⟩ := Int.eq_ofNat_of_zero_le h3
  rw [u64_or_nat _ _ (by omega) (by omega)]
  have h2' : a < 2 ^ k := by exact_mod_cast h2
  have h4' : b % 2 ^ k = 0 := by exact_mod_cast h4
  have e : b = 2 ^ k * (b / 2 ^ k) := by have := Nat.div_add_mod b (2 ^ k); omega
  rw [e, Nat.or_comm, ← Nat.two_pow_add_eq_or_of_lt h2' (b / 2 ^ k)]
  push_cast
  omega
theorem wraps_u64 (n : Int) (h₀ : 0 ≤ n) (h₁ : n < 2 ^ 64) : IntKind.u64.wrap n = n := by rw [IntKind.wrap_u64]; omega
theorem mask_u64 (k : Nat) (c : Int) (h : 0 ≤ c) (h' : c ≤ 18446744073709551615) (hk : k ≤ 64 := by decide) : bits .and .u64 c (2 ^ k - 1) = c % 2 ^ k := by
  have := bits_mask .u64 64 (by decide) wraps_u64 k hk c h (by omega)
  simpa using this
theorem bits_range (op : BinOp) (a b : Int) (h : op = .or) : 0 ≤ bits op .u64 a b ∧ bits op .u64 a b ≤ 18446744073709551615 := by
  subst h
  show 0 ≤ IntKind.u64.wrap _ ∧ IntKind.u64.wrap _ ≤ _
  rw [IntKind.wrap_u64]
  omega

set_option maxHeartbeats 1000000 in
theorem join_yes (s e a : Int) (w : World) (hr : rightB s e a = true) :
    Calls Tryz.prog 223 #[.agg #[.int .i64 s, .int .i64 e, .int .i64 a]] w fun z w' => z = .returned (.int .u64 (handle s e a)) ∧ Below w.heap.size w w' := by
  obtain ⟨b1, b2, b3, b4, b5, b6, b7⟩ := rbounds hr
  clear hr
  go_enter Tryz.func223, Tryz.ntmps223
  go_wp2
  go_ret
  refine ⟨ret_int ?_, (Below.refl _ _).alloc (Nat.le_refl _) _⟩
  rw [or_join 24 (a / 8) (s * 16777216) (by omega) (by omega) (by omega) (by omega) (by omega) (by omega), or_join 32 (a / 8 + s * 16777216) (e * 4294967296) (by omega) (by omega) (by omega) (by omega) (by omega) (by omega)]
  unfold handle
  omega
set_option maxHeartbeats 1000000 in
theorem join_any (s e a : Int) (w : World) :
    Calls Tryz.prog 223 #[.agg #[.int .i64 s, .int .i64 e, .int .i64 a]] w fun z w' => ∃ h : Int, 0 ≤ h ∧ h ≤ 18446744073709551615 ∧ z = .returned (.int .u64 h) ∧ Below w.heap.size w w' := by
  go_enter Tryz.func223, Tryz.ntmps223
  go_wp2
  go_ret
  exact ⟨_, (bits_range .or _ _ rfl).1, (bits_range .or _ _ rfl).2, rfl, (Below.refl _ _).alloc (Nat.le_refl _) _⟩

set_option maxHeartbeats 1000000 in
theorem split_any (h : Int) (w : World) (h1 : 0 ≤ h) (h2 : h ≤ 18446744073709551615) :
    Calls Tryz.prog 224 #[.int .u64 h] w fun z w' => z = .returned (.agg #[.int .i64 (h / 16777216 % 8), .int .i64 (h / 4294967296 % 16777216), .int .i64 (h % 8192 * 8)]) ∧ Below w.heap.size w w' := by
  have m1 := mask_u64 3 (h / 16777216) (by omega) (by omega)
  have m2 := mask_u64 24 (h / 4294967296) (by omega) (by omega)
  have m3 := mask_u64 13 h (by omega) (by omega)
  simp only [Int.reducePow, Int.reduceSub] at m1 m2 m3
  go_enter Tryz.func224, Tryz.ntmps224
  go_wp2
  refine bodyPost_ret (v := .agg #[.int .i64 (h / 16777216 % 8), .int .i64 (h / 4294967296 % 16777216), .int .i64 (h % 8192 * 8)]) (by simp [results, Tryz.results224, go_sem]) rfl ⟨rfl, ?_⟩
  exact (Below.refl _ _).alloc (Nat.le_refl _) _

/-- What is split comes from a Ref that may be, but for a place of 0. -/
theorem split_back (s e a : Int) (hr : rightB s e a = true) : handle s e a / 16777216 % 8 = s ∧ handle s e a / 4294967296 % 16777216 = e ∧ handle s e a % 8192 * 8 = a := by
  obtain ⟨b1, b2, b3, b4, b5, b6, b7⟩ := rbounds hr
  unfold handle
  omega
theorem split_no (s e a h : Int) (hr : ¬ rightB s e a = true) (ha : ¬ a = 0) : ¬ (h / 16777216 % 8 = s ∧ h / 4294967296 % 16777216 = e ∧ h % 8192 * 8 = a) := by
  rintro ⟨rfl, rfl, rfl⟩
  exact hr (decide_eq_true (by omega))

set_option maxHeartbeats 1000000 in
theorem pack_any (s e a : Int) (w : World) :
    Calls Tryz.prog 195 #[.agg #[.int .i64 s, .int .i64 e, .int .i64 a]] w fun z w' => z = .returned (.tuple #[.int .u64 (packV s e a).n, .int .i64 (packV s e a).err]) ∧ Below w.heap.size w w' := by
  by_cases hr : rightB s e a = true
  · have HR := Lib.hid hr
    obtain ⟨e1, e2, e3⟩ := split_back s e a hr
    obtain ⟨b1, b2, b3, b4, b5, b6, b7⟩ := rbounds hr
    have n1 : 0 ≤ handle s e a := by unfold handle; omega
    have n2 : handle s e a ≤ 18446744073709551615 := by unfold handle; omega
    have A0 : (a == 0) = false := by simp; omega
    have E1 := Lib.hid e1
    have E2 := Lib.hid e2
    have E3 := Lib.hid e3
    clear hr e1 e2 e3
    go_enter Tryz.func195, Tryz.ntmps195
    go_wp2_with fail
    have S0 := (St.start w).new [.int .i64 s, .int .i64 e, .int .i64 a] 154
    refine (lift S0 (join_yes _ _ _ _ HR.out)).mono ?_
    rintro z w1 ⟨rfl, S1⟩
    obtain ⟨ql, q0, q1, q2⟩ := S1.get3 0 rfl
    go_wp2_with fail
    have D1 := S1.drew
    go_region_held3 (fun w' => w'.cell? ⟨w.heap.size, 0, none⟩ = some (.int .i64 s) ∧ w'.cell? ⟨w.heap.size, 1, none⟩ = some (.int .i64 e) ∧ w'.cell? ⟨w.heap.size, 2, none⟩ = some (.int .i64 a))
      (first | exact ⟨q0, q1, q2⟩ | exact ⟨r0, r1, r2⟩)
      (first | (go_at_call 224; refine (lift D1 (split_any _ _ n1 n2)).mono ?_; rintro z w2 ⟨rfl, S2⟩; rw [E1.out, E2.out, E3.out]; have ⟨rl, r0, r1, r2⟩ := S2.get3 0 rfl))
    go_wp2
    go_ret2
    refine ⟨retY ?_, S2.below⟩
    unfold packV; rw [if_pos HR.out]
  · have HR := Lib.hid hr
    have hv : packV s e a = ⟨0, 1⟩ := by unfold packV; rw [if_neg hr]
    by_cases ha : a = 0
    · subst ha
      clear hr
      go_enter Tryz.func195, Tryz.ntmps195
      go_wp2_with fail
      have S0 := (St.start w).new [.int .i64 s, .int .i64 e, .int .i64 0] 154
      refine (join_any _ _ _ _).mono ?_
      rintro z w1 ⟨h, n1, n2, rfl, k1⟩
      have S1 := S0.call k1
      obtain ⟨ql, q0, q1, q2⟩ := S1.get3 0 rfl
      go_wp2_with fail
      have D1 := S1.drew
      go_quiet (fail)
      go_wp2
      go_ret2
      exact ⟨retY hv, below_drewN S1.below _⟩
    · have hn := fun h => split_no s e a h hr ha
      have A0 : (a == 0) = false := by simpa using ha
      clear hr ha
      go_enter Tryz.func195, Tryz.ntmps195
      go_wp2_with fail
      have S0 := (St.start w).new [.int .i64 s, .int .i64 e, .int .i64 a] 154
      refine (join_any _ _ _ _).mono ?_
      rintro z w1 ⟨h, n1, n2, rfl, k1⟩
      have S1 := S0.call k1
      obtain ⟨ql, q0, q1, q2⟩ := S1.get3 0 rfl
      have hn := hn h
      by_cases e1 : h / 16777216 % 8 = s
      · by_cases e2 : h / 4294967296 % 16777216 = e
        · have T1 : (h / 16777216 % 8 == s) = true := by simpa using e1
          have T2 : (h / 4294967296 % 16777216 == e) = true := by simpa using e2
          have T3 : (h % 8192 * 8 == a) = false := by simp only [beq_eq_false_iff_ne, ne_eq]; exact fun k => hn ⟨e1, e2, k⟩
          clear hn e1 e2
          go_wp2_with fail
          have D1 := S1.drew
          go_region_held3 (fun w' => w'.cell? ⟨w.heap.size, 0, none⟩ = some (.int .i64 s) ∧ w'.cell? ⟨w.heap.size, 1, none⟩ = some (.int .i64 e) ∧ w'.cell? ⟨w.heap.size, 2, none⟩ = some (.int .i64 a))
            (first | exact ⟨q0, q1, q2⟩ | exact ⟨r0, r1, r2⟩)
            (first | (go_at_call 224; refine (lift D1 (split_any _ _ n1 n2)).mono ?_; rintro z w2 ⟨rfl, S2⟩; have ⟨rl, r0, r1, r2⟩ := S2.get3 0 rfl))
          go_wp2
          go_ret2
          exact ⟨retY hv, S2.below⟩
        · have T1 : (h / 16777216 % 8 == s) = true := by simpa using e1
          have T2 : (h / 4294967296 % 16777216 == e) = false := by simpa using e2
          clear hn e1 e2
          go_wp2_with fail
          have D1 := S1.drew
          go_region_held3 (fun w' => w'.cell? ⟨w.heap.size, 0, none⟩ = some (.int .i64 s) ∧ w'.cell? ⟨w.heap.size, 1, none⟩ = some (.int .i64 e) ∧ w'.cell? ⟨w.heap.size, 2, none⟩ = some (.int .i64 a))
            (first | exact ⟨q0, q1, q2⟩ | exact ⟨r0, r1, r2⟩)
            (first | (go_at_call 224; refine (lift D1 (split_any _ _ n1 n2)).mono ?_; rintro z w2 ⟨rfl, S2⟩; have ⟨rl, r0, r1, r2⟩ := S2.get3 0 rfl))
          go_wp2
          go_ret2
          exact ⟨retY hv, S2.below⟩
      · have T1 : (h / 16777216 % 8 == s) = false := by simpa using e1
        clear hn e1
        go_wp2_with fail
        have D1 := S1.drew
        go_region_held3 (fun w' => w'.cell? ⟨w.heap.size, 0, none⟩ = some (.int .i64 s) ∧ w'.cell? ⟨w.heap.size, 1, none⟩ = some (.int .i64 e) ∧ w'.cell? ⟨w.heap.size, 2, none⟩ = some (.int .i64 a))
          (first | exact ⟨q0, q1, q2⟩ | exact ⟨r0, r1, r2⟩)
          (first | (go_at_call 224; refine (lift D1 (split_any _ _ n1 n2)).mono ?_; rintro z w2 ⟨rfl, S2⟩; have ⟨rl, r0, r1, r2⟩ := S2.get3 0 rfl))
        go_wp2
        go_ret2
        exact ⟨retY hv, S2.below⟩
end Go.Proofs.YteakglkagmghpaaGreat.Refs

/-
  Contracts of ref.Unpack and of the document's own answers.
-/
namespace Go.Proofs.YteakglkagmghpaaGreat.Refs
open Go.ChangeShapes Go.WideShapes Go.ChangeAt Go.RowKit
open Held
set_option linter.unusedVariables false

/-- What is split, packed again: the same number, another one, or none. -/
theorem un_parts (h : Int) (h1 : 0 ≤ h) (h2 : h ≤ 18446744073709551615) :
    (unV h = ⟨h / 16777216 % 8, h / 4294967296 % 16777216, h % 8192 * 8, 0⟩ ∧ packV (h / 16777216 % 8) (h / 4294967296 % 16777216) (h % 8192 * 8) = ⟨h, 0⟩) ∨
    (unV h = ⟨0, 0, 0, 18⟩ ∧ ∃ g, ¬ g = h ∧ packV (h / 16777216 % 8) (h / 4294967296 % 16777216) (h % 8192 * 8) = ⟨g, 0⟩) ∨
    (unV h = ⟨0, 0, 0, 18⟩ ∧ packV (h / 16777216 % 8) (h / 4294967296 % 16777216) (h % 8192 * 8) = ⟨0, 1⟩) := by
  by_cases hu : unB h = true
  · obtain ⟨b1, b2, b3, b4, b5, b6, b7⟩ := rbounds (show rightB _ _ _ = true from hu)
    refine .inl ⟨?_, ?_⟩
    · unfold unV
      rw [if_pos hu]
      congr 1 <;> omega
    · unfold packV
      rw [if_pos (show rightB _ _ _ = true from decide_eq_true (by omega))]
      unfold handle
      congr 1
      omega
  · have hv : unV h = ⟨0, 0, 0, 18⟩ := by unfold unV; rw [if_neg hu]
    by_cases hr : rightB (h / 16777216 % 8) (h / 4294967296 % 16777216) (h % 8192 * 8) = true
    · refine .inr (.inl ⟨hv, _, ?_, if_pos hr⟩)
      intro k
      refine hu (show rightB _ _ _ = true from decide_eq_true ?_)
      obtain ⟨b1, b2, b3, b4, b5, b6, b7⟩ := rbounds hr
      unfold handle at k
      omega
    · exact .inr (.inr ⟨hv, if_neg hr⟩)

set_option maxHeartbeats 1000000 in
theorem unpack_any (h : Int) (w : World) (h1 : 0 ≤ h) (h2 : h ≤ 18446744073709551615) :
    Calls Tryz.prog 235 #[.int .u64 h] w fun z w' => z = .returned (.tuple #[.agg #[.int .i64 (unV h).s, .int .i64 (unV h).e, .int .i64 (unV h).a], .int .i64 (unV h).err]) ∧ Below w.heap.size w w' := by
  have hp := un_parts h h1 h2
  generalize unV h = R at hp ⊢
  have H0 : Hid (∀ w, Calls Tryz.prog 224 #[.int .u64 h] w fun z w' => z = .returned (.agg #[.int .i64 (h / 16777216 % 8), .int .i64 (h / 4294967296 % 16777216), .int .i64 (h % 8192 * 8)]) ∧ Below w.heap.size w w') := Lib.hid fun w => split_any h w h1 h2
  generalize h / 16777216 % 8 = s at *
  generalize h / 4294967296 % 16777216 = e at *
  generalize h % 8192 * 8 = a at *
  rcases hp with ⟨rfl, hp⟩ | ⟨rfl, g, hg, hp⟩ | ⟨rfl, hp⟩
  · have HP := Lib.hid hp
    clear hp h1 h2
    go_enter Tryz.func235, Tryz.ntmps235
    have S0 := (St.start w).new [.int .i64 0, .int .i64 0, .int .i64 0] 154
    go_wp2_with fail
    refine (lift S0 (H0.out _)).mono ?_
    rintro z w1 ⟨rfl, S1⟩
    have S2 := S1.new [.int .i64 s, .int .i64 e, .int .i64 a] 154
    go_wp2_with fail
    refine (lift S2 (pack_any _ _ _ _)).mono ?_
    rintro z w2 ⟨rfl, S3⟩
    rw [HP.out]
    obtain ⟨ql, q0, q1, q2⟩ := S3.get3 0 rfl
    obtain ⟨pl, p0, p1, p2⟩ := S3.get3 1 rfl
    have pf : ∀ o, w2.frozen? ⟨w.heap.size, o, none⟩ = false := (S3.get 1 rfl).fz
    go_wp2
    refine bodyPost_ret (v := .tuple #[.agg #[.int .i64 s, .int .i64 e, .int .i64 a], .int .i64 0]) (by simp [results, Tryz.results235, go_sem, p0, p1, p2]) rfl ⟨rfl, ?_⟩
    exact ((S3.below.setCell (by simp) _).setCell (by simp) _).setCell (by simp) _
  · have HP := Lib.hid hp
    have T : (g != h) = true := by simpa using hg
    clear hp hg h1 h2
    go_enter Tryz.func235, Tryz.ntmps235
    have S0 := (St.start w).new [.int .i64 0, .int .i64 0, .int .i64 0] 154
    go_wp2_with fail
    refine (lift S0 (H0.out _)).mono ?_
    rintro z w1 ⟨rfl, S1⟩
    have S2 := S1.new [.int .i64 s, .int .i64 e, .int .i64 a] 154
    go_wp2_with fail
    refine (lift S2 (pack_any _ _ _ _)).mono ?_
    rintro z w2 ⟨rfl, S3⟩
    rw [HP.out]
    obtain ⟨ql, q0, q1, q2⟩ := S3.get3 0 rfl
    obtain ⟨pl, p0, p1, p2⟩ := S3.get3 1 rfl
    have pf : ∀ o, w2.frozen? ⟨w.heap.size, o, none⟩ = false := (S3.get 1 rfl).fz
    go_wp2
    refine bodyPost_ret (v := .tuple #[.agg #[.int .i64 0, .int .i64 0, .int .i64 0], .int .i64 18]) (by simp [results, Tryz.results235, go_sem, p0, p1, p2]) rfl ⟨rfl, ?_⟩
    exact ((S3.below.setCell (by simp) _).setCell (by simp) _).setCell (by simp) _
  · have HP := Lib.hid hp
    clear hp h1 h2
    go_enter Tryz.func235, Tryz.ntmps235
    have S0 := (St.start w).new [.int .i64 0, .int .i64 0, .int .i64 0] 154
    go_wp2_with fail
    refine (lift S0 (H0.out _)).mono ?_
    rintro z w1 ⟨rfl, S1⟩
    have S2 := S1.new [.int .i64 s, .int .i64 e, .int .i64 a] 154
    go_wp2_with fail
    refine (lift S2 (pack_any _ _ _ _)).mono ?_
    rintro z w2 ⟨rfl, S3⟩
    rw [HP.out]
    obtain ⟨ql, q0, q1, q2⟩ := S3.get3 0 rfl
    obtain ⟨pl, p0, p1, p2⟩ := S3.get3 1 rfl
    have pf : ∀ o, w2.frozen? ⟨w.heap.size, o, none⟩ = false := (S3.get 1 rfl).fz
    go_wp2
    refine bodyPost_ret (v := .tuple #[.agg #[.int .i64 0, .int .i64 0, .int .i64 0], .int .i64 18]) (by simp [results, Tryz.results235, go_sem, p0, p1, p2]) rfl ⟨rfl, ?_⟩
    exact ((S3.below.setCell (by simp) _).setCell (by simp) _).setCell (by simp) _
end Go.Proofs.YteakglkagmghpaaGreat.Refs

/-
  Contracts of the document's own answers for ref, of its Fit, and of the example at the head of all laws of layer 6.
-/
namespace Go.Proofs.YteakglkagmghpaaGreat.Refs
open Go.ChangeShapes Go.WideShapes Go.ChangeAt Go.RowKit
open Held
set_option linter.unusedVariables false

set_option maxHeartbeats 1000000 in
theorem refpack_any (s e a : Int) (w : World) :
    Calls Tryz.prog 66 #[.agg #[.int .i64 s, .int .i64 e, .int .i64 a]] w fun z w' => z = .returned (.tuple #[.int .u64 (packV s e a).n, .int .i64 (packV s e a).err]) ∧ Below w.heap.size w w' := by
  by_cases hr : rightB s e a = true
  · obtain ⟨b1, b2, b3, b4, b5, b6, b7⟩ := rbounds hr
    have HR := Lib.hid hr
    clear hr
    go_enter Tryz.func66, Tryz.ntmps66
    go_wp2
    go_ret2
    refine ⟨retY ?_, (Below.refl _ _).alloc (Nat.le_refl _) _⟩
    unfold packV
    rw [if_pos HR.out]
    rfl
  · have hv : packV s e a = ⟨0, 1⟩ := by unfold packV; rw [if_neg hr]
    have HR : Hid (¬ (0 ≤ s ∧ s ≤ 7 ∧ 0 ≤ e ∧ e ≤ 16777215 ∧ 8 ≤ a ∧ a ≤ 65528 ∧ a % 8 = 0)) := Lib.hid (fun k => hr (decide_eq_true k))
    clear hr
    rw [hv]
    clear hv
    go_enter Tryz.func66, Tryz.ntmps66
    go_wp2
    all_goals
      go_ret2
      first
        | exact ⟨rfl, (Below.refl _ _).alloc (Nat.le_refl _) _⟩
        | (have k := HR.out
           exfalso
           try simp only [bne_eq_false_iff_eq] at *
           omega)

theorem refun_parts (h : Int) (h1 : 0 ≤ h) :
    (unV h = ⟨h / 16777216 % 256, h / 4294967296, 8 * (h % 16777216), 0⟩ ∧ packV (h / 16777216 % 256) (h / 4294967296) (8 * (h % 16777216)) = ⟨h, 0⟩ ∧ h < 1152921504606846976) ∨
    (unV h = ⟨0, 0, 0, 18⟩ ∧ packV (h / 16777216 % 256) (h / 4294967296) (8 * (h % 16777216)) = ⟨0, 1⟩) := by
  by_cases hu : unB h = true
  · obtain ⟨b1, b2, b3, b4, b5, b6, b7⟩ := rbounds (show rightB _ _ _ = true from hu)
    refine .inl ⟨if_pos hu, ?_, by omega⟩
    unfold packV
    rw [if_pos (show rightB _ _ _ = true from hu)]
    unfold handle
    congr 1
    omega
  · exact .inr ⟨if_neg hu, if_neg hu⟩

set_option maxHeartbeats 1000000 in
theorem refunpack_any (h : Int) (w : World) (h1 : 0 ≤ h) (h2 : h ≤ 18446744073709551615) :
    Calls Tryz.prog 63 #[.int .u64 h] w fun z w' => z = .returned (.tuple #[.agg #[.int .i64 (unV h).s, .int .i64 (unV h).e, .int .i64 (unV h).a], .int .i64 (unV h).err]) ∧ Below w.heap.size w w' := by
  have hp := refun_parts h h1
  generalize unV h = R at hp ⊢
  rcases hp with ⟨rfl, hp, hl⟩ | ⟨rfl, hp⟩
  · have HP := Lib.hid hp
    clear hp
    go_enter Tryz.func63, Tryz.ntmps63
    have S0 := ((St.start w).new [.int .i64 0, .int .i64 0, .int .i64 0] 154).new [.int .i64 (h / 16777216 % 256), .int .i64 (h / 4294967296), .int .i64 (8 * (h % 16777216))] 154
    simp only [World.size_alloc] at S0
    go_wp2_with fail
    refine (lift S0 (refpack_any _ _ _ _)).mono ?_
    rintro z w2 ⟨rfl, S3⟩
    rw [HP.out]
    obtain ⟨ql, q0, q1, q2⟩ := S3.get3 0 rfl
    obtain ⟨pl, p0, p1, p2⟩ := S3.get3 1 rfl
    have pf : ∀ o, w2.frozen? ⟨w.heap.size, o, none⟩ = false := (S3.get 1 rfl).fz
    go_wp2
    refine bodyPost_ret (v := .tuple #[.agg #[.int .i64 (h / 16777216 % 256), .int .i64 (h / 4294967296), .int .i64 (8 * (h % 16777216))], .int .i64 0]) (by simp [results, Tryz.results63, go_sem, p0, p1, p2]) rfl ⟨rfl, ?_⟩
    exact ((S3.below.setCell (by simp) _).setCell (by simp) _).setCell (by simp) _
  · by_cases hl : h < 1152921504606846976
    · have HP := Lib.hid hp
      clear hp
      go_enter Tryz.func63, Tryz.ntmps63
      have S0 := ((St.start w).new [.int .i64 0, .int .i64 0, .int .i64 0] 154).new [.int .i64 (h / 16777216 % 256), .int .i64 (h / 4294967296), .int .i64 (8 * (h % 16777216))] 154
      simp only [World.size_alloc] at S0
      go_wp2_with fail
      refine (lift S0 (refpack_any _ _ _ _)).mono ?_
      rintro z w2 ⟨rfl, S3⟩
      rw [HP.out]
      obtain ⟨ql, q0, q1, q2⟩ := S3.get3 0 rfl
      obtain ⟨pl, p0, p1, p2⟩ := S3.get3 1 rfl
      have pf : ∀ o, w2.frozen? ⟨w.heap.size, o, none⟩ = false := (S3.get 1 rfl).fz
      go_wp2
      refine bodyPost_ret (v := .tuple #[.agg #[.int .i64 0, .int .i64 0, .int .i64 0], .int .i64 18]) (by simp [results, Tryz.results63, go_sem, p0, p1, p2]) rfl ⟨rfl, ?_⟩
      exact ((S3.below.setCell (by simp) _).setCell (by simp) _).setCell (by simp) _
    · clear hp
      go_enter Tryz.func63, Tryz.ntmps63
      go_wp2
      refine bodyPost_ret (v := .tuple #[.agg #[.int .i64 0, .int .i64 0, .int .i64 0], .int .i64 18]) (by simp [results, Tryz.results63, go_sem]) rfl ⟨rfl, ?_⟩
      exact (Below.refl _ _).alloc (Nat.le_refl _) _

theorem mask_i64 (k : Nat) (hk : k ≤ 62) (x : Int) : bits .and .i64 x (2 ^ k - 1) = x % 2 ^ k := by
  have hpos : 0 < 2 ^ k := Nat.two_pow_pos k
  have hle : 2 ^ k ≤ 2 ^ 62 := Nat.pow_le_pow_right (by decide) hk
  have hc : ((2 : Int) ^ k - 1) = ((2 ^ k - 1 : Nat) : Int) := by rw [Int.natCast_sub hpos]; simp
  rw [hc]
  show IntKind.i64.wrap ((BitVec.ofInt 64 x &&& BitVec.ofInt 64 ((2 ^ k - 1 : Nat) : Int)).toNat : Int) = _
  have e : (BitVec.ofInt 64 ((2 ^ k - 1 : Nat) : Int)).toNat = 2 ^ k - 1 := by
    rw [BitVec.ofInt_natCast, BitVec.toNat_ofNat, Nat.mod_eq_of_lt (by omega)]
  rw [BitVec.toNat_and, e, Nat.and_two_pow_sub_one_eq_mod, BitVec.toNat_ofInt]
  have h1 : (((x % ((2 ^ 64 : Nat) : Int)).toNat % 2 ^ k : Nat) : Int) = x % 2 ^ k := by
    rw [Int.natCast_emod, Int.toNat_of_nonneg (Int.emod_nonneg _ (by decide))]
    have hd : ((2 ^ k : Nat) : Int) ∣ ((2 ^ 64 : Nat) : Int) := Int.natCast_dvd_natCast.2 (Nat.pow_dvd_pow 2 (by omega))
    rw [Int.emod_emod_of_dvd _ hd, Int.natCast_pow]
    rfl
  rw [h1, IntKind.wrap_i64]
  have h2 : (2 : Int) ^ k ≤ 2 ^ 62 := by exact_mod_cast hle
  have h3 : (0 : Int) < 2 ^ k := by exact_mod_cast hpos
  have h4 := Int.emod_nonneg x (show (2 : Int) ^ k ≠ 0 by omega)
  have h5 := Int.emod_lt_of_pos x h3
  omega

end Go.Proofs.YteakglkagmghpaaGreat.Refs

/-
  Contracts of the document's own answers for layer 6 (ref), for a seat that has no package ref: of its Pack, Unpack and Fit.
-/
namespace Go.Proofs.YteakglkagmghpaaGreat.R6
open Go.ChangeShapes Go.WideShapes Go.ChangeAt Go.RowKit
open Held
set_option linter.unusedVariables false

/-- A handle and an error; a Ref and an error. -/
structure Y where
  n : Int
  err : Int
structure X where
  s : Int
  e : Int
  a : Int
  err : Int
def rightB (s e a : Int) : Bool := decide (0 ≤ s ∧ s ≤ 7 ∧ 0 ≤ e ∧ e ≤ 16777215 ∧ 8 ≤ a ∧ a ≤ 65528 ∧ a % 8 = 0)
theorem rbounds {s e a : Int} (h : rightB s e a = true) : 0 ≤ s ∧ s ≤ 7 ∧ 0 ≤ e ∧ e ≤ 16777215 ∧ 8 ≤ a ∧ a ≤ 65528 ∧ a % 8 = 0 := of_decide_eq_true h
def handle (s e a : Int) : Int := a / 8 + 16777216 * s + 4294967296 * e
def packV (s e a : Int) : Y := if rightB s e a = true then ⟨handle s e a, 0⟩ else ⟨0, 1⟩
def unB (h : Int) : Bool := rightB (h / 16777216 % 256) (h / 4294967296) (8 * (h % 16777216))
def unV (h : Int) : X := if unB h = true then ⟨h / 16777216 % 256, h / 4294967296, 8 * (h % 16777216), 0⟩ else ⟨0, 0, 0, 18⟩
theorem retX {r : X} {s e a x : Int} (h : r = ⟨s, e, a, x⟩) :
    Ending.returned (.tuple #[.agg #[.int .i64 s, .int .i64 e, .int .i64 a], .int .i64 x]) = .returned (.tuple #[.agg #[.int .i64 r.s, .int .i64 r.e, .int .i64 r.a], .int .i64 r.err]) := by subst h; rfl
theorem retY {r : Y} {a e : Int} (h : r = ⟨a, e⟩) : Ending.returned (.tuple #[.int .u64 a, .int .i64 e]) = .returned (.tuple #[.int .u64 r.n, .int .i64 r.err]) := by subst h; rfl

set_option maxHeartbeats 1000000 in
theorem refpack_any (s e a : Int) (w : World) :
    Calls Tryz.prog 66 #[.agg #[.int .i64 s, .int .i64 e, .int .i64 a]] w fun z w' => z = .returned (.tuple #[.int .u64 (packV s e a).n, .int .i64 (packV s e a).err]) ∧ Below w.heap.size w w' := by
  by_cases hr : rightB s e a = true
  · obtain ⟨b1, b2, b3, b4, b5, b6, b7⟩ := rbounds hr
    have HR := Lib.hid hr
    clear hr
    go_enter Tryz.func66, Tryz.ntmps66
    go_wp2
    go_ret2
    refine ⟨retY ?_, (Below.refl _ _).alloc (Nat.le_refl _) _⟩
    unfold packV
    rw [if_pos HR.out]
    rfl
  · have hv : packV s e a = ⟨0, 1⟩ := by unfold packV; rw [if_neg hr]
    have HR : Hid (¬ (0 ≤ s ∧ s ≤ 7 ∧ 0 ≤ e ∧ e ≤ 16777215 ∧ 8 ≤ a ∧ a ≤ 65528 ∧ a % 8 = 0)) := Lib.hid (fun k => hr (decide_eq_true k))
    clear hr
    rw [hv]
    clear hv
    go_enter Tryz.func66, Tryz.ntmps66
    go_wp2
    all_goals
      go_ret2
      first
        | exact ⟨rfl, (Below.refl _ _).alloc (Nat.le_refl _) _⟩
        | (have k := HR.out
           exfalso
           try simp only [bne_eq_false_iff_eq] at *
           omega)

theorem refun_parts (h : Int) (h1 : 0 ≤ h) :
    (unV h = ⟨h / 16777216 % 256, h / 4294967296, 8 * (h % 16777216), 0⟩ ∧ packV (h / 16777216 % 256) (h / 4294967296) (8 * (h % 16777216)) = ⟨h, 0⟩ ∧ h < 1152921504606846976) ∨
    (unV h = ⟨0, 0, 0, 18⟩ ∧ packV (h / 16777216 % 256) (h / 4294967296) (8 * (h % 16777216)) = ⟨0, 1⟩) := by
  by_cases hu : unB h = true
  · obtain ⟨b1, b2, b3, b4, b5, b6, b7⟩ := rbounds (show rightB _ _ _ = true from hu)
    refine .inl ⟨if_pos hu, ?_, by omega⟩
    unfold packV
    rw [if_pos (show rightB _ _ _ = true from hu)]
    unfold handle
    congr 1
    omega
  · exact .inr ⟨if_neg hu, if_neg hu⟩

set_option maxHeartbeats 1000000 in
theorem refunpack_any (h : Int) (w : World) (h1 : 0 ≤ h) (h2 : h ≤ 18446744073709551615) :
    Calls Tryz.prog 63 #[.int .u64 h] w fun z w' => z = .returned (.tuple #[.agg #[.int .i64 (unV h).s, .int .i64 (unV h).e, .int .i64 (unV h).a], .int .i64 (unV h).err]) ∧ Below w.heap.size w w' := by
  have hp := refun_parts h h1
  generalize unV h = R at hp ⊢
  rcases hp with ⟨rfl, hp, hl⟩ | ⟨rfl, hp⟩
  · have HP := Lib.hid hp
    clear hp
    go_enter Tryz.func63, Tryz.ntmps63
    have S0 := ((St.start w).new [.int .i64 0, .int .i64 0, .int .i64 0] 154).new [.int .i64 (h / 16777216 % 256), .int .i64 (h / 4294967296), .int .i64 (8 * (h % 16777216))] 154
    simp only [World.size_alloc] at S0
    go_wp2_with fail
    refine (lift S0 (refpack_any _ _ _ _)).mono ?_
    rintro z w2 ⟨rfl, S3⟩
    rw [HP.out]
    obtain ⟨ql, q0, q1, q2⟩ := S3.get3 0 rfl
    obtain ⟨pl, p0, p1, p2⟩ := S3.get3 1 rfl
    have pf : ∀ o, w2.frozen? ⟨w.heap.size, o, none⟩ = false := (S3.get 1 rfl).fz
    go_wp2
    refine bodyPost_ret (v := .tuple #[.agg #[.int .i64 (h / 16777216 % 256), .int .i64 (h / 4294967296), .int .i64 (8 * (h % 16777216))], .int .i64 0]) (by simp [results, Tryz.results63, go_sem, p0, p1, p2]) rfl ⟨rfl, ?_⟩
    exact ((S3.below.setCell (by simp) _).setCell (by simp) _).setCell (by simp) _
  · by_cases hl : h < 1152921504606846976
    · have HP := Lib.hid hp
      clear hp
      go_enter Tryz.func63, Tryz.ntmps63
      have S0 := ((St.start w).new [.int .i64 0, .int .i64 0, .int .i64 0] 154).new [.int .i64 (h / 16777216 % 256), .int .i64 (h / 4294967296), .int .i64 (8 * (h % 16777216))] 154
      simp only [World.size_alloc] at S0
      go_wp2_with fail
      refine (lift S0 (refpack_any _ _ _ _)).mono ?_
      rintro z w2 ⟨rfl, S3⟩
      rw [HP.out]
      obtain ⟨ql, q0, q1, q2⟩ := S3.get3 0 rfl
      obtain ⟨pl, p0, p1, p2⟩ := S3.get3 1 rfl
      have pf : ∀ o, w2.frozen? ⟨w.heap.size, o, none⟩ = false := (S3.get 1 rfl).fz
      go_wp2
      refine bodyPost_ret (v := .tuple #[.agg #[.int .i64 0, .int .i64 0, .int .i64 0], .int .i64 18]) (by simp [results, Tryz.results63, go_sem, p0, p1, p2]) rfl ⟨rfl, ?_⟩
      exact ((S3.below.setCell (by simp) _).setCell (by simp) _).setCell (by simp) _
    · clear hp
      go_enter Tryz.func63, Tryz.ntmps63
      go_wp2
      refine bodyPost_ret (v := .tuple #[.agg #[.int .i64 0, .int .i64 0, .int .i64 0], .int .i64 18]) (by simp [results, Tryz.results63, go_sem]) rfl ⟨rfl, ?_⟩
      exact (Below.refl _ _).alloc (Nat.le_refl _) _

theorem mask_i64 (k : Nat) (hk : k ≤ 62) (x : Int) : bits .and .i64 x (2 ^ k - 1) = x % 2 ^ k := by
  have hpos : 0 < 2 ^ k := Nat.two_pow_pos k
  have hle : 2 ^ k ≤ 2 ^ 62 := Nat.pow_le_pow_right (by decide) hk
  have hc : ((2 : Int) ^ k - 1) = ((2 ^ k - 1 : Nat) : Int) := by rw [Int.natCast_sub hpos]; simp
  rw [hc]
  show IntKind.i64.wrap ((BitVec.ofInt 64 x &&& BitVec.ofInt 64 ((2 ^ k - 1 : Nat) : Int)).toNat : Int) = _
  have e : (BitVec.ofInt 64 ((2 ^ k - 1 : Nat) : Int)).toNat = 2 ^ k - 1 := by
    rw [BitVec.ofInt_natCast, BitVec.toNat_ofNat, Nat.mod_eq_of_lt (by omega)]
  rw [BitVec.toNat_and, e, Nat.and_two_pow_sub_one_eq_mod, BitVec.toNat_ofInt]
  have h1 : (((x % ((2 ^ 64 : Nat) : Int)).toNat % 2 ^ k : Nat) : Int) = x % 2 ^ k := by
    rw [Int.natCast_emod, Int.toNat_of_nonneg (Int.emod_nonneg _ (by decide))]
    have hd : ((2 ^ k : Nat) : Int) ∣ ((2 ^ 64 : Nat) : Int) := Int.natCast_dvd_natCast.2 (Nat.pow_dvd_pow 2 (by omega))
    rw [Int.emod_emod_of_dvd _ hd, Int.natCast_pow]
    rfl
  rw [h1, IntKind.wrap_i64]
  have h2 : (2 : Int) ^ k ≤ 2 ^ 62 := by exact_mod_cast hle
  have h3 : (0 : Int) < 2 ^ k := by exact_mod_cast hpos
  have h4 := Int.emod_nonneg x (show (2 : Int) ^ k ≠ 0 by omega)
  have h5 := Int.emod_lt_of_pos x h3
  omega

end Go.Proofs.YteakglkagmghpaaGreat.R6
