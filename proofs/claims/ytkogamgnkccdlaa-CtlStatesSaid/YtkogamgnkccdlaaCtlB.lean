/-
  Contracts of ctl.Pack and ctl.Unpack and of the document's own.
-/
import Derived.Test.YtkogamgnkccdlaaCtl
import Derived.Laws.BitsAllLaws
namespace Go.Proofs.Ytkogamgnkccdlaa.Ctl
open Go.ChangeShapes Go.WideShapes Go.ChangeAt Go.RowKit
set_option linter.unusedVariables false

theorem ret2 {k k' : IntKind} {a b c d : Int} (h : a = b) (h' : c = d) : Ending.returned (.tuple #[.int k a, .int k' c]) = .returned (.tuple #[.int k b, .int k' d]) := by rw [h, h']
theorem bcell {W w1 : World} (hb : Below W.heap.size W w1) : (∀ b o, b < W.heap.size → w1.cell? ⟨b, o, none⟩ = W.cell? ⟨b, o, none⟩) ∧ (∀ b o, b < W.heap.size → w1.frozen? ⟨b, o, none⟩ = W.frozen? ⟨b, o, none⟩) :=
  ⟨fun b o h => hb.cell (p := ⟨b, o, none⟩) h, fun b o h => hb.frozen (p := ⟨b, o, none⟩) h⟩

def packV (s c p e : Int) : Int := if rightB s c p e = true then s + 4 * c + 1024 * (p + 1) + 262144 * e else 0
def packE (s c p e : Int) : Int := if rightB s c p e = true then 0 else 1

theorem or_join (k : Nat) (lo hi : Int) (h1 : 0 ≤ lo) (h2 : lo < 2 ^ k) (h3 : 0 ≤ hi) (h4 : hi % 2 ^ k = 0) (h5 : hi < 18446744073709551616) (h6 : lo < 18446744073709551616) : bits .or .u64 lo hi = lo + hi := by
  obtain ⟨a, rfl⟩ := Int.eq_ofNat_of_zero_le h1
  obtain ⟨b, rfl⟩ := Int.eq_ofNat_of_zero_le h3
  rw [u64_or_nat _ _ (by omega) (by omega)]
  have h2' : a < 2 ^ k := by exact_mod_cast h2
  have h4' : b % 2 ^ k = 0 := by exact_mod_cast h4
  have e : b = 2 ^ k * (b / 2 ^ k) := by have := Nat.div_add_mod b (2 ^ k); omega
  rw [e, Nat.or_comm, ← Nat.two_pow_add_eq_or_of_lt h2' (b / 2 ^ k)]
  push_cast
  omega

set_option maxHeartbeats 1000000 in
theorem pack_any (s c p e : Int) (w : World) :
    Calls Try.prog 10 #[.agg #[.int .i64 s, .int .i64 c, .int .i64 p, .int .i64 e]] w fun z w' => z = .returned (.tuple #[.int .u64 (packV s c p e), .int .i64 (packE s c p e)]) ∧ Below w.heap.size w w' := by
  by_cases hr : rightB s c p e = true
  · have hr' := of_decide_eq_true hr
    have HR := Lib.hid hr'
    have b1 : 0 ≤ s ∧ s ≤ 3 ∧ 0 ≤ c ∧ c ≤ 7 ∧ -1 ≤ p ∧ p ≤ 7 ∧ 0 ≤ e ∧ e ≤ 16777215 := by omega
    obtain ⟨b1, b2, b3, b4, b5, b6, b7, b8⟩ := b1
    clear hr'
    go_enter Try.func10, Try.ntmps10
    go_wp2_with fail
    refine (right_any _ _ _ _ _).mono ?_
    rintro z w1 ⟨rfl, k1⟩
    obtain ⟨q1, q2⟩ := bcell k1
    go_wp2
    go_ret2
    refine ⟨ret2 ?_ ?_, ((Below.refl _ _).alloc (Nat.le_refl _) _).trans (k1.mono (by simp))⟩
    · rw [or_join 2 s (c * 4) (by omega) (by omega) (by omega) (by omega) (by omega) (by omega), or_join 10 (s + c * 4) ((p + 1) * 1024) (by omega) (by omega) (by omega) (by omega) (by omega) (by omega),
        or_join 18 (s + c * 4 + (p + 1) * 1024) (e * 262144) (by omega) (by omega) (by omega) (by omega) (by omega) (by omega)]
      unfold packV
      rw [if_pos hr]
      omega
    · unfold packE
      rw [if_pos hr]
  · have hf : rightB s c p e = false := by simpa using hr
    clear hr
    go_enter Try.func10, Try.ntmps10
    go_wp2_with fail
    refine (right_any _ _ _ _ _).mono ?_
    rintro z w1 ⟨rfl, k1⟩
    go_wp2
    go_ret2
    refine ⟨ret2 ?_ ?_, ((Below.refl _ _).alloc (Nat.le_refl _) _).trans (k1.mono (by simp))⟩
    · unfold packV; rw [if_neg (by rw [hf]; decide)]
    · unfold packE; rw [if_neg (by rw [hf]; decide)]

set_option maxHeartbeats 1000000 in
theorem refpack_any (s c p e : Int) (w : World) :
    Calls Try.prog 11 #[.agg #[.int .i64 s, .int .i64 c, .int .i64 p, .int .i64 e]] w fun z w' => z = .returned (.tuple #[.int .u64 (packV s c p e), .int .i64 (packE s c p e)]) ∧ Below w.heap.size w w' := by
  by_cases hr : rightB s c p e = true
  · have hr' := of_decide_eq_true hr
    have b1 : 0 ≤ s ∧ s ≤ 3 ∧ 0 ≤ c ∧ c ≤ 7 ∧ -1 ≤ p ∧ p ≤ 7 ∧ 0 ≤ e ∧ e ≤ 16777215 := by omega
    obtain ⟨b1, b2, b3, b4, b5, b6, b7, b8⟩ := b1
    clear hr'
    go_enter Try.func11, Try.ntmps11
    go_wp2_with fail
    refine (refright_any _ _ _ _ _).mono ?_
    rintro z w1 ⟨rfl, k1⟩
    obtain ⟨q1, q2⟩ := bcell k1
    go_wp2
    go_ret2
    refine ⟨ret2 ?_ ?_, ((Below.refl _ _).alloc (Nat.le_refl _) _).trans (k1.mono (by simp))⟩
    · unfold packV; rw [if_pos hr]
    · unfold packE; rw [if_pos hr]
  · have hf : rightB s c p e = false := by simpa using hr
    clear hr
    go_enter Try.func11, Try.ntmps11
    go_wp2_with fail
    refine (refright_any _ _ _ _ _).mono ?_
    rintro z w1 ⟨rfl, k1⟩
    go_wp2
    go_ret2
    refine ⟨ret2 ?_ ?_, ((Below.refl _ _).alloc (Nat.le_refl _) _).trans (k1.mono (by simp))⟩
    · unfold packV; rw [if_neg (by rw [hf]; decide)]
    · unfold packE; rw [if_neg (by rw [hf]; decide)]

/-- Four parts, and an error. -/
structure R where
  s : Int
  c : Int
  p : Int
  e : Int
  x : Int
def no (x : Int) : R := ⟨0, 0, 0, 0, x⟩
theorem retR {r : R} {s c p e x : Int} (h : r = ⟨s, c, p, e, x⟩) :
    Ending.returned (.tuple #[.agg #[.int .i64 s, .int .i64 c, .int .i64 p, .int .i64 e], .int .i64 x]) = .returned (.tuple #[.agg #[.int .i64 r.s, .int .i64 r.c, .int .i64 r.p, .int .i64 r.e], .int .i64 r.x]) := by subst h; rfl

/-- What a word tells. -/
def unB (x : Int) : Bool := rightB (x % 4) (x / 4 % 256) (x / 1024 % 256 - 1) (x / 262144)
def unV (x : Int) : R := if unB x = true then ⟨x % 4, x / 4 % 256, x / 1024 % 256 - 1, x / 262144, 0⟩ else no 1

theorem wraps_u64 (n : Int) (h₀ : 0 ≤ n) (h₁ : n < 2 ^ 64) : IntKind.u64.wrap n = n := by rw [IntKind.wrap_u64]; omega
theorem mask_u64 (k : Nat) (c : Int) (h : 0 ≤ c) (h' : c ≤ 18446744073709551615) (hk : k ≤ 64 := by decide) : bits .and .u64 c (2 ^ k - 1) = c % 2 ^ k := by
  have := bits_mask .u64 64 (by decide) wraps_u64 k hk c h (by omega)
  simpa using this

set_option maxHeartbeats 1000000 in
theorem unpack_any (x : Int) (w : World) (x1 : 0 ≤ x) (x2 : x ≤ 18446744073709551615) :
    Calls Try.prog 12 #[.int .u64 x] w fun z w' => z = .returned (.tuple #[.agg #[.int .i64 (unV x).s, .int .i64 (unV x).c, .int .i64 (unV x).p, .int .i64 (unV x).e], .int .i64 (unV x).x]) ∧ Below w.heap.size w w' := by
  have m1 := mask_u64 2 x x1 (by omega)
  have m2 := mask_u64 8 (x / 4) (by omega) (by omega)
  have m3 := mask_u64 8 (x / 1024) (by omega) (by omega)
  simp only [Int.reducePow, Int.reduceSub] at m1 m2 m3
  by_cases hu : unB x = true
  · have hr : rightB (x % 4) (x / 4 % 256) (x / 1024 % 256 + -1) (x / 262144) = true := hu
    have HU := Lib.hid hu
    clear hu
    go_enter Try.func12, Try.ntmps12
    go_wp2_with fail
    refine (right_any _ _ _ _ _).mono ?_
    rintro z w1 ⟨rfl, k1⟩
    obtain ⟨q1, q2⟩ := bcell k1
    have hz : w.heap.size + 1 < w1.heap.size := by have := k1.size; simp at this; omega
    go_wp2
    have c0 : w1.cell? ⟨w.heap.size, 0, none⟩ = some (.int .i64 0) := by rw [q1 _ _ (by simp; try omega)]; simp [go_sem]
    have c1 : w1.cell? ⟨w.heap.size, 1, none⟩ = some (.int .i64 0) := by rw [q1 _ _ (by simp; try omega)]; simp [go_sem]
    have c2 : w1.cell? ⟨w.heap.size, 2, none⟩ = some (.int .i64 0) := by rw [q1 _ _ (by simp; try omega)]; simp [go_sem]
    have c3 : w1.cell? ⟨w.heap.size, 3, none⟩ = some (.int .i64 0) := by rw [q1 _ _ (by simp; try omega)]; simp [go_sem]
    refine bodyPost_ret (v := .tuple #[.agg #[.int .i64 (x % 4), .int .i64 (x / 4 % 256), .int .i64 (x / 1024 % 256 + -1), .int .i64 (x / 262144)], .int .i64 0]) (by simp [results, Try.results12, go_sem, c0, c1, c2, c3]) rfl ⟨retR ?_, ?_⟩
    · unfold unV; rw [if_pos HU.out]; rfl
    · exact (((((((Below.refl _ _).alloc (Nat.le_refl _) _).alloc (by simp) _).trans (k1.mono (by simp; omega))).setCell (by simp) _).setCell (by simp) _).setCell (by simp) _).setCell (by simp) _
  · have hr : rightB (x % 4) (x / 4 % 256) (x / 1024 % 256 + -1) (x / 262144) = false := (Bool.not_eq_true _).mp hu
    have HU := Lib.hid hu
    clear hu
    go_enter Try.func12, Try.ntmps12
    go_wp2_with fail
    refine (right_any _ _ _ _ _).mono ?_
    rintro z w1 ⟨rfl, k1⟩
    obtain ⟨q1, q2⟩ := bcell k1
    have hz : w.heap.size + 1 < w1.heap.size := by have := k1.size; simp at this; omega
    go_wp2
    have c0 : w1.cell? ⟨w.heap.size, 0, none⟩ = some (.int .i64 0) := by rw [q1 _ _ (by simp; try omega)]; simp [go_sem]
    have c1 : w1.cell? ⟨w.heap.size, 1, none⟩ = some (.int .i64 0) := by rw [q1 _ _ (by simp; try omega)]; simp [go_sem]
    have c2 : w1.cell? ⟨w.heap.size, 2, none⟩ = some (.int .i64 0) := by rw [q1 _ _ (by simp; try omega)]; simp [go_sem]
    have c3 : w1.cell? ⟨w.heap.size, 3, none⟩ = some (.int .i64 0) := by rw [q1 _ _ (by simp; try omega)]; simp [go_sem]
    refine bodyPost_ret (v := .tuple #[.agg #[.int .i64 0, .int .i64 0, .int .i64 0, .int .i64 0], .int .i64 1]) (by simp [results, Try.results12, go_sem, c0, c1, c2, c3]) rfl ⟨retR ?_, ?_⟩
    · unfold unV; rw [if_neg HU.out]; rfl
    · exact (((((((Below.refl _ _).alloc (Nat.le_refl _) _).alloc (by simp) _).trans (k1.mono (by simp; omega))).setCell (by simp) _).setCell (by simp) _).setCell (by simp) _).setCell (by simp) _
end Go.Proofs.Ytkogamgnkccdlaa.Ctl
