/-
  Contracts of the calls of package num and of the document's own answers for it: each returns the plain numbers addV, upV, wordsV and their errors, for every two integers of 64 bits, and leaves the world as it was.
-/
import Derived.Test.YteakglkagmghpaaGreatProg
import Derived.WalkKit
import Derived.ProofKit
import Derived.OpenShut
import Derived.IntWalk
import Derived.Lib.Hide
import Derived.Below
import Derived.RegionTactic
import Derived.BigRegion
import Derived.Deep.QuietTactic
import Derived.BigQuiet
import Derived.Laws.BitsAllLaws
import Derived.Deep.RegionHeld3
import Derived.Test.YteakglkagmghpaaGreatBase
namespace Go.Proofs.YteakglkagmghpaaGreat.Num
open Go.ChangeShapes Go.WideShapes Go.ChangeAt Go.RowKit
set_option linter.unusedVariables false

def upV (n : Int) : Int := if n < 0 ∨ 9223372036854775800 < n then 0 else (n + 7) / 8 * 8
def upE (n : Int) : Int := if n < 0 then 1 else if 9223372036854775800 < n then 3 else 0
def wordsV (n : Int) : Int := upV n / 8

theorem ret2 {k : IntKind} {a b c d : Int} (h : a = b) (h' : c = d) : Ending.returned (.tuple #[.int k a, .int k c]) = .returned (.tuple #[.int k b, .int k d]) := by rw [h, h']

set_option maxHeartbeats 400000 in
theorem up_any (n : Int) (w : World) (n1 : -9223372036854775808 ≤ n) (n2 : n ≤ 9223372036854775807) :
    Calls Tryz.prog 126 #[.int .i64 n] w fun e w' => e = .returned (.tuple #[.int .i64 (upV n), .int .i64 (upE n)]) ∧ w = w' := by
  by_cases h : n < 0
  · go_enter Tryz.func126, Tryz.ntmps126
    go_wp2
    go_ret2
    exact ⟨ret2 (by unfold upV; rw [if_pos (by omega)]) (by unfold upE; rw [if_pos (by omega)]), rfl⟩
  · have h0 : 0 ≤ n := by omega
    by_cases h' : 9223372036854775800 < n
    · go_enter Tryz.func126, Tryz.ntmps126
      go_wp2
      go_ret2
      exact ⟨ret2 (by unfold upV; rw [if_pos (by omega)]) (by unfold upE; rw [if_neg (by omega), if_pos (by omega)]), rfl⟩
    · by_cases h8 : n % 8 = 0
      · go_enter Tryz.func126, Tryz.ntmps126
        go_wp2
        go_ret2
        exact ⟨ret2 (by unfold upV; rw [if_neg (by omega)]; omega) (by unfold upE; rw [if_neg (by omega), if_neg (by omega)]), rfl⟩
      · go_enter Tryz.func126, Tryz.ntmps126
        go_wp2
        go_ret2
        exact ⟨ret2 (by unfold upV; rw [if_neg (by omega)]; omega) (by unfold upE; rw [if_neg (by omega), if_neg (by omega)]), rfl⟩

theorem within_yes (n lo hi : Int) (w : World) (h1 : lo ≤ n) (h2 : n ≤ hi) :
    Calls Tryz.prog 90 #[.int .i64 n, .int .i64 lo, .int .i64 hi] w fun e w' => e = .returned (.bool true) ∧ w = w' := by
  go_enter Tryz.func90, Tryz.ntmps90
  go_wp2
  go_ret
  exact ⟨rfl, rfl⟩
theorem within_no (n lo hi : Int) (w : World) (h : ¬ (lo ≤ n ∧ n ≤ hi)) :
    Calls Tryz.prog 90 #[.int .i64 n, .int .i64 lo, .int .i64 hi] w fun e w' => e = .returned (.bool false) ∧ w = w' := by
  by_cases h1 : lo ≤ n
  · have h2 : decide (n ≤ hi) = false := by simp; omega
    clear h
    go_enter Tryz.func90, Tryz.ntmps90
    go_wp2
    go_ret
    exact ⟨rfl, rfl⟩
  · have h2 : decide (lo ≤ n) = false := by simp; omega
    clear h
    go_enter Tryz.func90, Tryz.ntmps90
    go_wp2
    go_ret
    exact ⟨rfl, rfl⟩

theorem up_ok (n : Int) (w : World) (n1 : 0 ≤ n) (n2 : n ≤ 9223372036854775800) :
    Calls Tryz.prog 126 #[.int .i64 n] w fun e w' => e = .returned (.tuple #[.int .i64 (upV n), .int .i64 0]) ∧ w = w' :=
  (up_any n w (by omega) (by omega)).mono fun e w' ⟨he, hw⟩ => ⟨by rw [he, show upE n = 0 by unfold upE; rw [if_neg (by omega), if_neg (by omega)]], hw⟩
theorem upV_ok (n : Int) (n1 : 0 ≤ n) (n2 : n ≤ 9223372036854775800) : upV n = (n + 7) / 8 * 8 := by
  unfold upV; rw [if_neg (by omega)]
theorem wraps_u64 (n : Int) (h₀ : 0 ≤ n) (h₁ : n < 2 ^ 64) : IntKind.u64.wrap n = n := by rw [IntKind.wrap_u64]; omega
end Go.Proofs.YteakglkagmghpaaGreat.Num

/-
  Contracts of package plan and of the document's own answers for it: each returns the plain values rightB, szV, .. for every four integers, and changes nothing that was there.
-/
namespace Go.Proofs.YteakglkagmghpaaGreat.Plan
open Go.ChangeShapes Go.WideShapes Go.ChangeAt Go.RowKit
set_option linter.unusedVariables false

theorem ret_int {k : IntKind} {a b : Int} (h : a = b) : Ending.returned (.int k a) = .returned (.int k b) := by rw [h]
theorem ret_bool {a b : Bool} (h : a = b) : Ending.returned (.bool a) = .returned (.bool b) := by rw [h]
theorem ret2 {k k' : IntKind} {a b c d : Int} (h : a = b) (h' : c = d) : Ending.returned (.tuple #[.int k a, .int k' c]) = .returned (.tuple #[.int k b, .int k' d]) := by rw [h, h']
theorem bcell {W w1 : World} (hb : Below W.heap.size W w1) : (∀ b o, b < W.heap.size → w1.cell? ⟨b, o, none⟩ = W.cell? ⟨b, o, none⟩) ∧ (∀ b o, b < W.heap.size → w1.frozen? ⟨b, o, none⟩ = W.frozen? ⟨b, o, none⟩) :=
  ⟨fun b o h => hb.cell (p := ⟨b, o, none⟩) h, fun b o h => hb.frozen (p := ⟨b, o, none⟩) h⟩

def withinB (a lo hi : Int) : Bool := decide (lo ≤ a ∧ a ≤ hi)
def bytesB (a hi : Int) : Bool := decide (0 ≤ a ∧ a ≤ hi ∧ a % 8 = 0)
def rightB (s t i h : Int) : Bool := decide (1 ≤ s ∧ s ≤ 8 ∧ 1 ≤ t ∧ t ≤ 4 ∧ 0 ≤ i ∧ i ≤ 2048 ∧ i % 8 = 0 ∧ 0 ≤ h ∧ h ≤ 8192 ∧ h % 8 = 0)

set_option maxHeartbeats 400000 in
theorem within_any (a lo hi : Int) (w : World) :
    Calls Tryz.prog 90 #[.int .i64 a, .int .i64 lo, .int .i64 hi] w fun e w' => e = .returned (.bool (withinB a lo hi)) ∧ w = w' := by
  by_cases h1 : lo ≤ a
  · by_cases h2 : a ≤ hi
    all_goals
      go_enter Tryz.func90, Tryz.ntmps90
      go_wp2
      go_ret
      exact ⟨ret_bool (by simp [withinB]; omega), rfl⟩
  · go_enter Tryz.func90, Tryz.ntmps90
    go_wp2
    go_ret
    exact ⟨ret_bool (by simp [withinB]; omega), rfl⟩

set_option maxHeartbeats 400000 in
theorem bytes_any (a hi : Int) (w : World) :
    Calls Tryz.prog 91 #[.int .i64 a, .int .i64 hi] w fun e w' => e = .returned (.bool (bytesB a hi)) ∧ w = w' := by
  by_cases hw : withinB a 0 hi = true
  · have h' := of_decide_eq_true hw
    obtain ⟨h1, h2⟩ := h'
    go_enter Tryz.func91, Tryz.ntmps91
    go_wp2_with (go_at_call 90; refine (within_any _ _ _ _).mono ?_; rintro e w' ⟨rfl, rfl⟩)
    go_ret
    refine ⟨ret_bool ?_, rfl⟩
    rw [Bool.eq_iff_iff]
    simp only [bytesB, beq_iff_eq, decide_eq_true_eq]
    omega
  · have hf : withinB a 0 hi = false := by simpa using hw
    have H := Lib.hid (of_decide_eq_false hf)
    clear hw
    go_enter Tryz.func91, Tryz.ntmps91
    go_wp2_with (go_at_call 90; refine (within_any _ _ _ _).mono ?_; rintro e w' ⟨rfl, rfl⟩)
    go_ret
    exact ⟨ret_bool (by have := H.out; unfold bytesB; symm; exact decide_eq_false (by omega)), rfl⟩

set_option maxHeartbeats 1000000 in
theorem right_any (s t i h : Int) (w : World) :
    Calls Tryz.prog 42 #[.agg #[.int .i64 s, .int .i64 t, .int .i64 i, .int .i64 h]] w fun z w' => z = .returned (.bool (rightB s t i h)) ∧ Below w.heap.size w w' := by
  go_enter Tryz.func42, Tryz.ntmps42
  go_wp2_with (first
    | (go_at_call 90; refine (within_any _ _ _ _).mono ?_; rintro e w' ⟨rfl, rfl⟩)
    | (go_at_call 91; refine (bytes_any _ _ _).mono ?_; rintro e w' ⟨rfl, rfl⟩))
  all_goals
    go_ret
    refine ⟨ret_bool ?_, (Below.refl _ _).alloc (Nat.le_refl _) _⟩
    simp only [withinB, bytesB, decide_eq_true_eq] at *
    rw [Bool.eq_iff_iff]
    simp only [rightB, decide_eq_true_eq, Bool.false_eq_true, false_iff]
    omega

end Go.Proofs.YteakglkagmghpaaGreat.Plan

/-
  Contracts of plan.At, Immortal, Heap and Size, and of the document's own.
-/
namespace Go.Proofs.YteakglkagmghpaaGreat.Plan
open Go.ChangeShapes Go.WideShapes Go.ChangeAt Go.RowKit
set_option linter.unusedVariables false

/-- An extent and an error; a place and an error. -/
structure X where
  at_ : Int
  size : Int
  err : Int
structure Y where
  n : Int
  err : Int
def immV (s t i h : Int) : X := if rightB s t i h = true then ⟨64 * s, i, 0⟩ else ⟨0, 0, 1⟩
def heapV (s t i h : Int) : X := if rightB s t i h = true then ⟨64 * s + i, h, 0⟩ else ⟨0, 0, 1⟩
def sizeV (s t i h : Int) : Y := if rightB s t i h = true then ⟨64 * s + i + h, 0⟩ else ⟨0, 1⟩
def atV (s t i h p c : Int) : Y := if rightB s t i h = true ∧ withinB p 0 4 = true then if withinB c 0 (s - 1) = true then ⟨64 * c + 8 * p, 0⟩ else ⟨0, 2⟩ else ⟨0, 1⟩
theorem retX {r : X} {a b e : Int} (h : r = ⟨a, b, e⟩) : Ending.returned (.tuple #[.agg #[.int .i64 a, .int .i64 b], .int .i64 e]) = .returned (.tuple #[.agg #[.int .i64 r.at_, .int .i64 r.size], .int .i64 r.err]) := by subst h; rfl
theorem retY {r : Y} {a e : Int} (h : r = ⟨a, e⟩) : Ending.returned (.tuple #[.int .i64 a, .int .i64 e]) = .returned (.tuple #[.int .i64 r.n, .int .i64 r.err]) := by subst h; rfl
theorem rbounds {s t i h : Int} (hr : rightB s t i h = true) : 1 ≤ s ∧ s ≤ 8 ∧ 1 ≤ t ∧ t ≤ 4 ∧ 0 ≤ i ∧ i ≤ 2048 ∧ i % 8 = 0 ∧ 0 ≤ h ∧ h ≤ 8192 ∧ h % 8 = 0 := of_decide_eq_true hr

theorem end_any (a n : Int) (w : World) (h1 : -10000000 ≤ a) (h2 : a ≤ 10000000) (h3 : -10000000 ≤ n) (h4 : n ≤ 10000000) :
    Calls Tryz.prog 138 #[.agg #[.int .i64 a, .int .i64 n]] w fun z w' => z = .returned (.int .i64 (a + n)) ∧ Below w.heap.size w w' := by
  go_enter Tryz.func138, Tryz.ntmps138
  go_wp2
  go_ret
  exact ⟨rfl, (Below.refl _ _).alloc (Nat.le_refl _) _⟩

set_option maxHeartbeats 1000000 in
theorem at_any (s t i h p c : Int) (w : World) :
    Calls Tryz.prog 133 #[.agg #[.int .i64 s, .int .i64 t, .int .i64 i, .int .i64 h], .int .i64 p, .int .i64 c] w fun z w' => z = .returned (.tuple #[.int .i64 (atV s t i h p c).n, .int .i64 (atV s t i h p c).err]) ∧ Below w.heap.size w w' := by
  by_cases hr : rightB s t i h = true
  · obtain ⟨b1, b2, b3, b4, b5, b6, b7, b8, b9, b10⟩ := rbounds hr
    by_cases hp : withinB p 0 4 = true
    · obtain ⟨p1, p2⟩ : 0 ≤ p ∧ p ≤ 4 := of_decide_eq_true hp
      by_cases hc : withinB c 0 (s - 1) = true
      · obtain ⟨c1, c2⟩ : 0 ≤ c ∧ c ≤ s - 1 := of_decide_eq_true hc
        go_enter Tryz.func133, Tryz.ntmps133
        go_wp2_with fail
        refine (right_any _ _ _ _ _).mono ?_
        rintro z w1 ⟨rfl, k1⟩
        obtain ⟨q1, q2⟩ := bcell k1
        go_wp2_with (go_at_call 90; refine (within_any _ _ _ _).mono ?_; rintro e w' ⟨rfl, rfl⟩)
        go_ret2
        refine ⟨retY ?_, ((Below.refl _ _).alloc (Nat.le_refl _) _).trans (k1.mono (by simp))⟩
        unfold atV; rw [if_pos ⟨hr, hp⟩, if_pos hc]; congr 1; omega
      · have hf : withinB c 0 (s - 1) = false := by simpa using hc
        have HC := Lib.hid hc
        clear hc
        go_enter Tryz.func133, Tryz.ntmps133
        go_wp2_with fail
        refine (right_any _ _ _ _ _).mono ?_
        rintro z w1 ⟨rfl, k1⟩
        obtain ⟨q1, q2⟩ := bcell k1
        go_wp2_with (go_at_call 90; refine (within_any _ _ _ _).mono ?_; rintro e w' ⟨rfl, rfl⟩)
        go_ret2
        refine ⟨retY ?_, ((Below.refl _ _).alloc (Nat.le_refl _) _).trans (k1.mono (by simp))⟩
        unfold atV; rw [if_pos ⟨hr, hp⟩, if_neg HC.out]
    · have hf : withinB p 0 4 = false := by simpa using hp
      have HP := Lib.hid hp
      clear hp
      go_enter Tryz.func133, Tryz.ntmps133
      go_wp2_with fail
      refine (right_any _ _ _ _ _).mono ?_
      rintro z w1 ⟨rfl, k1⟩
      obtain ⟨q1, q2⟩ := bcell k1
      go_wp2_with (go_at_call 90; refine (within_any _ _ _ _).mono ?_; rintro e w' ⟨rfl, rfl⟩)
      go_ret2
      refine ⟨retY ?_, ((Below.refl _ _).alloc (Nat.le_refl _) _).trans (k1.mono (by simp))⟩
      unfold atV; rw [if_neg (fun k => HP.out k.2)]
  · have hf : rightB s t i h = false := by simpa using hr
    have HR := Lib.hid hr
    clear hr
    go_enter Tryz.func133, Tryz.ntmps133
    go_wp2_with fail
    refine (right_any _ _ _ _ _).mono ?_
    rintro z w1 ⟨rfl, k1⟩
    obtain ⟨q1, q2⟩ := bcell k1
    go_wp2
    go_ret2
    refine ⟨retY ?_, ((Below.refl _ _).alloc (Nat.le_refl _) _).trans (k1.mono (by simp))⟩
    unfold atV; rw [if_neg (fun k => HR.out k.1)]

set_option maxHeartbeats 1000000 in
theorem imm_any (s t i h : Int) (w : World) :
    Calls Tryz.prog 93 #[.agg #[.int .i64 s, .int .i64 t, .int .i64 i, .int .i64 h]] w fun z w' => z = .returned (.tuple #[.agg #[.int .i64 (immV s t i h).at_, .int .i64 (immV s t i h).size], .int .i64 (immV s t i h).err]) ∧ Below w.heap.size w w' := by
  by_cases hr : rightB s t i h = true
  · obtain ⟨b1, b2, b3, b4, b5, b6, b7, b8, b9, b10⟩ := rbounds hr
    have HR := Lib.hid hr
    go_enter Tryz.func93, Tryz.ntmps93
    go_wp2_with fail
    refine (right_any _ _ _ _ _).mono ?_
    rintro z w1 ⟨rfl, k1⟩
    obtain ⟨q1, q2⟩ := bcell k1
    have hz : w.heap.size + 1 < w1.heap.size := by have := k1.size; simp at this; omega
    have c0 : w1.cell? ⟨w.heap.size + 1, 0, none⟩ = some (.int .i64 0) := by rw [q1 _ _ (by simp; try omega)]; simp [go_sem]
    have c1 : w1.cell? ⟨w.heap.size + 1, 1, none⟩ = some (.int .i64 0) := by rw [q1 _ _ (by simp; try omega)]; simp [go_sem]
    go_wp2
    refine bodyPost_ret (v := .tuple #[.agg #[.int .i64 (s * 64), .int .i64 i], .int .i64 0]) (by simp [results, Tryz.results93, go_sem, c0, c1]) rfl ⟨retX ?_, ?_⟩
    · unfold immV; rw [if_pos HR.out]; congr 1; omega
    · exact (((((Below.refl _ _).alloc (Nat.le_refl _) _).alloc (by simp) _).trans (k1.mono (by simp; omega))).setCell (by simp) _).setCell (by simp) _
  · have hf : rightB s t i h = false := by simpa using hr
    have HR := Lib.hid hr
    clear hr
    go_enter Tryz.func93, Tryz.ntmps93
    go_wp2_with fail
    refine (right_any _ _ _ _ _).mono ?_
    rintro z w1 ⟨rfl, k1⟩
    obtain ⟨q1, q2⟩ := bcell k1
    have hz : w.heap.size + 1 < w1.heap.size := by have := k1.size; simp at this; omega
    have c0 : w1.cell? ⟨w.heap.size + 1, 0, none⟩ = some (.int .i64 0) := by rw [q1 _ _ (by simp; try omega)]; simp [go_sem]
    have c1 : w1.cell? ⟨w.heap.size + 1, 1, none⟩ = some (.int .i64 0) := by rw [q1 _ _ (by simp; try omega)]; simp [go_sem]
    go_wp2
    refine bodyPost_ret (v := .tuple #[.agg #[.int .i64 0, .int .i64 0], .int .i64 1]) (by simp [results, Tryz.results93, go_sem, c0, c1]) rfl ⟨retX ?_, ?_⟩
    · unfold immV; rw [if_neg HR.out]
    · exact (((((Below.refl _ _).alloc (Nat.le_refl _) _).alloc (by simp) _).trans (k1.mono (by simp; omega))).setCell (by simp) _).setCell (by simp) _
end Go.Proofs.YteakglkagmghpaaGreat.Plan

/-
  Contracts of plan.Heap and Size.
-/
namespace Go.Proofs.YteakglkagmghpaaGreat.Plan
open Go.ChangeShapes Go.WideShapes Go.ChangeAt Go.RowKit
set_option linter.unusedVariables false

theorem cell_old {w : World} {o : Obj} {b k : Nat} (h : b < w.heap.size) : (w.alloc o).cell? ⟨b, k, none⟩ = w.cell? ⟨b, k, none⟩ := ((Below.refl w.heap.size w).alloc (Nat.le_refl _) o).cell (p := ⟨b, k, none⟩) h

/-- What Heap carries over the call of end: its box (block b), its result (block c) and the immortal extent (block d). -/
structure Hs (w0 w : World) (b c d : Nat) (h a n : Int) : Prop where
  below : Below w0.heap.size w0 w
  lb : b < w.heap.size
  lc : c < w.heap.size
  ld : d < w.heap.size
  b3 : w.cell? ⟨b, 3, none⟩ = some (.int .i64 h)
  d0 : w.cell? ⟨d, 0, none⟩ = some (.int .i64 a)
  d1 : w.cell? ⟨d, 1, none⟩ = some (.int .i64 n)
  c0 : w.cell? ⟨c, 0, none⟩ = some (.int .i64 0)
  c1 : w.cell? ⟨c, 1, none⟩ = some (.int .i64 0)
  fz : ∀ o, w.frozen? ⟨c, o, none⟩ = false
theorem Hs.call {w0 w w' : World} {b c d : Nat} {h a n : Int} (H : Hs w0 w b c d h a n) (k : Below w.heap.size w w') : Hs w0 w' b c d h a n :=
  ⟨H.below.trans (k.mono H.below.size), Nat.lt_of_lt_of_le H.lb k.size, Nat.lt_of_lt_of_le H.lc k.size, Nat.lt_of_lt_of_le H.ld k.size, (k.cell (p := ⟨b, 3, none⟩) H.lb).trans H.b3, (k.cell (p := ⟨d, 0, none⟩) H.ld).trans H.d0, (k.cell (p := ⟨d, 1, none⟩) H.ld).trans H.d1, (k.cell (p := ⟨c, 0, none⟩) H.lc).trans H.c0, (k.cell (p := ⟨c, 1, none⟩) H.lc).trans H.c1, fun o => (k.frozen (p := ⟨c, o, none⟩) H.lc).trans (H.fz o)⟩
theorem Hs.lift {f : FuncId} {args : Array Value} {w0 w : World} {b c d : Nat} {h a n : Int} {r : Ending} (H : Hs w0 w b c d h a n) (k : Calls Tryz.prog f args w fun e w' => e = r ∧ Below w.heap.size w w') :
    Calls Tryz.prog f args w fun e w' => e = r ∧ Hs w0 w' b c d h a n := k.mono fun e w' ⟨he, k⟩ => ⟨he, H.call k⟩

set_option maxHeartbeats 1000000 in
theorem heap_any (s t i h : Int) (w : World) :
    Calls Tryz.prog 94 #[.agg #[.int .i64 s, .int .i64 t, .int .i64 i, .int .i64 h]] w fun z w' => z = .returned (.tuple #[.agg #[.int .i64 (heapV s t i h).at_, .int .i64 (heapV s t i h).size], .int .i64 (heapV s t i h).err]) ∧ Below w.heap.size w w' := by
  by_cases hr : rightB s t i h = true
  · obtain ⟨b1, b2, b3, b4, b5, b6, b7, b8, b9, b10⟩ := rbounds hr
    have HI : Hid (immV s t i h = ⟨64 * s, i, 0⟩) := Lib.hid (by unfold immV; rw [if_pos hr])
    have HR := Lib.hid hr
    go_enter Tryz.func94, Tryz.ntmps94
    go_wp2_with fail
    refine (imm_any _ _ _ _ _).mono ?_
    rintro z w1 ⟨rfl, k1⟩
    rw [HI.out]
    obtain ⟨q1, q2⟩ := bcell k1
    have hz : w.heap.size + 1 < w1.heap.size := by have := k1.size; simp at this; omega
    have a3 : w1.cell? ⟨w.heap.size, 3, none⟩ = some (.int .i64 h) := by rw [q1 _ _ (by simp; try omega)]; simp [go_sem]
    have c0 : w1.cell? ⟨w.heap.size + 1, 0, none⟩ = some (.int .i64 0) := by rw [q1 _ _ (by simp; try omega)]; simp [go_sem]
    have c1 : w1.cell? ⟨w.heap.size + 1, 1, none⟩ = some (.int .i64 0) := by rw [q1 _ _ (by simp; try omega)]; simp [go_sem]
    go_wp2_with fail
    have H0 : Hs w (w1.alloc (.cells #[.int .i64 (64 * s), .int .i64 i] 119)) w.heap.size (w.heap.size + 1) w1.heap.size h (64 * s) i := by
      have kV : Below w1.heap.size w1 (w1.alloc (.cells #[.int .i64 (64 * s), .int .i64 i] 119)) := (Below.refl _ _).alloc (Nat.le_refl _) _
      have KV := (((Below.refl _ w).alloc (Nat.le_refl _) _).alloc (by simp) _).trans ((k1.mono (by simp; omega)).trans (kV.mono (by omega)))
      exact ⟨KV, by simp; omega, by simp; omega, by simp, (kV.cell (p := ⟨_, 3, none⟩) (by simp; omega)).trans a3, by simp [go_sem], by simp [go_sem], (kV.cell (p := ⟨_, 0, none⟩) hz).trans c0, (kV.cell (p := ⟨_, 1, none⟩) hz).trans c1, fun o => (kV.frozen (p := ⟨_, o, none⟩) hz).trans ((q2 _ _ (by simp)).trans (by simp))⟩
    generalize w1.alloc (.cells #[.int .i64 (64 * s), .int .i64 i] 119) = V at *
    clear a3 c0 c1 q1 q2 k1
    have D0 := H0.call (Below.refl _ _).drew
    obtain ⟨g0, g1, g2, g3, g4, g5, g6, g7, g8, g9⟩ := H0
    go_region_held3 (fun w' => w'.cell? ⟨w.heap.size, 3, none⟩ = some (.int .i64 h) ∧ w'.cell? ⟨w1.heap.size, 0, none⟩ = some (.int .i64 (64 * s)) ∧ w'.cell? ⟨w1.heap.size, 1, none⟩ = some (.int .i64 i))
      (first | exact ⟨g4, g5, g6⟩ | exact ⟨r4, r5, r6⟩ | exact ⟨by simp [go_sem, r4], by simp [go_sem, r5], by simp [go_sem, r6]⟩)
      (first | (go_at_call 138; refine (D0.lift (end_any _ _ _ (by omega) (by omega) (by omega) (by omega))).mono ?_; rintro z w2 ⟨rfl, H2⟩; have ⟨r0, r1, r2, r3, r4, r5, r6, r7, r8, r9⟩ := H2))
    go_wp2
    refine bodyPost_ret (v := .tuple #[.agg #[.int .i64 (64 * s + i), .int .i64 h], .int .i64 0]) (by simp [results, Tryz.results94, go_sem, r7, r8]) rfl ⟨retX ?_, ?_⟩
    · unfold heapV; rw [if_pos HR.out]
    · exact (r0.setCell (by simp) _).setCell (by simp) _
  · have hf : rightB s t i h = false := by simpa using hr
    have HI : Hid (immV s t i h = ⟨0, 0, 1⟩) := Lib.hid (by unfold immV; rw [if_neg hr])
    have HR := Lib.hid hr
    clear hr
    go_enter Tryz.func94, Tryz.ntmps94
    go_wp2_with fail
    refine (imm_any _ _ _ _ _).mono ?_
    rintro z w1 ⟨rfl, k1⟩
    rw [HI.out]
    obtain ⟨q1, q2⟩ := bcell k1
    have hz : w.heap.size + 1 < w1.heap.size := by have := k1.size; simp at this; omega
    have c0 : w1.cell? ⟨w.heap.size + 1, 0, none⟩ = some (.int .i64 0) := by rw [q1 _ _ (by simp; try omega)]; simp [go_sem]
    have c1 : w1.cell? ⟨w.heap.size + 1, 1, none⟩ = some (.int .i64 0) := by rw [q1 _ _ (by simp; try omega)]; simp [go_sem]
    go_wp2
    refine bodyPost_ret (v := .tuple #[.agg #[.int .i64 0, .int .i64 0], .int .i64 1]) (by simp [results, Tryz.results94, go_sem, c0, c1, cell_old, hz]) rfl ⟨retX ?_, ?_⟩
    · unfold heapV; rw [if_neg HR.out]
    · exact (((((((Below.refl _ _).alloc (Nat.le_refl _) _).alloc (by simp) _).trans (k1.mono (by simp; omega))).setCell (by simp) _).setCell (by simp) _).alloc (by simp; omega) _)

set_option maxHeartbeats 1000000 in
theorem size_any (s t i h : Int) (w : World) :
    Calls Tryz.prog 117 #[.agg #[.int .i64 s, .int .i64 t, .int .i64 i, .int .i64 h]] w fun z w' => z = .returned (.tuple #[.int .i64 (sizeV s t i h).n, .int .i64 (sizeV s t i h).err]) ∧ Below w.heap.size w w' := by
  by_cases hr : rightB s t i h = true
  · obtain ⟨b1, b2, b3, b4, b5, b6, b7, b8, b9, b10⟩ := rbounds hr
    have HI : Hid (heapV s t i h = ⟨64 * s + i, h, 0⟩) := Lib.hid (by unfold heapV; rw [if_pos hr])
    have HR := Lib.hid hr
    go_enter Tryz.func117, Tryz.ntmps117
    go_wp2_with fail
    refine (heap_any _ _ _ _ _).mono ?_
    rintro z w1 ⟨rfl, k1⟩
    rw [HI.out]
    go_wp2_with fail
    refine (end_any _ _ _ (by omega) (by omega) (by omega) (by omega)).mono ?_
    rintro z w2 ⟨rfl, k2⟩
    go_wp2
    go_ret2
    refine ⟨retY ?_, ?_⟩
    · unfold sizeV; rw [if_pos HR.out]
    · exact ((((Below.refl _ _).alloc (Nat.le_refl _) _).trans (k1.mono (by simp))).alloc (by have := k1.size; simp at this; omega) _).trans (k2.mono (by have := k1.size; simp at this ⊢; omega))
  · have hf : rightB s t i h = false := by simpa using hr
    have HI : Hid (heapV s t i h = ⟨0, 0, 1⟩) := Lib.hid (by unfold heapV; rw [if_neg hr])
    have HR := Lib.hid hr
    clear hr
    go_enter Tryz.func117, Tryz.ntmps117
    go_wp2_with fail
    refine (heap_any _ _ _ _ _).mono ?_
    rintro z w1 ⟨rfl, k1⟩
    rw [HI.out]
    go_wp2
    go_ret2
    refine ⟨retY ?_, ?_⟩
    · unfold sizeV; rw [if_neg HR.out]
    · exact (((Below.refl _ _).alloc (Nat.le_refl _) _).trans (k1.mono (by simp))).alloc (by have := k1.size; simp at this; omega) _
end Go.Proofs.YteakglkagmghpaaGreat.Plan

/-
  Contracts of the document's own answers for plan, of its Fit, and of the examples at the head of all laws of layer 5.
-/
namespace Go.Proofs.YteakglkagmghpaaGreat.Plan
open Go.ChangeShapes Go.WideShapes Go.ChangeAt Go.RowKit
open Held
set_option linter.unusedVariables false

theorem refat_any (p c : Int) (w : World) (p1 : 0 ≤ p) (p2 : p ≤ 4) (c1 : 0 ≤ c) (c2 : c ≤ 7) :
    Calls Tryz.prog 123 #[.int .i64 p, .int .i64 c] w fun z w' => z = .returned (.int .i64 (64 * c + 8 * p)) ∧ Below w.heap.size w w' := by
  go_enter Tryz.func123, Tryz.ntmps123
  go_wp2
  go_ret
  exact ⟨rfl, Below.refl _ _⟩
theorem refsize_any (s t i h : Int) (w : World) (hr : rightB s t i h = true) :
    Calls Tryz.prog 71 #[.agg #[.int .i64 s, .int .i64 t, .int .i64 i, .int .i64 h]] w fun z w' => z = .returned (.int .i64 (64 * s + i + h)) ∧ Below w.heap.size w w' := by
  obtain ⟨b1, b2, b3, b4, b5, b6, b7, b8, b9, b10⟩ := rbounds hr
  go_enter Tryz.func71, Tryz.ntmps71
  go_wp2
  go_ret
  exact ⟨rfl, (Below.refl _ _).alloc (Nat.le_refl _) _⟩
theorem refimm_any (s t i h : Int) (w : World) (hr : rightB s t i h = true) :
    Calls Tryz.prog 75 #[.agg #[.int .i64 s, .int .i64 t, .int .i64 i, .int .i64 h]] w fun z w' => z = .returned (.agg #[.int .i64 (64 * s), .int .i64 i]) ∧ Below w.heap.size w w' := by
  obtain ⟨b1, b2, b3, b4, b5, b6, b7, b8, b9, b10⟩ := rbounds hr
  go_enter Tryz.func75, Tryz.ntmps75
  go_wp2
  refine bodyPost_ret (v := .agg #[.int .i64 (64 * s), .int .i64 i]) (by simp [results, Tryz.results75, go_sem]) rfl ⟨rfl, ?_⟩
  exact ((Below.refl _ _).alloc (Nat.le_refl _) _).alloc (by simp) _
theorem refheap_any (s t i h : Int) (w : World) (hr : rightB s t i h = true) :
    Calls Tryz.prog 69 #[.agg #[.int .i64 s, .int .i64 t, .int .i64 i, .int .i64 h]] w fun z w' => z = .returned (.agg #[.int .i64 (64 * s + i), .int .i64 h]) ∧ Below w.heap.size w w' := by
  obtain ⟨b1, b2, b3, b4, b5, b6, b7, b8, b9, b10⟩ := rbounds hr
  go_enter Tryz.func69, Tryz.ntmps69
  go_wp2
  refine bodyPost_ret (v := .agg #[.int .i64 (64 * s + i), .int .i64 h]) (by simp [results, Tryz.results69, go_sem]) rfl ⟨rfl, ?_⟩
  exact ((Below.refl _ _).alloc (Nat.le_refl _) _).alloc (by simp) _

theorem mask_i64 (k : Nat) (hk : k ≤ 62) (x : Int) : bits .and .i64 x (2 ^ k - 1) = x % 2 ^ k := by
  have hpos : 0 < 2 ^ k := Nat.two_pow_pos k
  have hle : 2 ^ k ≤ 2 ^ 62 := Nat.pow_le_pow_right (by decide) hk
  have hc : ((2 : Int) ^ k - 1) = ((2 ^ k - 1 : Nat) : Int) := by rw [Int.natCast_sub hpos]; simp
  rw [hc]
  show IntKind.i64.wrap ((BitVec.ofInt 64 x &&& BitVec.ofInt 64 ((2 ^ k - 1 : Nat) : Int)).toNat : Int) = _
  have e : (BitVec.ofInt 64 ((2 ^ k - 1 : Nat) : Int)).toNat = 2 ^ k - 1 := by
    rw [BitVec.ofInt_natCast, BitVec.toNat_ofNat, Nat.mod_eq_of_lt (by omega)]
  rw [BitVec.toNat_and, e, Nat.and_two_pow_sub_one_eq_mod, BitVec.toNat_ofInt]
  have h1 : (((x % ((2 ^ 64 : Nat) : Int)).toNat % 2 ^ k : Nat) : Int) = x % 2 ^ k := by
    rw [Int.natCast_emod, Int.toNat_of_nonneg (Int.emod_nonneg _ (by decide))]
    have hd : ((2 ^ k : Nat) : Int) ∣ ((2 ^ 64 : Nat) : Int) := Int.natCast_dvd_natCast.2 (Nat.pow_dvd_pow 2 (by omega))
    rw [Int.emod_emod_of_dvd _ hd, Int.natCast_pow]
    rfl
  rw [h1, IntKind.wrap_i64]
  have h2 : (2 : Int) ^ k ≤ 2 ^ 62 := by exact_mod_cast hle
  have h3 : (0 : Int) < 2 ^ k := by exact_mod_cast hpos
  have h4 := Int.emod_nonneg x (show (2 : Int) ^ k ≠ 0 by omega)
  have h5 := Int.emod_lt_of_pos x h3
  omega

/-- What Fit makes may be. -/
theorem fit_any (a0 a1 a2 a3 : Int) (w : World) :
    Calls Tryz.prog 8 #[.agg #[.int .i64 a0, .int .i64 a1, .int .i64 a2, .int .i64 a3]] w fun z w' => z = .returned (.agg #[.int .i64 (1 + a0 % 8), .int .i64 (1 + a1 % 4), .int .i64 (8 * (a2 % 64)), .int .i64 (8 * (a3 % 128))]) ∧ Below w.heap.size w w' := by
  have m1 := mask_i64 3 (by decide) a0
  have m2 := mask_i64 2 (by decide) a1
  have m3 := mask_i64 6 (by decide) a2
  have m4 := mask_i64 7 (by decide) a3
  simp only [Int.reducePow, Int.reduceSub] at m1 m2 m3 m4
  go_enter Tryz.func8, Tryz.ntmps8
  go_wp2
  refine bodyPost_ret (v := .agg #[.int .i64 (1 + a0 % 8), .int .i64 (1 + a1 % 4), .int .i64 (8 * (a2 % 64)), .int .i64 (8 * (a3 % 128))]) (by simp [results, Tryz.results8, go_sem]) rfl ⟨rfl, ?_⟩
  exact ((Below.refl _ _).alloc (Nat.le_refl _) _).alloc (by simp) _
theorem fit_all (a0 a1 a2 a3 : Int) : ∃ s t i h : Int, (1 ≤ s ∧ s ≤ 8 ∧ 1 ≤ t ∧ t ≤ 4 ∧ 0 ≤ i ∧ i ≤ 504 ∧ i % 8 = 0 ∧ 0 ≤ h ∧ h ≤ 1016 ∧ h % 8 = 0) ∧
    ∀ w, Calls Tryz.prog 8 #[.agg #[.int .i64 a0, .int .i64 a1, .int .i64 a2, .int .i64 a3]] w fun z w' => z = .returned (.agg #[.int .i64 s, .int .i64 t, .int .i64 i, .int .i64 h]) ∧ Below w.heap.size w w' :=
  ⟨_, _, _, _, by omega, fit_any a0 a1 a2 a3⟩

end Go.Proofs.YteakglkagmghpaaGreat.Plan
