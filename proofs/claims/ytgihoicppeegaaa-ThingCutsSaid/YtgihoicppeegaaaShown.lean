/-
  The document's example at the head of all laws of layer 2 returns true and changes nothing that was there; arena.New at a size that is spelled otherwise; words at place 8 times i.
-/
import Derived.Test.YtgihoicppeegaaaArenaB
namespace Go.Proofs.Ytgihoicppeegaaa.Arena
open Go.ChangeShapes Go.WideShapes Go.ChangeAt Go.RowKit Mem
set_option linter.unusedVariables false

theorem new_at (w : World) (m : Int) (k : Nat) (hm : m = 8 * (k : Int)) (hk : k ≤ 8192) :
    Calls Try.prog 19 #[.int .i64 m] w fun e w' => e = .returned (.tuple #[.pointer (some ⟨w.heap.size + 1, 0, none⟩), .int .i64 0]) ∧ Ar w' (w.heap.size + 1) w.heap.size k (fun _ => 0) ∧ Below w.heap.size w w' ∧ w'.heap.size = w.heap.size + 2 := by
  subst hm
  exact new_any w k hk

/-- What is below a number stays, if the block that changes is not below it. -/
theorem below_only {N g : Nat} {a w w' : World} (h : Below N a w) (k : w.grownBy w' (some g)) (hN : N ≤ w.heap.size) (hg : N ≤ g) : Below N a w' :=
  h.grown k hN (fun _ e => by injection e; omega)

theorem word_ok (w : World) (B g n i : Nat) (f : Nat → Int) (a : Int) (h : Ar w B g n f) (hi : i < n) (ha : a = 8 * (i : Int)) :
    Calls Try.prog 18 #[.pointer (some ⟨B, 0, none⟩), .int .i64 a] w fun e w' => e = .returned (.tuple #[.int .u64 (f i), .int .i64 0]) ∧ w = w' := by
  have hl := h.len
  subst ha
  refine (word_any w B g n f _ h (by omega) (by omega)).mono fun e w' ⟨he, hw⟩ => ⟨he.trans (ret2 ?_ ?_), hw⟩
  · unfold wordV; rw [if_pos (okW_mk hi)]; congr 1; omega
  · unfold errW; rw [if_pos (okW_mk hi)]
theorem put_ok (w : World) (B g n i : Nat) (f : Nat → Int) (a x : Int) (h : Ar w B g n f) (hi : i < n) (ha : a = 8 * (i : Int)) (x1 : 0 ≤ x) (x2 : x ≤ 18446744073709551615) :
    Calls Try.prog 24 #[.pointer (some ⟨B, 0, none⟩), .int .i64 a, .int .u64 x] w fun e w' => e = .returned (.int .i64 0) ∧ Ar w' B g n (setF f i x) ∧ w.grownBy w' (some g) := by
  have hl := h.len
  subst ha
  refine (put_any w B g n f _ x h (by omega) (by omega) x1 x2).mono fun e w' ⟨he, hw, hg⟩ => ⟨he.trans (ret_int ?_), ?_, hg⟩
  · unfold errW; rw [if_pos (okW_mk hi)]
  · unfold putF at hw; rw [if_pos (okW_mk hi), show (8 * (i : Int)).toNat / 8 = i by omega] at hw; exact hw
theorem claim_yes (w : World) (B g n i j : Nat) (f : Nat → Int) (a by_ most base one two : Int) (h : Ar w B g n f) (hi : i < n) (ha : a = 8 * (i : Int))
    (y1 : 0 ≤ by_) (y2 : by_ ≤ 18446744073709551615) (m1 : 0 ≤ most) (m2 : most ≤ 18446744073709551615) (b1 : 0 ≤ base) (b2 : base ≤ 65536)
    (o1 : 0 ≤ one) (o2 : one ≤ 18446744073709551615) (t1 : 0 ≤ two) (t2 : two ≤ 18446744073709551615) (hf : f i + by_ ≤ most) (hw : f i ≤ 65536) (hj : base + f i = 8 * (j : Int)) (hjn : j + 1 < n) :
    Calls Try.prog 22 #[.pointer (some ⟨B, 0, none⟩), .int .i64 a, .int .u64 by_, .int .u64 most, .int .i64 base, .int .u64 one, .int .u64 two] w fun e w' =>
      e = .returned (.tuple #[.int .u64 (f i), .bool true, .int .i64 0]) ∧ Ar w' B g n (setF (setF (setF f i (f i + by_)) j one) (j + 1) two) ∧ w.grownBy w' (some g) := by
  have hl := h.len
  subst ha
  have hk := okW_mk hi
  have hwd : wd f (8 * (i : Int)) = f i := by unfold wd; congr 1; omega
  have hfb : fitsB f (8 * (i : Int)) by_ most = true := decide_eq_true (by rw [hwd]; exact hf)
  have hp : pairB n base (f i) = true := by
    have k1 : okW n (base + f i) = true := okW_yes (by omega) (by omega) (by omega)
    have k2 : okW n (base + f i + 8) = true := okW_yes (by omega) (by omega) (by omega)
    unfold pairB
    rw [k1, k2, decide_eq_true hw, decide_eq_true b1, decide_eq_true b2]
    rfl
  have hB : claimB n f (8 * (i : Int)) by_ most base = true := by unfold claimB; rw [hk, hfb, hwd, hp]; rfl
  have hT : claimT n f (8 * (i : Int)) by_ most base = true := by unfold claimT; rw [hk, hfb, hwd, hp]; rfl
  refine (claim_any w B g n f _ by_ most base one two h (by omega) (by omega) y1 y2 m1 m2 (by omega) (by omega) o1 o2 t1 t2).mono fun e w' ⟨he, hw, hg⟩ => ⟨he.trans (ret3 ?_ hB ?_), ?_, hg⟩
  · unfold claimV; rw [if_pos hT, hwd]
  · unfold claimE; rw [if_pos hT]
  · unfold claimF at hw
    rw [if_pos hB, hwd, show (8 * (i : Int)).toNat / 8 = i by omega, show (base + f i).toNat / 8 = j by omega, show (base + f i + 8).toNat / 8 = j + 1 by omega] at hw
    exact hw
theorem claim_no (w : World) (B g n i : Nat) (f : Nat → Int) (a by_ most base one two : Int) (h : Ar w B g n f) (hi : i < n) (ha : a = 8 * (i : Int))
    (y1 : 0 ≤ by_) (y2 : by_ ≤ 18446744073709551615) (m1 : 0 ≤ most) (m2 : most ≤ 18446744073709551615) (b1 : 0 ≤ base) (b2 : base ≤ 65536)
    (o1 : 0 ≤ one) (o2 : one ≤ 18446744073709551615) (t1 : 0 ≤ two) (t2 : two ≤ 18446744073709551615) (hf : ¬ f i + by_ ≤ most) :
    Calls Try.prog 22 #[.pointer (some ⟨B, 0, none⟩), .int .i64 a, .int .u64 by_, .int .u64 most, .int .i64 base, .int .u64 one, .int .u64 two] w fun e w' =>
      e = .returned (.tuple #[.int .u64 (f i), .bool false, .int .i64 0]) ∧ Ar w' B g n f ∧ w.grownBy w' (some g) := by
  have hl := h.len
  subst ha
  have hk := okW_mk hi
  have hwd : wd f (8 * (i : Int)) = f i := by unfold wd; congr 1; omega
  have hfb : fitsB f (8 * (i : Int)) by_ most = false := decide_eq_false (by rw [hwd]; exact hf)
  have hB : claimB n f (8 * (i : Int)) by_ most base = false := by unfold claimB; rw [hfb, hk]; rfl
  have hT : claimT n f (8 * (i : Int)) by_ most base = true := by unfold claimT; rw [hk, hfb]; rfl
  refine (claim_any w B g n f _ by_ most base one two h (by omega) (by omega) y1 y2 m1 m2 (by omega) (by omega) o1 o2 t1 t2).mono fun e w' ⟨he, hw, hg⟩ => ⟨he.trans (ret3 ?_ hB ?_), ?_, hg⟩
  · unfold claimV; rw [if_pos hT, hwd]
  · unfold claimE; rw [if_pos hT]
  · unfold claimF at hw
    rw [if_neg (by rw [hB]; decide)] at hw
    exact hw

theorem cases_b (k : Nat) (a : Int) :
    (0 ≤ a ∧ a < 8 * (k : Int) ∧ decide (0 ≤ a) = true ∧ decide (a < 8 * (k : Int)) = true ∧ errB k a = 0) ∨
    (a < 0 ∧ a < 8 * (k : Int) ∧ decide (0 ≤ a) = false ∧ decide (a < 8 * (k : Int)) = true ∧ errB k a = 1) ∨
    (0 ≤ a ∧ 8 * (k : Int) ≤ a ∧ decide (0 ≤ a) = true ∧ decide (a < 8 * (k : Int)) = false ∧ errB k a = 1) := by
  by_cases h1 : 0 ≤ a
  · by_cases h2 : a < 8 * (k : Int)
    · exact .inl ⟨h1, h2, decide_eq_true h1, decide_eq_true h2, errB_yes (okB_yes h1 h2)⟩
    · exact .inr (.inr ⟨h1, by omega, decide_eq_true h1, decide_eq_false h2, errB_no (okB_no (by omega))⟩)
  · exact .inr (.inl ⟨by omega, by omega, decide_eq_false h1, decide_eq_true (by omega), errB_no (okB_no (by omega))⟩)

end Go.Proofs.Ytgihoicppeegaaa.Arena
