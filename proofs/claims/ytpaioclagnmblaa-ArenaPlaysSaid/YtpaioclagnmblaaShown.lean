/-
  The document's example at the head of all laws of layer 2 returns true and changes nothing that was there; arena.New at a size that is spelled otherwise; words at place 8 times i.
-/
import Derived.Test.YtpaioclagnmblaaArenaB
namespace Go.Proofs.Ytpaioclagnmblaa.Arena
open Go.ChangeShapes Go.WideShapes Go.ChangeAt Go.RowKit Mem
set_option linter.unusedVariables false

theorem new_at (w : World) (m : Int) (k : Nat) (hm : m = 8 * (k : Int)) (hk : k ≤ 8192) :
    Calls Try.prog 11 #[.int .i64 m] w fun e w' => e = .returned (.tuple #[.pointer (some ⟨w.heap.size + 1, 0, none⟩), .int .i64 0]) ∧ Ar w' (w.heap.size + 1) w.heap.size k (fun _ => 0) ∧ Below w.heap.size w w' ∧ w'.heap.size = w.heap.size + 2 := by
  subst hm
  exact new_any w k hk

/-- What is below a number stays, if the block that changes is not below it. -/
theorem below_only {N g : Nat} {a w w' : World} (h : Below N a w) (k : w.grownBy w' (some g)) (hN : N ≤ w.heap.size) (hg : N ≤ g) : Below N a w' :=
  h.grown k hN (fun _ e => by injection e; omega)

theorem word_ok (w : World) (B g n i : Nat) (f : Nat → Int) (a : Int) (h : Ar w B g n f) (hi : i < n) (ha : a = 8 * (i : Int)) :
    Calls Try.prog 13 #[.pointer (some ⟨B, 0, none⟩), .int .i64 a] w fun e w' => e = .returned (.tuple #[.int .u64 (f i), .int .i64 0]) ∧ w = w' := by
  have hl := h.len
  subst ha
  refine (word_any w B g n f _ h (by omega) (by omega)).mono fun e w' ⟨he, hw⟩ => ⟨he.trans (ret2 ?_ ?_), hw⟩
  · unfold wordV; rw [if_pos (okW_mk hi)]; congr 1; omega
  · unfold errW; rw [if_pos (okW_mk hi)]
theorem put_ok (w : World) (B g n i : Nat) (f : Nat → Int) (a x : Int) (h : Ar w B g n f) (hi : i < n) (ha : a = 8 * (i : Int)) (x1 : 0 ≤ x) (x2 : x ≤ 18446744073709551615) :
    Calls Try.prog 25 #[.pointer (some ⟨B, 0, none⟩), .int .i64 a, .int .u64 x] w fun e w' => e = .returned (.int .i64 0) ∧ Ar w' B g n (setF f i x) ∧ w.grownBy w' (some g) := by
  have hl := h.len
  subst ha
  refine (put_any w B g n f _ x h (by omega) (by omega) x1 x2).mono fun e w' ⟨he, hw, hg⟩ => ⟨he.trans (ret_int ?_), ?_, hg⟩
  · unfold errW; rw [if_pos (okW_mk hi)]
  · unfold putF at hw; rw [if_pos (okW_mk hi), show (8 * (i : Int)).toNat / 8 = i by omega] at hw; exact hw
theorem byte_ok (w : World) (B g n i : Nat) (f : Nat → Int) (a : Int) (h : Ar w B g n f) (hi : i < 8 * n) (ha : a = (i : Int)) :
    Calls Try.prog 15 #[.pointer (some ⟨B, 0, none⟩), .int .i64 a] w fun e w' => e = .returned (.tuple #[.int .u8 (byteV (f (i / 8)) (i % 8)), .int .i64 0]) ∧ w = w' := by
  subst ha
  refine (byte_any w B g n f _ h).mono fun e w' ⟨he, hw⟩ => ⟨he.trans (ret2 ?_ ?_), hw⟩
  · unfold byteAt; rw [if_pos (okB_mk hi)]; rfl
  · unfold errB; rw [if_pos (okB_mk hi)]
theorem putbyte_ok (w : World) (B g n i : Nat) (f : Nat → Int) (a b : Int) (h : Ar w B g n f) (hi : i < 8 * n) (ha : a = (i : Int)) (b1 : 0 ≤ b) (b2 : b ≤ 255) :
    Calls Try.prog 17 #[.pointer (some ⟨B, 0, none⟩), .int .i64 a, .int .u8 b] w fun e w' => e = .returned (.int .i64 0) ∧ Ar w' B g n (setF f (i / 8) (putB (f (i / 8)) (i % 8) b)) ∧ w.grownBy w' (some g) := by
  subst ha
  refine (putbyte_any w B g n f _ b h b1 b2).mono fun e w' ⟨he, hw, hg⟩ => ⟨he.trans (ret_int ?_), ?_, hg⟩
  · unfold errB; rw [if_pos (okB_mk hi)]
  · unfold putBF at hw; rw [if_pos (okB_mk hi)] at hw; exact hw

theorem claim_yes (w : World) (B g n i j : Nat) (f : Nat → Int) (a by_ most base one two : Int) (h : Ar w B g n f) (hi : i < n) (ha : a = 8 * (i : Int))
    (y1 : 0 ≤ by_) (y2 : by_ ≤ 18446744073709551615) (m1 : 0 ≤ most) (m2 : most ≤ 18446744073709551615) (b1 : 0 ≤ base) (b2 : base ≤ 65536)
    (o1 : 0 ≤ one) (o2 : one ≤ 18446744073709551615) (t1 : 0 ≤ two) (t2 : two ≤ 18446744073709551615) (hf : f i + by_ ≤ most) (hw : f i ≤ 65536) (hj : base + f i = 8 * (j : Int)) (hjn : j + 1 < n) :
    Calls Try.prog 21 #[.pointer (some ⟨B, 0, none⟩), .int .i64 a, .int .u64 by_, .int .u64 most, .int .i64 base, .int .u64 one, .int .u64 two] w fun e w' =>
      e = .returned (.tuple #[.int .u64 (f i), .bool true, .int .i64 0]) ∧ Ar w' B g n (setF (setF (setF f i (f i + by_)) j one) (j + 1) two) ∧ w.grownBy w' (some g) := by
  have hl := h.len
  subst ha
  have hk := okW_mk hi
  have hwd : wd f (8 * (i : Int)) = f i := by unfold wd; congr 1; omega
  have hfb : fitsB f (8 * (i : Int)) by_ most = true := decide_eq_true (by rw [hwd]; exact hf)
  have hp : pairB n base (f i) = true := by
    have k1 : okW n (base + f i) = true := okW_yes (by omega) (by omega) (by omega)
    have k2 : okW n (base + f i + 8) = true := okW_yes (by omega) (by omega) (by omega)
    unfold pairB
    rw [k1, k2, decide_eq_true hw, decide_eq_true b1, decide_eq_true b2]
    rfl
  have hB : claimB n f (8 * (i : Int)) by_ most base = true := by unfold claimB; rw [hk, hfb, hwd, hp]; rfl
  have hT : claimT n f (8 * (i : Int)) by_ most base = true := by unfold claimT; rw [hk, hfb, hwd, hp]; rfl
  refine (claim_any w B g n f _ by_ most base one two h (by omega) (by omega) y1 y2 m1 m2 (by omega) (by omega) o1 o2 t1 t2).mono fun e w' ⟨he, hw, hg⟩ => ⟨he.trans (ret3 ?_ hB ?_), ?_, hg⟩
  · unfold claimV; rw [if_pos hT, hwd]
  · unfold claimE; rw [if_pos hT]
  · unfold claimF at hw
    rw [if_pos hB, hwd, show (8 * (i : Int)).toNat / 8 = i by omega, show (base + f i).toNat / 8 = j by omega, show (base + f i + 8).toNat / 8 = j + 1 by omega] at hw
    exact hw
theorem claim_no (w : World) (B g n i : Nat) (f : Nat → Int) (a by_ most base one two : Int) (h : Ar w B g n f) (hi : i < n) (ha : a = 8 * (i : Int))
    (y1 : 0 ≤ by_) (y2 : by_ ≤ 18446744073709551615) (m1 : 0 ≤ most) (m2 : most ≤ 18446744073709551615) (b1 : 0 ≤ base) (b2 : base ≤ 65536)
    (o1 : 0 ≤ one) (o2 : one ≤ 18446744073709551615) (t1 : 0 ≤ two) (t2 : two ≤ 18446744073709551615) (hf : ¬ f i + by_ ≤ most) :
    Calls Try.prog 21 #[.pointer (some ⟨B, 0, none⟩), .int .i64 a, .int .u64 by_, .int .u64 most, .int .i64 base, .int .u64 one, .int .u64 two] w fun e w' =>
      e = .returned (.tuple #[.int .u64 (f i), .bool false, .int .i64 0]) ∧ Ar w' B g n f ∧ w.grownBy w' (some g) := by
  have hl := h.len
  subst ha
  have hk := okW_mk hi
  have hwd : wd f (8 * (i : Int)) = f i := by unfold wd; congr 1; omega
  have hfb : fitsB f (8 * (i : Int)) by_ most = false := decide_eq_false (by rw [hwd]; exact hf)
  have hB : claimB n f (8 * (i : Int)) by_ most base = false := by unfold claimB; rw [hfb, hk]; rfl
  have hT : claimT n f (8 * (i : Int)) by_ most base = true := by unfold claimT; rw [hk, hfb]; rfl
  refine (claim_any w B g n f _ by_ most base one two h (by omega) (by omega) y1 y2 m1 m2 (by omega) (by omega) o1 o2 t1 t2).mono fun e w' ⟨he, hw, hg⟩ => ⟨he.trans (ret3 ?_ hB ?_), ?_, hg⟩
  · unfold claimV; rw [if_pos hT, hwd]
  · unfold claimE; rw [if_pos hT]
  · unfold claimF at hw
    rw [if_neg (by rw [hB]; decide)] at hw
    exact hw

theorem cas_yes (w : World) (B g n i : Nat) (f : Nat → Int) (a old x : Int) (h : Ar w B g n f) (hi : i < n) (ha : a = 8 * (i : Int)) (x1 : 0 ≤ x) (x2 : x ≤ 18446744073709551615) (ho : f i = old) :
    Calls Try.prog 19 #[.pointer (some ⟨B, 0, none⟩), .int .i64 a, .int .u64 old, .int .u64 x] w fun e w' => e = .returned (.tuple #[.bool true, .int .i64 0]) ∧ Ar w' B g n (setF f i x) ∧ w.grownBy w' (some g) := by
  have hl := h.len
  subst ha
  have hk := okW_mk hi
  have hj : (8 * (i : Int)).toNat / 8 = i := by omega
  have hb : casB n f (8 * (i : Int)) old = true := by unfold casB; rw [hk, hj, decide_eq_true ho]; rfl
  refine (cas_any w B g n f _ old x h (by omega) (by omega) x1 x2).mono fun e w' ⟨he, hw, hg⟩ => ⟨he.trans (retbi hb (errW_yes hk)), ?_, hg⟩
  unfold casF at hw
  rw [if_pos hb, hj] at hw
  exact hw
theorem cas_no (w : World) (B g n i : Nat) (f : Nat → Int) (a old x : Int) (h : Ar w B g n f) (hi : i < n) (ha : a = 8 * (i : Int)) (x1 : 0 ≤ x) (x2 : x ≤ 18446744073709551615) (ho : ¬ f i = old) :
    Calls Try.prog 19 #[.pointer (some ⟨B, 0, none⟩), .int .i64 a, .int .u64 old, .int .u64 x] w fun e w' => e = .returned (.tuple #[.bool false, .int .i64 0]) ∧ Ar w' B g n f ∧ w.grownBy w' (some g) := by
  have hl := h.len
  subst ha
  have hk := okW_mk hi
  have hj : (8 * (i : Int)).toNat / 8 = i := by omega
  have hb : casB n f (8 * (i : Int)) old = false := by unfold casB; rw [hk, hj, decide_eq_false ho]; rfl
  refine (cas_any w B g n f _ old x h (by omega) (by omega) x1 x2).mono fun e w' ⟨he, hw, hg⟩ => ⟨he.trans (retbi hb (errW_yes hk)), ?_, hg⟩
  unfold casF at hw
  rw [if_neg (by rw [hb]; decide)] at hw
  exact hw
theorem cases_b (k : Nat) (a : Int) :
    (0 ≤ a ∧ a < 8 * (k : Int) ∧ decide (0 ≤ a) = true ∧ decide (a < 8 * (k : Int)) = true ∧ errB k a = 0) ∨
    (a < 0 ∧ a < 8 * (k : Int) ∧ decide (0 ≤ a) = false ∧ decide (a < 8 * (k : Int)) = true ∧ errB k a = 1) ∨
    (0 ≤ a ∧ 8 * (k : Int) ≤ a ∧ decide (0 ≤ a) = true ∧ decide (a < 8 * (k : Int)) = false ∧ errB k a = 1) := by
  by_cases h1 : 0 ≤ a
  · by_cases h2 : a < 8 * (k : Int)
    · exact .inl ⟨h1, h2, decide_eq_true h1, decide_eq_true h2, errB_yes (okB_yes h1 h2)⟩
    · exact .inr (.inr ⟨h1, by omega, decide_eq_true h1, decide_eq_false h2, errB_no (okB_no (by omega))⟩)
  · exact .inr (.inl ⟨by omega, by omega, decide_eq_false h1, decide_eq_true (by omega), errB_no (okB_no (by omega))⟩)

set_option maxHeartbeats 400000 in
theorem shown_any (w : World) : Calls Try.prog 10 #[] w fun e w' => e = .returned (.bool true) ∧ Below w.heap.size w w' := by
  have b1 : byteV (setF (fun _ => 0) 1 258 (8 / 8)) (8 % 8) = 2 := by decide
  have b2 : byteV (setF (fun _ => 0) 1 258 (9 / 8)) (9 % 8) = 1 := by decide
  have B1 := Lib.hid b1
  have B2 := Lib.hid b2
  clear b1 b2
  go_enter Try.func10, Try.ntmps10
  go_wp2_with fail
  refine (new_at _ _ 2 rfl (by omega)).mono ?_
  rintro e w1 ⟨rfl, h1, k1, z1⟩
  have Z1 := Lib.hid z1
  clear z1
  go_wp2_with fail
  refine (put_ok _ _ _ 2 1 _ _ _ h1 (by omega) rfl (by omega) (by omega)).mono ?_
  rintro e w2 ⟨rfl, h2, g2⟩
  go_wp2_with fail
  refine (byte_ok _ _ _ 2 8 _ _ h2 (by omega) rfl).mono ?_
  rintro e w' ⟨rfl, rfl⟩
  rw [B1.out]
  go_wp2_with fail
  refine (byte_ok _ _ _ 2 9 _ _ h2 (by omega) rfl).mono ?_
  rintro e w' ⟨rfl, rfl⟩
  rw [B2.out]
  go_wp2_with fail
  refine (len_any _ _ _ 2 _ h2).mono ?_
  rintro e w' ⟨rfl, rfl⟩
  go_wp2_with fail
  go_ret
  exact ⟨rfl, below_only k1 g2 (by rw [Z1.out]; omega) (Nat.le_refl _)⟩
end Go.Proofs.Ytpaioclagnmblaa.Arena
