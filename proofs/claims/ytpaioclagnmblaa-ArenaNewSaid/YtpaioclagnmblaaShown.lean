/-
  The document's example at the head of all laws of layer 2 returns true and changes nothing that was there; arena.New at a size that is spelled otherwise; words at place 8 times i.
-/
import Derived.Test.YtpaioclagnmblaaArenaB
namespace Go.Proofs.Ytpaioclagnmblaa.Arena
open Go.ChangeShapes Go.WideShapes Go.ChangeAt Go.RowKit Mem
set_option linter.unusedVariables false

theorem new_at (w : World) (m : Int) (k : Nat) (hm : m = 8 * (k : Int)) (hk : k ≤ 8192) :
    Calls Try.prog 11 #[.int .i64 m] w fun e w' => e = .returned (.tuple #[.pointer (some ⟨w.heap.size + 1, 0, none⟩), .int .i64 0]) ∧ Ar w' (w.heap.size + 1) w.heap.size k (fun _ => 0) ∧ Below w.heap.size w w' ∧ w'.heap.size = w.heap.size + 2 := by
  subst hm
  exact new_any w k hk

/-- What is below a number stays, if the block that changes is not below it. -/
theorem below_only {N g : Nat} {a w w' : World} (h : Below N a w) (k : w.grownBy w' (some g)) (hN : N ≤ w.heap.size) (hg : N ≤ g) : Below N a w' :=
  h.grown k hN (fun _ e => by injection e; omega)

theorem word_ok (w : World) (B g n i : Nat) (f : Nat → Int) (a : Int) (h : Ar w B g n f) (hi : i < n) (ha : a = 8 * (i : Int)) :
    Calls Try.prog 13 #[.pointer (some ⟨B, 0, none⟩), .int .i64 a] w fun e w' => e = .returned (.tuple #[.int .u64 (f i), .int .i64 0]) ∧ w = w' := by
  have hl := h.len
  subst ha
  refine (word_any w B g n f _ h (by omega) (by omega)).mono fun e w' ⟨he, hw⟩ => ⟨he.trans (ret2 ?_ ?_), hw⟩
  · unfold wordV; rw [if_pos (okW_mk hi)]; congr 1; omega
  · unfold errW; rw [if_pos (okW_mk hi)]
theorem put_ok (w : World) (B g n i : Nat) (f : Nat → Int) (a x : Int) (h : Ar w B g n f) (hi : i < n) (ha : a = 8 * (i : Int)) (x1 : 0 ≤ x) (x2 : x ≤ 18446744073709551615) :
    Calls Try.prog 25 #[.pointer (some ⟨B, 0, none⟩), .int .i64 a, .int .u64 x] w fun e w' => e = .returned (.int .i64 0) ∧ Ar w' B g n (setF f i x) ∧ w.grownBy w' (some g) := by
  have hl := h.len
  subst ha
  refine (put_any w B g n f _ x h (by omega) (by omega) x1 x2).mono fun e w' ⟨he, hw, hg⟩ => ⟨he.trans (ret_int ?_), ?_, hg⟩
  · unfold errW; rw [if_pos (okW_mk hi)]
  · unfold putF at hw; rw [if_pos (okW_mk hi), show (8 * (i : Int)).toNat / 8 = i by omega] at hw; exact hw
theorem byte_ok (w : World) (B g n i : Nat) (f : Nat → Int) (a : Int) (h : Ar w B g n f) (hi : i < 8 * n) (ha : a = (i : Int)) :
    Calls Try.prog 15 #[.pointer (some ⟨B, 0, none⟩), .int .i64 a] w fun e w' => e = .returned (.tuple #[.int .u8 (byteV (f (i / 8)) (i % 8)), .int .i64 0]) ∧ w = w' := by
  subst ha
  refine (byte_any w B g n f _ h).mono fun e w' ⟨he, hw⟩ => ⟨he.trans (ret2 ?_ ?_), hw⟩
  · unfold byteAt; rw [if_pos (okB_mk hi)]; rfl
  · unfold errB; rw [if_pos (okB_mk hi)]
theorem putbyte_ok (w : World) (B g n i : Nat) (f : Nat → Int) (a b : Int) (h : Ar w B g n f) (hi : i < 8 * n) (ha : a = (i : Int)) (b1 : 0 ≤ b) (b2 : b ≤ 255) :
    Calls Try.prog 17 #[.pointer (some ⟨B, 0, none⟩), .int .i64 a, .int .u8 b] w fun e w' => e = .returned (.int .i64 0) ∧ Ar w' B g n (setF f (i / 8) (putB (f (i / 8)) (i % 8) b)) ∧ w.grownBy w' (some g) := by
  subst ha
  refine (putbyte_any w B g n f _ b h b1 b2).mono fun e w' ⟨he, hw, hg⟩ => ⟨he.trans (ret_int ?_), ?_, hg⟩
  · unfold errB; rw [if_pos (okB_mk hi)]
  · unfold putBF at hw; rw [if_pos (okB_mk hi)] at hw; exact hw

set_option maxHeartbeats 400000 in
theorem shown_any (w : World) : Calls Try.prog 10 #[] w fun e w' => e = .returned (.bool true) ∧ Below w.heap.size w w' := by
  have b1 : byteV (setF (fun _ => 0) 1 258 (8 / 8)) (8 % 8) = 2 := by decide
  have b2 : byteV (setF (fun _ => 0) 1 258 (9 / 8)) (9 % 8) = 1 := by decide
  have B1 := Lib.hid b1
  have B2 := Lib.hid b2
  clear b1 b2
  go_enter Try.func10, Try.ntmps10
  go_wp2_with fail
  refine (new_at _ _ 2 rfl (by omega)).mono ?_
  rintro e w1 ⟨rfl, h1, k1, z1⟩
  have Z1 := Lib.hid z1
  clear z1
  go_wp2_with fail
  refine (put_ok _ _ _ 2 1 _ _ _ h1 (by omega) rfl (by omega) (by omega)).mono ?_
  rintro e w2 ⟨rfl, h2, g2⟩
  go_wp2_with fail
  refine (byte_ok _ _ _ 2 8 _ _ h2 (by omega) rfl).mono ?_
  rintro e w' ⟨rfl, rfl⟩
  rw [B1.out]
  go_wp2_with fail
  refine (byte_ok _ _ _ 2 9 _ _ h2 (by omega) rfl).mono ?_
  rintro e w' ⟨rfl, rfl⟩
  rw [B2.out]
  go_wp2_with fail
  refine (len_any _ _ _ 2 _ h2).mono ?_
  rintro e w' ⟨rfl, rfl⟩
  go_wp2_with fail
  go_ret
  exact ⟨rfl, below_only k1 g2 (by rw [Z1.out]; omega) (Nat.le_refl _)⟩
end Go.Proofs.Ytpaioclagnmblaa.Arena
