/-
  Contracts of the document's Step.
-/
import Derived.Test.YteakglkagmghpaaFinp
import Derived.Deep.DeepCutAuto
import Derived.Deep.RegionLaw
import Derived.Test.YteakglkagmghpaaBase
namespace Go.Proofs.Yteakglkagmghpaa.Fina
open Go.ChangeShapes Go.WideShapes Go.ChangeAt Go.RowKit
open Slic
set_option linter.unusedVariables false
set_option maxRecDepth 8000

end Go.Proofs.Yteakglkagmghpaa.Fina

/-
  Contracts of the document's Words and Ints (whether two rows are the same), of few and shown.
-/
namespace Go.Proofs.Yteakglkagmghpaa.Fina
open Go.ChangeShapes Go.WideShapes Go.ChangeAt Go.RowKit
open Slic
set_option linter.unusedVariables false
set_option maxRecDepth 8000

end Go.Proofs.Yteakglkagmghpaa.Fina

/-
  A contract of some: ten programs at most, of ten ops at most.
-/
namespace Go.Proofs.Yteakglkagmghpaa.Fina
open Go.ChangeShapes Go.WideShapes Go.ChangeAt Go.RowKit
open Slic
set_option linter.unusedVariables false
set_option maxRecDepth 8000

/-- Rows of slices of one's own, each of which reads as a list. -/
def ORows (w : World) (b : Nat) (v : Value) (LL : List (List O)) : Prop := ∃ Hs : List (Option Addr × Nat × Nat), Own kR w b v Hs ∧ Hs.length = LL.length ∧ ∀ (i : Nat) (h : i < Hs.length) (h' : i < LL.length), Sr kF w (.slice (Hs[i]).1 (Hs[i]).2.1 (Hs[i]).2.2) LL[i]
theorem ORows.rows {w : World} {b : Nat} {v : Value} {LL : List (List O)} (h : ORows w b v LL) : Rows w v LL := by
  obtain ⟨Hs, h1, h2, h3⟩ := h
  exact ⟨Hs, h1.sr, h2, h3⟩
theorem one_row (W : World) (A : Option Addr) (n c k : Nat) (hk : k = W.heap.size) : Sr kR (W.alloc (.cells #[.slice A n c] 145)) (.slice (some ⟨k, 0, none⟩) 1 1) [(A, n, c)] := by
  subst hk
  have h : Own kR (W.alloc (.cells #[.slice A n c] 145)) 0 (.slice (some ⟨W.heap.size, 0, none⟩) 1 1) [(A, n, c)] := Own.lit W 0 (Nat.zero_le _) [(A, n, c)] #[.slice A n c] rfl (by simp [maxLen]) 1 rfl
  exact h.sr
end Go.Proofs.Yteakglkagmghpaa.Fina

/-
  A contract of the document's Fit: programs that may be, each in a row of one's own.
-/
namespace Go.Proofs.Yteakglkagmghpaa.Fina
open Go.ChangeShapes Go.WideShapes Go.ChangeAt Go.RowKit
open Slic
set_option linter.unusedVariables false
set_option maxRecDepth 8000

theorem mask_i64 (k : Nat) (hk : k ≤ 62) (x : Int) : bits .and .i64 x (2 ^ k - 1) = x % 2 ^ k := by
  have hpos : 0 < 2 ^ k := Nat.two_pow_pos k
  have hle : 2 ^ k ≤ 2 ^ 62 := Nat.pow_le_pow_right (by decide) hk
  have hc : ((2 : Int) ^ k - 1) = ((2 ^ k - 1 : Nat) : Int) := by rw [Int.natCast_sub hpos]; simp
  rw [hc]
  show IntKind.i64.wrap ((BitVec.ofInt 64 x &&& BitVec.ofInt 64 ((2 ^ k - 1 : Nat) : Int)).toNat : Int) = _
  have e : (BitVec.ofInt 64 ((2 ^ k - 1 : Nat) : Int)).toNat = 2 ^ k - 1 := by
    rw [BitVec.ofInt_natCast, BitVec.toNat_ofNat, Nat.mod_eq_of_lt (by omega)]
  rw [BitVec.toNat_and, e, Nat.and_two_pow_sub_one_eq_mod, BitVec.toNat_ofInt]
  have h1 : (((x % ((2 ^ 64 : Nat) : Int)).toNat % 2 ^ k : Nat) : Int) = x % 2 ^ k := by
    rw [Int.natCast_emod, Int.toNat_of_nonneg (Int.emod_nonneg _ (by decide))]
    have hd : ((2 ^ k : Nat) : Int) ∣ ((2 ^ 64 : Nat) : Int) := Int.natCast_dvd_natCast.2 (Nat.pow_dvd_pow 2 (by omega))
    rw [Int.emod_emod_of_dvd _ hd, Int.natCast_pow]
    rfl
  rw [h1, IntKind.wrap_i64]
  have h2 : (2 : Int) ^ k ≤ 2 ^ 62 := by exact_mod_cast hle
  have h3 : (0 : Int) < 2 ^ k := by exact_mod_cast hpos
  have h4 := Int.emod_nonneg x (show (2 : Int) ^ k ≠ 0 by omega)
  have h5 := Int.emod_lt_of_pos x h3
  omega

end Go.Proofs.Yteakglkagmghpaa.Fina

/-
  What came in: ops, words, and programs as a list of lists.
-/
namespace Go.Proofs.Yteakglkagmghpaa.Fina
open Go.ChangeShapes Go.WideShapes Go.ChangeAt Go.RowKit Go.Deep
open Slic
set_option linter.unusedVariables false
set_option maxRecDepth 8000

section
variable {H : Type} {enc : TypeId × Value → H} {w : World} {base : Nat} {spare : Nat → Bool} {held : Bool}
/-- Programs that came in. -/
def Came (w : World) (v : Value) (LL : List (List O)) : Prop := Rows w v LL ∧ okOs LL
end
end Go.Proofs.Yteakglkagmghpaa.Fina

/-
  What the laws want: the end of a slice, one program made such as may be.
-/
namespace Go.Proofs.Yteakglkagmghpaa.Fina
open Go.ChangeShapes Go.WideShapes Go.ChangeAt Go.RowKit
open Slic
set_option linter.unusedVariables false
set_option maxRecDepth 8000

/-- What Fit makes of one program. -/
structure One (w W : World) (L : List O) (g c : Nat) (A : Option Addr) (d : Nat) : Prop where
  cell : W.cell? ⟨g, 0, none⟩ = some (.slice A (fitP L).length d)
  lt : g < W.heap.size
  row : Own kF W w.heap.size (.slice A (fitP L).length d) (fitP L)
  cap : (fitP L).length ≤ d ∧ d ≤ maxLen
  rows : Rows W (.slice (some ⟨g, 0, none⟩) 1 c) [fitP L]
  below : Below w.heap.size w W
theorem One.call {w W W' : World} {L : List O} {g c : Nat} {A : Option Addr} {d : Nat} (h : One w W L g c A d) (k : Below W.heap.size W W') : One w W' L g c A d :=
  ⟨(k.cell (p := ⟨g, 0, none⟩) h.lt).trans h.cell, Nat.lt_of_lt_of_le h.lt k.size, h.row.below k, h.cap, h.rows.below k, h.below.trans (k.mono h.below.size)⟩
end Go.Proofs.Yteakglkagmghpaa.Fina
