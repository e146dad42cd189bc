/-
  What ThingCuts wants besides: the done bit put into a first word; a row kept where another block changes; slices compared at lengths that are spelled otherwise; walks of a part of the row.
-/
import Derived.Test.YtgihoicppeegaaaEighty
namespace Go.Proofs.Ytgihoicppeegaaa.Thing
open Go.ChangeShapes Go.WideShapes Go.ChangeAt Go.RowKit
open Mem Arena Held Ref
open Heads (U Y P unV firstV secondV rightB packV retY)
set_option linter.unusedVariables false

theorem wr64 {x : Int} (h1 : -9223372036854775808 ≤ x) (h2 : x ≤ 9223372036854775807) : IntKind.i64.wrap x = x := by rw [IntKind.wrap_i64]; omega
theorem below_of_grown {w w' : World} (h : w.grownBy w' none) : Below w.heap.size w w' := ⟨h.os, h.tape, h.output, h.size, fun k hk => h.block k hk (by simp)⟩
theorem or_one (x : Nat) : x ||| 1 = x / 2 * 2 + 1 := by
  have h1 : (x ||| 1) / 2 = x / 2 := by have := Nat.or_div_two_pow (a := x) (b := 1) (n := 1); simpa using this
  have h2 : (x ||| 1) % 2 = 1 := by
    have := Nat.or_mod_two_pow (a := x) (b := 1) (n := 1)
    simp at this
    rw [this]
    rcases (show x % 2 = 0 ∨ x % 2 = 1 by omega) with h | h <;> rw [h]
    · rfl
    · rfl
  omega
theorem or_pow (n k : Nat) : n ||| 2 ^ k = if n / 2 ^ k % 2 = 1 then n else n + 2 ^ k := by
  have hp : 0 < 2 ^ k := Nat.two_pow_pos k
  have h1 : (n ||| 2 ^ k) % 2 ^ k = n % 2 ^ k := by rw [Nat.or_mod_two_pow, Nat.mod_self, Nat.or_zero]
  have h2 : (n ||| 2 ^ k) / 2 ^ k = n / 2 ^ k ||| 1 := by rw [Nat.or_div_two_pow, Nat.div_self hp]
  have h3 := Nat.div_add_mod (n ||| 2 ^ k) (2 ^ k)
  have h4 := Nat.div_add_mod n (2 ^ k)
  rw [h1, h2, or_one] at h3
  by_cases h : n / 2 ^ k % 2 = 1
  · rw [if_pos h]
    have e : n / 2 ^ k / 2 * 2 + 1 = n / 2 ^ k := by generalize n / 2 ^ k = q at h; omega
    rw [e] at h3
    omega
  · rw [if_neg h]
    have e : n / 2 ^ k / 2 * 2 + 1 = n / 2 ^ k + 1 := by generalize n / 2 ^ k = q at h; omega
    rw [e, Nat.mul_add, Nat.mul_one] at h3
    omega
theorem or_done {h : Hd} (r : h.right) : bits .or .u64 (firstH h) 281474976710656 = firstH { h with d := true } := by
  obtain ⟨_, _, _, e4, _, _, _, q1, q2, _⟩ := Heads.words_parts h.d r.r
  have f1 : firstH { h with d := true } = firstH h + (1 - Heads.bit h.d) * 281474976710656 := by
    show firstV _ _ _ _ = firstV _ _ _ _ + _
    unfold firstV
    cases h.d <;> simp only [Heads.bit, if_true, Bool.false_eq_true, if_false] <;> omega
  rw [f1]
  have e4' : firstH h / 281474976710656 % 256 = Heads.bit h.d := e4
  have q1' : 0 ≤ firstH h := q1
  have q2' : firstH h ≤ 18446744073709551615 := q2
  generalize firstH h = X at *
  obtain ⟨m, rfl⟩ := Int.eq_ofNat_of_zero_le q1'
  have e := or_pow m 48
  rw [show (281474976710656 : Int) = ((2 ^ 48 : Nat) : Int) from rfl, u64_or_nat _ _ (by omega) (by decide), e]
  have hd : Heads.bit h.d = 0 ∨ Heads.bit h.d = 1 := by cases h.d <;> simp [Heads.bit]
  rcases hd with hd | hd
  · rw [hd] at e4' ⊢
    rw [if_neg (by simp only [Nat.reducePow]; omega)]
    simp only [Nat.reducePow]
    omega
  · rw [hd] at e4' ⊢
    rw [if_pos (by simp only [Nat.reducePow]; omega)]
    omega
theorem Rw.only {w0 w w' : World} {N B : Nat} {f : Nat → Int} {hs : List Hd} {v u : Value} (h : Rw w0 w N f hs v u) (k : w.grownBy w' (some B)) (hB : N + 2 ≤ B) (h1 : v.ownBlock ≠ some B) (h2 : u.ownBlock ≠ some B) : Rw w0 w' N f hs v u :=
  ⟨h.ar.kept k (by intro e; injection e; omega) (by intro e; injection e; omega), World.ownsRow.kept h.heads k (.inr h1), World.ownsRow.kept h.plcs k (.inr h2), h.laid, h.len, h.used, h.rest, below_only h.below k h.below.size (by have := h.own; omega), h.own⟩
theorem ints_same (w : World) (A A' : Option Addr) (m m' c c' : Nat) (L : List Int) (hl : L.length ≤ 100000) (hm : m = L.length) (hm' : m' = L.length) (h : Reads w A L) (h' : Reads w A' L) :
    Calls Try.prog 15 #[.slice A m c, .slice A' m' c'] w fun e w' => e = .returned (.bool true) ∧ Below w.heap.size w w' := by
  subst hm hm'
  exact ints_any w A A' c c' L hl h h'
section
variable {w0 w : World} {N : Nat} {f : Nat → Int} {hs a b : List Hd} {h : Hd} {v u : Value} {p : Nat}
theorem Rw.front (R : Rw w0 w N f hs v u) (e : hs = a ++ h :: b) (hp : p = 8 + total a) : Walked 80 f 64 (8 * (p : Int) - 64) (places 8 a) 0 := by
  have L := R.laid
  have tot := R.tot
  have et : total hs = total a + (h.s + total b) := by rw [e, total_app]; rfl
  rw [e, laid_app] at L
  have := wk_laid (n := 80) L.1 (by omega)
  refine .inr ⟨by omega, .inl ⟨?_, rfl⟩⟩
  rw [show (64 + (8 * (p : Int) - 64)) = 8 * ((8 + total a : Nat) : Int) by omega]
  exact this
theorem Rw.back (R : Rw w0 w N f hs v u) (e : hs = a ++ h :: b) (hp : p = 8 + total a) : Walked 80 f (8 * (p : Int)) (8 * (total hs : Int) + 64 - 8 * (p : Int)) (places p (h :: b)) 0 := by
  have L := R.laid
  have tot := R.tot
  have et : total hs = total a + total (h :: b) := by rw [e, total_app]
  rw [e, laid_app, ← hp] at L
  have := wk_laid (n := 80) L.2 (by omega)
  refine .inr ⟨by omega, .inl ⟨?_, rfl⟩⟩
  rw [show (8 * (p : Int) + (8 * (total hs : Int) + 64 - 8 * (p : Int))) = 8 * ((p + total (h :: b) : Nat) : Int) by omega]
  exact this
theorem Rw.whole (R : Rw w0 w N f hs v u) : Walked 80 f 64 (8 * (total hs : Int)) (places 8 hs) 0 := by
  have tot := R.tot
  have := wk_laid (n := 80) R.laid (by omega)
  refine .inr ⟨by omega, .inl ⟨?_, rfl⟩⟩
  rw [show (64 + 8 * (total hs : Int)) = 8 * ((8 + total hs : Nat) : Int) by omega]
  exact this
theorem Rw.less (R : Rw w0 w N f hs v u) (hne : hs ≠ []) : Walked 80 f 64 (8 * (total hs : Int) - 8) [] 18 := by
  have tot := R.tot
  have ht := laid_total R.laid
  have hl : 0 < hs.length := List.length_pos_iff.2 hne
  obtain ⟨L, hL⟩ := wk_less (n := 80) hne R.laid (by omega)
  refine .inr ⟨by omega, .inr ⟨rfl, rfl, L, ?_⟩⟩
  rw [show (64 + (8 * (total hs : Int) - 8)) = 8 * ((8 + total hs : Nat) : Int) - 8 by omega]
  exact hL
theorem Rw.more (R : Rw w0 w N f hs v u) : Walked 80 f 64 (8 * (total hs : Int) + 8) [] 18 := by
  have tot := R.tot
  obtain ⟨L, hL⟩ := wk_more (n := 80) R.laid (by omega) (R.rest _ (Nat.le_refl _))
  refine .inr ⟨by omega, .inr ⟨rfl, rfl, L, ?_⟩⟩
  rw [show (64 + (8 * (total hs : Int) + 8)) = 8 * ((8 + total hs : Nat) : Int) + 8 by omega]
  exact hL
/-- The row of places, and its two parts. -/
theorem Rw.reads {g' m cu : Nat} (R : Rw w0 w N f hs v (.slice (some ⟨g', 0, none⟩) m cu)) (e : hs = a ++ h :: b) (hp : p = 8 + total a) : Reads w (some ⟨g', 0, none⟩) (places 8 hs) ∧ Reads w (some ⟨g', 0, none⟩) (places 8 a) ∧ Reads w (some ⟨g', a.length, none⟩) (places p (h :: b)) ∧ hs.length ≤ cu := by
  have hc : hs.length ≤ cu := by
    rcases R.plcs.2 with ⟨e1, _⟩ | ⟨g, cap, cur, e1, _, _, h2, _⟩
    · cases e1
    · injection e1 with _ _ e3
      rw [places_len] at h2
      omega
  obtain ⟨A, c, e1, hr⟩ := R.plcs.reads
  injection e1 with e1 _ _
  subst e1
  have ht := hr.take a.length
  have hd := hr.drop a.length
  rw [e, places_app] at ht hd
  rw [List.take_left' (places_len a 8)] at ht
  rw [List.drop_left' (places_len a 8), ← hp, Nat.zero_add] at hd
  exact ⟨hr, ht, hd, hc⟩
end
/-- Marked: once, and again. -/
theorem mark_one {w : World} {f : Nat → Int} {hs : List Hd} {pv pu : Option Addr} {i : Nat} {a b : List Hd} {h : Hd} {p g g' : Nat} (o : One w f hs pv pu i a b h p g g') :
    markF 80 f (8 * (p : Int)) = setF f p (firstH { h with d := true }) ∧ (atV 80 (setF f p (firstH { h with d := true })) (8 * (p : Int))).err = 0 ∧ markF 80 (setF f p (firstH { h with d := true })) (8 * (p : Int)) = setF f p (firstH { h with d := true }) := by
  have hb := o.right.bd
  have hf := o.fits
  have r' : ({ h with d := true } : Hd).right := ⟨o.right.r, o.right.most⟩
  have a2 : atV 80 (setF f p (firstH { h with d := true })) (8 * (p : Int)) = ⟨(h.s : Int), h.n, h.t, true, h.c, h.e, 0⟩ := at_laid (h := { h with d := true }) r' (setF_same _ _ _) ((setF_other _ _ _ _ (by omega)).trans o.second) (by omega)
  refine ⟨?_, by rw [a2], ?_⟩
  · unfold markF
    rw [o.at_V]
    dsimp only
    rw [if_pos rfl, show (8 * (p : Int)).toNat / 8 = p by omega]
    rfl
  · unfold markF
    rw [a2]
    dsimp only
    rw [if_pos rfl, show (8 * (p : Int)).toNat / 8 = p by omega]
    funext j
    unfold setF
    split <;> rfl
end Go.Proofs.Ytgihoicppeegaaa.Thing
