/-
  Plain mathematics of objects in an extent: what stands at a place (atV), where a slot is (slotV), which places are walked (Wk), what a mark does (markF).
-/
import Derived.Test.YtgihoicppeegaaaTurned
import Derived.Test.YtgihoicppeegaaaRef
namespace Go.Proofs.Ytgihoicppeegaaa.Thing
open Go.ChangeShapes Go.WideShapes Go.ChangeAt Go.RowKit
open Mem Arena
open Heads (U Y P unV firstV secondV rightB packV)
set_option linter.unusedVariables false

def badU : U := ⟨0, 0, 0, false, 0, 0, 18⟩
def pairW (n : Nat) (a : Int) : Bool := okW n a && okW n (a + 8)
/-- What stands at a place. -/
def atV (n : Nat) (f : Nat → Int) (a : Int) : U := if pairW n a = true then unV (f (a.toNat / 8)) (f (a.toNat / 8 + 1)) else badU
/-- The value of a head. -/
def hd (u : U) : Value := .agg #[.int .i64 u.s, .int .i64 u.n, .int .i64 u.t, .bool u.d, .int .i64 u.c, .int .i64 u.e]
def slotV (n : Nat) (f : Nat → Int) (a k : Int) : Y := if (atV n f a).err = 0 then (if 0 ≤ k ∧ k < (atV n f a).n then ⟨a + 16 + 8 * k, 0⟩ else ⟨0, 21⟩) else ⟨0, (atV n f a).err⟩
def markF (n : Nat) (f : Nat → Int) (a : Int) : Nat → Int := if (atV n f a).err = 0 then setF f (a.toNat / 8) (firstV (atV n f a).s (atV n f a).n (atV n f a).t true) else f

theorem un_cases (f g : Int) (f1 : 0 ≤ f) (f2 : f ≤ 18446744073709551615) (g1 : 0 ≤ g) (g2 : g ≤ 18446744073709551615) :
    unV f g = badU ∨ ∃ s n t d c e, unV f g = ⟨s, n, t, d, c, e, 0⟩ ∧ rightB s n t c e = true ∧ f = firstV s n t d ∧ g = secondV c e := by
  rcases Heads.refun_parts f g f1 f2 g1 g2 with ⟨h1, h2⟩ | ⟨h1, _⟩ | ⟨h1, _⟩ | ⟨h1, _⟩
  · refine .inr ⟨_, _, _, _, _, _, h1, ?_⟩
    by_cases hr : rightB (f % 4294967296) (f / 4294967296 % 256) (f / 1099511627776 % 256) (g % 256) (g / 256 % 16777216) = true
    · rw [Heads.pack_yes _ hr] at h2
      injection h2 with h3 h4
      exact ⟨hr, h3.symm, h4.symm⟩
    · rw [Heads.pack_no _ (by simpa using hr)] at h2
      injection h2 with _ _ h5
      cases h5
  all_goals exact .inl h1

theorem pairW_idx {n : Nat} {a : Int} (h : pairW n a = true) : ∃ i : Nat, i + 1 < n ∧ a = 8 * (i : Int) ∧ a.toNat / 8 = i := by
  unfold pairW at h
  rw [Bool.and_eq_true] at h
  obtain ⟨i, hi, e, ei⟩ := okW_idx h.1
  obtain ⟨j, hj, e', _⟩ := okW_idx h.2
  exact ⟨i, by omega, e, ei⟩
theorem pairW_mk {n i : Nat} (h : i + 1 < n) : pairW n (8 * (i : Int)) = true := by
  have h2 := okW_mk (n := n) (i := i + 1) h
  unfold pairW
  rw [okW_mk (by omega : i < n), show (8 * (i : Int) + 8) = 8 * ((i + 1 : Nat) : Int) by omega, h2]
  rfl
theorem atV_no {n : Nat} {f : Nat → Int} {a : Int} (h : pairW n a = false) : atV n f a = badU := if_neg (by rw [h]; decide)
theorem atV_mk {n i : Nat} (f : Nat → Int) (h : i + 1 < n) : atV n f (8 * (i : Int)) = unV (f i) (f (i + 1)) := by
  unfold atV
  rw [if_pos (pairW_mk h), show (8 * (i : Int)).toNat / 8 = i by omega]
/-- What stands at a place: none, or an object. -/
theorem at_cases (n : Nat) {f : Nat → Int} (hf : Fit f) (a : Int) :
    atV n f a = badU ∨ ∃ (i : Nat) (s k t : Int) (d : Bool) (c e : Int), i + 1 < n ∧ a = 8 * (i : Int) ∧ atV n f a = ⟨s, k, t, d, c, e, 0⟩ ∧ rightB s k t c e = true ∧ f i = firstV s k t d ∧ f (i + 1) = secondV c e := by
  by_cases hp : pairW n a = true
  · obtain ⟨i, hi, rfl, ei⟩ := pairW_idx hp
    rw [atV_mk f hi]
    rcases un_cases (f i) (f (i + 1)) (hf i).1 (hf i).2 (hf (i + 1)).1 (hf (i + 1)).2 with h | ⟨s, k, t, d, c, e, h1, h2, h3, h4⟩
    · exact .inl h
    · exact .inr ⟨i, s, k, t, d, c, e, hi, rfl, h1, h2, h3, h4⟩
  · exact .inl (atV_no (by simpa using hp))

/-- The places that are walked from a up to z: all of them (true), or those ahead of what is no object, or ends beyond. -/
def Wk (n : Nat) (f : Nat → Int) (z : Int) : Int → List Int → Bool → Prop
  | a, [], true => z ≤ a
  | a, [], false => a < z ∧ ((atV n f a).err ≠ 0 ∨ z < a + 8 * (atV n f a).s)
  | a, x :: L, b => x = a ∧ a < z ∧ (atV n f a).err = 0 ∧ a + 8 * (atV n f a).s ≤ z ∧ Wk n f z (a + 8 * (atV n f a).s) L b
theorem atV_ok {n : Nat} {f : Nat → Int} (hf : Fit f) {a : Int} (h : (atV n f a).err = 0) : 0 ≤ a ∧ a + 8 < 8 * (n : Int) ∧ 2 ≤ (atV n f a).s ∧ (atV n f a).s ≤ 72 := by
  rcases at_cases n hf a with e | ⟨i, s, k, t, d, c, e, hi, rfl, h1, h2, _⟩
  · rw [e] at h
    cases h
  · have := Heads.rbounds h2
    rw [h1]
    dsimp only
    omega
theorem wk_ex {n : Nat} {f : Nat → Int} (hf : Fit f) (z : Int) : ∀ (m : Nat) (a : Int), z - a ≤ (m : Int) → ∃ L b, Wk n f z a L b := by
  intro m
  induction m with
  | zero => exact fun a h => ⟨[], true, by show z ≤ a; omega⟩
  | succ m ih =>
    intro a h
    by_cases h0 : z ≤ a
    · exact ⟨[], true, h0⟩
    · by_cases h1 : (atV n f a).err = 0
      · by_cases h2 : a + 8 * (atV n f a).s ≤ z
        · have h3 := atV_ok hf h1
          obtain ⟨L, b, hL⟩ := ih (a + 8 * (atV n f a).s) (by omega)
          exact ⟨a :: L, b, rfl, by omega, h1, h2, hL⟩
        · exact ⟨[], false, by omega, .inr (by omega)⟩
      · exact ⟨[], false, by omega, .inl h1⟩
theorem wk_some {n : Nat} {f : Nat → Int} (hf : Fit f) (z a : Int) : ∃ L b, Wk n f z a L b := wk_ex hf z (z - a).toNat a (by omega)
/-- No more objects than words. -/
theorem wk_len {n : Nat} {f : Nat → Int} (hf : Fit f) {z : Int} : ∀ (L : List Int) (a : Int) (b : Bool), Wk n f z a L b → L = [] ∨ (0 ≤ a ∧ 16 * (L.length : Int) + a ≤ 8 * (n : Int) + 16)
  | [], _, _, _ => .inl rfl
  | x :: L, a, b, h => by
    obtain ⟨rfl, h1, h2, h3, h4⟩ := h
    have h5 := atV_ok hf h2
    refine .inr ⟨h5.1, ?_⟩
    rcases wk_len hf L _ b h4 with rfl | h6
    · simp; omega
    · simp only [List.length_cons]; omega
theorem wk_short {n : Nat} {f : Nat → Int} (hf : Fit f) {z a : Int} {L : List Int} {b : Bool} (h : Wk n f z a L b) : L.length ≤ n + 1 := by
  rcases wk_len hf L a b h with rfl | h
  · simp
  · omega
/-- What is walked to its end ends near the arena's end at most. -/
theorem wk_end {n : Nat} {f : Nat → Int} (hf : Fit f) {z : Int} : ∀ (L : List Int) (a : Int), Wk n f z a L true → z ≤ a ∨ z ≤ 8 * (n : Int) + 576
  | [], _, h => .inl h
  | x :: L, a, h => by
    obtain ⟨rfl, h1, h2, h3, h4⟩ := h
    have h5 := atV_ok hf h2
    rcases wk_end hf L _ h4 with h6 | h6
    · exact .inr (by omega)
    · exact .inr h6
theorem wk_in {n : Nat} {f : Nat → Int} (hf : Fit f) {z : Int} : ∀ (L : List Int) (a : Int) (b : Bool), Wk n f z a L b → ∀ x ∈ L, 0 ≤ x ∧ x < 8 * (n : Int)
  | [], _, _, _, x, hx => absurd hx List.not_mem_nil
  | y :: L, a, b, h, x, hx => by
    obtain ⟨rfl, h1, h2, h3, h4⟩ := h
    have h5 := atV_ok hf h2
    rcases List.mem_cons.1 hx with rfl | hx
    · omega
    · exact wk_in hf L _ b h4 x hx
/-- What Walk tells: the places, and its error. -/
def Walked (n : Nat) (f : Nat → Int) (a u : Int) (L : List Int) (k : Int) : Prop :=
  (u < 0 ∧ L = [] ∧ k = 18) ∨ (0 ≤ u ∧ ((Wk n f (a + u) a L true ∧ k = 0) ∨ (L = [] ∧ k = 18 ∧ ∃ L', Wk n f (a + u) a L' false)))
theorem walked_ex {n : Nat} {f : Nat → Int} (hf : Fit f) (a u : Int) : ∃ L k, Walked n f a u L k := by
  by_cases h : u < 0
  · exact ⟨[], 18, .inl ⟨h, rfl, rfl⟩⟩
  · obtain ⟨L, b, hL⟩ := wk_some (n := n) hf (a + u) a
    cases b
    · exact ⟨[], 18, .inr ⟨by omega, .inr ⟨rfl, rfl, L, hL⟩⟩⟩
    · exact ⟨L, 0, .inr ⟨by omega, .inl ⟨hL, rfl⟩⟩⟩
theorem walked_len {n : Nat} {f : Nat → Int} (hf : Fit f) {a u k : Int} {L : List Int} (h : Walked n f a u L k) : L.length ≤ n + 1 := by
  rcases h with ⟨_, rfl, _⟩ | ⟨_, ⟨h, _⟩ | ⟨rfl, _⟩⟩
  · simp
  · exact wk_short hf h
  · simp
theorem markF_fit {n : Nat} {f : Nat → Int} (hf : Fit f) (a : Int) : Fit (markF n f a) := by
  unfold markF
  split
  · rename_i h
    rcases at_cases n hf a with e | ⟨i, s, k, t, d, c, e, hi, rfl, h1, h2, _⟩
    · rw [e] at h
      cases h
    · rw [h1]
      obtain ⟨_, _, _, _, _, _, _, q1, q2, _⟩ := Heads.words_parts true h2
      exact hf.set _ _ q1 q2
  · exact hf
end Go.Proofs.Ytgihoicppeegaaa.Thing
