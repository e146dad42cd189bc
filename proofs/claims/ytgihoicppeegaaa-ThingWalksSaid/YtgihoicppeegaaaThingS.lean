/-
  Contracts of the document's Walk, of penfoldref01.Ints, of penfoldlaw08.shown and laid.
-/
import Derived.Test.YtgihoicppeegaaaThingR
namespace Go.Proofs.Ytgihoicppeegaaa.Thing
open Go.ChangeShapes Go.WideShapes Go.ChangeAt Go.RowKit
open Mem Arena Held Ref
open Heads (U Y P unV firstV secondV rightB packV retY)
set_option linter.unusedVariables false

theorem row_below {w w' : World} {b : Nat} {e : TypeId} {s : Nat} {v : Value} {k : Nat} {xs : List Value} (h : w.ownsRow b e s v k xs) (hb : Below w.heap.size w w') : w'.ownsRow b e s v k xs := h.kept (only_below (g := none) hb) (by cases v.ownBlock <;> simp)
theorem row_only {w w' : World} {b g : Nat} {e : TypeId} {s : Nat} {v : Value} {k : Nat} {xs : List Value} (h : w.ownsRow b e s v k xs) (hb : w.grownBy w' (some g)) (hg : g < b) : w'.ownsRow b e s v k xs :=
  h.kept hb (.inr fun e => by have := (h.lt g e).1; omega)
theorem below_row {w w' : World} {b : Nat} {e : TypeId} {s : Nat} {v : Value} {k : Nat} {xs : List Value} {N : Nat} {w0 : World} (hB : Below N w0 w) (h : w.ownsRow b e s v k xs) (hg : w.grownBy w' v.ownBlock) (hN : N ≤ b) (hs : N ≤ w.heap.size) : Below N w0 w' :=
  hB.grown hg hs fun j ej => Nat.le_trans hN (h.lt j ej).1
theorem row_empty (w : World) (b : Nat) (e : TypeId) (s : Nat) (hb : b ≤ w.heap.size) : (w.alloc (.cells #[] e)).ownsRow b e s (.slice (some ⟨w.heap.size, 0, none⟩) 0 0) 0 [] := by
  refine ⟨by simp, .inr ⟨w.heap.size, 0, #[], rfl, hb, ?_, Nat.le_refl _, Nat.zero_le _, by simp, by simp⟩⟩
  show (w.heap.push _)[w.heap.size]? = _
  rw [Array.getElem?_push, if_pos rfl]

theorem cell_only {w w' : World} {row : Option Nat} (h : w.grownBy w' row) {b : Nat} (hb : b < w.heap.size) (hne : some b ≠ row) (o : Nat) : w'.cell? ⟨b, o, none⟩ = w.cell? ⟨b, o, none⟩ := by
  simp only [World.cell?, h.block b hb hne]
/-- A row of one's own with one more, as a row. -/
theorem row_snoc {w : World} {N : Nat} {v : Value} {L : List Int} {x : Int} (h : w.ownsRow N 3 1 v (L.length + 1) (L.map (Value.int .i64) ++ [.int .i64 x])) : Row w N v (L ++ [x]) := by
  unfold Row
  simpa using h

set_option maxRecDepth 100000 in
set_option maxHeartbeats 4000000 in
theorem refwalk_core (w : World) (B g n : Nat) (f : Nat → Int) (a0 u : Int) (L : List Int) (b : Bool) (h : Rf w B g n f) (a1 : -9223372036854775808 ≤ a0) (a2 : a0 ≤ 9223372036854775807) (u1 : 0 ≤ u) (u2 : u ≤ 9223372036854775807) (hL : Wk n f (a0 + u) a0 L b) (M : List Int) (k : Int) (hM : (b = true ∧ M = L ∧ k = 0) ∨ (b = false ∧ M = [] ∧ k = 18)) :
    Calls Try.prog 14 #[.pointer (some ⟨B, 0, none⟩), .int .i64 a0, .int .i64 u] w (Told w M k) := by
  have hlen := wk_short h.fit hL
  have hl := h.len
  have hu : decide (u < 0) = false := decide_eq_false (by omega)
  have hmx : 100000 ≤ maxLen := by decide
  obtain ⟨i0, hi, hz0, hz1, hz2⟩ := info_parts info_int
  have hlB := h.head.lt
  have hlg := h.body.lt
  go_enter Try.func14, Try.ntmps14
  go_wp2
  go_loopw [8, 9, 10] (fun o l t wr => ∃ (pre rest : List Int) (a : Int), t = .int .i64 a ∧ l = .int .i64 (a0 + u - a) ∧ Row wr w.heap.size o pre ∧ L = pre ++ rest ∧ Wk n f (a0 + u) a rest b ∧ -9223372036854775808 ≤ a ∧ a ≤ 9223372036854775807 ∧ a0 + u - a ≤ 9223372036854775807 ∧ 0 ≤ a0 + u - a ∧ Below w.heap.size w wr)
    (fun _ l _ _ => (intOf l).toNat)
  case atStart =>
    exact ⟨[], L, a0, rfl, by congr 1; omega, row_empty _ _ _ _ (Nat.le_refl _), rfl, hL, a1, a2, by omega, by omega, (Below.refl _ _).alloc (Nat.le_refl _) _⟩
  case round =>
    obtain ⟨pre, rest, a, rfl, rfl, hrow, hx, hk, q1, q2, q3, q4, hB⟩ := hrel
    have hR : Rf wr B g n f := h.below hB hlB hlg
    have hA := refat_any wr B g n f a hR q1 q2
    cases rest with
    | nil =>
      cases b with
      | true =>
        have hk' : a0 + u ≤ a := hk
        obtain ⟨rfl, rfl⟩ : M = L ∧ k = 0 := by
          rcases hM with ⟨_, h1, h2⟩ | ⟨h1, _⟩
          · exact ⟨h1, h2⟩
          · cases h1
        have hd : decide (0 < a0 + u - a) = false := decide_eq_false (by omega)
        clear hM hA hk
        go_wp2
        go_ret2
        exact ⟨⟨_, rfl, by rw [hx, List.append_nil]; exact hrow⟩, hB⟩
      | false =>
        obtain ⟨rfl, rfl⟩ : M = [] ∧ k = 18 := by
          rcases hM with ⟨h1, _⟩ | ⟨_, h1, h2⟩
          · cases h1
          · exact ⟨h1, h2⟩
        obtain ⟨k1, k2⟩ := hk
        have hd : decide (0 < a0 + u - a) = true := decide_eq_true (by omega)
        clear hM
        rcases at_cases n hR.fit a with e0 | ⟨i, s, k, t, d, c, e, hi, rfl, h1, h2, _⟩
        · rw [e0] at hA
          clear k2
          go_wp2_with fail
          refine hA.mono ?_
          rintro z w1 ⟨rfl, hb1⟩
          rw [show badU = ⟨0, 0, 0, false, 0, 0, 18⟩ from rfl]
          go_wp2
          go_ret2
          exact ⟨⟨_, rfl, World.ownsRow_nil _ _ _ _⟩, hB.trans ((hb1.alloc hb1.size _).mono hB.size)⟩
        · rw [h1] at hA k2
          have := Heads.rbounds h2
          have k3 : a0 + u < 8 * (i : Int) + 8 * s := by
            rcases k2 with k2 | k2
            · exact absurd rfl k2
            · exact k2
          have hd2 : decide (a0 + u - 8 * (i : Int) < 8 * s) = true := decide_eq_true (by omega)
          clear k2 h1 h2
          go_wp2_with fail
          refine hA.mono ?_
          rintro z w1 ⟨rfl, hb1⟩
          go_wp2
          go_ret2
          exact ⟨⟨_, rfl, World.ownsRow_nil _ _ _ _⟩, hB.trans ((hb1.alloc hb1.size _).mono hB.size)⟩
    | cons x rest =>
      obtain ⟨rfl, k1, e0, k3, k4⟩ := hk
      have hpl : pre.length + 1 ≤ L.length := by rw [hx]; simp
      have hd : decide (0 < a0 + u - x) = true := decide_eq_true (by omega)
      rcases at_cases n hR.fit x with e1 | ⟨i, s, k, t, d, c, e, hi', rfl, h1, h2, _⟩
      · rw [e1] at e0
        cases e0
      · rw [h1] at hA k3 k4
        dsimp only at k3 k4
        have := Heads.rbounds h2
        have hd2 : decide (a0 + u - 8 * (i : Int) < 8 * s) = false := decide_eq_false (by omega)
        have HX := Lib.hid hx
        clear h1 h2 e0 hx
        go_wp2_with fail
        refine hA.mono ?_
        rintro z w1 ⟨rfl, hb1⟩
        have hrow1 := row_below hrow hb1
        have hB1 := hB.trans (hb1.mono hB.size)
        have hs1 := hB1.size
        go_wp2_with (at_builtin; refine wpList_append_own _ rfl _ _ 38 rfl w.heap.size 3 i0 (.int .i64 0) 1 8 Try.underlying38 hi hz0 hz1 hz2 rfl (by decide) _ _ _ rfl ((hrow1.alloc _).alloc _) ⟨w1.heap.size + 1, 0, none⟩ 1 1 [.int .i64 (8 * (i : Int))] rfl rfl (by rw [← World.size_alloc w1]; exact cell_one_new _ _ _) (by simp [Value.oneCell']) (by omega) (by omega) (by simp; omega) ?_; intro v' w2 hown' hgrow _; have hne : some w1.heap.size ≠ Value.ownBlock _ := (fun e => by have := (hrow1.lt _ e.symm).2; omega); have cS := (cell_only hgrow (b := w1.heap.size) (by simp; omega) hne 0).trans (show _ = some (Value.int .i64 s) by simp [go_sem]); have hB2 := below_row ((hB1.alloc hs1 _).alloc (by simp; omega) _) ((hrow1.alloc _).alloc _) hgrow (Nat.le_refl _) (by simp; omega))
        go_roundw
        case rel => exact ⟨pre ++ [8 * (i : Int)], rest, _, rfl, by congr 1; omega, row_snoc hown', by rw [HX.out]; simp, k4, by omega, by omega, by omega, by omega, hB2⟩
        case measure => simp [intOf]; omega
end Go.Proofs.Ytgihoicppeegaaa.Thing
