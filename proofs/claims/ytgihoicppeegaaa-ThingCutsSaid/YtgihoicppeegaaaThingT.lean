/-
  Contracts of the document's Walk for every argument, of penfoldref01.Ints, of penfoldlaw08.shown and laid.
-/
import Derived.Test.YtgihoicppeegaaaThingS
import Derived.Test.YtgihoicppeegaaaArgs
import Derived.Deep.QuietTactic
import Derived.BigQuiet
namespace Go.Proofs.Ytgihoicppeegaaa.Thing
open Go.ChangeShapes Go.WideShapes Go.ChangeAt Go.RowKit
open Mem Arena Held Ref
open Heads (U Y P unV firstV secondV rightB packV retY)
set_option linter.unusedVariables false

set_option maxHeartbeats 1000000 in
theorem refwalk_any (w : World) (B g n : Nat) (f : Nat → Int) (a u : Int) (L : List Int) (k : Int) (h : Rf w B g n f) (a1 : -9223372036854775808 ≤ a) (a2 : a ≤ 9223372036854775807) (u1 : -9223372036854775808 ≤ u) (u2 : u ≤ 9223372036854775807) (hL : Walked n f a u L k) :
    Calls Try.prog 14 #[.pointer (some ⟨B, 0, none⟩), .int .i64 a, .int .i64 u] w (Told w L k) := by
  by_cases hu : u < 0
  · obtain ⟨rfl, rfl⟩ : L = [] ∧ k = 18 := by
      rcases hL with ⟨_, h1, h2⟩ | ⟨h1, _⟩
      · exact ⟨h1, h2⟩
      · omega
    clear hL
    go_enter Try.func14, Try.ntmps14
    go_wp2
    go_ret2
    exact ⟨⟨_, rfl, World.ownsRow_nil _ _ _ _⟩, (Below.refl _ _).alloc (Nat.le_refl _) _⟩
  · rcases hL with ⟨h1, _⟩ | ⟨h1, hL⟩
    · omega
    · rcases hL with ⟨h2, h3⟩ | ⟨h2, h3, L', h4⟩
      · exact refwalk_core w B g n f a u L true h a1 a2 h1 u2 h2 L k (.inl ⟨rfl, rfl, h3⟩)
      · exact refwalk_core w B g n f a u L' false h a1 a2 h1 u2 h4 L k (.inr ⟨rfl, h2, h3⟩)

/-- The numbers that a slice's address reads. -/
def Reads (w : World) (A : Option Addr) (L : List Int) : Prop := ∀ (i : Nat) (x : Int), L[i]? = some x → ∃ b o, A = some ⟨b, o, none⟩ ∧ w.cell? ⟨b, o + i, none⟩ = some (.int .i64 x)
theorem cell_lt {w : World} {b o : Nat} {v : Value} (h : w.cell? ⟨b, o, none⟩ = some v) : b < w.heap.size := Args.cell_lt (p := ⟨b, o, none⟩) h
theorem Reads.below {w w' : World} {A : Option Addr} {L : List Int} (h : Reads w A L) (k : Below w.heap.size w w') : Reads w' A L := fun i x hx => by
  obtain ⟨b, o, e, hc⟩ := h i x hx
  exact ⟨b, o, e, (k.cell (p := ⟨b, o + i, none⟩) (cell_lt hc)).trans hc⟩
theorem Row.reads {w : World} {N : Nat} {v : Value} {L : List Int} (h : Row w N v L) : ∃ A c, v = .slice A L.length c ∧ Reads w A L := by
  rcases h.2 with ⟨rfl, h0⟩ | ⟨g, cap, cur, rfl, hr⟩
  · exact ⟨none, 0, by rw [h0], fun i x hx => by rw [List.eq_nil_of_length_eq_zero h0] at hx; cases hx⟩
  · refine ⟨_, _, rfl, fun i x hx => ⟨g, 0, rfl, ?_⟩⟩
    have := World.ownsRow.cells h (g := g) rfl i (.int .i64 x) (by rw [List.getElem?_map, hx]; rfl)
    rw [Addr.add_lit] at this
    exact this
theorem Reads.drop {w : World} {b o : Nat} {L : List Int} (h : Reads w (some ⟨b, o, none⟩) L) (k : Nat) : Reads w (some ⟨b, o + k, none⟩) (L.drop k) := fun i x hx => by
  rw [List.getElem?_drop] at hx
  obtain ⟨b', o', e, hc⟩ := h _ x hx
  cases e
  exact ⟨_, _, rfl, by rw [Nat.add_assoc]; exact hc⟩
theorem Reads.take {w : World} {A : Option Addr} {L : List Int} (h : Reads w A L) (k : Nat) : Reads w A (L.take k) := fun i x hx => by
  rw [List.getElem?_take] at hx
  split at hx
  · exact h i x hx
  · cases hx

set_option maxHeartbeats 2000000 in
theorem ints_any (w : World) (A A' : Option Addr) (c c' : Nat) (L : List Int) (hl : L.length ≤ 100000) (h : Reads w A L) (h' : Reads w A' L) :
    Calls Try.prog 15 #[.slice A L.length c, .slice A' L.length c'] w fun e w' => e = .returned (.bool true) ∧ Below w.heap.size w w' := by
  go_enter Try.func15, Try.ntmps15
  go_wp2
  go_loopw [5] (fun t wr => ∃ k : Nat, k ≤ L.length ∧ t = .int .i64 k ∧ Below w.heap.size w wr) (fun t _ => L.length - (intOf t).toNat)
  case atStart => exact ⟨0, by omega, rfl, Below.refl _ _⟩
  case round =>
    obtain ⟨k, hk, rfl, hB⟩ := hrel
    by_cases hlt : k < L.length
    · have hx : L[k]? = some (L[k]'hlt) := List.getElem?_eq_getElem hlt
      obtain ⟨b, o, rfl, hc⟩ := h k _ hx
      obtain ⟨b', o', rfl, hc'⟩ := h' k _ hx
      have hcw := (hB.cell (p := ⟨b, o + k, none⟩) (cell_lt hc)).trans hc
      have hcw' := (hB.cell (p := ⟨b', o' + k, none⟩) (cell_lt hc')).trans hc'
      clear h h' hc hc' hx
      generalize L[k] = x at hcw hcw'
      go_wp2
      go_quiet (fail)
      go_wp2
      go_roundw
      case rel => exact ⟨k + 1, by omega, by go_num, below_drewN hB _⟩
      case measure => simp [intOf]; omega
    · obtain rfl : k = L.length := by omega
      go_wp2
      go_ret
      exact ⟨rfl, hB⟩

theorem at_none (n : Nat) (a : Int) : atV n (fun _ => 0) a = badU := by
  unfold atV
  split
  · exact if_neg (show ¬ Heads.unB 0 0 = true by decide)
  · rfl

set_option maxHeartbeats 1000000 in
theorem shown_any (w : World) : Calls Try.prog 7 #[] w fun e w' => e = .returned (.bool true) ∧ Below w.heap.size w w' := by
  have hW : Walked 8 (fun _ => 0) 8 0 [] 0 := .inr ⟨by omega, .inl ⟨show (8 : Int) + 0 ≤ 8 by omega, rfl⟩⟩
  go_enter Try.func7, Try.ntmps7
  go_wp2_with fail
  refine (new_at _ _ 8 rfl (by omega)).mono ?_
  rintro e w1 ⟨rfl, h1, k1, z1⟩
  have Z1 := Lib.hid z1
  clear z1
  go_wp2_with fail
  refine (walk_any _ _ _ 8 _ _ _ [] 0 h1 (by omega) (by omega) (by omega) (by omega) hW).mono ?_
  rintro e w2 ⟨⟨v, rfl, hv⟩, k2⟩
  obtain ⟨p, c, rfl⟩ := row_slice hv
  go_wp2_with fail
  refine (at_any _ _ _ 8 _ _ (h1.below k2 h1.head.lt h1.body.lt) (by omega) (by omega)).mono ?_
  rintro e w3 ⟨rfl, k3⟩
  rw [at_none, show badU = ⟨0, 0, 0, false, 0, 0, 18⟩ from rfl]
  go_wp2
  go_ret
  exact ⟨rfl, ((k1.trans (k2.mono k1.size)).trans (k3.mono (Nat.le_trans k1.size k2.size))).alloc (Nat.le_trans (Nat.le_trans k1.size k2.size) k3.size) _⟩

def upTo (z : Nat → Int) (k : Nat) : Nat → Int := fun i => if i < k then z i else 0
theorem upTo_none (z : Nat → Int) : upTo z 0 = fun _ => 0 := by funext i; unfold upTo; rw [if_neg (by omega)]
theorem upTo_step (z : Nat → Int) (k : Nat) : setF (upTo z k) k (z k) = upTo z (k + 1) := by
  funext j
  unfold setF upTo
  by_cases e : j = k
  · subst e
    rw [if_pos rfl, if_pos (by omega)]
  · rw [if_neg e]
    by_cases e' : j < k
    · rw [if_pos e', if_pos (by omega)]
    · rw [if_neg e', if_neg (by omega)]
theorem refnew_at (w : World) (m : Int) (k : Nat) (hm : m = 8 * (k : Int)) (hk : k ≤ 8192) :
    Calls Try.prog 25 #[.int .i64 m] w fun e w' => e = .returned (.pointer (some ⟨w.heap.size + 1, 0, none⟩)) ∧ Rf w' (w.heap.size + 1) w.heap.size k (fun _ => 0) ∧ Below w.heap.size w w' ∧ w'.heap.size = w.heap.size + 2 := by
  subst hm
  exact Ref.new_any w k hk
/-- Both arenas of 60 words, side by side. -/
structure Two (w0 w : World) (N : Nat) (f f' : Nat → Int) : Prop where
  a : Ar w (N + 1) N 60 f
  r : Rf w (N + 2 + 1) (N + 2) 60 f'
  below : Below w0.heap.size w0 w
  own : w0.heap.size ≤ N
theorem Two.size {w0 w : World} {N : Nat} {f f' : Nat → Int} (h : Two w0 w N f f') : N + 4 ≤ w.heap.size := h.r.head.lt
theorem Two.call {w0 w w' : World} {N : Nat} {f f' : Nat → Int} (h : Two w0 w N f f') (k : Below w.heap.size w w') : Two w0 w' N f f' :=
  ⟨h.a.below k h.a.head.lt h.a.body.lt, h.r.below k h.r.head.lt h.r.body.lt, h.below.trans (k.mono h.below.size), h.own⟩
theorem Two.onA {w0 w w' : World} {N : Nat} {f f' h : Nat → Int} (T : Two w0 w N f f') (k : w.grownBy w' (some N)) (H : Ar w' (N + 1) N 60 h) : Two w0 w' N h f' :=
  ⟨H, T.r.kept k (by intro e; injection e; omega) (by intro e; injection e; omega), below_only T.below k T.below.size T.own, T.own⟩
theorem Two.onR {w0 w w' : World} {N : Nat} {f f' h : Nat → Int} (T : Two w0 w N f f') (k : w.grownBy w' (some (N + 2))) (H : Rf w' (N + 2 + 1) (N + 2) 60 h) : Two w0 w' N f h :=
  ⟨T.a.kept k (by intro e; injection e; omega) (by intro e; injection e; omega), H, below_only T.below k T.below.size (by have := T.own; omega), T.own⟩
/-- Blocks of one's own stay where another block changes. -/
theorem st_only {w0 w w' : World} {L : List (Nat × List Value)} {g : Nat} (S : St w0 w L) (k : w.grownBy w' (some g)) (hg : w0.heap.size ≤ g) (hL : ∀ x ∈ L, x.1 ≠ g) : St w0 w' L :=
  ⟨below_only S.below k S.below.size hg, fun x hx => by
    have A := S.at_ x hx
    have hb := k.block x.1 A.lt (fun e => by injection e; exact hL x hx (by assumption))
    refine ⟨A.own, Nat.lt_of_lt_of_le A.lt k.size, fun i v e => ?_, fun o => ?_⟩
    · rw [← A.cell i v e]
      simp only [World.cell?, hb]
    · rw [← A.fz o]
      simp only [World.frozen?, hb], S.nd⟩

set_option maxHeartbeats 2000000 in
theorem laid_any (w : World) (lA : Option Addr) (ln lc : Nat) (z : Nat → Int) (hl : Args.Ints .u64 w lA ln z) :
    Calls Try.prog 8 #[.slice lA ln lc] w fun e w' => e = .returned (.tuple #[.pointer (some ⟨w.heap.size + 1, 0, none⟩), .pointer (some ⟨w.heap.size + 2 + 1, 0, none⟩)]) ∧ ∃ f, Two w w' w.heap.size f f := by
  have hlen := hl.len
  have hmx : maxLen ≤ 9223372036854775807 := by decide
  go_enter Try.func8, Try.ntmps8
  go_wp2_with fail
  refine (new_at _ _ 60 rfl (by omega)).mono ?_
  rintro e w1 ⟨rfl, h1, k1, z1⟩
  go_wp2_with fail
  refine (refnew_at _ _ 60 rfl (by omega)).mono ?_
  rintro e w2 ⟨rfl, h2, k2, z2⟩
  rw [z1] at h2 k2 z2 ⊢
  have T0 : Two w w2 w.heap.size (fun _ => 0) (fun _ => 0) := ⟨h1.below k2 (by omega) (by omega), h2, k1.trans (k2.mono (by omega)), Nat.le_refl _⟩
  clear h1 k1 z1 h2 k2 z2
  go_wp2_with fail
  go_loopw [7] (fun t wr => ∃ k : Nat, k ≤ ln ∧ k ≤ 60 ∧ t = .int .i64 k ∧ Two w wr w.heap.size (upTo z k) (upTo z k)) (fun t _ => 60 - (intOf t).toNat)
  case atStart => exact ⟨0, by omega, by omega, rfl, by rw [upTo_none]; exact T0⟩
  case round =>
    obtain ⟨k, hk, hk6, rfl, T⟩ := hrel
    by_cases hlt : k < ln
    · by_cases hl6 : k < 60
      · obtain ⟨b, o, rfl, hb, hc⟩ := hl.at_ k hlt
        have hc1 := (T.below.cell (p := ⟨b, o + k, none⟩) hb).trans hc
        have ⟨y1, y2⟩ := bounds_u64 (hl.wf k)
        go_wp2_with fail
        refine (put_ok _ _ _ 60 k _ _ (z k) T.a hl6 (by omega) y1 y2).mono ?_
        rintro e w3 ⟨rfl, h3, g3⟩
        have hR := T.r.kept g3 (by intro e; injection e; omega) (by intro e; injection e; omega)
        have hB3 := below_only T.below g3 T.below.size (Nat.le_refl _)
        have hc2 := (hB3.cell (p := ⟨b, o + k, none⟩) hb).trans hc
        go_wp2_with fail
        refine (Ref.put_any _ _ _ 60 _ _ (z k) hR (by omega) (by omega) y1 y2).mono ?_
        rintro e w4 ⟨rfl, h4, g4⟩
        go_wp2_with fail
        go_roundw
        case rel =>
          refine ⟨k + 1, by omega, by omega, by go_num, ?_⟩
          rw [← upTo_step]
          refine ⟨h3.kept g4 (by intro e; injection e; omega) (by intro e; injection e; omega), ?_, below_only hB3 g4 hB3.size (by omega), Nat.le_refl _⟩
          unfold putF at h4
          rw [if_pos (okW_mk hl6), show (8 * (k : Int)).toNat / 8 = k by omega] at h4
          exact h4
        case measure => simp [intOf]; omega
      · have d6 : decide ((k : Int) < 60) = false := decide_eq_false (by omega)
        go_wp2
        go_ret2
        exact ⟨rfl, _, T⟩
    · have d6 : decide ((k : Int) < (ln : Int)) = false := decide_eq_false (by omega)
      go_wp2
      go_ret2
      exact ⟨rfl, _, T⟩
end Go.Proofs.Ytgihoicppeegaaa.Thing
