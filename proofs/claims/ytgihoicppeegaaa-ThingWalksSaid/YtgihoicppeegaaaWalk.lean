/-
  Contracts of thing.objects and of the function that it hands back: it tells the places that are walked, one a round, and, where one is no object or ends beyond, an error, and no more.
-/
import Derived.Test.YtgihoicppeegaaaThingC
import Derived.RangeFuncNested
import Derived.RangeFuncBound
import Derived.RangeFuncCalls
import Derived.RangeFuncLeaves
import Derived.RangeFuncBox
import Derived.Shelf.Abstract
import Derived.Shelf.RegionOpen
import Derived.OwnWalkIn
import Derived.TacticsInMore
import Derived.LoopNIn
import Derived.LoopIn
import Derived.Maps.AppendAt
namespace Go.Proofs.Ytgihoicppeegaaa.Thing
open Go.ChangeShapes Go.WideShapes Go.ChangeAt Go.RowKit Go.Shelf
open Mem Arena Held
open Heads (U Y P unV firstV secondV rightB packV retY)
set_option linter.unusedVariables false
attribute [local go_sem] Oper.semAt_some

/-- What a round is handed: a place, or an error. -/
def px : Option Int → Int
  | some x => x
  | none => 0
def ex : Option Int → Int
  | some x => 0
  | none => 18
def encs (x : Option Int) : Array Value := #[.int .i64 (px x), .int .i64 (ex x)]
/-- What a round that goes on keeps: all below N, and the three blocks of the iterator. -/
structure Kp (N : Nat) (A B : World) : Prop where
  below : Below N A B
  own : ∀ k, N + 3 ≤ k → k < N + 6 → B.heap[k]? = A.heap[k]?
theorem Kp.refl (N : Nat) (A : World) : Kp N A A := ⟨Below.refl _ _, fun _ _ _ => rfl⟩
theorem Kp.trans {N : Nat} {A B C : World} (h : Kp N A B) (k : Kp N B C) : Kp N A C := ⟨h.below.trans k.below, fun i h1 h2 => (k.own i h1 h2).trans (h.own i h1 h2)⟩
theorem Kp.of_below {N : Nat} {A B : World} (h : Below A.heap.size A B) (hN : N + 6 ≤ A.heap.size) : Kp N A B := ⟨h.mono (by omega), fun k _ h2 => h.block k (by omega)⟩
/-- All has come: the places, or (what no round lets by) an error among them. A part has come: an error is to come, or a round has said no at a place. -/
def All (L : List Int) (b : Bool) (xs : List (Option Int)) : Prop := (xs = L.map some ∧ b = true) ∨ none ∈ xs
def Part (b : Bool) (pre : List (Option Int)) : Prop := b = false ∨ ∃ x, pre.getLast? = some (some x)
/-- The iterator's three blocks, and the arena. -/
structure It (N : Nat) (W : World) (B g n : Nat) (f : Nat → Int) (base z : Int) : Prop where
  ar : Ar W B g n f
  hB : B < N
  hg : g < N
  size : N + 6 ≤ W.heap.size
  b3 : Boxed W (N + 3) 25 (.pointer (some ⟨B, 0, none⟩))
  b4 : Boxed W (N + 4) 3 (.int .i64 base)
  b5 : Boxed W (N + 5) 3 (.int .i64 z)
theorem It.kept {N : Nat} {W W' : World} {B g n : Nat} {f : Nat → Int} {base z : Int} (h : It N W B g n f base z) (k : Kp N W W') : It N W' B g n f base z :=
  ⟨h.ar.below k.below h.hB h.hg, h.hB, h.hg, Nat.le_trans h.size k.below.size, (k.own _ (by omega) (by omega)).trans h.b3, (k.own _ (by omega) (by omega)).trans h.b4, (k.own _ (by omega) (by omega)).trans h.b5⟩

set_option maxHeartbeats 1000000 in
theorem objects_in (m : Nat) (p : Option Addr) (a z : Int) (w : World) :
    CallsIn Fence.wide m Try.prog 33 #[.pointer p, .int .i64 a, .int .i64 z] w fun e w' => e = .returned (.func (.func 44) #[] #[.pointer (some ⟨w.heap.size + 1, 0, none⟩), .pointer (some ⟨w.heap.size + 2, 0, none⟩), .pointer (some ⟨w.heap.size, 0, none⟩)]) ∧
      w' = ((w.alloc (.cells #[.pointer p] 25)).alloc (.cells #[.int .i64 a] 3)).alloc (.cells #[.int .i64 z] 3) := by
  refine callsIn_of_wp Try.func33 rfl trivial ?_ rfl
  simp only [Try.ntmps33, List.size_toArray, List.length_cons, List.length_nil, Nat.reduceAdd, Nat.reduceSub, Array.replicate_succ, Array.replicate_zero, List.push_toArray, List.append_toArray, List.nil_append, List.cons_append]
  gi_wp2
  go_ret
  exact ⟨rfl, rfl⟩

set_option maxRecDepth 100000 in
set_option maxHeartbeats 2000000 in
theorem objs1_in (m : Nat) (hm : 1 ≤ m) (l N B g n : Nat) (f : Nat → Int) (base z : Int) (L : List Int) (b : Bool) (z1 : -9223372036854775808 ≤ z) (z2 : z ≤ 9223372036854775807) (a1 : -9223372036854775808 ≤ base) (a2 : base ≤ 9223372036854775807)
    (hL : Wk n f z base L b) (J Jx : List (Option Int) → World → Prop)
    (hY : ∀ pre x W, J pre W → pre.length < L.length + 1 → YieldAt Fence.wide (m - 1) Try.prog l (encs x) W fun e W' => (e = .returned (.bool true) ∧ J (pre ++ [x]) W' ∧ Kp N W W') ∨ (e = .returned (.bool false) ∧ Jx (pre ++ [x]) W'))
    (W : World) (hJ : AbidesFrom W.heap.size J) (hI : It N W B g n f base z) (h0 : J [] W) :
    CallsIn Fence.wide m Try.prog 44 #[.func (.yield l) #[] #[], .pointer (some ⟨N + 4, 0, none⟩), .pointer (some ⟨N + 5, 0, none⟩), .pointer (some ⟨N + 3, 0, none⟩)] W fun e W' => (∃ v, e = .returned v) ∧
      ((∃ xs, All L b xs ∧ J xs W') ∨ (∃ pre, Part b pre ∧ Jx pre W')) := by
  refine callsIn_of_wp Try.func44 rfl trivial ?_ rfl
  simp only [Try.ntmps44, List.size_toArray, List.length_cons, List.length_nil, Nat.reduceAdd, Nat.reduceSub, Array.replicate_succ, Array.replicate_zero, List.push_toArray, List.append_toArray, List.nil_append, List.cons_append]
  have c4 := hI.b4.cell
  gi_wp2
  gi_loopw [5] (fun t wr => ∃ (pre rest : List Int) (a : Int), t = .int .i64 a ∧ L = pre ++ rest ∧ Wk n f z a rest b ∧ -9223372036854775808 ≤ a ∧ a ≤ 9223372036854775807 ∧ It N wr B g n f base z ∧ J (pre.map some) wr)
    (fun t _ => (z - intOf t).toNat)
  case atStart =>
    exact ⟨[], L, base, rfl, rfl, hL, a1, a2, hI, h0⟩
  case round =>
    obtain ⟨pre, rest, a, rfl, hx, hk, q1, q2, hI, hJs⟩ := hrel
    have c3 := hI.b3.cell
    have c5 := hI.b5.cell
    cases rest with
    | nil =>
      cases b with
      | true =>
        have hk' : z ≤ a := hk
        gi_wp2
        go_end0
        exact ⟨⟨_, rfl⟩, .inl ⟨pre.map some, .inl ⟨by rw [hx, List.append_nil], rfl⟩, hJs⟩⟩
      | false =>
        obtain ⟨k1, k2⟩ := hk
        have hl := hI.ar.len
        have hB := behind_any wr B g n f a hI.ar q1 q2
        rcases at_err n hI.ar.fit a with e0 | e0
        · have k3 : z < a + 8 * (atV n f a).s := by
            rcases k2 with k2 | k2
            · exact absurd e0 k2
            · exact k2
          have hv : behV n f a = ⟨a + 8 * (atV n f a).s, 0⟩ := by unfold behV; rw [if_pos e0]
          have h5 := atV_ok hI.ar.fit e0
          rw [hv] at hB
          clear k2 hv
          generalize (atV n f a).s = s at *
          gi_wp2_with (refine ⟨trivial, ?_⟩; gi_at_call 45; refine (callsIn_wide.2 hB).mono ?_; rintro e w1 ⟨rfl, hb1⟩; have hI1 := hI.kept (Kp.of_below hb1 hI.size); have c51 := hI1.b5.cell; obtain ⟨fn, tmps, assign, body, hy, hR⟩ := hY _ none w1 (hJ _ _ _ none hJs (only_below hb1) (fun r e => by cases e)) (by simp [hx]); dsimp only [encs, px, ex] at hy)
          refine hR.mono ?_
          rintro e W3 (⟨rfl, hJ3, hk3⟩ | ⟨rfl, hJx3⟩)
          · gi_wp2
            refine bodyPost_ret (results_none rfl _ _ _) rfl ?_
            exact ⟨⟨_, rfl⟩, .inl ⟨_, .inr (by simp), hJ3⟩⟩
          · gi_wp2
            refine bodyPost_ret (results_none rfl _ _ _) rfl ?_
            exact ⟨⟨_, rfl⟩, .inr ⟨_, .inl rfl, hJx3⟩⟩
        · have hv : behV n f a = ⟨0, 18⟩ := by unfold behV; rw [if_neg (by rw [e0]; decide)]
          rw [hv] at hB
          clear k2 hv
          gi_wp2_with (refine ⟨trivial, ?_⟩; gi_at_call 45; refine (callsIn_wide.2 hB).mono ?_; rintro e w1 ⟨rfl, hb1⟩; have hI1 := hI.kept (Kp.of_below hb1 hI.size); have c51 := hI1.b5.cell; obtain ⟨fn, tmps, assign, body, hy, hR⟩ := hY _ none w1 (hJ _ _ _ none hJs (only_below hb1) (fun r e => by cases e)) (by simp [hx]); dsimp only [encs, px, ex] at hy)
          refine hR.mono ?_
          rintro e W3 (⟨rfl, hJ3, hk3⟩ | ⟨rfl, hJx3⟩)
          · gi_wp2
            refine bodyPost_ret (results_none rfl _ _ _) rfl ?_
            exact ⟨⟨_, rfl⟩, .inl ⟨_, .inr (by simp), hJ3⟩⟩
          · gi_wp2
            refine bodyPost_ret (results_none rfl _ _ _) rfl ?_
            exact ⟨⟨_, rfl⟩, .inr ⟨_, .inl rfl, hJx3⟩⟩
    | cons x rest =>
      obtain ⟨rfl, k1, e0, k3, k4⟩ := hk
      have hl := hI.ar.len
      have hB := behind_any wr B g n f x hI.ar q1 q2
      have hv : behV n f x = ⟨x + 8 * (atV n f x).s, 0⟩ := by unfold behV; rw [if_pos e0]
      have h5 := atV_ok hI.ar.fit e0
      rw [hv] at hB
      clear hv e0
      generalize (atV n f x).s = s at *
      gi_wp2_with (refine ⟨trivial, ?_⟩; gi_at_call 45; refine (callsIn_wide.2 hB).mono ?_; rintro e w1 ⟨rfl, hb1⟩; have hI1 := hI.kept (Kp.of_below hb1 hI.size); have c51 := hI1.b5.cell; obtain ⟨fn, tmps, assign, body, hy, hR⟩ := hY _ (some x) w1 (hJ _ _ _ none hJs (only_below hb1) (fun r e => by cases e)) (by simp [hx]; omega); dsimp only [encs, px, ex] at hy)
      refine hR.mono ?_
      rintro e W3 (⟨rfl, hJ3, hk3⟩ | ⟨rfl, hJx3⟩)
      · gi_wp2
        go_roundw
        case rel => exact ⟨pre ++ [x], rest, _, rfl, by simp [hx], k4, by omega, by omega, hI1.kept hk3, by simpa using hJ3⟩
        case measure => simp [intOf]; omega
      · gi_wp2
        refine bodyPost_ret (results_none rfl _ _ _) rfl ?_
        exact ⟨⟨_, rfl⟩, .inr ⟨_, .inr ⟨x, by simp⟩, hJx3⟩⟩

theorem objs_stops (m : Nat) (hm : 1 ≤ m) (N B g n : Nat) (f : Nat → Int) (base z : Int) (L : List Int) (b : Bool) (z1 : -9223372036854775808 ≤ z) (z2 : z ≤ 9223372036854775807) (a1 : -9223372036854775808 ≤ base) (a2 : base ≤ 9223372036854775807)
    (hL : Wk n f z base L b) (w : World) (hI : It N w B g n f base z) :
    SeqStopsK Fence.wide m Try.prog 44 #[.pointer (some ⟨N + 4, 0, none⟩), .pointer (some ⟨N + 5, 0, none⟩), .pointer (some ⟨N + 3, 0, none⟩)] encs (Kp N) (All L b) (Part b) (L.length + 1) w := fun l J Jx W hW hJ _ hY h0 =>
  objs1_in m hm l N B g n f base z L b z1 z2 a1 a2 hL J Jx hY W hJ (hI.kept (Kp.of_below hW hI.size)) h0
end Go.Proofs.Ytgihoicppeegaaa.Thing
