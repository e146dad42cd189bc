/-
  The contract of slices.Backward over words, and of the function that it hands back: it tells each place and its word, the last one first.
-/
import Derived.Test.YtneggppfffekdaaGreatCoG
import Derived.RangeFuncNested
import Derived.RangeFuncBound
import Derived.RangeFuncCalls
import Derived.RangeFuncLeaves
import Derived.RangeFuncBox
import Derived.Shelf.Abstract
import Derived.Shelf.RegionOpen
import Derived.OwnWalkIn
import Derived.TacticsInMore
import Derived.LoopNIn
import Derived.LoopIn
import Derived.Maps.AppendAt
namespace Go.Proofs.YtneggppfffekdaaGreat.Mod
open Go.ChangeShapes Go.WideShapes Go.ChangeAt Go.RowKit Go.Shelf
open Slic Sco
set_option linter.unusedVariables false
set_option linter.unusedSimpArgs false
set_option maxRecDepth 8000
attribute [local go_sem] Oper.semAt_some

/-- What a round is handed: a place, and its word. -/
def bkV (L : List Int) (i : Fin L.length) : Array Value := #[.int .i64 (i.1 : Int), .int .u64 L[i.1]]
/-- What a round keeps: the iterator's box, and the row. -/
structure Kq (bb : Nat) (y : Tri) (A B : World) : Prop where
  size : A.heap.size ≤ B.heap.size
  box : B.heap[bb]? = A.heap[bb]?
  row : ∀ q, ob y = some q → B.heap[q]? = A.heap[q]?
theorem Kq.trans {bb : Nat} {y : Tri} {A B C : World} (h : Kq bb y A B) (k : Kq bb y B C) : Kq bb y A C := ⟨Nat.le_trans h.size k.size, k.box.trans h.box, fun q e => (k.row q e).trans (h.row q e)⟩
theorem Kq.below {bb : Nat} {y : Tri} {A B : World} (h : Below A.heap.size A B) (hb : bb < A.heap.size) (hy : ∀ q, ob y = some q → q < A.heap.size) : Kq bb y A B := ⟨h.size, h.block bb hb, fun q e => h.block q (hy q e)⟩
/-- The iterator's box, and the row that it reads. -/
structure Iq (W : World) (bb : Nat) (y : Tri) (L : List Int) : Prop where
  box : Boxed W bb 48 (sl3 y)
  row : Slic.Own Fina.kU W 0 (sl3 y) L
theorem Iq.lt {W : World} {bb : Nat} {y : Tri} {L : List Int} (h : Iq W bb y L) : bb < W.heap.size := h.box.lt
theorem Iq.kept {W W' : World} {bb : Nat} {y : Tri} {L : List Int} (h : Iq W bb y L) (k : Kq bb y W W') : Iq W' bb y L := ⟨k.box.trans h.box, own_keep h.row k.row⟩
/-- The places that have come when the next one is i - 1. -/
def downTo {n : Nat} : (i : Nat) → i ≤ n → List (Fin n)
  | 0, _ => []
  | i + 1, h => ⟨i, h⟩ :: downTo i (by omega)
def allDown (n : Nat) : List (Fin n) := downTo n (Nat.le_refl n)
theorem down_len {n : Nat} : ∀ (i : Nat) (h : i ≤ n), (downTo i h).length = i
  | 0, _ => rfl
  | i + 1, h => by
    show (downTo i _).length + 1 = i + 1
    rw [down_len i]
set_option maxHeartbeats 1000000 in
theorem backward_in (m : Nat) (A : Option Addr) (n c : Nat) (w : World) :
    CallsIn Fence.wide m Tryz.prog 175 #[.slice A n c] w fun e w' => e = .returned (.func (.func 186) #[] #[.pointer (some ⟨w.heap.size, 0, none⟩)]) ∧ w' = w.alloc (.cells #[.slice A n c] 48) := by
  refine callsIn_of_wp Tryz.func175 rfl trivial ?_ rfl
  simp only [Tryz.ntmps175, List.size_toArray, List.length_cons, List.length_nil, Nat.reduceAdd, Nat.reduceSub, Array.replicate_succ, Array.replicate_zero, List.push_toArray, List.append_toArray, List.nil_append, List.cons_append]
  gi_wp2
  go_ret
  exact ⟨rfl, rfl⟩

set_option maxRecDepth 100000 in
set_option maxHeartbeats 2000000 in
theorem back1_in (m : Nat) (hm : 1 ≤ m) (l bb : Nat) (y : Tri) (L : List Int) (hl : L.length ≤ 1000000) (J Jx : List (Fin L.length) → World → Prop)
    (hY : ∀ pre x W, J pre W → pre.length < L.length → YieldAt Fence.wide (m - 1) Tryz.prog l (bkV L x) W fun e W' => (e = .returned (.bool true) ∧ J (pre ++ [x]) W' ∧ Kq bb y W W') ∨ (e = .returned (.bool false) ∧ Jx (pre ++ [x]) W'))
    (W : World) (hJ : AbidesFrom W.heap.size J) (hI : Iq W bb y L) (h0 : J [] W) :
    CallsIn Fence.wide m Tryz.prog 186 #[.func (.yield l) #[] #[], .pointer (some ⟨bb, 0, none⟩)] W fun e W' => (∃ v, e = .returned v) ∧
      ((∃ xs, xs = allDown L.length ∧ J xs W') ∨ (∃ pre, True ∧ Jx pre W')) := by
  obtain ⟨A, c, hv, _, _⟩ : ∃ A c, sl3 y = .slice A L.length c ∧ L.length ≤ c ∧ c ≤ maxLen := (Slic.Own.sr hI.row).form
  have wr : IntKind.i64.wrap ((L.length : Int) - 1) = (L.length : Int) - 1 := IntWalk.i64_in _ (by omega)
  refine callsIn_of_wp Tryz.func186 rfl trivial ?_ rfl
  simp only [Tryz.ntmps186, List.size_toArray, List.length_cons, List.length_nil, Nat.reduceAdd, Nat.reduceSub, Array.replicate_succ, Array.replicate_zero, List.push_toArray, List.append_toArray, List.nil_append, List.cons_append]
  have c0 := hI.box.cell
  rw [hv] at c0
  gi_wp2
  gi_loopw [3] (fun t wr => ∃ (pre : List (Fin L.length)) (i : Nat) (hi : i ≤ L.length), t = .int .i64 ((i : Int) - 1) ∧ allDown L.length = pre ++ downTo i hi ∧ Iq wr bb y L ∧ J pre wr)
    (fun t _ => (intOf t + 1).toNat)
  case atStart =>
    exact ⟨[], L.length, Nat.le_refl _, rfl, rfl, hI, h0⟩
  case round =>
    obtain ⟨pre, i, hi, rfl, hx, hI, hJs⟩ := hrel
    have c0 := hI.box.cell
    rw [hv] at c0
    cases i with
    | zero =>
      gi_wp2
      go_end0
      exact ⟨⟨_, rfl⟩, .inl ⟨pre, by rw [hx]; show pre = pre ++ []; rw [List.append_nil], hJs⟩⟩
    | succ i =>
      have e1 : (((i + 1 : Nat) : Int) - 1) = (i : Int) := by omega
      have hlen : pre.length < L.length := by
        have := congrArg List.length hx
        rw [List.length_append, allDown, down_len, down_len] at this
        omega
      obtain ⟨g, c', hg, _, gc, _⟩ := word_at hI.row (show i < L.length by omega)
      rw [← hv, hg] at c0
      have wi : IntKind.i64.wrap ((i : Int) - 1) = (i : Int) - 1 := IntWalk.i64_in _ (by omega)
      obtain ⟨fn, tmps, assign, body, hy, hR⟩ := hY pre ⟨i, by omega⟩ wr hJs hlen
      dsimp only [bkV] at hy
      have HX := Lib.hid hx
      rw [e1]
      clear hx e1
      have hil : i < L.length := by omega
      gi_wp2
      refine hR.mono ?_
      rintro e W3 (⟨rfl, hJ3, hk3⟩ | ⟨rfl, hJx3⟩)
      · gi_wp2
        go_roundw
        case rel => exact ⟨pre ++ [⟨i, hil⟩], i, by omega, rfl, by rw [HX.out]; show pre ++ (⟨i, hil⟩ :: downTo i _) = _; rw [List.append_assoc]; rfl, hI.kept hk3, hJ3⟩
        case measure => simp [intOf]
      · gi_wp2
        refine bodyPost_ret (results_none rfl _ _ _) rfl ?_
        exact ⟨⟨_, rfl⟩, .inr ⟨_, trivial, hJx3⟩⟩
theorem back_stops (m : Nat) (hm : 1 ≤ m) (bb : Nat) (y : Tri) (L : List Int) (hl : L.length ≤ 1000000) (w : World) (hI : Iq w bb y L) :
    SeqStopsK Fence.wide m Tryz.prog 186 #[.pointer (some ⟨bb, 0, none⟩)] (bkV L) (Kq bb y) (fun xs => xs = allDown L.length) (fun _ => True) L.length w := fun l J Jx W hW hJ _ hY h0 =>
  back1_in m hm l bb y L hl J Jx hY W hJ (hI.kept (Kq.below hW hI.lt (fun q e => own_lt hI.row e))) h0
end Go.Proofs.YtneggppfffekdaaGreat.Mod
