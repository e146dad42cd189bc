/-
  Contracts of the document's model: find, Handle.
-/
import Derived.Test.YtbpmnjmegffllaaGreatDm
import Derived.Test.YtbpmnjmegffllaaGreatHeads
import Derived.StillTailTactics
import Derived.Deep.RegionHeld3
import Derived.Deep.DeepCutAuto
namespace Go.Proofs.YtbpmnjmegffllaaGreat.Mod
open Go.ChangeShapes Go.WideShapes Go.ChangeAt Go.RowKit
open Slic Sco
set_option linter.unusedVariables false
set_option linter.unusedSimpArgs false
set_option maxRecDepth 8000
abbrev ptrX (X : Dx) : Value := .pointer (some ⟨X.D, 0, none⟩)
def fiV (O : List Ob) (h : Int) : Int := if O.findIdx (fun o => o.h == h) < O.length then (O.findIdx (fun o => o.h == h) : Int) else -1
theorem fi_here {O : List Ob} {h : Int} {i : Nat} {o : Ob} (hi : O[i]? = some o) (e : o.h = h) (hb : ∀ (j : Nat) (q : Ob), j < i → O[j]? = some q → q.h ≠ h) : fiV O h = (i : Int) := by
  obtain ⟨hl, eo⟩ := List.getElem?_eq_some_iff.1 hi
  have : O.findIdx (fun o => o.h == h) = i := by
    rw [List.findIdx_eq hl]
    refine ⟨by rw [eo]; simpa using e, fun j hj => ?_⟩
    have := hb j _ hj (List.getElem?_eq_getElem (by omega))
    simpa using this
  unfold fiV
  rw [this, if_pos hl]
theorem fi_none {O : List Ob} {h : Int} (hb : ∀ (j : Nat) (q : Ob), O[j]? = some q → q.h ≠ h) : fiV O h = -1 := by
  unfold fiV
  rw [if_neg]
  intro hl
  have := List.findIdx_getElem (w := hl)
  have e := hb _ _ (List.getElem?_eq_getElem hl)
  exact e (by simpa using this)
section
variable {w w' : World} {X : Dx} {p : Dp} {m : Mo} {Z : Fx} {k : Nat}
theorem Iv.seen (v : Iv Z k m) {o : Ob} (ho : o ∈ m.O) {s : Nat} {x : Cx} (hx : m.F.R[s]? = some x) {e a : Int} (hr : Refs.rightB (s : Int) e a = true) : (o.h = Refs.handle (s : Int) e a) ↔ (o.s = (s : Int) ∧ o.a = a ∧ x.e = e) := by
  obtain ⟨h0, y, b, hy, _, e1, _⟩ := v.obj o ho
  constructor
  · intro h
    have q := v.rt.un ho
    rw [h, un_handle hr] at q
    injection q with q1 q2 q3
    have : o.s.toNat = s := by omega
    rw [this, hx] at hy
    injection hy with hy
    subst hy
    exact ⟨q1.symm, q3.symm, by omega⟩
  · rintro ⟨h1, h2, h3⟩
    have : o.s.toNat = s := by omega
    rw [this, hx] at hy
    injection hy with hy
    subst hy
    unfold Ob.h
    rw [h1, h2, ← h3, show o.e = x.e by omega]
set_option maxHeartbeats 2000000 in
theorem find_any (h : Rm w X p m) (v : Iv Z k m) (hk : k ≤ 10000) {s : Nat} {e a : Int} {x : Cx} (hr : Refs.rightB (s : Int) e a = true) (hx : m.F.R[s]? = some x) :
    Calls Tryz.prog 87 #[ptrX X, .agg #[.int .i64 (s : Int), .int .i64 e, .int .i64 a]] w fun z w' => z = .returned (.int .i64 (fiV m.O (Refs.handle (s : Int) e a))) ∧ Rm w' X p m ∧ Below w.heap.size w w' := by
  have B0 := below_one w (.cells #[.int .i64 (s : Int), .int .i64 e, .int .i64 a] 181)
  have h1 := h.alloc (.cells #[.int .i64 (s : Int), .int .i64 e, .int .i64 a] 181)
  have Q0 := heap_alloc_new w (.cells #[.int .i64 (s : Int), .int .i64 e, .int .i64 a] 181)
  have r0 := cell_of Q0 0 _ rfl
  have r1 := cell_of Q0 1 _ rfl
  have r2 := cell_of Q0 2 _ rfl
  have hl := v.cnt
  obtain ⟨Ao, co, ho⟩ := h.len
  have c6 := h1.c6
  rw [ho] at c6
  have c5 := h1.c5
  have d0 := h1.rs.c0
  obtain ⟨⟨_, _, _, x3⟩, _⟩ := h1.rs.atC hx
  have hsn : s < X.n := by have := (List.getElem?_eq_some_iff.1 hx).1; rw [h.rs.len] at this; exact this
  obtain ⟨N, hN⟩ : ∃ N, m.O.length = N := ⟨_, rfl⟩
  have HN := Lib.hid hN
  rw [hN] at c6 hl
  clear Q0 hN
  obtain ⟨W, hW⟩ : ∃ W : World, W = w.alloc (.cells #[.int .i64 (s : Int), .int .i64 e, .int .i64 a] 181) := ⟨_, rfl⟩
  have lW : w.heap.size < W.heap.size := by rw [hW, World.size_alloc]; omega
  rw [← hW] at B0 h1 r0 r1 r2 c6 c5 d0 x3
  have lD := h1.hd.lt
  have lP := h1.rs.lD
  have lc := h1.rs.lc
  go_enter Tryz.func87, Tryz.ntmps87
  go_wp2_with fail
  rw [← hW]
  clear hW
  go_loopw [5] (fun u wz => ∃ i : Nat, i ≤ N ∧ u = .int .i64 (i : Int) ∧ Hid (∀ (j : Nat) (q : Ob), j < i → m.O[j]? = some q → q.h ≠ Refs.handle (s : Int) e a) ∧ Below W.heap.size W wz) (fun u _ => N - (intOf u).toNat)
  case atStart => exact ⟨0, by omega, rfl, Lib.hid (fun j q hj => absurd hj (Nat.not_lt_zero _)), Below.refl _ _⟩
  case round =>
    obtain ⟨i, hi, rfl, HB, kb⟩ := hrel
    have lw := lW
    have h1 := h1.keep kb
    have B0 := B0.trans (kb.mono B0.size)
    have r0 := (kb.cell (p := ⟨w.heap.size, 0, none⟩) lw).trans r0
    have r1 := (kb.cell (p := ⟨w.heap.size, 1, none⟩) lw).trans r1
    have r2 := (kb.cell (p := ⟨w.heap.size, 2, none⟩) lw).trans r2
    have c6 := (kb.cell (p := ⟨X.D, 6, none⟩) lD).trans c6
    have c5 := (kb.cell (p := ⟨X.D, 5, none⟩) lD).trans c5
    have d0 := (kb.cell (p := ⟨X.P.D, 0, none⟩) lP).trans d0
    have x3 := (kb.cell (p := ⟨X.P.gc, s * 4 + 3, none⟩) lc).trans x3
    by_cases hlt : i < N
    · obtain ⟨o, ho'⟩ : ∃ o, m.O[i]? = some o := ⟨_, List.getElem?_eq_getElem (by rw [HN.out]; exact hlt)⟩
      have hS := v.seen (List.mem_of_getElem? ho') hx hr
      obtain ⟨g, c, t, ep, _, hg, o0, o1, _, _, _, _⟩ := h1.objAt ho'
      have eA : Ao = some ⟨g, 0, none⟩ := by
        rw [ep] at ho
        injection ho with e1
        exact e1.symm
      subst eA
      have i0 : (0 : Int) ≤ (i : Int) := by omega
      have i1 : (i : Int) < (N : Int) := by omega
      have s1 : (s : Int) < (X.n : Int) := by omega
      have s0 : (0 : Int) ≤ (s : Int) := by omega
      by_cases q1 : o.s = (s : Int)
      rotate_left
      · have z1 : (o.s == (s : Int)) = false := by simpa using q1
        have NB := Lib.hid (show ∀ (j : Nat) (q : Ob), j < i + 1 → m.O[j]? = some q → q.h ≠ Refs.handle (s : Int) e a from fun j q hj hq => by
          by_cases e' : j < i
          · exact HB.out j q e' hq
          · have : j = i := by omega
            subst this
            rw [ho'] at hq
            injection hq with hq
            subst hq
            exact fun h => q1 (hS.1 h).1)
        generalize o.s = y0 at o0 z1
        generalize o.a = y1 at o1
        clear hS q1 ep ho'
        as_aux_lemma =>
          go_wp2_with fail
          go_region
          go_wp2
          go_roundw
          case rel => exact ⟨i + 1, by omega, by go_num, NB, kb.drew⟩
          case measure => simp [intOf]; omega
      by_cases q2 : o.a = a
      rotate_left
      · have z1 : (o.s == (s : Int)) = true := by simpa using q1
        have z2 : (o.a == a) = false := by simpa using q2
        have NB := Lib.hid (show ∀ (j : Nat) (q : Ob), j < i + 1 → m.O[j]? = some q → q.h ≠ Refs.handle (s : Int) e a from fun j q hj hq => by
          by_cases e' : j < i
          · exact HB.out j q e' hq
          · have : j = i := by omega
            subst this
            rw [ho'] at hq
            injection hq with hq
            subst hq
            exact fun h => q2 (hS.1 h).2.1)
        generalize o.s = y0 at o0 z1
        generalize o.a = y1 at o1 z2
        clear hS q1 q2 ep ho'
        as_aux_lemma =>
          go_wp2_with fail
          go_region
          go_wp2
          go_roundw
          case rel => exact ⟨i + 1, by omega, by go_num, NB, kb.drew⟩
          case measure => simp [intOf]; omega
      by_cases q3 : x.e = e
      · have z1 : (o.s == (s : Int)) = true := by simpa using q1
        have z2 : (o.a == a) = true := by simpa using q2
        have z3 : (x.e == e) = true := by simpa using q3
        have E := Lib.hid (fi_here ho' (hS.2 ⟨q1, q2, q3⟩) HB.out)
        generalize o.s = y0 at o0 z1
        generalize o.a = y1 at o1 z2
        generalize x.e = y2 at x3 z3
        clear hS q1 q2 q3 ep ho'
        as_aux_lemma =>
          go_wp2_with fail
          go_region
          go_wp2
          go_ret
          exact ⟨by rw [E.out]; rfl, h1.drew, B0.drew⟩
      · have z1 : (o.s == (s : Int)) = true := by simpa using q1
        have z2 : (o.a == a) = true := by simpa using q2
        have z3 : (x.e == e) = false := by simpa using q3
        have NB := Lib.hid (show ∀ (j : Nat) (q : Ob), j < i + 1 → m.O[j]? = some q → q.h ≠ Refs.handle (s : Int) e a from fun j q hj hq => by
          by_cases e' : j < i
          · exact HB.out j q e' hq
          · have : j = i := by omega
            subst this
            rw [ho'] at hq
            injection hq with hq
            subst hq
            exact fun h => q3 (hS.1 h).2.2)
        generalize o.s = y0 at o0 z1
        generalize o.a = y1 at o1 z2
        generalize x.e = y2 at x3 z3
        clear hS q1 q2 q3 ep ho'
        as_aux_lemma =>
          go_wp2_with fail
          go_region
          go_wp2
          go_roundw
          case rel => exact ⟨i + 1, by omega, by go_num, NB, kb.drew⟩
          case measure => simp [intOf]; omega
    · obtain rfl : N = i := by omega
      have E := Lib.hid (fi_none (O := m.O) (h := Refs.handle (s : Int) e a) fun j q hq => HB.out j q (by have := (List.getElem?_eq_some_iff.1 hq).1; rw [HN.out] at this; exact this) hq)
      as_aux_lemma =>
        go_wp2
        go_ret
        exact ⟨by rw [E.out]; rfl, h1, B0⟩
end
end Go.Proofs.YtbpmnjmegffllaaGreat.Mod
