/-
  Package found: what a walk carries while an arena and a ground are written (Lx); a plan's places; words, control words and extents of a scope's block, read and put.
-/
import Derived.Test.YtbpmnjmegffllaaGreatBase
import Derived.Test.YtbpmnjmegffllaaGreatAren
import Derived.Test.YtbpmnjmegffllaaGreatCtls
import Derived.Test.YtbpmnjmegffllaaGreatNump
import Derived.Test.YtbpmnjmegffllaaGreatGrou
import Derived.Test.YtbpmnjmegffllaaGreatScop
import Derived.StillTailTactics
import Derived.Deep.RegionHeld3
import Derived.Deep.DeepCutAuto
namespace Go.Proofs.YtbpmnjmegffllaaGreat.Fou
open Go.ChangeShapes Go.WideShapes Go.ChangeAt Go.RowKit
open Sco Amem
set_option linter.unusedVariables false
set_option linter.unusedSimpArgs false
set_option maxRecDepth 8000
attribute [local go_sem ↓] Go.wp_at_zero Go.wp_at_succ

structure Lx (X : List Nat) (w0 w : World) (L : List (Nat × List Value)) : Prop where
  only : Only X w0 w
  old : ∀ x ∈ X, x < w0.heap.size
  at_ : ∀ x ∈ L, Held.At w0 w x.1 x.2
  nd : (L.map (·.1)).Nodup
section
variable {X : List Nat} {w0 w w' : World} {L M : List (Nat × List Value)}
theorem Lx.start (w : World) (X : List Nat) (h : ∀ x ∈ X, x < w.heap.size) : Lx X w w [] := ⟨Only.refl _ _, h, fun x h => absurd h List.not_mem_nil, List.nodup_nil⟩
theorem at_only {b : Nat} {vs : List Value} (A : Held.At w0 w b vs) (k : Only X w w') (hb : b ∉ X) : Held.At w0 w' b vs :=
  ⟨A.own, Nat.lt_of_lt_of_le A.lt k.size, fun i v e => (k.cell A.lt hb i).trans (A.cell i v e), fun o => (k.frozen A.lt hb o).trans (A.fz o)⟩
theorem Lx.go (S : Lx X w0 w L) (k : Only X w w') : Lx X w0 w' L :=
  ⟨S.only.trans k, S.old, fun x hx => at_only (S.at_ x hx) k (fun e => by have := S.old _ e; have := (S.at_ x hx).own; omega), S.nd⟩
theorem Lx.call (S : Lx X w0 w L) (k : Below w.heap.size w w') : Lx X w0 w' L := S.go (Only.below k)
theorem Lx.grown {g : Nat} (S : Lx X w0 w L) (k : w.grownBy w' (some g)) (hg : g ∈ X) : Lx X w0 w' L := S.go (Only.grown k hg)
theorem Lx.drew (S : Lx X w0 w L) : Lx X w0 w.drew L := S.call (Below.refl _ _).drew
theorem Lx.alloc (S : Lx X w0 w L) (o : Obj) : Lx X w0 (w.alloc o) L := S.call ((Below.refl _ _).alloc (Nat.le_refl _) _)
theorem Lx.new (S : Lx X w0 w L) (vs : List Value) (t : TypeId) : Lx X w0 (w.alloc (.cells vs.toArray t)) ((w.heap.size, vs) :: L) := by
  refine ⟨(S.alloc _).only, S.old, fun x h => ?_, ?_⟩
  · rcases List.mem_cons.1 h with rfl | h
    · exact ⟨S.only.size, by simp, fun k v e => by simp [go_sem, e], fun o => by simp⟩
    · exact (S.alloc _).at_ x h
  · rw [List.map_cons, List.nodup_cons]
    refine ⟨fun h => ?_, S.nd⟩
    obtain ⟨x, hx, e⟩ := List.mem_map.1 h
    have := (S.at_ x hx).lt
    omega
theorem Lx.get (S : Lx X w0 w L) (i : Nat) {b : Nat} {vs : List Value} (h : L[i]? = some (b, vs)) : Held.At w0 w b vs := S.at_ _ (List.mem_of_getElem? h)
theorem Lx.put (S : Lx X w0 w L) (i k : Nat) {b : Nat} {vs : List Value} (h : L[i]? = some (b, vs)) (v : Value) (hk : k < vs.length) :
    Lx X w0 (w.setCell ⟨b, k, none⟩ v) (L.set i (b, vs.set k v)) := by
  have A := S.get i h
  have T : Held.St w w [] := Held.St.start w
  have q : Only [b] w (w.setCell ⟨b, k, none⟩ v) := Only.put w b k v (by simp)
  have hi : i < L.length := (List.getElem?_eq_some_iff.1 h).1
  have hb : (L.map (·.1))[i]? = some b := by rw [List.getElem?_map, h]; rfl
  have hm : (L.set i (b, vs.set k v)).map (·.1) = L.map (·.1) := by
    rw [List.map_set]
    apply List.ext_getElem?
    intro j
    rw [List.getElem?_set]
    split
    · rename_i e
      subst e
      simp [hi] at *
      exact hb.symm ▸ rfl
    · rfl
  have hbX : b ∉ X := fun e => by have := S.old _ e; have := A.own; omega
  refine ⟨⟨q.os.trans S.only.os, q.tape.trans S.only.tape, q.output.trans S.only.output, Nat.le_trans S.only.size q.size, fun i hi hx => (q.block i (Nat.lt_of_lt_of_le hi S.only.size) (fun e => by rw [List.mem_singleton] at e; subst e; have := A.own; omega)).trans (S.only.block i hi hx)⟩, S.old, fun x hx => ?_, by rw [hm]; exact S.nd⟩
  obtain ⟨j, hj⟩ := List.getElem?_of_mem hx
  rw [List.getElem?_set] at hj
  split at hj
  · rename_i e
    subst e
    obtain rfl := Option.some.inj (by simpa [hi] using hj)
    refine ⟨A.own, by simpa [World.setCell] using A.lt, fun j u e => ?_, fun o => by simp [A.fz o]⟩
    have e' : (vs.set k v)[j]? = some u := e
    rw [List.getElem?_set] at e'
    have hc := A.cell k _ (List.getElem?_eq_getElem hk)
    split at e'
    · rename_i e2
      subst e2
      obtain rfl := Option.some.inj (by simpa [hk] using e')
      simp [go_sem, hc]
    · rename_i e2
      have := A.cell j u e'
      simp [go_sem, this]
  · rename_i e
    have Y := S.at_ x (List.mem_of_getElem? hj)
    have hx' : (L.map (·.1))[j]? = some x.1 := by rw [List.getElem?_map, hj]; rfl
    have hne : x.1 ≠ b := fun e2 => by
      subst e2
      have := (List.getElem?_inj (i := i) (j := j) (by simpa using hi) S.nd).1 (hb.trans hx'.symm)
      exact e this
    refine ⟨Y.own, by simpa [World.setCell] using Y.lt, fun j u e => ?_, fun o => by simp [Y.fz o]⟩
    have := Y.cell j u e
    simp [go_sem, this]
end

structure Pn where
  n : Nat
  t : Int
  i : Int
  j : Int
  B : Nat
  g : Nat
  N : Nat
  K : Nat
structure Pr (P : Pn) : Prop where
  hr : Plan.rightB (P.n : Int) P.t P.i P.j = true
  hN : 8 * (P.N : Int) = 64 * (P.n : Int) + P.i + P.j
abbrev Pn.plan (P : Pn) : Value := .agg #[.int .i64 (P.n : Int), .int .i64 P.t, .int .i64 P.i, .int .i64 P.j]
abbrev Pn.blk (P : Pn) : Value := .agg #[.int .i64 (P.n : Int), .int .i64 P.t, .int .i64 P.i, .int .i64 P.j, .pointer (some ⟨P.B, 0, none⟩)]
variable {P : Pn} {f : Nat → Int}
def Pn.ar (P : Pn) (w : World) (f : Nat → Int) : Prop := Arena.Ar w P.B P.g P.N f
theorem Ar.keep {w w' : World} {B g n : Nat} {f : Nat → Int} (h : Arena.Ar w B g n f) (k : Below w.heap.size w w') : Arena.Ar w' B g n f := h.below k h.head.lt h.body.lt
theorem Pr.b (R : Pr P) : 1 ≤ P.n ∧ P.n ≤ 8 ∧ 8 * P.n ≤ P.N ∧ 0 ≤ P.i ∧ P.i ≤ 2048 ∧ P.i % 8 = 0 ∧ 0 ≤ P.j ∧ P.j ≤ 8192 ∧ P.j % 8 = 0 := by
  obtain ⟨b1, b2, b3, b4, b5, b6, b7, b8, b9, b10⟩ := Plan.rbounds R.hr
  have := R.hN
  refine ⟨by omega, by omega, by omega, b5, b6, b7, b8, b9, b10⟩
theorem Pr.at (R : Pr P) {s q : Nat} (hs : s < P.n) (hq : q ≤ 4) : Plan.atV (P.n : Int) P.t P.i P.j (q : Int) (s : Int) = ⟨64 * (s : Int) + 8 * (q : Int), 0⟩ := by
  unfold Plan.atV
  rw [if_pos ⟨R.hr, decide_eq_true (by omega)⟩, if_pos (show Plan.withinB (s : Int) 0 ((P.n : Int) - 1) = true from decide_eq_true (by omega))]
theorem Pr.at_no (R : Pr P) {s : Int} {q : Nat} (hs : s < 0 ∨ (P.n : Int) ≤ s) (hq : q ≤ 4) : Plan.atV (P.n : Int) P.t P.i P.j (q : Int) s = ⟨0, 2⟩ := by
  unfold Plan.atV
  rw [if_pos ⟨R.hr, decide_eq_true (by omega)⟩, if_neg (by rw [show Plan.withinB s 0 ((P.n : Int) - 1) = false from decide_eq_false (by omega)]; decide)]

set_option maxHeartbeats 1000000 in
theorem word_ok (w : World) (R : Pr P) (h : P.ar w f) (s q : Nat) (hs : s < P.n) (hq : q ≤ 4) (z : Int) (hz : z = (q : Int)) :
    Calls Tryz.prog 58 #[P.blk, .int .i64 z, .int .i64 (s : Int)] w fun e w' => e = .returned (.tuple #[.int .u64 (f (8 * s + q)), .int .i64 0]) ∧ Below w.heap.size w w' := by
  subst hz
  have S0 := (Held.St.start w).new [.int .i64 (P.n : Int), .int .i64 P.t, .int .i64 P.i, .int .i64 P.j, .pointer (some ⟨P.B, 0, none⟩)] 122
  have HA := Lib.hid (R.at hs hq)
  obtain ⟨b1, b2, b3, _⟩ := R.b
  have h0 := Ar.keep h (Below.refl _ _ |>.alloc (Nat.le_refl _) (.cells [.int .i64 (P.n : Int), .int .i64 P.t, .int .i64 P.i, .int .i64 P.j, .pointer (some ⟨P.B, 0, none⟩)].toArray 122))
  go_enter Tryz.func58, Tryz.ntmps58
  go_wp2_with fail
  refine (Plan.at_any _ _ _ _ _ _ _).mono ?_
  rintro e w1 ⟨rfl, k1⟩
  rw [HA.out]
  have S1 := S0.call k1
  have c4 := (S1.get 0 rfl).cell 4 _ rfl
  have h1 := Ar.keep h0 k1
  go_wp2_with fail
  refine (Arena.word_ok _ P.B P.g P.N (8 * s + q) f _ h1 (by omega) (by omega)).mono ?_
  rintro e w2 ⟨rfl, rfl⟩
  go_wp2
  go_ret2
  exact ⟨rfl, S1.below⟩
set_option maxHeartbeats 1000000 in
theorem word_no (w : World) (R : Pr P) (h : P.ar w f) (s : Int) (q : Nat) (hs : s < 0 ∨ (P.n : Int) ≤ s) (hq : q ≤ 4) (z : Int) (hz : z = (q : Int)) :
    Calls Tryz.prog 58 #[P.blk, .int .i64 z, .int .i64 s] w fun e w' => e = .returned (.tuple #[.int .u64 0, .int .i64 2]) ∧ Below w.heap.size w w' := by
  subst hz
  have S0 := (Held.St.start w).new [.int .i64 (P.n : Int), .int .i64 P.t, .int .i64 P.i, .int .i64 P.j, .pointer (some ⟨P.B, 0, none⟩)] 122
  have HA := Lib.hid (R.at_no hs hq)
  go_enter Tryz.func58, Tryz.ntmps58
  go_wp2_with fail
  refine (Plan.at_any _ _ _ _ _ _ _).mono ?_
  rintro e w1 ⟨rfl, k1⟩
  rw [HA.out]
  have S1 := S0.call k1
  go_wp2
  go_ret2
  exact ⟨rfl, S1.below⟩

abbrev ctlE (r : Ctl.R) : Ending := .returned (.tuple #[.agg #[.int .i64 r.s, .int .i64 r.c, .int .i64 r.p, .int .i64 r.e], .int .i64 r.x])
def seeV (x : Int) : Ctl.R := if Ctl.unB x = true then Ctl.unV x else Ctl.no 11
theorem see_ok {x : Int} {r : Ctl.R} (h : Ctl.unV x = r) (h0 : r.x = 0) : seeV x = r := by
  unfold seeV
  by_cases hb : Ctl.unB x = true
  · rw [if_pos hb, h]
  · unfold Ctl.unV at h
    rw [if_neg hb] at h
    subst h
    cases h0
set_option maxHeartbeats 1000000 in
theorem ctl_ok (w : World) (R : Pr P) (h : P.ar w f) (s : Nat) (hs : s < P.n) :
    Calls Tryz.prog 18 #[P.plan, .pointer (some ⟨P.B, 0, none⟩), .int .i64 (s : Int)] w fun e w' => e = ctlE (seeV (f (8 * s))) ∧ Below w.heap.size w w' := by
  have S0 := ((Held.St.start w).new [.int .i64 (P.n : Int), .int .i64 P.t, .int .i64 P.i, .int .i64 P.j] 23).new [.int .i64 0, .int .i64 0, .int .i64 0, .int .i64 0] 59
  simp only [World.size_alloc] at S0
  obtain ⟨b1, b2, b3, _⟩ := R.b
  have h0 := Ar.keep h ((Below.refl _ _ |>.alloc (Nat.le_refl _) (.cells [.int .i64 (P.n : Int), .int .i64 P.t, .int .i64 P.i, .int .i64 P.j].toArray 23)) |>.alloc (by simp) (.cells [.int .i64 0, .int .i64 0, .int .i64 0, .int .i64 0].toArray 59))
  have hf := h.fit (8 * s)
  obtain ⟨p0, p1, p2, p3⟩ := (S0.get4 1 rfl).2
  by_cases hb : Ctl.unB (f (8 * s)) = true
  · have HS := Lib.hid (show seeV (f (8 * s)) = Ctl.unV (f (8 * s)) from if_pos hb)
    have HX := Lib.hid (show (Ctl.unV (f (8 * s))).x = 0 by unfold Ctl.unV; rw [if_pos hb])
    clear hb
    go_enter Tryz.func18, Tryz.ntmps18
    go_wp2_with fail
    refine (word_ok _ R h0 s 0 hs (by omega) _ rfl).mono ?_
    rintro e w1 ⟨rfl, k1⟩
    have S1 := S0.call k1
    go_wp2_with fail
    refine (Ctl.unpack_any _ _ hf.1 hf.2).mono ?_
    rintro e w2 ⟨rfl, k2⟩
    simp only [Nat.add_zero]
    rw [HX.out]
    have S2 := (S1.call k2).new [.int .i64 (Ctl.unV (f (8 * s))).s, .int .i64 (Ctl.unV (f (8 * s))).c, .int .i64 (Ctl.unV (f (8 * s))).p, .int .i64 (Ctl.unV (f (8 * s))).e] 59
    obtain ⟨_, r0, r1, r2, r3⟩ := S2.get4 0 rfl
    obtain ⟨_, q0, q1, q2, q3⟩ := S2.get4 1 rfl
    have fz := (S2.get 1 rfl).fz
    go_wp2
    refine bodyPost_ret (v := .tuple #[.agg #[.int .i64 (Ctl.unV (f (8 * s))).s, .int .i64 (Ctl.unV (f (8 * s))).c, .int .i64 (Ctl.unV (f (8 * s))).p, .int .i64 (Ctl.unV (f (8 * s))).e], .int .i64 0]) (by simp [results, Tryz.results18, go_sem, q0, q1, q2, q3]) rfl ?_
    exact ⟨by rw [HS.out]; unfold ctlE; rw [HX.out], ((((S2.below.setCell (S2.get 1 rfl).own _).setCell (S2.get 1 rfl).own _).setCell (S2.get 1 rfl).own _).setCell (S2.get 1 rfl).own _)⟩
  · have HS := Lib.hid (show seeV (f (8 * s)) = Ctl.no 11 from if_neg hb)
    have HU := Lib.hid (show Ctl.unV (f (8 * s)) = Ctl.no 1 by unfold Ctl.unV; rw [if_neg hb])
    clear hb
    go_enter Tryz.func18, Tryz.ntmps18
    go_wp2_with fail
    refine (word_ok _ R h0 s 0 hs (by omega) _ rfl).mono ?_
    rintro e w1 ⟨rfl, k1⟩
    have S1 := S0.call k1
    go_wp2_with fail
    refine (Ctl.unpack_any _ _ hf.1 hf.2).mono ?_
    rintro e w2 ⟨rfl, k2⟩
    simp only [Nat.add_zero]
    rw [HU.out]
    have S2 := (S1.call k2).new [.int .i64 (Ctl.no 1).s, .int .i64 (Ctl.no 1).c, .int .i64 (Ctl.no 1).p, .int .i64 (Ctl.no 1).e] 59
    obtain ⟨_, q0, q1, q2, q3⟩ := S2.get4 1 rfl
    have fz := (S2.get 1 rfl).fz
    simp only [Ctl.no] at *
    go_wp2
    refine bodyPost_ret (v := .tuple #[.agg #[.int .i64 0, .int .i64 0, .int .i64 0, .int .i64 0], .int .i64 11]) (by simp [results, Tryz.results18, go_sem, q0, q1, q2, q3]) rfl ?_
    exact ⟨by rw [HS.out], ((((S2.below.setCell (S2.get 1 rfl).own _).setCell (S2.get 1 rfl).own _).setCell (S2.get 1 rfl).own _).setCell (S2.get 1 rfl).own _)⟩
set_option maxHeartbeats 1000000 in
theorem ctl_no (w : World) (R : Pr P) (h : P.ar w f) (s : Int) (hs : s < 0 ∨ (P.n : Int) ≤ s) :
    Calls Tryz.prog 18 #[P.plan, .pointer (some ⟨P.B, 0, none⟩), .int .i64 s] w fun e w' => e = ctlE (Ctl.no 11) ∧ Below w.heap.size w w' := by
  have S0 := ((Held.St.start w).new [.int .i64 (P.n : Int), .int .i64 P.t, .int .i64 P.i, .int .i64 P.j] 23).new [.int .i64 0, .int .i64 0, .int .i64 0, .int .i64 0] 59
  simp only [World.size_alloc] at S0
  have h0 := Ar.keep h ((Below.refl _ _ |>.alloc (Nat.le_refl _) (.cells [.int .i64 (P.n : Int), .int .i64 P.t, .int .i64 P.i, .int .i64 P.j].toArray 23)) |>.alloc (by simp) (.cells [.int .i64 0, .int .i64 0, .int .i64 0, .int .i64 0].toArray 59))
  obtain ⟨p0, p1, p2, p3⟩ := (S0.get4 1 rfl).2
  go_enter Tryz.func18, Tryz.ntmps18
  go_wp2_with fail
  refine (word_no _ R h0 s 0 hs (by omega) _ rfl).mono ?_
  rintro e w1 ⟨rfl, k1⟩
  have S1 := S0.call k1
  obtain ⟨_, q0, q1, q2, q3⟩ := S1.get4 0 rfl
  have fz := (S1.get 0 rfl).fz
  go_wp2
  refine bodyPost_ret (v := .tuple #[.agg #[.int .i64 0, .int .i64 0, .int .i64 0, .int .i64 0], .int .i64 11]) (by simp [results, Tryz.results18, go_sem, q0, q1, q2, q3]) rfl ?_
  exact ⟨rfl, ((((S1.below.setCell (S1.get 0 rfl).own _).setCell (S1.get 0 rfl).own _).setCell (S1.get 0 rfl).own _).setCell (S1.get 0 rfl).own _)⟩
end Go.Proofs.YtbpmnjmegffllaaGreat.Fou

namespace Go.Proofs.YtbpmnjmegffllaaGreat.Fou
open Go.ChangeShapes Go.WideShapes Go.ChangeAt Go.RowKit
open Sco Amem
set_option linter.unusedVariables false
set_option linter.unusedSimpArgs false
set_option maxRecDepth 8000
attribute [local go_sem ↓] Go.wp_at_zero Go.wp_at_succ
variable {P : Pn} {f : Nat → Int}
abbrev blkL (P : Pn) : List Value := [.int .i64 (P.n : Int), .int .i64 P.t, .int .i64 P.i, .int .i64 P.j, .pointer (some ⟨P.B, 0, none⟩)]
theorem ar_lt {w : World} (h : P.ar w f) : ∀ x ∈ [P.g], x < w.heap.size := fun x hx => by
  rw [List.mem_singleton.1 hx]
  exact h.body.lt
theorem ar_at {w w0 : World} {X : List Nat} {b : Nat} {vs : List Value} (A : Held.At w0 w b vs) (h : ∀ x ∈ X, x < w0.heap.size) : b ∉ X := fun e => by
  have := h b e
  have := A.own
  omega

set_option maxHeartbeats 1000000 in
theorem put_ok (w : World) (R : Pr P) (h : P.ar w f) (s q : Nat) (hs : s < P.n) (hq : q ≤ 4) (z : Int) (hz : z = (q : Int)) (x : Int) (x0 : 0 ≤ x) (x1 : x ≤ 18446744073709551615) :
    Calls Tryz.prog 105 #[P.blk, .int .i64 z, .int .i64 (s : Int), .int .u64 x] w fun e w' => e = .returned (.tuple #[]) ∧ P.ar w' (setF f (8 * s + q) x) ∧ Only [P.g] w w' := by
  subst hz
  have S0 := (Lx.start w [P.g] (ar_lt h)).new (blkL P) 122
  have HA := Lib.hid (R.at hs hq)
  obtain ⟨b1, b2, b3, _⟩ := R.b
  have h0 := Ar.keep h (Below.refl _ _ |>.alloc (Nat.le_refl _) (.cells (blkL P).toArray 122))
  go_enter Tryz.func105, Tryz.ntmps105
  go_wp2_with fail
  refine (Plan.at_any _ _ _ _ _ _ _).mono ?_
  rintro e w1 ⟨rfl, k1⟩
  rw [HA.out]
  have S1 := S0.call k1
  have c4 := (S1.get 0 rfl).cell 4 _ rfl
  have h1 := Ar.keep h0 k1
  go_wp2_with fail
  refine (Arena.put_ok _ P.B P.g P.N (8 * s + q) f _ x h1 (by omega) (by omega) x0 x1).mono ?_
  rintro e w2 ⟨rfl, h2, g2⟩
  have S2 := S1.grown g2 (by simp)
  go_wp2
  go_end0
  exact ⟨rfl, h2, S2.only⟩
theorem pack_bound {s c p e : Int} (hr : Ctl.rightB s c p e = true) : 0 ≤ Ctl.packV s c p e ∧ Ctl.packV s c p e ≤ 18446744073709551615 := by
  have := rightI hr
  unfold Ctl.packV
  rw [if_pos hr]
  omega
set_option maxHeartbeats 1000000 in
theorem putctl_ok (w : World) (R : Pr P) (h : P.ar w f) (s : Nat) (hs : s < P.n) (a b c d : Int) (hr : Ctl.rightB a b c d = true) :
    Calls Tryz.prog 93 #[P.blk, .int .i64 (s : Int), .agg #[.int .i64 a, .int .i64 b, .int .i64 c, .int .i64 d]] w fun e w' => e = .returned (.tuple #[]) ∧ P.ar w' (setF f (8 * s) (Ctl.packV a b c d)) ∧ Only [P.g] w w' := by
  have S0 := ((Lx.start w [P.g] (ar_lt h)).new (blkL P) 122).new [.int .i64 a, .int .i64 b, .int .i64 c, .int .i64 d] 59
  simp only [World.size_alloc] at S0
  have h0 := Ar.keep h ((Below.refl _ _ |>.alloc (Nat.le_refl _) (.cells (blkL P).toArray 122)) |>.alloc (by simp) (.cells [.int .i64 a, .int .i64 b, .int .i64 c, .int .i64 d].toArray 59))
  have HE := Lib.hid (show Ctl.packE a b c d = 0 by unfold Ctl.packE; rw [if_pos hr])
  obtain ⟨p0, p1⟩ := pack_bound hr
  go_enter Tryz.func93, Tryz.ntmps93
  go_wp2_with fail
  refine (Ctl.pack_any _ _ _ _ _).mono ?_
  rintro e w1 ⟨rfl, k1⟩
  rw [HE.out]
  have S1 := S0.call k1
  have h1 := Ar.keep h0 k1
  have A1 := S1.get 1 rfl
  have c0 := A1.cell 0 _ rfl
  have c1 := A1.cell 1 _ rfl
  have c2 := A1.cell 2 _ rfl
  have c3 := A1.cell 3 _ rfl
  have c4 := A1.cell 4 _ rfl
  clear A1
  go_wp2_with fail
  refine (put_ok _ R h1 s 0 hs (by omega) _ rfl _ p0 p1).mono ?_
  rintro e w2 ⟨rfl, h2, g2⟩
  have S2 := S1.go g2
  go_wp2
  go_end0
  exact ⟨rfl, h2, S2.only⟩
set_option maxHeartbeats 1000000 in
theorem putext_ok (w : World) (R : Pr P) (h : P.ar w f) (s : Nat) (hs : s < P.n) (a z : Int) (a0 : 0 ≤ a) (a1 : a ≤ 65536) (z0 : 0 ≤ z) (z1 : z ≤ 65536) :
    Calls Tryz.prog 94 #[P.blk, .int .i64 (s : Int), .agg #[.int .i64 a, .int .i64 z]] w fun e w' => e = .returned (.tuple #[]) ∧ P.ar w' (setF (setF f (8 * s + 1) a) (8 * s + 2) z) ∧ Only [P.g] w w' := by
  have S0 := ((Lx.start w [P.g] (ar_lt h)).new (blkL P) 122).new [.int .i64 a, .int .i64 z] 113
  simp only [World.size_alloc] at S0
  have h0 := Ar.keep h ((Below.refl _ _ |>.alloc (Nat.le_refl _) (.cells (blkL P).toArray 122)) |>.alloc (by simp) (.cells [.int .i64 a, .int .i64 z].toArray 113))
  go_enter Tryz.func94, Tryz.ntmps94
  go_wp2_with fail
  refine (put_ok _ R h0 s 1 hs (by omega) _ rfl _ a0 (by omega)).mono ?_
  rintro e w1 ⟨rfl, h1, k1⟩
  have S1 := S0.go k1
  have A1 := S1.get 1 rfl
  have c0 := A1.cell 0 _ rfl
  have c1 := A1.cell 1 _ rfl
  have c2 := A1.cell 2 _ rfl
  have c3 := A1.cell 3 _ rfl
  have c4 := A1.cell 4 _ rfl
  have d1 := (S1.get 0 rfl).cell 1 _ rfl
  clear A1
  go_wp2_with fail
  refine (put_ok _ R h1 s 2 hs (by omega) _ rfl _ z0 (by omega)).mono ?_
  rintro e w2 ⟨rfl, h2, g2⟩
  have S2 := S1.go g2
  go_wp2
  go_end0
  exact ⟨rfl, h2, S2.only⟩
set_option maxHeartbeats 1000000 in
theorem ext_ok (w : World) (R : Pr P) (h : P.ar w f) (s : Nat) (hs : s < P.n) (h1 : f (8 * s + 1) ≤ 65536) (h2 : f (8 * s + 2) ≤ 65536) :
    Calls Tryz.prog 107 #[P.blk, .int .i64 (s : Int)] w fun e w' => e = .returned (.agg #[.int .i64 (f (8 * s + 1)), .int .i64 (f (8 * s + 2))]) ∧ Below w.heap.size w w' := by
  have S0 := ((Held.St.start w).new (blkL P) 122).new [.int .i64 0, .int .i64 0] 113
  simp only [World.size_alloc] at S0
  have h0 := Ar.keep h ((Below.refl _ _ |>.alloc (Nat.le_refl _) (.cells (blkL P).toArray 122)) |>.alloc (by simp) (.cells [.int .i64 0, .int .i64 0].toArray 113))
  have f1 := (h.fit (8 * s + 1)).1
  have f2 := (h.fit (8 * s + 2)).1
  go_enter Tryz.func107, Tryz.ntmps107
  go_wp2_with fail
  refine (word_ok _ R h0 s 1 hs (by omega) _ rfl).mono ?_
  rintro e w1 ⟨rfl, k1⟩
  have S1 := S0.call k1
  have A1 := S1.get 1 rfl
  have c0 := A1.cell 0 _ rfl
  have c1 := A1.cell 1 _ rfl
  have c2 := A1.cell 2 _ rfl
  have c3 := A1.cell 3 _ rfl
  have c4 := A1.cell 4 _ rfl
  clear A1
  go_wp2_with fail
  refine (word_ok _ R (Ar.keep h0 k1) s 2 hs (by omega) _ rfl).mono ?_
  rintro e w2 ⟨rfl, k2⟩
  have S2 := S1.call k2
  have A2 := S2.get 0 rfl
  have d0 := A2.cell 0 _ rfl
  have d1 := A2.cell 1 _ rfl
  have fz := A2.fz
  go_wp2
  refine bodyPost_ret (v := .agg #[.int .i64 (f (8 * s + 1)), .int .i64 (f (8 * s + 2))]) (by simp [results, Tryz.results107, go_sem, d0, d1]) rfl ?_
  exact ⟨rfl, (S2.below.setCell A2.own _).setCell A2.own _⟩
end Go.Proofs.YtbpmnjmegffllaaGreat.Fou

namespace Go.Proofs.YtbpmnjmegffllaaGreat.Fou
open Go.ChangeShapes Go.WideShapes Go.ChangeAt Go.RowKit
open Sco Amem
set_option linter.unusedVariables false
set_option linter.unusedSimpArgs false
set_option maxRecDepth 8000
attribute [local go_sem ↓] Go.wp_at_zero Go.wp_at_succ
variable {P : Pn} {f : Nat → Int} {F : Fo} {G : Nat} {w w' : World}
def Wf (f : Nat → Int) (R : List Cx) : Prop := ∀ (i : Nat) (x : Cx), R[i]? = some x → f (8 * i) = Ctl.packV x.s x.c x.p x.e ∧ f (8 * i + 1) = x.a ∧ f (8 * i + 2) = x.z
def Pn.A (P : Pn) : Int := 64 * (P.n : Int) + P.i
def Pn.Iv (P : Pn) (F : Fo) : Prop := Inv P.n P.A P.j (64 * (P.n : Int)) P.i F
structure Fd (w : World) (P : Pn) (G : Nat) (f : Nat → Int) (F : Fo) : Prop where
  ar : P.ar w f
  gr : Gr.Gr w Gr.y0 G P.K P.A P.j F.L
  wf : Wf f F.R
  iv : P.Iv F
  kl : P.K < w.heap.size
theorem un_pack {s c p e : Int} (hr : Ctl.rightB s c p e = true) : Ctl.unV (Ctl.packV s c p e) = ⟨s, c, p, e, 0⟩ := by
  have h := rightI hr
  have e1 : Ctl.packV s c p e % 4 = s := by unfold Ctl.packV; rw [if_pos hr]; omega
  have e2 : Ctl.packV s c p e / 4 % 256 = c := by unfold Ctl.packV; rw [if_pos hr]; omega
  have e3 : Ctl.packV s c p e / 1024 % 256 - 1 = p := by unfold Ctl.packV; rw [if_pos hr]; omega
  have e4 : Ctl.packV s c p e / 262144 = e := by unfold Ctl.packV; rw [if_pos hr]; omega
  unfold Ctl.unV Ctl.unB
  rw [e1, e2, e3, e4, if_pos hr]
theorem Fd.see (h : Fd w P G f F) {i : Nat} {x : Cx} (hx : F.R[i]? = some x) : seeV (f (8 * i)) = ⟨x.s, x.c, x.p, x.e, 0⟩ := by
  rw [(h.wf i x hx).1]
  exact see_ok (un_pack (h.iv.right i x hx)) rfl
theorem Fd.ne (h : Fd w P G f F) : G ≠ P.B ∧ G ≠ P.g := by
  obtain ⟨v, h1, _⟩ := h.gr
  exact ⟨Arena.rows_ne h1 h.ar.head (by decide), Arena.rows_ne h1 h.ar.body (by decide)⟩
theorem Fd.keep (h : Fd w P G f F) (k : Below w.heap.size w w') : Fd w' P G f F := ⟨Ar.keep h.ar k, h.gr.below k, h.wf, h.iv, Nat.lt_of_lt_of_le h.kl k.size⟩
theorem find_free {R : List Cx} {k : Nat} {x : Cx} (h : ∀ (m : Nat) y, m < k → R[m]? = some y → fr y = false) (hx : R[k]? = some x) (h0 : fr x = true) : R.findIdx fr = k := by
  obtain ⟨hk, e⟩ := List.getElem?_eq_some_iff.1 hx
  have h1 : R.findIdx fr ≤ k := by
    rcases Nat.lt_or_ge k (R.findIdx fr) with hlt | hge
    · have := List.not_of_lt_findIdx hlt
      rw [e, h0] at this
      cases this
    · exact hge
  rcases Nat.lt_or_ge (R.findIdx fr) k with hlt | hge
  · have hl : R.findIdx fr < R.length := by omega
    have := h _ _ hlt (List.getElem?_eq_getElem hl)
    rw [List.findIdx_getElem (w := hl)] at this
    cases this
  · omega
theorem find_none {R : List Cx} (h : ∀ (m : Nat) y, R[m]? = some y → fr y = false) : R.findIdx fr = R.length := by
  rcases Nat.lt_or_ge (R.findIdx fr) R.length with hlt | hge
  · have := h _ _ (List.getElem?_eq_getElem hlt)
    rw [List.findIdx_getElem (w := hlt)] at this
    cases this
  · have := List.findIdx_le_length (xs := R) (p := fr)
    omega
def LeastD (F : Fo) (e : Ending) : Prop :=
  (∃ x, F.R[F.R.findIdx fr]? = some x ∧ e = .returned (.tuple #[.int .i64 (F.R.findIdx fr : Nat), .agg #[.int .i64 x.s, .int .i64 x.c, .int .i64 x.p, .int .i64 x.e], .bool true])) ∨
  (F.R[F.R.findIdx fr]? = none ∧ e = .returned (.tuple #[.int .i64 0, .agg #[.int .i64 0, .int .i64 0, .int .i64 0, .int .i64 0], .bool false]))

set_option maxHeartbeats 2000000 in
theorem least_any (w : World) (R : Pr P) (h : Fd w P G f F) :
    Calls Tryz.prog 102 #[P.blk] w fun e w' => LeastD F e ∧ Below w.heap.size w w' := by
  have S0 := ((Held.St.start w).new (blkL P) 122).new [.int .i64 0, .int .i64 0, .int .i64 0, .int .i64 0] 59
  simp only [World.size_alloc] at S0
  obtain ⟨b1, b2, b3, _⟩ := R.b
  have hz := h.iv.zero
  have hlen := h.iv.len
  go_enter Tryz.func102, Tryz.ntmps102
  go_wp2_with fail
  go_loopw [9] (fun t wr => ∃ k : Nat, k ≤ 7 ∧ t = .int .i64 (k : Int) ∧ (∀ (m : Nat) y, m < k + 1 → F.R[m]? = some y → fr y = false) ∧ Held.St w wr [(w.heap.size + 1, [.int .i64 0, .int .i64 0, .int .i64 0, .int .i64 0]), (w.heap.size, blkL P)]) (fun t _ => 7 - (intOf t).toNat)
  case atStart =>
    refine ⟨0, by omega, rfl, fun m y hm hy => ?_, S0⟩
    obtain rfl : m = 0 := by omega
    rw [hz] at hy
    obtain rfl := Option.some.inj hy
    rfl
  case round =>
    clear S0
    obtain ⟨k, hk, rfl, hno, S1⟩ := hrel
    have hr := Ar.keep h.ar S1.below
    have A1 := S1.get 1 rfl
    have c0 := A1.cell 0 _ rfl
    have c1 := A1.cell 1 _ rfl
    have c2 := A1.cell 2 _ rfl
    have c3 := A1.cell 3 _ rfl
    have c4 := A1.cell 4 _ rfl
    clear A1
    by_cases hlt : k < 7
    · by_cases hin : k + 1 < P.n
      · obtain ⟨x, hx⟩ : ∃ x, F.R[k + 1]? = some x := ⟨_, List.getElem?_eq_getElem (by omega)⟩
        have HS := Lib.hid (h.see hx)
        go_wp2_with fail
        refine (ctl_ok _ R hr (k + 1) hin).mono ?_
        rintro e w1 ⟨rfl, k1⟩
        rw [HS.out]
        have S2 := (S1.call k1).new [.int .i64 x.s, .int .i64 x.c, .int .i64 x.p, .int .i64 x.e] 59
        have A2 := S2.get 0 rfl
        have d0 := A2.cell 0 _ rfl
        have d1 := A2.cell 1 _ rfl
        have d2 := A2.cell 2 _ rfl
        have d3 := A2.cell 3 _ rfl
        have A3 := S2.get 1 rfl
        have e0 := A3.cell 0 _ rfl
        have e1 := A3.cell 1 _ rfl
        have e2 := A3.cell 2 _ rfl
        have e3 := A3.cell 3 _ rfl
        have fz := A3.fz
        by_cases h0 : x.s = 0
        · have q0 : (x.s == 0) = true := by rw [h0]; rfl
          have HF := Lib.hid (find_free hno hx (decide_eq_true h0))
          have HX := Lib.hid hx
          clear hx hno h0
          go_wp2
          go_region
          go_wp2
          refine bodyPost_ret (v := .tuple #[.int .i64 ((k + 1 : Nat) : Int), .agg #[.int .i64 x.s, .int .i64 x.c, .int .i64 x.p, .int .i64 x.e], .bool true]) (by simp [results, Tryz.results102, go_sem, e0, e1, e2, e3]) rfl ?_
          exact ⟨.inl ⟨x, by rw [HF.out]; exact HX.out, by rw [HF.out]⟩, ((((S2.below.setCell A3.own _).setCell A3.own _).setCell A3.own _).setCell A3.own _).drew⟩
        · have q0 : (x.s == 0) = false := by simpa using h0
          have HN := Lib.hid (show ∀ (m : Nat) y, m < k + 1 + 1 → F.R[m]? = some y → fr y = false from fun m y hm hy => by
            rcases Nat.lt_or_ge m (k + 1) with hl | hl
            · exact hno m y hl hy
            · obtain rfl : m = k + 1 := by omega
              rw [hx] at hy
              obtain rfl := Option.some.inj hy
              exact decide_eq_false h0)
          have S3 := Lx.start w [] (fun x hx => absurd hx List.not_mem_nil)
          have T2 : Held.St w (w1.alloc (.cells #[.int .i64 x.s, .int .i64 x.c, .int .i64 x.p, .int .i64 x.e] 59)) [(w.heap.size + 1, [.int .i64 0, .int .i64 0, .int .i64 0, .int .i64 0]), (w.heap.size, blkL P)] := (S1.call k1).alloc _
          clear hx hno h0 hin
          go_wp2
          go_roundw
          case rel => exact ⟨k + 1, by omega, by go_num, HN.out, T2⟩
          case measure => simp [intOf]; omega
      · have HN := Lib.hid (show ∀ (m : Nat) y, m < k + 1 + 1 → F.R[m]? = some y → fr y = false from fun m y hm hy => by
          rcases Nat.lt_or_ge m (k + 1) with hl | hl
          · exact hno m y hl hy
          · obtain ⟨hl', _⟩ := List.getElem?_eq_some_iff.1 hy
            omega)
        clear hno
        go_wp2_with fail
        refine (ctl_no _ R hr _ (.inr (by omega))).mono ?_
        rintro e w1 ⟨rfl, k1⟩
        have T2 : Held.St w (w1.alloc (.cells #[.int .i64 0, .int .i64 0, .int .i64 0, .int .i64 0] 59)) [(w.heap.size + 1, [.int .i64 0, .int .i64 0, .int .i64 0, .int .i64 0]), (w.heap.size, blkL P)] := (S1.call k1).alloc _
        go_wp2
        go_roundw
        case rel => exact ⟨k + 1, by omega, by go_num, HN.out, T2⟩
        case measure => simp [intOf]; omega
    · obtain rfl : k = 7 := by omega
      have HF := Lib.hid (show F.R[F.R.findIdx fr]? = none by
        rw [find_none (fun m y hy => ?_), List.getElem?_eq_none (Nat.le_refl _)]
        obtain ⟨hl', _⟩ := List.getElem?_eq_some_iff.1 hy
        exact hno m y (by omega) hy)
      have A3 := S1.get 0 rfl
      have e0 := A3.cell 0 _ rfl
      have e1 := A3.cell 1 _ rfl
      have e2 := A3.cell 2 _ rfl
      have e3 := A3.cell 3 _ rfl
      have fz := A3.fz
      clear hno
      go_wp2
      refine bodyPost_ret (v := .tuple #[.int .i64 0, .agg #[.int .i64 0, .int .i64 0, .int .i64 0, .int .i64 0], .bool false]) (by simp [results, Tryz.results102, go_sem, e0, e1, e2, e3]) rfl ?_
      exact ⟨.inr ⟨HF.out, rfl⟩, (((S1.below.setCell A3.own _).setCell A3.own _).setCell A3.own _).setCell A3.own _⟩
end Go.Proofs.YtbpmnjmegffllaaGreat.Fou

namespace Go.Proofs.YtbpmnjmegffllaaGreat.Fou
open Go.ChangeShapes Go.WideShapes Go.ChangeAt Go.RowKit
open Sco Amem Gm
set_option linter.unusedVariables false
set_option linter.unusedSimpArgs false
set_option maxRecDepth 8000
attribute [local go_sem ↓] Go.wp_at_zero Go.wp_at_succ
variable {P : Pn} {f : Nat → Int} {F : Fo} {G : Nat} {w w' : World}
def putX (f : Nat → Int) (k : Nat) (x : Cx) : Nat → Int := setF (setF (setF f (8 * k) (Ctl.packV x.s x.c x.p x.e)) (8 * k + 1) x.a) (8 * k + 2) x.z
def createW (f : Nat → Int) (F : Fo) (z : Int) : Nat → Int := match F.R[F.R.findIdx fr]? with
  | none => f
  | some x => if Gr.carveB (upz z) F.L = true then setF (setF (putX f (F.R.findIdx fr) (made x (carveA (upz z) F.L) (upz z))) (8 * F.R.findIdx fr + 3) 0) (8 * F.R.findIdx fr + 4) 0 else f
def destroyW (f : Nat → Int) (F : Fo) (i : Int) : Nat → Int := match Sco.look F.R i with
  | none => f
  | some x => if x.s = 1 then putX f i.toNat (gone x) else f
theorem wf_put {R : List Cx} (h : Wf f R) (k : Nat) (y : Cx) : Wf (putX f k y) (R.set k y) := by
  intro i x hx
  unfold putX
  rcases get_set hx with ⟨rfl, rfl, _⟩ | ⟨hi, hx⟩
  · refine ⟨?_, ?_, ?_⟩
    · rw [setF_other _ _ _ _ (by omega), setF_other _ _ _ _ (by omega), setF_same]
    · rw [setF_other _ _ _ _ (by omega), setF_same]
    · rw [setF_same]
  · obtain ⟨h1, h2, h3⟩ := h i x hx
    refine ⟨?_, ?_, ?_⟩
    · rw [setF_other _ _ _ _ (by omega), setF_other _ _ _ _ (by omega), setF_other _ _ _ _ (by omega), h1]
    · rw [setF_other _ _ _ _ (by omega), setF_other _ _ _ _ (by omega), setF_other _ _ _ _ (by omega), h2]
    · rw [setF_other _ _ _ _ (by omega), setF_other _ _ _ _ (by omega), setF_other _ _ _ _ (by omega), h3]
theorem wf_set {R : List Cx} (h : Wf f R) (j : Nat) (v : Int) (hj : 3 ≤ j % 8) : Wf (setF f j v) R := by
  intro i x hx
  obtain ⟨h1, h2, h3⟩ := h i x hx
  exact ⟨by rw [setF_other _ _ _ _ (by omega), h1], by rw [setF_other _ _ _ _ (by omega), h2], by rw [setF_other _ _ _ _ (by omega), h3]⟩
theorem Fd.go {X : List Nat} (h : Fd w P G f F) (k : Only X w w') (hB : P.B ∉ X) (hg : P.g ∉ X) : P.ar w' f :=
  ⟨h.ar.head.of_block (k.block _ h.ar.head.lt hB), h.ar.body.of_block (k.block _ h.ar.body.lt hg), h.ar.fit, h.ar.len⟩
theorem fd_lt (h : Fd w P G f F) : ∀ x ∈ [P.g, G], x < w.heap.size := fun x hx => by
  rcases List.mem_cons.1 hx with rfl | hx
  · exact h.ar.body.lt
  · rw [List.mem_singleton.1 hx]
    exact h.gr.lt
theorem only_g (k : Only [P.g] w w') : Only [P.g, G] w w' := k.mono fun x hx => by rw [List.mem_singleton.1 hx]; simp

theorem typ_go {X : List Nat} {b : Nat} {T : TypeId} (h : isT w b T) (k : Only X w w') (hx : b ∉ X) : isT w' b T := by
  obtain ⟨c, h⟩ := h
  exact ⟨c, (k.block b (Array.getElem?_eq_some_iff.1 h).1 hx).trans h⟩
theorem typ_new (w : World) (cs : Array Value) (T : TypeId) : isT (w.alloc (.cells cs T)) w.heap.size T := ⟨cs, heap_alloc_new w _⟩
theorem gr_local {b : Nat} {T : TypeId} {A S : Int} {L : List E} {K : Nat} (h : Gr.Gr w Gr.y0 G K A S L) (tb : isT w b T) (e1 : (T == 130) = false) (e2 : (T == 113) = false) (k : Only [b] w w') : Gr.Gr w' Gr.y0 G K A S L := by
  obtain ⟨v, a, _⟩ := id h
  have ne : b ≠ G := tb.ne (isT.row a) e1
  refine h.keep0 (row := some b) ⟨k.os, k.tape, k.output, k.size, fun i hi hx => k.block i hi (fun e => hx (by rw [List.mem_singleton.1 e]))⟩ (fun e => ne (Option.some.inj e)) fun v g _ hg _ t e => ?_
  injection e with e
  subst e
  obtain ⟨cs, fz, e3⟩ := t _ hg
  obtain ⟨c, hc⟩ := tb
  rw [e3] at hc
  injection hc with hc
  injection hc with _ ht
  subst ht
  simp at e2
theorem ar_local {b : Nat} {T : TypeId} (h : P.ar w f) (tb : isT w b T) (e1 : (T == 140) = false) (e2 : (T == 5) = false) (k : Only [b] w w') : P.ar w' f := by
  have n1 : b ≠ P.B := tb.ne (isT.row h.head) e1
  have n2 : b ≠ P.g := tb.ne (isT.row h.body) e2
  exact ⟨h.head.of_block (k.block _ h.head.lt (by simpa using fun e => n1 e.symm)), h.body.of_block (k.block _ h.body.lt (by simpa using fun e => n2 e.symm)), h.fit, h.len⟩

theorem gr_keep {A S : Int} {L : List E} {K : Nat} (g : Gr.Gr w Gr.y0 G K A S L) (ha : P.ar w f) (k : Only [P.g] w w') : Gr.Gr w' Gr.y0 G K A S L := gr_local g (isT.row ha.body) (by decide) (by decide) k
set_option maxHeartbeats 2000000 in
theorem create_any (w : World) (R : Pr P) (h : Fd w P G f F) (z : Int) (z1 : 1 ≤ z) (z2 : z ≤ 8192) :
    Calls Tryz.prog 51 #[P.blk, .pointer (some ⟨G, 0, none⟩), .int .i64 z] w fun e w' => e = .returned (.tuple #[.int .i64 (createV F z).v, .int .i64 (createV F z).x]) ∧ Fd w' P G (createW f F z) (createV F z).F ∧ Only [P.g, G] w w' := by
  have S0 := (Lx.start w [P.g, G] (fd_lt h)).new (blkL P) 122
  have h0 := h.keep (Below.refl _ _ |>.alloc (Nat.le_refl _) (.cells (blkL P).toArray 122))
  obtain ⟨b1, b2, b3, b4, b5, b6, b7, b8, b9⟩ := R.b
  obtain ⟨n1, n2⟩ := h.ne
  have hz : ¬ (z < 1 ∨ 8192 < z) := by omega
  obtain ⟨u1, u2, u3, u4, u5⟩ := upz_all hz
  have uV : Num.upV z = upz z := Num.upV_ok z (by omega) (by omega)
  have INV := Lib.hid (h.iv.create z)
  have ok := h.iv.ok
  have A0 := S0.get 0 rfl
  have c0 := A0.cell 0 _ rfl
  have c1 := A0.cell 1 _ rfl
  have c2 := A0.cell 2 _ rfl
  have c3 := A0.cell 3 _ rfl
  have c4 := A0.cell 4 _ rfl
  clear A0
  go_enter Tryz.func51, Tryz.ntmps51
  go_wp2_with fail
  refine (least_any _ R h0).mono ?_
  rintro e w1 ⟨hl, k1⟩
  have h1 := h0.keep k1
  rcases hl with ⟨x, hx, rfl⟩ | ⟨hx, rfl⟩
  · have S1 := (S0.call k1).new [.int .i64 x.s, .int .i64 x.c, .int .i64 x.p, .int .i64 x.e] 59
    have h2 := h1.keep (Below.refl _ _ |>.alloc (Nat.le_refl _) (.cells [.int .i64 x.s, .int .i64 x.c, .int .i64 x.p, .int .i64 x.e].toArray 59))
    have K2 : P.K < (w1.alloc (.cells [.int .i64 x.s, .int .i64 x.c, .int .i64 x.p, .int .i64 x.e].toArray 59)).heap.size := h2.kl
    have hk : F.R.findIdx fr < P.n := by
      have := (List.getElem?_eq_some_iff.1 hx).1
      rw [h.iv.len] at this
      exact this
    have hs0 := fr_at hx
    have hk1 := h.iv.fr_pos
    have hr := right_made (a := carveA (upz z) F.L) (z := upz z) (h.iv.right _ _ hx) hs0
    have EC := Lib.hid (show createV F z = if Gr.carveB (upz z) F.L = true then ⟨(F.R.findIdx fr : Nat), 0, false, ⟨F.R.set (F.R.findIdx fr) (made x (carveA (upz z) F.L) (upz z)), carveL (upz z) F.L⟩⟩ else ⟨0, 14, false, F⟩ by unfold createV; rw [if_neg hz, hx])
    have EW := Lib.hid (show createW f F z = if Gr.carveB (upz z) F.L = true then setF (setF (putX f (F.R.findIdx fr) (made x (carveA (upz z) F.L) (upz z))) (8 * F.R.findIdx fr + 3) 0) (8 * F.R.findIdx fr + 4) 0 else f by unfold createW; rw [hx])
    have WF := Lib.hid (wf_set (wf_set (wf_put h.wf (F.R.findIdx fr) (made x (carveA (upz z) F.L) (upz z))) (8 * F.R.findIdx fr + 3) 0 (by omega)) (8 * F.R.findIdx fr + 4) 0 (by omega))
    have hiv2 := h.iv
    clear hx hs0
    generalize F.R.findIdx fr = k at *
    cases hb : Gr.carveB (upz z) F.L with
    | false =>
      have HB := Lib.hid hb
      have HV := Lib.hid (show Gr.carveV (upz z) F.L = 0 by unfold Gr.carveV; rw [if_neg (by rw [hb]; decide)])
      have HF := Lib.hid (show Gr.carveF (upz z) F.L = F.L by unfold Gr.carveF; rw [if_neg (by rw [hb]; decide)])
      have E := Lib.hid (show createV F z = ⟨0, 14, false, F⟩ by rw [EC.out, if_neg (by rw [hb]; decide)])
      have W := Lib.hid (show createW f F z = f by rw [EW.out, if_neg (by rw [hb]; decide)])
      clear hb WF
      go_wp2_with (first
        | (go_at_call 103; refine (Num.up_any z _ (by omega) (by omega)).mono ?_; rintro e w3 ⟨rfl, rfl⟩; rw [uV])
        | fail)
      refine (Gr.carve_any _ Gr.y0 G P.K P.A P.j F.L (upz z) h2.gr K2 ok (by omega) (by omega)).mono ?_
      rintro e w4 ⟨rfl, g4, k4⟩
      rw [HB.out, HV.out]
      rw [HF.out] at g4
      have S4 := S1.grown k4 (by simp)
      go_wp2
      go_ret2
      refine ⟨by rw [E.out]; rfl, ?_, S4.only⟩
      rw [E.out, W.out]
      exact ⟨h2.go (Only.grown (X := [G]) k4 (by simp)) (by simpa using fun e => n1 e.symm) (by simpa using fun e => n2 e.symm), g4, h2.wf, h2.iv, Nat.lt_of_lt_of_le h2.kl k4.size⟩
    | true =>
      have HB := Lib.hid hb
      have HV := Lib.hid (show Gr.carveV (upz z) F.L = carveA (upz z) F.L by unfold Gr.carveV; rw [if_pos hb])
      have HF := Lib.hid (show Gr.carveF (upz z) F.L = carveL (upz z) F.L by unfold Gr.carveF; rw [if_pos hb])
      have E := Lib.hid (show createV F z = ⟨(k : Nat), 0, false, ⟨F.R.set k (made x (carveA (upz z) F.L) (upz z)), carveL (upz z) F.L⟩⟩ by rw [EC.out, if_pos hb])
      have W := Lib.hid (show createW f F z = setF (setF (putX f k (made x (carveA (upz z) F.L) (upz z))) (8 * k + 3) 0) (8 * k + 4) 0 by rw [EW.out, if_pos hb])
      have WF2 := Lib.hid WF
      have CA := INV.out.ext k (made x (carveA (upz z) F.L) (upz z)) (by rw [E.out]; exact set_get (by rw [h.iv.len]; exact hk)) hk1
      obtain ⟨ca0, ca1⟩ : 0 ≤ carveA (upz z) F.L ∧ carveA (upz z) F.L ≤ 65536 := by
        rcases CA with ⟨e, _⟩ | ⟨_, _, _, _, l1, l2⟩
        · exact absurd e (by simp [made])
        · dsimp only [made] at l1 l2
          unfold Pn.A at l1 l2
          omega
      clear hb WF CA
      go_wp2_with (first
        | (go_at_call 103; refine (Num.up_any z _ (by omega) (by omega)).mono ?_; rintro e w3 ⟨rfl, rfl⟩; rw [uV])
        | fail)
      refine (Gr.carve_any _ Gr.y0 G P.K P.A P.j F.L (upz z) h2.gr K2 ok (by omega) (by omega)).mono ?_
      rintro e w4 ⟨rfl, g4, k4⟩
      rw [HB.out, HV.out]
      rw [HF.out] at g4
      have h4 := h2.go (Only.grown (X := [G]) k4 (by simp)) (by simpa using fun e => n1 e.symm) (by simpa using fun e => n2 e.symm)
      have S4 := S1.grown k4 (by simp)
      have A4 := S4.get 0 rfl
      have d0 := A4.cell 0 _ rfl
      have d1 := A4.cell 1 _ rfl
      have d2 := A4.cell 2 _ rfl
      have d3 := A4.cell 3 _ rfl
      have fz := A4.fz 0
      have S5 := S4.put 0 0 rfl (.int .i64 1) (by simp)
      have T2 : isT (w1.alloc (.cells [.int .i64 x.s, .int .i64 x.c, .int .i64 x.p, .int .i64 x.e].toArray 59)) w1.heap.size 59 := typ_new _ _ _
      have T4 := typ_go T2 (Only.grown (X := [G]) k4 (by simp)) (by have := (isT.ne T2 (isT.row h2.gr.choose_spec.1) (by decide)); simpa using this)
      have q5 : Only [w1.heap.size] w4 (w4.setCell ⟨w1.heap.size, 0, none⟩ (.int .i64 1)) := Only.put _ _ _ _ (by simp)
      have h5 := ar_local h4 T4 (by decide) (by decide) q5
      have g5 := gr_local g4 T4 (by decide) (by decide) q5
      have C5 := S5.get 0 rfl
      have d0' := C5.cell 0 _ rfl
      have d1' := C5.cell 1 _ rfl
      have d2' := C5.cell 2 _ rfl
      have d3' := C5.cell 3 _ rfl
      have B5 := S5.get 1 rfl
      have b0' := B5.cell 0 _ rfl
      have b1' := B5.cell 1 _ rfl
      have b2' := B5.cell 2 _ rfl
      have b3' := B5.cell 3 _ rfl
      have b4' := B5.cell 4 _ rfl
      simp only [List.set_cons_zero] at S5
      clear C5 B5 c0 c1 c2 c3 c4 A4
      go_wp2_with fail
      clear d0 d1 d2 d3
      generalize w4.setCell ⟨w1.heap.size, 0, none⟩ (.int .i64 1) = W5 at *
      refine (putctl_ok _ R h5 k hk _ _ _ _ hr).mono ?_
      rintro e w6 ⟨rfl, h6, k6⟩
      have S6 := S5.go (only_g k6)
      have g6 := gr_keep g5 h5 k6
      have B6 := S6.get 1 rfl
      clear b0' b1' b2' b3' b4' d0' d1' d2' d3'
      have c0 := B6.cell 0 _ rfl
      have c1 := B6.cell 1 _ rfl
      have c2 := B6.cell 2 _ rfl
      have c3 := B6.cell 3 _ rfl
      have c4 := B6.cell 4 _ rfl
      clear B6
      go_wp2_with fail
      refine (putext_ok _ R h6 k hk _ _ ca0 ca1 (by omega) (by omega)).mono ?_
      rintro e w7 ⟨rfl, h7, k7⟩
      have S7 := S6.go (only_g k7)
      have g7 := gr_keep g6 h6 k7
      have B7 := S7.get 1 rfl
      clear c0 c1 c2 c3 c4
      have c0 := B7.cell 0 _ rfl
      have c1 := B7.cell 1 _ rfl
      have c2 := B7.cell 2 _ rfl
      have c3 := B7.cell 3 _ rfl
      have c4 := B7.cell 4 _ rfl
      clear B7
      go_wp2_with fail
      refine (put_ok _ R h7 k 3 hk (by omega) _ rfl 0 (by omega) (by omega)).mono ?_
      rintro e w8 ⟨rfl, h8, k8⟩
      have S8 := S7.go (only_g k8)
      have g8 := gr_keep g7 h7 k8
      have B8 := S8.get 1 rfl
      clear c0 c1 c2 c3 c4
      have c0 := B8.cell 0 _ rfl
      have c1 := B8.cell 1 _ rfl
      have c2 := B8.cell 2 _ rfl
      have c3 := B8.cell 3 _ rfl
      have c4 := B8.cell 4 _ rfl
      clear B8
      go_wp2_with fail
      refine (put_ok _ R h8 k 4 hk (by omega) _ rfl 0 (by omega) (by omega)).mono ?_
      rintro e w9 ⟨rfl, h9, k9⟩
      have S9 := S8.go (only_g k9)
      have g9 := gr_keep g8 h8 k9
      go_wp2
      go_ret2
      refine ⟨by rw [E.out]; rfl, ?_, S9.only⟩
      have I := INV.out
      rw [E.out] at I ⊢
      rw [W.out]
      exact ⟨h9, g9, WF2.out, I, Nat.lt_of_lt_of_le h.kl S9.only.size⟩
  · have E := Lib.hid (show createV F z = ⟨0, 13, false, F⟩ by unfold createV; rw [if_neg hz, hx])
    have W := Lib.hid (show createW f F z = f by unfold createW; rw [hx])
    have S1 := (S0.call k1).alloc (.cells [.int .i64 0, .int .i64 0, .int .i64 0, .int .i64 0].toArray 59)
    have h2 := h1.keep (Below.refl _ _ |>.alloc (Nat.le_refl _) (.cells [.int .i64 0, .int .i64 0, .int .i64 0, .int .i64 0].toArray 59))
    clear hx
    go_wp2
    go_ret2
    refine ⟨by rw [E.out]; rfl, ?_, S1.only⟩
    rw [E.out, W.out]
    exact h2

set_option maxHeartbeats 2000000 in
theorem destroy_any (w : World) (R : Pr P) (h : Fd w P G f F) (s : Nat) (s1 : 1 ≤ s) :
    Calls Tryz.prog 53 #[P.blk, .pointer (some ⟨G, 0, none⟩), .int .i64 (s : Int)] w fun e w' => e = .returned (.int .i64 (destroyV F s).x) ∧ Fd w' P G (destroyW f F s) (destroyV F s).F ∧ Only [P.g, G] w w' := by
  have S0 := (Lx.start w [P.g, G] (fd_lt h)).new (blkL P) 122
  have h0 := h.keep (Below.refl _ _ |>.alloc (Nat.le_refl _) (.cells (blkL P).toArray 122))
  obtain ⟨b1, b2, b3, b4, b5, b6, b7, b8, b9⟩ := R.b
  obtain ⟨n1, n2⟩ := h.ne
  have INV := Lib.hid (h.iv.destroy (s : Int))
  have ok := h.iv.ok
  have A0 := S0.get 0 rfl
  have c0 := A0.cell 0 _ rfl
  have c1 := A0.cell 1 _ rfl
  have c2 := A0.cell 2 _ rfl
  have c3 := A0.cell 3 _ rfl
  have c4 := A0.cell 4 _ rfl
  clear A0
  have LK : Sco.look F.R (s : Int) = F.R[s]? := by unfold Sco.look; rw [if_pos (by omega), Int.toNat_natCast]
  by_cases hs : s < P.n
  · obtain ⟨x, hx⟩ : ∃ x, F.R[s]? = some x := ⟨_, List.getElem?_eq_getElem (by rw [h.iv.len]; exact hs)⟩
    have HS := Lib.hid (h.see hx)
    have EC := Lib.hid (show destroyV F s = if x.s = 0 then ⟨0, 11, false, F⟩ else if x.s = 1 then ⟨0, 0, false, ⟨F.R.set s (gone x), giveL x.a (x.a + x.z) F.L⟩⟩ else ⟨0, 12, false, F⟩ by unfold destroyV; rw [LK, hx]; rfl)
    have EW := Lib.hid (show destroyW f F s = if x.s = 1 then putX f s (gone x) else f by unfold destroyW; rw [LK, hx]; rfl)
    have hri := h.iv.right _ _ hx
    have hrj := rightI hri
    clear LK
    go_enter Tryz.func53, Tryz.ntmps53
    go_wp2_with fail
    refine (ctl_ok _ R h0.ar s hs).mono ?_
    rintro e w1 ⟨rfl, k1⟩
    rw [HS.out]
    have h1 := h0.keep k1
    have S1 := (S0.call k1).new [.int .i64 x.s, .int .i64 x.c, .int .i64 x.p, .int .i64 x.e] 59
    have h2 := h1.keep (Below.refl _ _ |>.alloc (Nat.le_refl _) (.cells [.int .i64 x.s, .int .i64 x.c, .int .i64 x.p, .int .i64 x.e].toArray 59))
    have T2 : isT (w1.alloc (.cells [.int .i64 x.s, .int .i64 x.c, .int .i64 x.p, .int .i64 x.e].toArray 59)) w1.heap.size 59 := typ_new _ _ _
    have C1 := S1.get 0 rfl
    have d0 := C1.cell 0 _ rfl
    have d1 := C1.cell 1 _ rfl
    have d2 := C1.cell 2 _ rfl
    have d3 := C1.cell 3 _ rfl
    have B1 := S1.get 1 rfl
    have e0 := B1.cell 0 _ rfl
    have e1 := B1.cell 1 _ rfl
    have e2 := B1.cell 2 _ rfl
    have e3 := B1.cell 3 _ rfl
    have e4 := B1.cell 4 _ rfl
    clear C1 B1 c0 c1 c2 c3 c4
    by_cases g0 : x.s = 0
    · have E := Lib.hid (show destroyV F s = ⟨0, 11, false, F⟩ by rw [EC.out, if_pos g0])
      have W := Lib.hid (show destroyW f F s = f by rw [EW.out, if_neg (by omega)])
      have q0 : (x.s == 0) = true := by rw [g0]; rfl
      clear g0 hrj
      go_wp2
      go_ret
      refine ⟨by rw [E.out]; rfl, ?_, S1.only⟩
      rw [E.out, W.out]
      exact h2
    · have q0 : (x.s == 0) = false := by simpa using g0
      by_cases g1 : x.s = 1
      · have E := Lib.hid (show destroyV F s = ⟨0, 0, false, ⟨F.R.set s (gone x), giveL x.a (x.a + x.z) F.L⟩⟩ by rw [EC.out, if_neg g0, if_pos g1])
        have W := Lib.hid (show destroyW f F s = putX f s (gone x) by rw [EW.out, if_pos g1])
        have WF := Lib.hid (wf_put h.wf s (gone x))
        have q1 : (x.s != 1) = false := by rw [g1]; rfl
        obtain ⟨wa, wz⟩ := (h.wf s x hx).2
        have HA := Lib.hid wa
        have HZ := Lib.hid wz
        obtain ⟨p1, p2, p3, p4, p5, p6⟩ := h.iv.back hx s1 g0
        have o1 := ok.a0
        have o2 := ok.a1
        have o3 := ok.s0
        have o4 := ok.s1
        have pa : P.A + P.j ≤ 65536 := by unfold Pn.A; omega
        have GB : Gr.giveB P.A P.j F.L x.a x.z = true := by
          unfold Gr.giveB Gr.sizeB Gr.hasB
          rw [decide_eq_true (by omega), decide_eq_true (by omega), decide_eq_true (by omega), p6]
          rfl
        have GE := Lib.hid (show Gr.giveE P.A P.j F.L x.a x.z = 0 by unfold Gr.giveE; rw [if_pos GB])
        have GF := Lib.hid (show Gr.giveF P.A P.j F.L x.a x.z = giveL x.a (x.a + x.z) F.L by unfold Gr.giveF; rw [if_pos GB])
        have hrg : Ctl.rightB 0 x.c x.p ((x.e + 1) % 16777216) = true := right_gone hri g1
        obtain ⟨y4, y5⟩ : 0 ≤ x.e ∧ x.e ≤ 16777215 := by omega
        have hm : (x.e + 1).tmod 16777216 = (x.e + 1) % 16777216 := Int.tmod_eq_emod_of_nonneg (by omega)
        have wa' : f (8 * s + 1) ≤ 65536 := by omega
        have wz' : f (8 * s + 2) ≤ 65536 := by omega
        clear g0 g1 hrj GB hri hx wa wz p6
        go_wp2_with fail
        refine (ext_ok _ R h2.ar s hs wa' wz').mono ?_
        rintro e w3 ⟨rfl, k3⟩
        rw [HA.out, HZ.out]
        have h3 := h2.keep k3
        have T3 := typ_go (X := []) T2 (Only.below k3) (by simp)
        have S3 := (S1.call k3).new [.int .i64 x.a, .int .i64 x.z] 113
        have h4 := h3.keep (Below.refl _ _ |>.alloc (Nat.le_refl _) (.cells [.int .i64 x.a, .int .i64 x.z].toArray 113))
        have T4 := typ_go (X := []) T3 (Only.below (Below.refl _ _ |>.alloc (Nat.le_refl _) (.cells [.int .i64 x.a, .int .i64 x.z].toArray 113))) (by simp)
        have X3 := S3.get 0 rfl
        have x0 := X3.cell 0 _ rfl
        have x1 := X3.cell 1 _ rfl
        have K4 := h4.kl
        clear X3 d0 d1 d2 d3 e0 e1 e2 e3 e4
        go_wp2_with fail
        refine (Gr.give_any _ Gr.y0 G P.K P.A P.j F.L x.a x.z h4.gr K4 ok (by omega) (by omega) (by omega) (by omega)).mono ?_
        rintro e w5 ⟨rfl, g5, k5⟩
        rw [GE.out]
        rw [GF.out] at g5
        have h5 := h4.go (Only.grown (X := [G]) k5 (by simp)) (by simpa using fun e => n1 e.symm) (by simpa using fun e => n2 e.symm)
        have S5 := S3.grown k5 (by simp)
        have T5 := typ_go T4 (Only.grown (X := [G]) k5 (by simp)) (by have := (isT.ne T4 (isT.row h4.gr.choose_spec.1) (by decide)); simpa using this)
        have C5 := S5.get 1 rfl
        have d0 := C5.cell 0 _ rfl
        have d1 := C5.cell 1 _ rfl
        have d2 := C5.cell 2 _ rfl
        have d3 := C5.cell 3 _ rfl
        have f0 := C5.fz 0
        have f3 := C5.fz 3
        have S6 := (S5.put 1 0 rfl (.int .i64 0) (by simp)).put 1 3 rfl (.int .i64 ((x.e + 1) % 16777216)) (by simp)
        simp only [List.set_cons_succ, List.set_cons_zero] at S6
        have q6 : Only [w1.heap.size] w5 ((w5.setCell ⟨w1.heap.size, 0, none⟩ (.int .i64 0)).setCell ⟨w1.heap.size, 3, none⟩ (.int .i64 ((x.e + 1) % 16777216))) := (Only.put _ _ _ _ (by simp)).trans (Only.put _ _ _ _ (by simp))
        have h6 := ar_local h5 T5 (by decide) (by decide) q6
        have g6 := gr_local g5 T5 (by decide) (by decide) q6
        clear C5 x0 x1
        have C6 := S6.get 1 rfl
        have d0' := C6.cell 0 _ rfl
        have d1' := C6.cell 1 _ rfl
        have d2' := C6.cell 2 _ rfl
        have d3' := C6.cell 3 _ rfl
        have B6 := S6.get 2 rfl
        have b0' := B6.cell 0 _ rfl
        have b1' := B6.cell 1 _ rfl
        have b2' := B6.cell 2 _ rfl
        have b3' := B6.cell 3 _ rfl
        have b4' := B6.cell 4 _ rfl
        clear C6 B6
        go_wp2_with fail
        clear d0 d1 d2 d3
        generalize (w5.setCell ⟨w1.heap.size, 0, none⟩ (.int .i64 0)).setCell ⟨w1.heap.size, 3, none⟩ (.int .i64 ((x.e + 1) % 16777216)) = W6 at *
        refine (putctl_ok _ R h6 s hs _ _ _ _ hrg).mono ?_
        rintro e w7 ⟨rfl, h7, k7⟩
        have S7 := S6.go (only_g k7)
        have g7 := gr_keep g6 h6 k7
        clear b0' b1' b2' b3' b4' d0' d1' d2' d3'
        have B7 := S7.get 2 rfl
        have c0 := B7.cell 0 _ rfl
        have c1 := B7.cell 1 _ rfl
        have c2 := B7.cell 2 _ rfl
        have c3 := B7.cell 3 _ rfl
        have c4 := B7.cell 4 _ rfl
        clear B7
        go_wp2_with fail
        refine (putext_ok _ R h7 s hs 0 0 (by omega) (by omega) (by omega) (by omega)).mono ?_
        rintro e w8 ⟨rfl, h8, k8⟩
        have S8 := S7.go (only_g k8)
        have g8 := gr_keep g7 h7 k8
        go_wp2
        go_ret
        refine ⟨by rw [E.out]; rfl, ?_, S8.only⟩
        have I := INV.out
        rw [E.out] at I ⊢
        rw [W.out]
        exact ⟨h8, g8, WF.out, I, Nat.lt_of_lt_of_le h.kl S8.only.size⟩
      · have E := Lib.hid (show destroyV F s = ⟨0, 12, false, F⟩ by rw [EC.out, if_neg g0, if_neg g1])
        have W := Lib.hid (show destroyW f F s = f by rw [EW.out, if_neg g1])
        have q1 : (x.s != 1) = true := by simpa using g1
        clear g0 g1 hrj
        go_wp2
        go_ret
        refine ⟨by rw [E.out]; rfl, ?_, S1.only⟩
        rw [E.out, W.out]
        exact h2
  · have LN : F.R[s]? = none := List.getElem?_eq_none (by rw [h.iv.len]; omega)
    have E := Lib.hid (show destroyV F s = ⟨0, 11, false, F⟩ by unfold destroyV; rw [LK, LN])
    have W := Lib.hid (show destroyW f F s = f by unfold destroyW; rw [LK, LN])
    clear LK LN
    go_enter Tryz.func53, Tryz.ntmps53
    go_wp2_with fail
    refine (ctl_no _ R h0.ar s (.inr (by omega))).mono ?_
    rintro e w1 ⟨rfl, k1⟩
    have h1 := h0.keep k1
    have S1 := (S0.call k1).alloc (.cells [.int .i64 0, .int .i64 0, .int .i64 0, .int .i64 0].toArray 59)
    have h2 := h1.keep (Below.refl _ _ |>.alloc (Nat.le_refl _) (.cells [.int .i64 0, .int .i64 0, .int .i64 0, .int .i64 0].toArray 59))
    go_wp2
    go_ret
    refine ⟨by rw [E.out]; rfl, ?_, S1.only⟩
    rw [E.out, W.out]
    exact h2
end Go.Proofs.YtbpmnjmegffllaaGreat.Fou

namespace Go.Proofs.YtbpmnjmegffllaaGreat.Fou
open Go.ChangeShapes Go.WideShapes Go.ChangeAt Go.RowKit
open Sco Amem Gm
set_option linter.unusedVariables false
set_option linter.unusedSimpArgs false
set_option maxRecDepth 8000
attribute [local go_sem ↓] Go.wp_at_zero Go.wp_at_succ
variable {P : Pn} {f : Nat → Int} {F : Fo} {G : Nat} {w w' : World}
def newW (n : Nat) (i : Int) : Nat → Int := putX (fun _ => 0) 0 ⟨2, 1, -1, 0, 64 * (n : Int), i⟩
abbrev planV (n : Nat) (t i j : Int) : Value := .agg #[.int .i64 (n : Int), .int .i64 t, .int .i64 i, .int .i64 j]
def sizeN (n : Nat) (i j : Int) : Nat := ((64 * (n : Int) + i + j) / 8).toNat
theorem newpr {n : Nat} {t i j : Int} (hr : Plan.rightB (n : Int) t i j = true) (B g K : Nat) : Pr ⟨n, t, i, j, B, g, sizeN n i j, K⟩ := by
  obtain ⟨b1, b2, b3, b4, b5, b6, b7, b8, b9, b10⟩ := Plan.rbounds hr
  refine ⟨hr, ?_⟩
  show 8 * (((64 * (n : Int) + i + j) / 8).toNat : Int) = 64 * (n : Int) + i + j
  omega
theorem st_only {X : List Nat} {w0 : World} {L : List (Nat × List Value)} (S : Held.St w0 w L) (k : Only X w w') (h1 : ∀ x ∈ X, w0.heap.size ≤ x) (h2 : ∀ y ∈ L, y.1 ∉ X) : Held.St w0 w' L :=
  ⟨k.below_of S.below S.below.size h1, fun y hy => at_only (S.at_ y hy) k (h2 y hy), S.nd⟩
set_option maxHeartbeats 1000000 in
theorem arenaof_ok (w : World) (n : Nat) (t i j : Int) (hr : Plan.rightB (n : Int) t i j = true) :
    Calls Tryz.prog 41 #[planV n t i j] w fun e w' => ∃ B g, e = .returned (.tuple #[.pointer (some ⟨B, 0, none⟩), .int .i64 0]) ∧ Pn.ar ⟨n, t, i, j, B, g, sizeN n i j, 0⟩ w' (newW n i) ∧ Below w.heap.size w w' ∧ w.heap.size ≤ B ∧ w.heap.size ≤ g := by
  obtain ⟨b1, b2, b3, b4, b5, b6, b7, b8, b9, b10⟩ := Plan.rbounds hr
  have S0 := (Held.St.start w).new [.int .i64 (n : Int), .int .i64 t, .int .i64 i, .int .i64 j] 23
  have HS : Hid (Plan.sizeV (n : Int) t i j = ⟨64 * (n : Int) + i + j, 0⟩) := Lib.hid (by unfold Plan.sizeV; rw [if_pos hr])
  have HI : Hid (Plan.immV (n : Int) t i j = ⟨64 * (n : Int), i, 0⟩) := Lib.hid (by unfold Plan.immV; rw [if_pos hr])
  have R := fun B g => newpr hr B g 0
  have HR := Lib.hid hr
  clear hr
  go_enter Tryz.func41, Tryz.ntmps41
  go_wp2_with fail
  refine (Plan.size_any _ _ _ _ _).mono ?_
  rintro e w1 ⟨rfl, k1⟩
  rw [HS.out]
  have S1 := S0.call k1
  obtain ⟨_, c0, c1, c2, c3⟩ := S1.get4 0 rfl
  go_wp2_with fail
  refine (Plan.imm_any _ _ _ _ _).mono ?_
  rintro e w2 ⟨rfl, k2⟩
  rw [HI.out]
  have S2 := (S1.call k2).new [.int .i64 (64 * (n : Int)), .int .i64 i] 113
  clear c0 c1 c2 c3
  go_wp2_with fail
  refine (Arena.new_at _ _ (sizeN n i j) (by unfold sizeN; omega) (by unfold sizeN; omega)).mono ?_
  rintro e w3 ⟨rfl, a3, k3, s3⟩
  have S3 := S2.call k3
  obtain ⟨_, c0, c1, c2, c3⟩ := S3.get4 1 rfl
  obtain ⟨_, i0, i1⟩ := S3.get2 0 rfl
  have own := S2.below.size
  have S4 := S3.new (blkL ⟨n, t, i, j, (w2.alloc (.cells [.int .i64 (64 * (n : Int)), .int .i64 i].toArray 113)).heap.size + 1, (w2.alloc (.cells [.int .i64 (64 * (n : Int)), .int .i64 i].toArray 113)).heap.size, sizeN n i j, 0⟩) 122
  have a4 := Ar.keep a3 ((Below.refl _ _).alloc (Nat.le_refl _) (.cells (blkL ⟨n, t, i, j, (w2.alloc (.cells [.int .i64 (64 * (n : Int)), .int .i64 i].toArray 113)).heap.size + 1, (w2.alloc (.cells [.int .i64 (64 * (n : Int)), .int .i64 i].toArray 113)).heap.size, sizeN n i j, 0⟩).toArray 122))
  have lg : (w2.alloc (.cells [.int .i64 (64 * (n : Int)), .int .i64 i].toArray 113)).heap.size = w2.heap.size + 1 := by simp
  have le := S2.below.size
  have lw := (S1.call k2).below.size
  have l1 := S1.below.size
  rw [lg] at a4 S4 le s3 a3
  obtain ⟨_, p0⟩ := And.intro trivial ((S4.get 0 rfl).cell 0 _ rfl)
  have p1 := (S4.get 0 rfl).cell 1 _ rfl
  have p2 := (S4.get 0 rfl).cell 2 _ rfl
  have p3 := (S4.get 0 rfl).cell 3 _ rfl
  have p4 := (S4.get 0 rfl).cell 4 _ rfl
  have w0lt : w.heap.size < w2.heap.size := by have := ((S1.call k2).get 0 rfl).lt; exact this
  have hn0 : 0 < n := by omega
  have HN := Lib.hid (show ∀ y ∈ [(w3.heap.size, blkL ⟨n, t, i, j, w2.heap.size + 1 + 1, w2.heap.size + 1, sizeN n i j, 0⟩), (w2.heap.size, [.int .i64 (64 * (n : Int)), .int .i64 i]), (w.heap.size, [.int .i64 (n : Int), .int .i64 t, .int .i64 i, .int .i64 j])], y.1 ∉ [w2.heap.size + 1] from fun y hy => by
    rcases List.mem_cons.1 hy with rfl | hy
    · exact fun e => by have := List.mem_singleton.1 e; dsimp only at this; omega
    · rcases List.mem_cons.1 hy with rfl | hy
      · exact fun e => by have := List.mem_singleton.1 e; dsimp only at this; omega
      · rcases List.mem_cons.1 hy with rfl | hy
        · exact fun e => by have := List.mem_singleton.1 e; dsimp only at this; omega
        · cases hy)
  clear s3
  simp only [lg]
  go_wp2_with fail
  refine (putctl_ok (P := ⟨n, t, i, j, w2.heap.size + 1 + 1, w2.heap.size + 1, sizeN n i j, 0⟩) _ (R _ _) a4 0 hn0 2 1 (-1) 0 (by decide)).mono ?_
  rintro e w5 ⟨rfl, a5, k5⟩
  have S5 := st_only S4 k5 (fun x hx => by rw [List.mem_singleton.1 hx]; omega) HN.out
  clear p0 p1 p2 p3 p4 c0 c1 c2 c3 i0 i1
  obtain ⟨_, i0, i1⟩ := S5.get2 1 rfl
  have B5 := S5.get 0 rfl
  have c0 := B5.cell 0 _ rfl
  have c1 := B5.cell 1 _ rfl
  have c2 := B5.cell 2 _ rfl
  have c3 := B5.cell 3 _ rfl
  have c4 := B5.cell 4 _ rfl
  clear B5
  go_wp2_with fail
  refine (putext_ok (P := ⟨n, t, i, j, w2.heap.size + 1 + 1, w2.heap.size + 1, sizeN n i j, 0⟩) _ (R _ _) a5 0 hn0 (64 * (n : Int)) i (by omega) (by omega) (by omega) (by omega)).mono ?_
  rintro e w6 ⟨rfl, a6, k6⟩
  have S6 := st_only S5 k6 (fun x hx => by rw [List.mem_singleton.1 hx]; omega) HN.out
  go_wp2
  go_ret2
  exact ⟨_, _, rfl, a6, S6.below, by omega, by omega⟩
set_option maxHeartbeats 1000000 in
theorem groundof_ok (w : World) (n : Nat) (t i j : Int) (hr : Plan.rightB (n : Int) t i j = true) (K : Nat) (hK : K < w.heap.size) :
    Calls Tryz.prog 42 #[planV n t i j] w fun e w' => ∃ G, e = .returned (.tuple #[.pointer (some ⟨G, 0, none⟩), .int .i64 0]) ∧ Gr.Gr w' Gr.y0 G K (64 * (n : Int) + i) j (Gr.newL (64 * (n : Int) + i) j) ∧ Below w.heap.size w w' ∧ w.heap.size ≤ G := by
  obtain ⟨b1, b2, b3, b4, b5, b6, b7, b8, b9, b10⟩ := Plan.rbounds hr
  have S0 := (Held.St.start w).new [.int .i64 (n : Int), .int .i64 t, .int .i64 i, .int .i64 j] 23
  have HH : Hid (Plan.heapV (n : Int) t i j = ⟨64 * (n : Int) + i, j, 0⟩) := Lib.hid (by unfold Plan.heapV; rw [if_pos hr])
  clear hr
  have hA : Gr.boundB (64 * (n : Int) + i) = true := decide_eq_true (by omega)
  have hS : Gr.boundB j = true := decide_eq_true (by omega)
  go_enter Tryz.func42, Tryz.ntmps42
  go_wp2_with fail
  refine (Plan.heap_any _ _ _ _ _).mono ?_
  rintro e w1 ⟨rfl, k1⟩
  rw [HH.out]
  have S1 := (S0.call k1).new [.int .i64 (64 * (n : Int) + i), .int .i64 j] 113
  obtain ⟨_, i0, i1⟩ := S1.get2 0 rfl
  have l1 := S1.below.size
  go_wp2_with fail
  refine (Gr.new_at _ _ _ K hA hS (by omega)).mono ?_
  rintro e w2 ⟨rfl, g2, k2, l2⟩
  have S2 := S1.call k2
  go_wp2
  go_ret2
  simp only [World.size_alloc] at g2 l1
  exact ⟨_, rfl, g2, S2.below, l1⟩
theorem wf_new (n : Nat) (A S i : Int) : Wf (newW n i) (Sco.start n A S (64 * (n : Int)) i).R := by
  intro k x hx
  unfold Sco.start at hx
  cases k with
  | zero =>
    obtain rfl := Option.some.inj hx
    exact ⟨rfl, rfl, rfl⟩
  | succ k =>
    have hx' : (List.replicate (n - 1) (⟨0, 0, -1, 0, 0, 0⟩ : Cx))[k]? = some x := hx
    rw [List.getElem?_replicate] at hx'
    split at hx'
    · obtain rfl := Option.some.inj hx'
      unfold newW putX
      refine ⟨?_, ?_, ?_⟩ <;> rw [setF_other _ _ _ _ (by omega), setF_other _ _ _ _ (by omega), setF_other _ _ _ _ (by omega)]
      rfl
    · cases hx'
theorem newl_start {n : Nat} {A S I J : Int} (h : 0 ≤ S) : (Sco.start n A S I J).L = Gr.newL A S := by
  unfold Sco.start Gr.newL
  by_cases e : S = 0
  · subst e
    rfl
  · simp only [show 0 < S by omega, if_true, if_neg e]
def NewD (w : World) (n : Nat) (t i j : Int) (e : Ending) (w' : World) : Prop := ∃ B g G, e = .returned (.tuple #[.pointer (some ⟨B, 0, none⟩), .pointer (some ⟨G, 0, none⟩), .int .i64 0]) ∧
  Fd w' ⟨n, t, i, j, B, g, sizeN n i j, g⟩ G (newW n i) (Sco.start n (64 * (n : Int) + i) j (64 * (n : Int)) i) ∧ Below w.heap.size w w' ∧ w.heap.size ≤ B ∧ w.heap.size ≤ g ∧ w.heap.size ≤ G
set_option maxHeartbeats 1000000 in
theorem new_ok (w : World) (n : Nat) (t i j : Int) (hr : Plan.rightB (n : Int) t i j = true) :
    Calls Tryz.prog 9 #[planV n t i j] w (NewD w n t i j) := by
  obtain ⟨b1, b2, b3, b4, b5, b6, b7, b8, b9, b10⟩ := Plan.rbounds hr
  have S0 := (Held.St.start w).new [.int .i64 (n : Int), .int .i64 t, .int .i64 i, .int .i64 j] 23
  have HR := Lib.hid hr
  have IV := Lib.hid (Sco.start_inv (n := n) (A := 64 * (n : Int) + i) (S := j) (I := 64 * (n : Int)) (J := i) (by omega) (by omega) (by omega) (by omega) (by omega) (by omega) (by omega) (by omega))
  have NL := Lib.hid (newl_start (n := n) (A := 64 * (n : Int) + i) (S := j) (I := 64 * (n : Int)) (J := i) b8)
  have WN := Lib.hid (wf_new n (64 * (n : Int) + i) j i)
  clear hr
  go_enter Tryz.func9, Tryz.ntmps9
  go_wp2_with fail
  refine (arenaof_ok _ n t i j HR.out).mono ?_
  rintro e w1 ⟨B, g, rfl, a1, k1, l1, l2⟩
  have S1 := S0.call k1
  obtain ⟨_, c0, c1, c2, c3⟩ := S1.get4 0 rfl
  have lg := a1.body.lt
  have lb := S0.below.size
  go_wp2_with fail
  refine (groundof_ok _ n t i j HR.out g lg).mono ?_
  rintro e w2 ⟨G, rfl, g2, k2, l3⟩
  have S2 := S1.call k2
  have a2 := Ar.keep a1 k2
  have lc := S1.below.size
  go_wp2
  go_ret3
  exact ⟨_, _, _, rfl, ⟨a2, by rw [NL.out]; exact g2, WN.out, IV.out, Nat.lt_of_lt_of_le lg k2.size⟩, S2.below, by omega, by omega, by omega⟩
end Go.Proofs.YtbpmnjmegffllaaGreat.Fou
