/-
  Package found: what a walk carries while an arena and a ground are written (Lx); a plan's places; words, control words and extents of a scope's block, read and put.
-/
import Derived.Test.YteakglkagmghpaaGreatBase
import Derived.Test.YteakglkagmghpaaGreatAren
import Derived.Test.YteakglkagmghpaaGreatCtls
import Derived.Test.YteakglkagmghpaaGreatNump
import Derived.Test.YteakglkagmghpaaGreatGrou
import Derived.Test.YteakglkagmghpaaGreatScop
import Derived.StillTailTactics
import Derived.Deep.RegionHeld3
import Derived.Deep.DeepCutAuto
namespace Go.Proofs.YteakglkagmghpaaGreat.Fou
open Go.ChangeShapes Go.WideShapes Go.ChangeAt Go.RowKit
open Sco Amem
set_option linter.unusedVariables false
set_option linter.unusedSimpArgs false
set_option maxRecDepth 8000
attribute [local go_sem ↓] Go.wp_at_zero Go.wp_at_succ

/-- Local blocks, while nothing else changes but the blocks of X. -/
structure Lx (X : List Nat) (w0 w : World) (L : List (Nat × List Value)) : Prop where
  only : Only X w0 w
  old : ∀ x ∈ X, x < w0.heap.size
  at_ : ∀ x ∈ L, Held.At w0 w x.1 x.2
  nd : (L.map (·.1)).Nodup
section
variable {X : List Nat} {w0 w w' : World} {L M : List (Nat × List Value)}
theorem Lx.start (w : World) (X : List Nat) (h : ∀ x ∈ X, x < w.heap.size) : Lx X w w [] := ⟨Only.refl _ _, h, fun x h => absurd h List.not_mem_nil, List.nodup_nil⟩
theorem at_only {b : Nat} {vs : List Value} (A : Held.At w0 w b vs) (k : Only X w w') (hb : b ∉ X) : Held.At w0 w' b vs :=
  ⟨A.own, Nat.lt_of_lt_of_le A.lt k.size, fun i v e => (k.cell A.lt hb i).trans (A.cell i v e), fun o => (k.frozen A.lt hb o).trans (A.fz o)⟩
theorem Lx.go (S : Lx X w0 w L) (k : Only X w w') : Lx X w0 w' L :=
  ⟨S.only.trans k, S.old, fun x hx => at_only (S.at_ x hx) k (fun e => by have := S.old _ e; have := (S.at_ x hx).own; omega), S.nd⟩
theorem Lx.call (S : Lx X w0 w L) (k : Below w.heap.size w w') : Lx X w0 w' L := S.go (Only.below k)
theorem Lx.grown {g : Nat} (S : Lx X w0 w L) (k : w.grownBy w' (some g)) (hg : g ∈ X) : Lx X w0 w' L := S.go (Only.grown k hg)
theorem Lx.drew (S : Lx X w0 w L) : Lx X w0 w.drew L := S.call (Below.refl _ _).drew
theorem Lx.alloc (S : Lx X w0 w L) (o : Obj) : Lx X w0 (w.alloc o) L := S.call ((Below.refl _ _).alloc (Nat.le_refl _) _)
theorem Lx.new (S : Lx X w0 w L) (vs : List Value) (t : TypeId) : Lx X w0 (w.alloc (.cells vs.toArray t)) ((w.heap.size, vs) :: L) := by
  refine ⟨(S.alloc _).only, S.old, fun x h => ?_, ?_⟩
  · rcases List.mem_cons.1 h with rfl | h
    · exact ⟨S.only.size, by simp, fun k v e => by simp [go_sem, e], fun o => by simp⟩
    · exact (S.alloc _).at_ x h
  · rw [List.map_cons, List.nodup_cons]
    refine ⟨fun h => ?_, S.nd⟩
    obtain ⟨x, hx, e⟩ := List.mem_map.1 h
    have := (S.at_ x hx).lt
    omega
theorem Lx.get (S : Lx X w0 w L) (i : Nat) {b : Nat} {vs : List Value} (h : L[i]? = some (b, vs)) : Held.At w0 w b vs := S.at_ _ (List.mem_of_getElem? h)
theorem Lx.put (S : Lx X w0 w L) (i k : Nat) {b : Nat} {vs : List Value} (h : L[i]? = some (b, vs)) (v : Value) (hk : k < vs.length) :
    Lx X w0 (w.setCell ⟨b, k, none⟩ v) (L.set i (b, vs.set k v)) := by
  have A := S.get i h
  have T : Held.St w w [] := Held.St.start w
  have q : Only [b] w (w.setCell ⟨b, k, none⟩ v) := Only.put w b k v (by simp)
  have hi : i < L.length := (List.getElem?_eq_some_iff.1 h).1
  have hb : (L.map (·.1))[i]? = some b := by rw [List.getElem?_map, h]; rfl
  have hm : (L.set i (b, vs.set k v)).map (·.1) = L.map (·.1) := by
    rw [List.map_set]
    apply List.ext_getElem?
    intro j
    rw [List.getElem?_set]
    split
    · rename_i e
      subst e
      simp [hi] at *
      exact hb.symm ▸ rfl
    · rfl
  have hbX : b ∉ X := fun e => by have := S.old _ e; have := A.own; omega
  refine ⟨⟨q.os.trans S.only.os, q.tape.trans S.only.tape, q.output.trans S.only.output, Nat.le_trans S.only.size q.size, fun i hi hx => (q.block i (Nat.lt_of_lt_of_le hi S.only.size) (fun e => by rw [List.mem_singleton] at e; subst e; have := A.own; omega)).trans (S.only.block i hi hx)⟩, S.old, fun x hx => ?_, by rw [hm]; exact S.nd⟩
  obtain ⟨j, hj⟩ := List.getElem?_of_mem hx
  rw [List.getElem?_set] at hj
  split at hj
  · rename_i e
    subst e
    obtain rfl := Option.some.inj (by simpa [hi] using hj)
    refine ⟨A.own, by simpa [World.setCell] using A.lt, fun j u e => ?_, fun o => by simp [A.fz o]⟩
    have e' : (vs.set k v)[j]? = some u := e
    rw [List.getElem?_set] at e'
    have hc := A.cell k _ (List.getElem?_eq_getElem hk)
    split at e'
    · rename_i e2
      subst e2
      obtain rfl := Option.some.inj (by simpa [hk] using e')
      simp [go_sem, hc]
    · rename_i e2
      have := A.cell j u e'
      simp [go_sem, this]
  · rename_i e
    have Y := S.at_ x (List.mem_of_getElem? hj)
    have hx' : (L.map (·.1))[j]? = some x.1 := by rw [List.getElem?_map, hj]; rfl
    have hne : x.1 ≠ b := fun e2 => by
      subst e2
      have := (List.getElem?_inj (i := i) (j := j) (by simpa using hi) S.nd).1 (hb.trans hx'.symm)
      exact e this
    refine ⟨Y.own, by simpa [World.setCell] using Y.lt, fun j u e => ?_, fun o => by simp [Y.fz o]⟩
    have := Y.cell j u e
    simp [go_sem, this]
end

/-- The arena and the plan: places; what is asked of them. -/
structure Pn where
  n : Nat
  t : Int
  i : Int
  j : Int
  B : Nat
  g : Nat
  N : Nat
  K : Nat
structure Pr (P : Pn) : Prop where
  hr : Plan.rightB (P.n : Int) P.t P.i P.j = true
  hN : 8 * (P.N : Int) = 64 * (P.n : Int) + P.i + P.j
abbrev Pn.plan (P : Pn) : Value := .agg #[.int .i64 (P.n : Int), .int .i64 P.t, .int .i64 P.i, .int .i64 P.j]
abbrev Pn.blk (P : Pn) : Value := .agg #[.int .i64 (P.n : Int), .int .i64 P.t, .int .i64 P.i, .int .i64 P.j, .pointer (some ⟨P.B, 0, none⟩)]
variable {P : Pn} {f : Nat → Int}
def Pn.ar (P : Pn) (w : World) (f : Nat → Int) : Prop := Arena.Ar w P.B P.g P.N f
theorem Ar.keep {w w' : World} {B g n : Nat} {f : Nat → Int} (h : Arena.Ar w B g n f) (k : Below w.heap.size w w') : Arena.Ar w' B g n f := h.below k h.head.lt h.body.lt
theorem Pr.b (R : Pr P) : 1 ≤ P.n ∧ P.n ≤ 8 ∧ 8 * P.n ≤ P.N ∧ 0 ≤ P.i ∧ P.i ≤ 2048 ∧ P.i % 8 = 0 ∧ 0 ≤ P.j ∧ P.j ≤ 8192 ∧ P.j % 8 = 0 := by
  obtain ⟨b1, b2, b3, b4, b5, b6, b7, b8, b9, b10⟩ := Plan.rbounds R.hr
  have := R.hN
  refine ⟨by omega, by omega, by omega, b5, b6, b7, b8, b9, b10⟩
theorem Pr.at (R : Pr P) {s q : Nat} (hs : s < P.n) (hq : q ≤ 4) : Plan.atV (P.n : Int) P.t P.i P.j (q : Int) (s : Int) = ⟨64 * (s : Int) + 8 * (q : Int), 0⟩ := by
  unfold Plan.atV
  rw [if_pos ⟨R.hr, decide_eq_true (by omega)⟩, if_pos (show Plan.withinB (s : Int) 0 ((P.n : Int) - 1) = true from decide_eq_true (by omega))]
theorem Pr.at_no (R : Pr P) {s : Int} {q : Nat} (hs : s < 0 ∨ (P.n : Int) ≤ s) (hq : q ≤ 4) : Plan.atV (P.n : Int) P.t P.i P.j (q : Int) s = ⟨0, 2⟩ := by
  unfold Plan.atV
  rw [if_pos ⟨R.hr, decide_eq_true (by omega)⟩, if_neg (by rw [show Plan.withinB s 0 ((P.n : Int) - 1) = false from decide_eq_false (by omega)]; decide)]

set_option maxHeartbeats 1000000 in
theorem word_ok (w : World) (R : Pr P) (h : P.ar w f) (s q : Nat) (hs : s < P.n) (hq : q ≤ 4) (z : Int) (hz : z = (q : Int)) :
    Calls Tryz.prog 84 #[P.blk, .int .i64 z, .int .i64 (s : Int)] w fun e w' => e = .returned (.tuple #[.int .u64 (f (8 * s + q)), .int .i64 0]) ∧ Below w.heap.size w w' := by
  subst hz
  have S0 := (Held.St.start w).new [.int .i64 (P.n : Int), .int .i64 P.t, .int .i64 P.i, .int .i64 P.j, .pointer (some ⟨P.B, 0, none⟩)] 174
  have HA := Lib.hid (R.at hs hq)
  obtain ⟨b1, b2, b3, _⟩ := R.b
  have h0 := Ar.keep h (Below.refl _ _ |>.alloc (Nat.le_refl _) (.cells [.int .i64 (P.n : Int), .int .i64 P.t, .int .i64 P.i, .int .i64 P.j, .pointer (some ⟨P.B, 0, none⟩)].toArray 174))
  go_enter Tryz.func84, Tryz.ntmps84
  go_wp2_with fail
  refine (Plan.at_any _ _ _ _ _ _ _).mono ?_
  rintro e w1 ⟨rfl, k1⟩
  rw [HA.out]
  have S1 := S0.call k1
  have c4 := (S1.get 0 rfl).cell 4 _ rfl
  have h1 := Ar.keep h0 k1
  go_wp2_with fail
  refine (Arena.word_ok _ P.B P.g P.N (8 * s + q) f _ h1 (by omega) (by omega)).mono ?_
  rintro e w2 ⟨rfl, rfl⟩
  go_wp2
  go_ret2
  exact ⟨rfl, S1.below⟩
set_option maxHeartbeats 1000000 in
theorem word_no (w : World) (R : Pr P) (h : P.ar w f) (s : Int) (q : Nat) (hs : s < 0 ∨ (P.n : Int) ≤ s) (hq : q ≤ 4) (z : Int) (hz : z = (q : Int)) :
    Calls Tryz.prog 84 #[P.blk, .int .i64 z, .int .i64 s] w fun e w' => e = .returned (.tuple #[.int .u64 0, .int .i64 2]) ∧ Below w.heap.size w w' := by
  subst hz
  have S0 := (Held.St.start w).new [.int .i64 (P.n : Int), .int .i64 P.t, .int .i64 P.i, .int .i64 P.j, .pointer (some ⟨P.B, 0, none⟩)] 174
  have HA := Lib.hid (R.at_no hs hq)
  go_enter Tryz.func84, Tryz.ntmps84
  go_wp2_with fail
  refine (Plan.at_any _ _ _ _ _ _ _).mono ?_
  rintro e w1 ⟨rfl, k1⟩
  rw [HA.out]
  have S1 := S0.call k1
  go_wp2
  go_ret2
  exact ⟨rfl, S1.below⟩

/-- What is told of a word that has no Ctl, or of a scope that there is not. -/
abbrev ctlE (r : Ctl.R) : Ending := .returned (.tuple #[.agg #[.int .i64 r.s, .int .i64 r.c, .int .i64 r.p, .int .i64 r.e], .int .i64 r.x])
def seeV (x : Int) : Ctl.R := if Ctl.unB x = true then Ctl.unV x else Ctl.no 11
theorem see_ok {x : Int} {r : Ctl.R} (h : Ctl.unV x = r) (h0 : r.x = 0) : seeV x = r := by
  unfold seeV
  by_cases hb : Ctl.unB x = true
  · rw [if_pos hb, h]
  · unfold Ctl.unV at h
    rw [if_neg hb] at h
    subst h
    cases h0
set_option maxHeartbeats 1000000 in
theorem ctl_ok (w : World) (R : Pr P) (h : P.ar w f) (s : Nat) (hs : s < P.n) :
    Calls Tryz.prog 37 #[P.plan, .pointer (some ⟨P.B, 0, none⟩), .int .i64 (s : Int)] w fun e w' => e = ctlE (seeV (f (8 * s))) ∧ Below w.heap.size w w' := by
  have S0 := ((Held.St.start w).new [.int .i64 (P.n : Int), .int .i64 P.t, .int .i64 P.i, .int .i64 P.j] 23).new [.int .i64 0, .int .i64 0, .int .i64 0, .int .i64 0] 64
  simp only [World.size_alloc] at S0
  obtain ⟨b1, b2, b3, _⟩ := R.b
  have h0 := Ar.keep h ((Below.refl _ _ |>.alloc (Nat.le_refl _) (.cells [.int .i64 (P.n : Int), .int .i64 P.t, .int .i64 P.i, .int .i64 P.j].toArray 23)) |>.alloc (by simp) (.cells [.int .i64 0, .int .i64 0, .int .i64 0, .int .i64 0].toArray 64))
  have hf := h.fit (8 * s)
  obtain ⟨p0, p1, p2, p3⟩ := (S0.get4 1 rfl).2
  by_cases hb : Ctl.unB (f (8 * s)) = true
  · have HS := Lib.hid (show seeV (f (8 * s)) = Ctl.unV (f (8 * s)) from if_pos hb)
    have HX := Lib.hid (show (Ctl.unV (f (8 * s))).x = 0 by unfold Ctl.unV; rw [if_pos hb])
    clear hb
    go_enter Tryz.func37, Tryz.ntmps37
    go_wp2_with fail
    refine (word_ok _ R h0 s 0 hs (by omega) _ rfl).mono ?_
    rintro e w1 ⟨rfl, k1⟩
    have S1 := S0.call k1
    go_wp2_with fail
    refine (Ctl.unpack_any _ _ hf.1 hf.2).mono ?_
    rintro e w2 ⟨rfl, k2⟩
    simp only [Nat.add_zero]
    rw [HX.out]
    have S2 := (S1.call k2).new [.int .i64 (Ctl.unV (f (8 * s))).s, .int .i64 (Ctl.unV (f (8 * s))).c, .int .i64 (Ctl.unV (f (8 * s))).p, .int .i64 (Ctl.unV (f (8 * s))).e] 64
    obtain ⟨_, r0, r1, r2, r3⟩ := S2.get4 0 rfl
    obtain ⟨_, q0, q1, q2, q3⟩ := S2.get4 1 rfl
    have fz := (S2.get 1 rfl).fz
    go_wp2
    refine bodyPost_ret (v := .tuple #[.agg #[.int .i64 (Ctl.unV (f (8 * s))).s, .int .i64 (Ctl.unV (f (8 * s))).c, .int .i64 (Ctl.unV (f (8 * s))).p, .int .i64 (Ctl.unV (f (8 * s))).e], .int .i64 0]) (by simp [results, Tryz.results37, go_sem, q0, q1, q2, q3]) rfl ?_
    exact ⟨by rw [HS.out]; unfold ctlE; rw [HX.out], ((((S2.below.setCell (S2.get 1 rfl).own _).setCell (S2.get 1 rfl).own _).setCell (S2.get 1 rfl).own _).setCell (S2.get 1 rfl).own _)⟩
  · have HS := Lib.hid (show seeV (f (8 * s)) = Ctl.no 11 from if_neg hb)
    have HU := Lib.hid (show Ctl.unV (f (8 * s)) = Ctl.no 1 by unfold Ctl.unV; rw [if_neg hb])
    clear hb
    go_enter Tryz.func37, Tryz.ntmps37
    go_wp2_with fail
    refine (word_ok _ R h0 s 0 hs (by omega) _ rfl).mono ?_
    rintro e w1 ⟨rfl, k1⟩
    have S1 := S0.call k1
    go_wp2_with fail
    refine (Ctl.unpack_any _ _ hf.1 hf.2).mono ?_
    rintro e w2 ⟨rfl, k2⟩
    simp only [Nat.add_zero]
    rw [HU.out]
    have S2 := (S1.call k2).new [.int .i64 (Ctl.no 1).s, .int .i64 (Ctl.no 1).c, .int .i64 (Ctl.no 1).p, .int .i64 (Ctl.no 1).e] 64
    obtain ⟨_, q0, q1, q2, q3⟩ := S2.get4 1 rfl
    have fz := (S2.get 1 rfl).fz
    simp only [Ctl.no] at *
    go_wp2
    refine bodyPost_ret (v := .tuple #[.agg #[.int .i64 0, .int .i64 0, .int .i64 0, .int .i64 0], .int .i64 11]) (by simp [results, Tryz.results37, go_sem, q0, q1, q2, q3]) rfl ?_
    exact ⟨by rw [HS.out], ((((S2.below.setCell (S2.get 1 rfl).own _).setCell (S2.get 1 rfl).own _).setCell (S2.get 1 rfl).own _).setCell (S2.get 1 rfl).own _)⟩
set_option maxHeartbeats 1000000 in
theorem ctl_no (w : World) (R : Pr P) (h : P.ar w f) (s : Int) (hs : s < 0 ∨ (P.n : Int) ≤ s) :
    Calls Tryz.prog 37 #[P.plan, .pointer (some ⟨P.B, 0, none⟩), .int .i64 s] w fun e w' => e = ctlE (Ctl.no 11) ∧ Below w.heap.size w w' := by
  have S0 := ((Held.St.start w).new [.int .i64 (P.n : Int), .int .i64 P.t, .int .i64 P.i, .int .i64 P.j] 23).new [.int .i64 0, .int .i64 0, .int .i64 0, .int .i64 0] 64
  simp only [World.size_alloc] at S0
  have h0 := Ar.keep h ((Below.refl _ _ |>.alloc (Nat.le_refl _) (.cells [.int .i64 (P.n : Int), .int .i64 P.t, .int .i64 P.i, .int .i64 P.j].toArray 23)) |>.alloc (by simp) (.cells [.int .i64 0, .int .i64 0, .int .i64 0, .int .i64 0].toArray 64))
  obtain ⟨p0, p1, p2, p3⟩ := (S0.get4 1 rfl).2
  go_enter Tryz.func37, Tryz.ntmps37
  go_wp2_with fail
  refine (word_no _ R h0 s 0 hs (by omega) _ rfl).mono ?_
  rintro e w1 ⟨rfl, k1⟩
  have S1 := S0.call k1
  obtain ⟨_, q0, q1, q2, q3⟩ := S1.get4 0 rfl
  have fz := (S1.get 0 rfl).fz
  go_wp2
  refine bodyPost_ret (v := .tuple #[.agg #[.int .i64 0, .int .i64 0, .int .i64 0, .int .i64 0], .int .i64 11]) (by simp [results, Tryz.results37, go_sem, q0, q1, q2, q3]) rfl ?_
  exact ⟨rfl, ((((S1.below.setCell (S1.get 0 rfl).own _).setCell (S1.get 0 rfl).own _).setCell (S1.get 0 rfl).own _).setCell (S1.get 0 rfl).own _)⟩
end Go.Proofs.YteakglkagmghpaaGreat.Fou
