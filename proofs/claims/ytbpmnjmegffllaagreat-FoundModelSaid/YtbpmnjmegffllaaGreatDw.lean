/-
  Contracts of the document's model: goes.
-/
import Derived.Test.YtbpmnjmegffllaaGreatDv
import Derived.Deep.DeepCutAuto
namespace Go.Proofs.YtbpmnjmegffllaaGreat.Mod
open Go.ChangeShapes Go.WideShapes Go.ChangeAt Go.RowKit
open Slic Sco
set_option linter.unusedVariables false
set_option linter.unusedSimpArgs false
set_option maxRecDepth 8000
section
variable {w w' : World} {X : Dx} {p : Dp} {m m' : Mo} {Z : Fx} {k : Nat}
theorem reach_q {v : Value} {L : List Chain.E} {s : Int} {R : Bool} {n : Nat} (h : Chain.Sr w v L) (e : Chain.reachV L s = R) : Calls Tryz.prog 117 #[v, .int .i64 s] (w.drewN n) fun e w' => e = .returned (.bool R) ∧ w' = w.drewN n := by
  subst e
  exact (Chain.refreach_any _ v L s (h.below (Held.below_drewN (Below.refl _ _) n))).mono fun e w' ⟨a, b⟩ => ⟨a, b.symm⟩
theorem turn_same {F : Fo} {i : Int} {f : Cx → Ctl.R} (h : (turnV F i f).x ≠ 0) : (turnV F i f).F = F := by
  unfold turnV at h ⊢
  cases e : Sco.look F.R i with
  | none => rfl
  | some x =>
    rw [e] at h
    dsimp only at h ⊢
    by_cases c : (f x).x = 0
    · rw [if_pos c] at h
      exact absurd rfl h
    · rw [if_neg c]
theorem turn12_L (G : Fo) (i : Int) (f : Cx → Ctl.R) : (turnV G i f).F.L = G.L := by
  unfold turnV
  cases Sco.look G.R i with
  | none => rfl
  | some x =>
    dsimp only
    split <;> rfl
theorem Rm.scopes (h : Rm w X p m) {L : List Nat} (q : Only L w w') (hL : ∀ b ∈ L, b = X.P.gc ∨ b = X.P.gx ∨ b = X.P.gw) {F' : Fo} {Y' : Nat → Bool} (rs' : Rs w' X.P X.n X.A X.N F'.R Y') (rl' : F'.L = Gm.runs X.A Y' X.N) : Rm w' X ⟨p.o, p.c, p.s, Y'⟩ ⟨F', m.O, m.A, m.T⟩ := by
  have nt : ∀ T, (59 == T) = false → (113 == T) = false → (4 == T) = false → ∀ x ∈ L, noT w x T := fun T e1 e2 e3 x hx => by
    rcases hL x hx with rfl | rfl | rfl
    · exact h.rs.tc.no e1
    · exact h.rs.tx.no e2
    · exact h.rs.tw.no e3
  have nD : X.D ∉ L := fun hx => by
    rcases hL _ hx with e | e | e
    · exact (h.tD.ne h.rs.tc (by decide)) e
    · exact (h.tD.ne h.rs.tx (by decide)) e
    · exact (h.tD.ne h.rs.tw (by decide)) e
  exact ⟨h.hd.of_block (q.block _ h.hd.lt nD), rs', rl', own_types h.ob q (nt _ (by decide) (by decide) (by decide)), h.ln, fun i o t h1 h2 => own_types (h.sl i o t h1 h2) q (nt _ (by decide) (by decide) (by decide)), h.ap, fun t ht => own_types (h.en t ht) q (nt _ (by decide) (by decide) (by decide)), h.fi.types q (nt _ (by decide) (by decide) (by decide)) (nt _ (by decide) (by decide) (by decide))⟩
theorem Rm.enter (h : Rm w X p m) (i f : Int) : Calls Tryz.prog 119 #[ptrD X.P, .int .i64 i, .int .i64 f] w fun e w' => e = .returned (.int .i64 (turnV m.F i (enF f)).x) ∧ Rm w' X p ⟨(turnV m.F i (enF f)).F, m.O, m.A, m.T⟩ ∧ Only [X.P.gc] w w' :=
  (refenter_any (L := m.F.L) h.rs i f).mono fun e w' ⟨a, b, c⟩ => ⟨a, h.scopes c (fun b hb => .inl (List.mem_singleton.1 hb)) b ((turn12_L _ _ _).trans h.rl), c⟩
set_option maxHeartbeats 8000000 in
theorem refin_any (h : Rm w X p m) (v : Iv Z k m) (hn : Z.n = X.n) {t : Nat} (ht : t < Z.nt) {r hh vv s b cc : Int} :
    Calls Tryz.prog 69 #[ptrX X, .int .i64 (t : Int), .agg #[.int .u8 6, .int .u8 r, .int .u8 hh, .int .u8 vv, .int .i64 s, .int .i64 b, .int .i64 cc]] w fun z w' =>
      z = .returned (anD ((inV m t s).1.c) ((inV m t s).1.n)) ∧ DidD X p w (inV m t s).2 w' := by
  have n8 := v.n8
  have nt4 := v.nt.2
  have t4 : t < 4 := by omega
  have ti : (t : Int) < 4 := by omega
  have t0 : (0 : Int) ≤ (t : Int) := by omega
  have hA := v.nA
  obtain ⟨W, hW⟩ : ∃ W : World, W = (w.alloc (.cells #[.int .u8 6, .int .u8 r, .int .u8 hh, .int .u8 vv, .int .i64 s, .int .i64 b, .int .i64 cc] 35)).alloc (.cells #[.int .i64 0, .int .i64 0, .slice none 0 0] anT) := ⟨_, rfl⟩
  have Q0 := heap_alloc_new w (.cells #[.int .u8 6, .int .u8 r, .int .u8 hh, .int .u8 vv, .int .i64 s, .int .i64 b, .int .i64 cc] 35)
  have B0 := below_one w (.cells #[.int .u8 6, .int .u8 r, .int .u8 hh, .int .u8 vv, .int .i64 s, .int .i64 b, .int .i64 cc] 35)
  have h1 := (h.alloc (.cells #[.int .u8 6, .int .u8 r, .int .u8 hh, .int .u8 vv, .int .i64 s, .int .i64 b, .int .i64 cc] 35)).alloc (.cells #[.int .i64 0, .int .i64 0, .slice none 0 0] anT)
  have q : Below w.heap.size w W := by rw [hW]; exact B0.trans ((below_one _ _).mono B0.size)
  rw [← hW] at h1
  go_enter Tryz.func69, Tryz.ntmps69
  have Q1 := (heap_alloc_new (w.alloc (.cells #[.int .u8 6, .int .u8 r, .int .u8 hh, .int .u8 vv, .int .i64 s, .int .i64 b, .int .i64 cc] 35)) (.cells #[.int .i64 0, .int .i64 0, .slice none 0 0] anT))
  have Q2 := ((below_one (w.alloc (.cells #[.int .u8 6, .int .u8 r, .int .u8 hh, .int .u8 vv, .int .i64 s, .int .i64 b, .int .i64 cc] 35)) (.cells #[.int .i64 0, .int .i64 0, .slice none 0 0] anT)).block w.heap.size (by rw [World.size_alloc]; omega)).trans Q0
  rw [World.size_alloc] at Q1
  rw [← hW] at Q1 Q2
  have lw : w.heap.size + 1 < W.heap.size := by rw [hW, World.size_alloc, World.size_alloc]; omega
  have c0' := cell_of Q2 0 _ rfl
  have c4 := cell_of Q2 4 _ rfl
  have c0 := h1.c0
  have lDw := h.hd.lt
  have lD := h1.hd.lt
  have l0 : w.heap.size < W.heap.size := by omega
  have KW := fun n => (Held.below_drewN (Below.refl W.heap.size W) n)
  clear Q0 B0
  go_wp2_with fail
  rw [← hW]
  clear hW
  by_cases hs0 : s < 0
  · skip
    have KK0 := True.intro
    have KK := Lib.hid (show inV m t s = (no 11, m) by unfold inV; rw [if_pos (decide_eq_false (by omega))])
    clear KK0
    have z1 : decide (s < 0) = true := decide_eq_true hs0
    as_aux_lemma =>
      go_quiet (fail)
      have h2 := h1.keep (KW nq)
      have K2 := KW nq
      clear KW
      generalize W.drewN nq = W2 at *
      have Q3 := (K2.block _ lw).trans Q1
      have l2 : w.heap.size + 1 < W2.heap.size := Nat.lt_of_lt_of_le lw K2.size
      have B2 := q.trans (K2.mono q.size)
      go_wp2_with fail
      refine (code_any _ _).mono ?_
      rintro z w7 ⟨rfl, q7⟩
      have h7 := h2.keep q7
      have Q6 := (q7.block (w.heap.size + 1) l2).trans Q3
      have a0 := cell_of Q6 0 _ rfl
      have a1 := cell_of Q6 1 _ rfl
      have a2 := cell_of Q6 2 _ rfl
      have fz : ∀ o, w7.frozen? ⟨w.heap.size + 1, o, none⟩ = false := fun o => by simp [World.frozen?, Q6]
      have h8 := h7.ans ⟨_, Q6⟩ (.int .i64 (11)) (.int .i64 0) (.slice none 0 0)
      have B8 := (B2).trans (q7.mono (B2).size)
      go_wp2
      refine bodyPost_ret (v := anD (11) 0) (by simp [results, Tryz.results69, go_sem, a0, a1, a2]) rfl ?_
      rw [KK.out]
      exact ⟨rfl, DidD.calm h8 (((B8.setCell (p := ⟨w.heap.size + 1, 0, none⟩) (by show w.heap.size ≤ w.heap.size + 1; omega) _).setCell (p := ⟨w.heap.size + 1, 1, none⟩) (by show w.heap.size ≤ w.heap.size + 1; omega) _).setCell (p := ⟨w.heap.size + 1, 2, none⟩) (by show w.heap.size ≤ w.heap.size + 1; omega) _)⟩
  have y1 : decide (s < 0) = false := decide_eq_false hs0
  have p0 : 0 ≤ s := by omega
  by_cases hsn : (X.n : Int) ≤ s
  · skip
    have KK0 := True.intro
    have KK := Lib.hid (show inV m t s = (no 11, m) by unfold inV; rw [if_pos (decide_eq_false (by omega))])
    clear KK0
    have z1 : decide ((X.n : Int) ≤ s) = true := decide_eq_true hsn
    as_aux_lemma =>
      go_quiet (fail)
      have h2 := h1.keep (KW nq)
      have K2 := KW nq
      clear KW
      generalize W.drewN nq = W2 at *
      have Q3 := (K2.block _ lw).trans Q1
      have l2 : w.heap.size + 1 < W2.heap.size := Nat.lt_of_lt_of_le lw K2.size
      have B2 := q.trans (K2.mono q.size)
      go_wp2_with fail
      refine (code_any _ _).mono ?_
      rintro z w7 ⟨rfl, q7⟩
      have h7 := h2.keep q7
      have Q6 := (q7.block (w.heap.size + 1) l2).trans Q3
      have a0 := cell_of Q6 0 _ rfl
      have a1 := cell_of Q6 1 _ rfl
      have a2 := cell_of Q6 2 _ rfl
      have fz : ∀ o, w7.frozen? ⟨w.heap.size + 1, o, none⟩ = false := fun o => by simp [World.frozen?, Q6]
      have h8 := h7.ans ⟨_, Q6⟩ (.int .i64 (11)) (.int .i64 0) (.slice none 0 0)
      have B8 := (B2).trans (q7.mono (B2).size)
      go_wp2
      refine bodyPost_ret (v := anD (11) 0) (by simp [results, Tryz.results69, go_sem, a0, a1, a2]) rfl ?_
      rw [KK.out]
      exact ⟨rfl, DidD.calm h8 (((B8.setCell (p := ⟨w.heap.size + 1, 0, none⟩) (by show w.heap.size ≤ w.heap.size + 1; omega) _).setCell (p := ⟨w.heap.size + 1, 1, none⟩) (by show w.heap.size ≤ w.heap.size + 1; omega) _).setCell (p := ⟨w.heap.size + 1, 2, none⟩) (by show w.heap.size ≤ w.heap.size + 1; omega) _)⟩
  have y2 : decide ((X.n : Int) ≤ s) = false := decide_eq_false hsn
  go_quiet (fail)
  have h2 := h1.keep (KW nq)
  have K2 := KW nq
  clear KW
  generalize W.drewN nq = W2 at *
  have Q3 := (K2.block _ lw).trans Q1
  have Q4 := (K2.block w.heap.size l0).trans Q2
  have l2 : w.heap.size + 1 < W2.heap.size := Nat.lt_of_lt_of_le lw K2.size
  have B2 := q.trans (K2.mono q.size)
  have cE := h2.entC t4
  have oE := (ent_own.2 (h2.en t t4)).sr
  have d4 := cell_of Q4 4 _ rfl
  have lX := h2.hd.lt
  have nT := v.nT
  clear c0 c4 c0' h1
  have Q1' := Q1
  have Q2' := Q2
  clear Q1 Q2
  cases hre : Chain.reachV (m.ents t) s with
  | false =>
    have RE := Lib.hid hre
    have KK := Lib.hid (show inV m t s = (no 20, m) by unfold inV; rw [if_neg (by rw [decide_eq_true (by omega)]; decide), if_pos hre])
    clear hre
    as_aux_lemma =>
      go_wp2_with fail
      go_quiet ((go_at_call 117; exact Calls.quiet_of_same (reach_q oE RE.out)))
      go_wp2_with fail
      refine (code_any _ _).mono ?_
      rintro z w7 ⟨rfl, q7⟩
      have h7 := (h2.keep (Held.below_drewN (Below.refl _ _) _)).keep q7
      have Q6 := (q7.block (w.heap.size + 1) l2).trans Q3
      have a0 := cell_of Q6 0 _ rfl
      have a1 := cell_of Q6 1 _ rfl
      have a2 := cell_of Q6 2 _ rfl
      have fz : ∀ o, w7.frozen? ⟨w.heap.size + 1, o, none⟩ = false := fun o => by simp [World.frozen?, Q6]
      have h8 := h7.ans ⟨_, Q6⟩ (.int .i64 (20)) (.int .i64 0) (.slice none 0 0)
      have B8 := (Held.below_drewN B2 _).trans (q7.mono (Held.below_drewN B2 _).size)
      go_wp2
      refine bodyPost_ret (v := anD (20) 0) (by simp [results, Tryz.results69, go_sem, a0, a1, a2]) rfl ?_
      rw [KK.out]
      exact ⟨rfl, DidD.calm h8 (((B8.setCell (p := ⟨w.heap.size + 1, 0, none⟩) (by show w.heap.size ≤ w.heap.size + 1; omega) _).setCell (p := ⟨w.heap.size + 1, 1, none⟩) (by show w.heap.size ≤ w.heap.size + 1; omega) _).setCell (p := ⟨w.heap.size + 1, 2, none⟩) (by show w.heap.size ≤ w.heap.size + 1; omega) _)⟩
  | true =>
  have RE := Lib.hid hre
  have VP : inV m t s = if Chain.pushE (m.ents t) ≠ 0 then (no (Chain.pushE (m.ents t)), m) else (no 0, m.setEnt t (m.ents t ++ [(s, false)])) := by
    unfold inV
    rw [if_neg (by rw [decide_eq_true (by omega)]; decide), if_neg (by rw [hre]; decide)]
  clear hre
  go_wp2_with fail
  go_quiet ((go_at_call 117; exact Calls.quiet_of_same (reach_q oE RE.out)))
  have h3 := h2.keep (Held.below_drewN (Below.refl _ W2) nq)
  have K3 := Held.below_drewN K2 nq
  clear RE
  generalize W2.drewN nq = W3 at *
  clear h2 Q3 Q4 l2 B2 cE oE d4 K2 lX
  have Q3 := (K3.block _ lw).trans Q1'
  have Q4 := (K3.block w.heap.size l0).trans Q2'
  have l3 : w.heap.size + 1 < W3.heap.size := Nat.lt_of_lt_of_le lw K3.size
  have B3 := q.trans (K3.mono q.size)
  have cE := h3.entC t4
  have oE := (ent_own.2 (h3.en t t4)).sr
  have d4 := cell_of Q4 4 _ rfl
  have lX := h3.hd.lt
  obtain ⟨E, hE⟩ : ∃ E, Chain.pushE (m.ents t) = E := ⟨_, rfl⟩
  have PE := Lib.hid hE
  rw [hE] at VP
  have PL := Lib.hid (show Chain.pushL (m.ents t) (s, false) = Chain.pushL (m.ents t) (s, false) from rfl)
  go_wp2_with fail
  go_region_held3 (fun W' => W'.cell? ⟨X.D, 39 + t, none⟩ = some (sl3 (p.c t)) ∧ W'.cell? ⟨w.heap.size, 4, none⟩ = some (.int .i64 s))
    (first | exact ⟨cE, d4⟩ | exact KD)
    ((go_at_call 118; refine (Chain.refpush_any _ (sl3 (p.c t)) (m.ents t) s false (by first | exact oE | exact oE.drew | exact oE.drew.drew)).mono ?_; rintro z w5 ⟨y, rfl, O5, q5⟩; rw [PE.out]
      have KD := (show w5.cell? ⟨X.D, 39 + t, none⟩ = some (sl3 (p.c t)) ∧ w5.cell? ⟨w.heap.size, 4, none⟩ = some (.int .i64 s) from ⟨(q5.cell (p := ⟨X.D, 39 + t, none⟩) lX).trans cE, (q5.cell (p := ⟨w.heap.size, 4, none⟩) (by show w.heap.size < W3.heap.size; omega)).trans d4⟩)))
  have K5 : Below W3.heap.size W3 w5 := (Below.refl W3.heap.size W3).drew.trans q5
  have h5 := h3.drew.keep q5
  have Q5 := (K5.block _ l3).trans Q3
  have R5 := (K5.block w.heap.size (by omega)).trans Q4
  have B5 := B3.trans (K5.mono B3.size)
  have l5 : w.heap.size + 1 < w5.heap.size := Nat.lt_of_lt_of_le l3 K5.size
  clear cE oE d4 PL
  by_cases hE0 : E = 0
  rotate_left
  · have KK := Lib.hid (show inV m t s = (no E, m) by rw [VP, if_pos hE0])
    have z1 : (E == 0) = false := by simpa using hE0
    clear VP hE0 hE
    as_aux_lemma =>
      go_wp2_with fail
      refine (code_any _ _).mono ?_
      rintro z w7 ⟨rfl, q7⟩
      have h7 := h5.keep q7
      have Q6 := (q7.block (w.heap.size + 1) l5).trans Q5
      have a0 := cell_of Q6 0 _ rfl
      have a1 := cell_of Q6 1 _ rfl
      have a2 := cell_of Q6 2 _ rfl
      have fz : ∀ o, w7.frozen? ⟨w.heap.size + 1, o, none⟩ = false := fun o => by simp [World.frozen?, Q6]
      have h8 := h7.ans ⟨_, Q6⟩ (.int .i64 (E)) (.int .i64 0) (.slice none 0 0)
      have B8 := (B5).trans (q7.mono (B5).size)
      go_wp2
      refine bodyPost_ret (v := anD (E) 0) (by simp [results, Tryz.results69, go_sem, a0, a1, a2]) rfl ?_
      rw [KK.out]
      exact ⟨rfl, DidD.calm h8 (((B8.setCell (p := ⟨w.heap.size + 1, 0, none⟩) (by show w.heap.size ≤ w.heap.size + 1; omega) _).setCell (p := ⟨w.heap.size + 1, 1, none⟩) (by show w.heap.size ≤ w.heap.size + 1; omega) _).setCell (p := ⟨w.heap.size + 1, 2, none⟩) (by show w.heap.size ≤ w.heap.size + 1; omega) _)⟩
  subst hE0
  have PL : Chain.pushL (m.ents t) (s, false) = m.ents t ++ [(s, false)] := by
    unfold Chain.pushL
    unfold Chain.pushE at hE
    by_cases h6 : 6 ≤ (m.ents t).length
    · rw [if_pos h6] at hE
      cases hE
    · rw [if_neg h6]
  rw [PL] at O5
  replace O5 := ent_own.1 O5
  obtain ⟨yt, hyt⟩ : ∃ yt : Tri, y = sl3 yt := by
    obtain ⟨Ay, cy, e, _⟩ := O5.sr.form
    exact ⟨(Ay, _, cy), e⟩
  subst hyt
  rw [if_neg (by decide)] at VP
  clear PL hE
  have KK := Lib.hid VP
  clear VP
  as_aux_lemma =>
    obtain ⟨W6, hW6⟩ : ∃ W6 : World, W6 = w5.setCell ⟨X.D, 39 + t, none⟩ (sl3 yt) := ⟨_, rfl⟩
    have h6 := h5.putC (t := t) (by omega) (by omega) yt (O5.zero (Nat.zero_le _))
    rw [← hW6] at h6
    have k6 : Only [X.D] w5 W6 := by rw [hW6]; exact Only.put w5 _ _ _ (by simp)
    have Q6 := (k6.block (w.heap.size + 1) l5 (by simp; omega)).trans Q5
    have l6 : w.heap.size + 1 < W6.heap.size := Nat.lt_of_lt_of_le l5 k6.size
    have cr := h5.entC t4
    have fr := h5.hd.frozen
    go_wp2_with fail
    rw [← hW6]
    clear hW6 cr fr
    go_wp2_with fail
    refine (code_any _ _).mono ?_
    rintro z w9 ⟨rfl, q9⟩
    have h9 := h6.keep q9
    have Q9 := (q9.block (w.heap.size + 1) l6).trans Q6
    have a0 := cell_of Q9 0 _ rfl
    have a1 := cell_of Q9 1 _ rfl
    have a2 := cell_of Q9 2 _ rfl
    have fz : ∀ o, w9.frozen? ⟨w.heap.size + 1, o, none⟩ = false := fun o => by simp [World.frozen?, Q9]
    have h8 := h9.ans ⟨_, Q9⟩ (.int .i64 (0)) (.int .i64 0) (.slice none 0 0)
    have o8 : Only [w.heap.size + 1] w9 (((w9.setCell ⟨w.heap.size + 1, 0, none⟩ (.int .i64 (0))).setCell ⟨w.heap.size + 1, 1, none⟩ (.int .i64 0)).setCell ⟨w.heap.size + 1, 2, none⟩ (.slice none 0 0)) := ((Only.put w9 _ _ _ (by simp)).trans (Only.put _ _ _ _ (by simp))).trans (Only.put _ _ _ _ (by simp))
    go_wp2
    refine bodyPost_ret (v := anD (0) 0) (by simp [results, Tryz.results69, go_sem, a0, a1, a2]) rfl ?_
    rw [KK.out]
    exact ⟨rfl, ⟨p.o, fun j => if j = t then yt else p.c j, p.s, p.Y⟩, h8, ⟨[X.D], fun b hb => .inl (List.mem_singleton.1 hb), only_new (only_new (only_new (Only.below B5) k6 (fun x hx => .inl hx)) (Only.below (X := [X.D]) q9) (fun x hx => .inl hx)) o8 (fun x hx => by rw [List.mem_singleton.1 hx]; exact .inr (by omega))⟩, fun b hb => .inl hb⟩
set_option maxHeartbeats 8000000 in
theorem refenter12_any (h : Rm w X p m) (v : Iv Z k m) (hn : Z.n = X.n) {t : Nat} (ht : t < Z.nt) {r hh vv s b cc : Int} :
    Calls Tryz.prog 69 #[ptrX X, .int .i64 (t : Int), .agg #[.int .u8 4, .int .u8 r, .int .u8 hh, .int .u8 vv, .int .i64 s, .int .i64 b, .int .i64 cc]] w fun z w' =>
      z = .returned (anD ((enterV m t s).1.c) ((enterV m t s).1.n)) ∧ DidD X p w (enterV m t s).2 w' := by
  have n8 := v.n8
  have nt4 := v.nt.2
  have t4 : t < 4 := by omega
  have ti : (t : Int) < 4 := by omega
  have t0 : (0 : Int) ≤ (t : Int) := by omega
  have hA := v.nA
  obtain ⟨W, hW⟩ : ∃ W : World, W = (w.alloc (.cells #[.int .u8 4, .int .u8 r, .int .u8 hh, .int .u8 vv, .int .i64 s, .int .i64 b, .int .i64 cc] 35)).alloc (.cells #[.int .i64 0, .int .i64 0, .slice none 0 0] anT) := ⟨_, rfl⟩
  have Q0 := heap_alloc_new w (.cells #[.int .u8 4, .int .u8 r, .int .u8 hh, .int .u8 vv, .int .i64 s, .int .i64 b, .int .i64 cc] 35)
  have B0 := below_one w (.cells #[.int .u8 4, .int .u8 r, .int .u8 hh, .int .u8 vv, .int .i64 s, .int .i64 b, .int .i64 cc] 35)
  have h1 := (h.alloc (.cells #[.int .u8 4, .int .u8 r, .int .u8 hh, .int .u8 vv, .int .i64 s, .int .i64 b, .int .i64 cc] 35)).alloc (.cells #[.int .i64 0, .int .i64 0, .slice none 0 0] anT)
  have q : Below w.heap.size w W := by rw [hW]; exact B0.trans ((below_one _ _).mono B0.size)
  rw [← hW] at h1
  go_enter Tryz.func69, Tryz.ntmps69
  have Q1 := (heap_alloc_new (w.alloc (.cells #[.int .u8 4, .int .u8 r, .int .u8 hh, .int .u8 vv, .int .i64 s, .int .i64 b, .int .i64 cc] 35)) (.cells #[.int .i64 0, .int .i64 0, .slice none 0 0] anT))
  have Q2 := ((below_one (w.alloc (.cells #[.int .u8 4, .int .u8 r, .int .u8 hh, .int .u8 vv, .int .i64 s, .int .i64 b, .int .i64 cc] 35)) (.cells #[.int .i64 0, .int .i64 0, .slice none 0 0] anT)).block w.heap.size (by rw [World.size_alloc]; omega)).trans Q0
  rw [World.size_alloc] at Q1
  rw [← hW] at Q1 Q2
  have lw : w.heap.size + 1 < W.heap.size := by rw [hW, World.size_alloc, World.size_alloc]; omega
  have c0' := cell_of Q2 0 _ rfl
  have c4 := cell_of Q2 4 _ rfl
  have c0 := h1.c0
  have lDw := h.hd.lt
  have lD := h1.hd.lt
  have l0 : w.heap.size < W.heap.size := by omega
  have KW := fun n => (Held.below_drewN (Below.refl W.heap.size W) n)
  clear Q0 B0
  go_wp2_with fail
  rw [← hW]
  clear hW
  by_cases hs0 : s < 0
  · skip
    have KK0 := True.intro
    have KK := Lib.hid (show enterV m t s = (no 11, m) by unfold enterV; rw [if_pos (show scopeB m s = false from decide_eq_false (by omega))])
    clear KK0
    have z1 : decide (s < 0) = true := decide_eq_true hs0
    as_aux_lemma =>
      go_quiet (fail)
      have h2 := h1.keep (KW nq)
      have K2 := KW nq
      clear KW
      generalize W.drewN nq = W2 at *
      have Q3 := (K2.block _ lw).trans Q1
      have l2 : w.heap.size + 1 < W2.heap.size := Nat.lt_of_lt_of_le lw K2.size
      have B2 := q.trans (K2.mono q.size)
      go_wp2_with fail
      refine (code_any _ _).mono ?_
      rintro z w7 ⟨rfl, q7⟩
      have h7 := h2.keep q7
      have Q6 := (q7.block (w.heap.size + 1) l2).trans Q3
      have a0 := cell_of Q6 0 _ rfl
      have a1 := cell_of Q6 1 _ rfl
      have a2 := cell_of Q6 2 _ rfl
      have fz : ∀ o, w7.frozen? ⟨w.heap.size + 1, o, none⟩ = false := fun o => by simp [World.frozen?, Q6]
      have h8 := h7.ans ⟨_, Q6⟩ (.int .i64 (11)) (.int .i64 0) (.slice none 0 0)
      have B8 := (B2).trans (q7.mono (B2).size)
      go_wp2
      refine bodyPost_ret (v := anD (11) 0) (by simp [results, Tryz.results69, go_sem, a0, a1, a2]) rfl ?_
      rw [KK.out]
      exact ⟨rfl, DidD.calm h8 (((B8.setCell (p := ⟨w.heap.size + 1, 0, none⟩) (by show w.heap.size ≤ w.heap.size + 1; omega) _).setCell (p := ⟨w.heap.size + 1, 1, none⟩) (by show w.heap.size ≤ w.heap.size + 1; omega) _).setCell (p := ⟨w.heap.size + 1, 2, none⟩) (by show w.heap.size ≤ w.heap.size + 1; omega) _)⟩
  have y1 : decide (s < 0) = false := decide_eq_false hs0
  have p0 : 0 ≤ s := by omega
  by_cases hsn : (X.n : Int) ≤ s
  · skip
    have KK0 := True.intro
    have KK := Lib.hid (show enterV m t s = (no 11, m) by unfold enterV; rw [if_pos (show scopeB m s = false from decide_eq_false (by omega))])
    clear KK0
    have z1 : decide ((X.n : Int) ≤ s) = true := decide_eq_true hsn
    as_aux_lemma =>
      go_quiet (fail)
      have h2 := h1.keep (KW nq)
      have K2 := KW nq
      clear KW
      generalize W.drewN nq = W2 at *
      have Q3 := (K2.block _ lw).trans Q1
      have l2 : w.heap.size + 1 < W2.heap.size := Nat.lt_of_lt_of_le lw K2.size
      have B2 := q.trans (K2.mono q.size)
      go_wp2_with fail
      refine (code_any _ _).mono ?_
      rintro z w7 ⟨rfl, q7⟩
      have h7 := h2.keep q7
      have Q6 := (q7.block (w.heap.size + 1) l2).trans Q3
      have a0 := cell_of Q6 0 _ rfl
      have a1 := cell_of Q6 1 _ rfl
      have a2 := cell_of Q6 2 _ rfl
      have fz : ∀ o, w7.frozen? ⟨w.heap.size + 1, o, none⟩ = false := fun o => by simp [World.frozen?, Q6]
      have h8 := h7.ans ⟨_, Q6⟩ (.int .i64 (11)) (.int .i64 0) (.slice none 0 0)
      have B8 := (B2).trans (q7.mono (B2).size)
      go_wp2
      refine bodyPost_ret (v := anD (11) 0) (by simp [results, Tryz.results69, go_sem, a0, a1, a2]) rfl ?_
      rw [KK.out]
      exact ⟨rfl, DidD.calm h8 (((B8.setCell (p := ⟨w.heap.size + 1, 0, none⟩) (by show w.heap.size ≤ w.heap.size + 1; omega) _).setCell (p := ⟨w.heap.size + 1, 1, none⟩) (by show w.heap.size ≤ w.heap.size + 1; omega) _).setCell (p := ⟨w.heap.size + 1, 2, none⟩) (by show w.heap.size ≤ w.heap.size + 1; omega) _)⟩
  have y2 : decide ((X.n : Int) ≤ s) = false := decide_eq_false hsn
  by_cases hs1 : s = 0
  · skip
    have KK0 := True.intro
    have KK := Lib.hid (show enterV m t s = (no 11, m) by unfold enterV; rw [if_pos (show scopeB m s = false from decide_eq_false (by omega))])
    clear KK0
    have z1 : (s == 0) = true := by simpa using hs1
    clear hs1
    as_aux_lemma =>
      go_quiet (fail)
      have h2 := h1.keep (KW nq)
      have K2 := KW nq
      clear KW
      generalize W.drewN nq = W2 at *
      have Q3 := (K2.block _ lw).trans Q1
      have l2 : w.heap.size + 1 < W2.heap.size := Nat.lt_of_lt_of_le lw K2.size
      have B2 := q.trans (K2.mono q.size)
      go_wp2_with fail
      refine (code_any _ _).mono ?_
      rintro z w7 ⟨rfl, q7⟩
      have h7 := h2.keep q7
      have Q6 := (q7.block (w.heap.size + 1) l2).trans Q3
      have a0 := cell_of Q6 0 _ rfl
      have a1 := cell_of Q6 1 _ rfl
      have a2 := cell_of Q6 2 _ rfl
      have fz : ∀ o, w7.frozen? ⟨w.heap.size + 1, o, none⟩ = false := fun o => by simp [World.frozen?, Q6]
      have h8 := h7.ans ⟨_, Q6⟩ (.int .i64 (11)) (.int .i64 0) (.slice none 0 0)
      have B8 := (B2).trans (q7.mono (B2).size)
      go_wp2
      refine bodyPost_ret (v := anD (11) 0) (by simp [results, Tryz.results69, go_sem, a0, a1, a2]) rfl ?_
      rw [KK.out]
      exact ⟨rfl, DidD.calm h8 (((B8.setCell (p := ⟨w.heap.size + 1, 0, none⟩) (by show w.heap.size ≤ w.heap.size + 1; omega) _).setCell (p := ⟨w.heap.size + 1, 1, none⟩) (by show w.heap.size ≤ w.heap.size + 1; omega) _).setCell (p := ⟨w.heap.size + 1, 2, none⟩) (by show w.heap.size ≤ w.heap.size + 1; omega) _)⟩
  have y3 : (s == 0) = false := by simpa using hs1
  go_quiet (fail)
  have h2 := h1.keep (KW nq)
  have K2 := KW nq
  clear KW
  generalize W.drewN nq = W2 at *
  have Q3 := (K2.block _ lw).trans Q1
  have Q4 := (K2.block w.heap.size l0).trans Q2
  have l2 : w.heap.size + 1 < W2.heap.size := Nat.lt_of_lt_of_le lw K2.size
  have B2 := q.trans (K2.mono q.size)
  have cE := h2.entC t4
  have oE := (ent_own.2 (h2.en t t4)).sr
  have d4 := cell_of Q4 4 _ rfl
  have lX := h2.hd.lt
  have nT := v.nT
  clear c0 c4 c0' h1
  have Q1' := Q1
  have Q2' := Q2
  clear Q1 Q2
  have VP : enterV m t s = if Chain.pushE (m.ents t) ≠ 0 then (no (Chain.pushE (m.ents t)), m) else if (turnV m.F s (enF (Chain.areaV (m.ents t)))).x ≠ 0 then (no (turnV m.F s (enF (Chain.areaV (m.ents t)))).x, m) else (no 0, Mo.setEnt ⟨(turnV m.F s (enF (Chain.areaV (m.ents t)))).F, m.O, m.A, m.T⟩ t (m.ents t ++ [(s, true)])) := by
    unfold enterV
    rw [if_neg (by rw [show scopeB m s = true from decide_eq_true (by omega)]; decide)]
  go_wp2_with fail
  go_quiet (fail)
  have h3 := h2.keep (Held.below_drewN (Below.refl _ W2) nq)
  have K3 := Held.below_drewN K2 nq
  clear y1
  generalize W2.drewN nq = W3 at *
  clear h2 Q3 Q4 l2 B2 cE oE d4 K2 lX
  have Q3 := (K3.block _ lw).trans Q1'
  have Q4 := (K3.block w.heap.size l0).trans Q2'
  have l3 : w.heap.size + 1 < W3.heap.size := Nat.lt_of_lt_of_le lw K3.size
  have B3 := q.trans (K3.mono q.size)
  have cE := h3.entC t4
  have oE := (ent_own.2 (h3.en t t4)).sr
  have d4 := cell_of Q4 4 _ rfl
  have lX := h3.hd.lt
  obtain ⟨E, hE⟩ : ∃ E, Chain.pushE (m.ents t) = E := ⟨_, rfl⟩
  have PE := Lib.hid hE
  rw [hE] at VP
  have PL := Lib.hid (show Chain.pushL (m.ents t) (s, true) = Chain.pushL (m.ents t) (s, true) from rfl)
  go_wp2_with fail
  go_region_held3 (fun W' => W'.cell? ⟨X.D, 39 + t, none⟩ = some (sl3 (p.c t)) ∧ W'.cell? ⟨w.heap.size, 4, none⟩ = some (.int .i64 s))
    (first | exact ⟨cE, d4⟩ | exact KD)
    ((go_at_call 118; refine (Chain.refpush_any _ (sl3 (p.c t)) (m.ents t) s true (by first | exact oE | exact oE.drew | exact oE.drew.drew)).mono ?_; rintro z w5 ⟨y, rfl, O5, q5⟩; rw [PE.out]
      have KD := (show w5.cell? ⟨X.D, 39 + t, none⟩ = some (sl3 (p.c t)) ∧ w5.cell? ⟨w.heap.size, 4, none⟩ = some (.int .i64 s) from ⟨(q5.cell (p := ⟨X.D, 39 + t, none⟩) lX).trans cE, (q5.cell (p := ⟨w.heap.size, 4, none⟩) (by show w.heap.size < W3.heap.size; omega)).trans d4⟩)))
  have K5 : Below W3.heap.size W3 w5 := (Below.refl W3.heap.size W3).drew.trans q5
  have h5 := h3.drew.keep q5
  have Q5 := (K5.block _ l3).trans Q3
  have R5 := (K5.block w.heap.size (by omega)).trans Q4
  have B5 := B3.trans (K5.mono B3.size)
  have l5 : w.heap.size + 1 < w5.heap.size := Nat.lt_of_lt_of_le l3 K5.size
  clear cE oE d4 PL
  by_cases hE0 : E = 0
  rotate_left
  · have KK := Lib.hid (show enterV m t s = (no E, m) by rw [VP, if_pos hE0])
    have z1 : (E == 0) = false := by simpa using hE0
    clear VP hE0 hE
    as_aux_lemma =>
      go_wp2_with fail
      refine (code_any _ _).mono ?_
      rintro z w7 ⟨rfl, q7⟩
      have h7 := h5.keep q7
      have Q6 := (q7.block (w.heap.size + 1) l5).trans Q5
      have a0 := cell_of Q6 0 _ rfl
      have a1 := cell_of Q6 1 _ rfl
      have a2 := cell_of Q6 2 _ rfl
      have fz : ∀ o, w7.frozen? ⟨w.heap.size + 1, o, none⟩ = false := fun o => by simp [World.frozen?, Q6]
      have h8 := h7.ans ⟨_, Q6⟩ (.int .i64 (E)) (.int .i64 0) (.slice none 0 0)
      have B8 := (B5).trans (q7.mono (B5).size)
      go_wp2
      refine bodyPost_ret (v := anD (E) 0) (by simp [results, Tryz.results69, go_sem, a0, a1, a2]) rfl ?_
      rw [KK.out]
      exact ⟨rfl, DidD.calm h8 (((B8.setCell (p := ⟨w.heap.size + 1, 0, none⟩) (by show w.heap.size ≤ w.heap.size + 1; omega) _).setCell (p := ⟨w.heap.size + 1, 1, none⟩) (by show w.heap.size ≤ w.heap.size + 1; omega) _).setCell (p := ⟨w.heap.size + 1, 2, none⟩) (by show w.heap.size ≤ w.heap.size + 1; omega) _)⟩
  subst hE0
  have PL : Chain.pushL (m.ents t) (s, true) = m.ents t ++ [(s, true)] := by
    unfold Chain.pushL
    unfold Chain.pushE at hE
    by_cases h6 : 6 ≤ (m.ents t).length
    · rw [if_pos h6] at hE
      cases hE
    · rw [if_neg h6]
  rw [PL] at O5
  replace O5 := ent_own.1 O5
  obtain ⟨yt, hyt⟩ : ∃ yt : Tri, y = sl3 yt := by
    obtain ⟨Ay, cy, e, _⟩ := O5.sr.form
    exact ⟨(Ay, _, cy), e⟩
  subst hyt
  rw [if_neg (by decide)] at VP
  clear PL hE
  obtain ⟨ar, har⟩ : ∃ z, Chain.areaV (m.ents t) = z := ⟨_, rfl⟩
  rw [har] at VP
  obtain ⟨G, hG⟩ : ∃ G, turnV m.F s (enF ar) = G := ⟨_, rfl⟩
  have ENT := fun w9 (h9 : Rm w9 X p m) => h9.enter s ar
  have GS := turn_same (F := m.F) (i := s) (f := enF ar)
  rw [hG] at VP GS
  simp only [hG] at ENT
  have AR := Lib.hid har
  have cE := h5.entC t4
  have oE := (ent_own.2 (h5.en t t4)).sr
  have c5 := h5.c5
  have d4 := cell_of R5 4 _ rfl
  have lX := h5.hd.lt
  have n0 : X.P.gc ≠ w.heap.size := h5.rs.tc.ne ⟨_, R5⟩ (by decide)
  have n1 : X.P.gc ≠ w.heap.size + 1 := h5.rs.tc.ne ⟨_, Q5⟩ (by decide)
  have nD : X.P.gc ≠ X.D := h5.rs.tc.ne h5.tD (by decide)
  have lc := h5.rs.lc
  clear hG har
  go_wp2_with fail
  go_region_held3 (fun W' => W'.cell? ⟨X.D, 39 + t, none⟩ = some (sl3 (p.c t)) ∧ W'.cell? ⟨w.heap.size, 4, none⟩ = some (.int .i64 s) ∧ W'.cell? ⟨X.D, 5, none⟩ = some (ptrD X.P))
    (first | exact ⟨cE, d4, c5⟩ | exact KD)
    (first | ((go_at_call 100; refine (Chain.refarea_any _ (sl3 (p.c t)) (m.ents t) (by first | exact oE | exact oE.drew | exact oE.drew.drew)).mono ?_; rintro e wq ⟨rfl, rfl⟩; rw [AR.out])) | ((go_at_call 119; refine (ENT _ (by first | exact h5 | exact h5.drew | exact h5.drew.drew)).mono ?_; rintro z w6 ⟨rfl, h6, k6⟩; have KD := (show w6.cell? ⟨X.D, 39 + t, none⟩ = some (sl3 (p.c t)) ∧ w6.cell? ⟨w.heap.size, 4, none⟩ = some (.int .i64 s) ∧ w6.cell? ⟨X.D, 5, none⟩ = some (ptrD X.P) from ⟨h6.entC t4, (World.cell?_of_block (a := ⟨w.heap.size, 4, none⟩) (k6.block w.heap.size (by show w.heap.size < w5.heap.size; omega) (by simp; exact fun e => n0 e.symm))).trans d4, h6.c5⟩))))
  have k6' : Only [X.P.gc] w5 w6 := (Only.below (Below.refl _ w5).drew).trans k6
  have Q6 := (k6'.block (w.heap.size + 1) l5 (by simp; exact fun e => n1 e.symm)).trans Q5
  have l6 : w.heap.size + 1 < w6.heap.size := Nat.lt_of_lt_of_le l5 k6'.size
  have O6 := own_types O5 k6' (fun x hx => by rw [List.mem_singleton.1 hx]; exact h5.rs.tc.no (by decide))
  have a6 : Only [X.P.gc, X.D] w w6 := only_new (Only.below B5) k6' (fun x hx => .inl (by rw [List.mem_singleton.1 hx]; simp))
  clear cE oE c5 d4 ENT
  by_cases hx0 : G.x = 0
  rotate_left
  · obtain ⟨gx, hgx⟩ : ∃ gx, G.x = gx := ⟨_, rfl⟩
    have KK := Lib.hid (show enterV m t s = (no gx, m) by rw [VP, if_pos hx0, hgx])
    have z1 : (gx == 0) = false := by rw [← hgx]; simpa using hx0
    have hS := GS hx0
    rw [hS] at h6
    clear VP GS hS hx0
    rw [hgx]
    clear hgx
    as_aux_lemma =>
      go_wp2_with fail
      refine (code_any _ _).mono ?_
      rintro z w9 ⟨rfl, q9⟩
      have h9 := h6.keep q9
      have Q9 := (q9.block (w.heap.size + 1) l6).trans Q6
      have a0 := cell_of Q9 0 _ rfl
      have a1 := cell_of Q9 1 _ rfl
      have a2 := cell_of Q9 2 _ rfl
      have fz : ∀ o, w9.frozen? ⟨w.heap.size + 1, o, none⟩ = false := fun o => by simp [World.frozen?, Q9]
      have h8 := h9.ans ⟨_, Q9⟩ (.int .i64 (gx)) (.int .i64 0) (.slice none 0 0)
      have o8 : Only [w.heap.size + 1] w9 (((w9.setCell ⟨w.heap.size + 1, 0, none⟩ (.int .i64 (gx))).setCell ⟨w.heap.size + 1, 1, none⟩ (.int .i64 0)).setCell ⟨w.heap.size + 1, 2, none⟩ (.slice none 0 0)) := ((Only.put w9 _ _ _ (by simp)).trans (Only.put _ _ _ _ (by simp))).trans (Only.put _ _ _ _ (by simp))
      go_wp2
      refine bodyPost_ret (v := anD (gx) 0) (by simp [results, Tryz.results69, go_sem, a0, a1, a2]) rfl ?_
      rw [KK.out]
      exact ⟨rfl, p, h8, ⟨[X.P.gc, X.D], fun b hb => by rcases List.mem_cons.1 hb with e | e; exact .inr (.inl e); exact .inl (List.mem_singleton.1 e), only_new (only_new a6 (Only.below (X := [X.P.gc, X.D]) q9) (fun x hx => .inl hx)) o8 (fun x hx => by rw [List.mem_singleton.1 hx]; exact .inr (by omega))⟩, fun b hb => .inl hb⟩
  · have KK := Lib.hid (show enterV m t s = (no 0, Mo.setEnt ⟨G.F, m.O, m.A, m.T⟩ t (m.ents t ++ [(s, true)])) by rw [VP, if_neg (by rw [hx0]; decide)])
    rw [hx0]
    clear VP GS hx0
    as_aux_lemma =>
      obtain ⟨W7, hW7⟩ : ∃ W7 : World, W7 = w6.setCell ⟨X.D, 39 + t, none⟩ (sl3 yt) := ⟨_, rfl⟩
      have h7 := h6.putC (t := t) (show t < m.T.length by omega) (show m.T.length ≤ 4 by omega) yt (O6.zero (Nat.zero_le _))
      rw [← hW7] at h7
      have k7 : Only [X.D] w6 W7 := by rw [hW7]; exact Only.put w6 _ _ _ (by simp)
      have Q7 := (k7.block (w.heap.size + 1) l6 (by simp; omega)).trans Q6
      have l7 : w.heap.size + 1 < W7.heap.size := Nat.lt_of_lt_of_le l6 k7.size
      have a7 : Only [X.P.gc, X.D] w W7 := only_new a6 k7 (fun x hx => .inl (by rw [List.mem_singleton.1 hx]; simp))
      have cr := h6.entC t4
      have fr := h6.hd.frozen
      go_wp2_with fail
      rw [← hW7]
      clear hW7 cr fr
      go_wp2_with fail
      refine (code_any _ _).mono ?_
      rintro z w9 ⟨rfl, q9⟩
      have h9 := h7.keep q9
      have Q9 := (q9.block (w.heap.size + 1) l7).trans Q7
      have a0 := cell_of Q9 0 _ rfl
      have a1 := cell_of Q9 1 _ rfl
      have a2 := cell_of Q9 2 _ rfl
      have fz : ∀ o, w9.frozen? ⟨w.heap.size + 1, o, none⟩ = false := fun o => by simp [World.frozen?, Q9]
      have h8 := h9.ans ⟨_, Q9⟩ (.int .i64 (0)) (.int .i64 0) (.slice none 0 0)
      have o8 : Only [w.heap.size + 1] w9 (((w9.setCell ⟨w.heap.size + 1, 0, none⟩ (.int .i64 (0))).setCell ⟨w.heap.size + 1, 1, none⟩ (.int .i64 0)).setCell ⟨w.heap.size + 1, 2, none⟩ (.slice none 0 0)) := ((Only.put w9 _ _ _ (by simp)).trans (Only.put _ _ _ _ (by simp))).trans (Only.put _ _ _ _ (by simp))
      go_wp2
      refine bodyPost_ret (v := anD (0) 0) (by simp [results, Tryz.results69, go_sem, a0, a1, a2]) rfl ?_
      rw [KK.out]
      exact ⟨rfl, ⟨p.o, fun j => if j = t then yt else p.c j, p.s, p.Y⟩, h8, ⟨[X.P.gc, X.D], fun b hb => by rcases List.mem_cons.1 hb with e | e; exact .inr (.inl e); exact .inl (List.mem_singleton.1 e), only_new (only_new a7 (Only.below (X := [X.P.gc, X.D]) q9) (fun x hx => .inl hx)) o8 (fun x hx => by rw [List.mem_singleton.1 hx]; exact .inr (by omega))⟩, fun b hb => .inl hb⟩
end
end Go.Proofs.YtbpmnjmegffllaaGreat.Mod
