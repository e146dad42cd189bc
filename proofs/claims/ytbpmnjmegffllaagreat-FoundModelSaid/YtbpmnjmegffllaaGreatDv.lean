/-
  Contracts of the document's model: slot.
-/
import Derived.Test.YtbpmnjmegffllaaGreatDu
import Derived.Deep.DeepCutAuto
namespace Go.Proofs.YtbpmnjmegffllaaGreat.Mod
open Go.ChangeShapes Go.WideShapes Go.ChangeAt Go.RowKit
open Slic Sco
set_option linter.unusedVariables false
set_option linter.unusedSimpArgs false
set_option maxRecDepth 8000
section
variable {w w' : World} {X : Dx} {p : Dp} {m m' : Mo} {Z : Fx} {k : Nat}
def slD (m : Mo) (t : Nat) (c : Ca) : Re2 := if c.op = 8 then loadV m t c else storeV m t c
theorem chk_fi {m : Mo} {L : List Chain.E} {x : Int} (hc : m.chk L x = 0) : ∃ (i : Nat) (o : Ob), fiV m.O x = (i : Int) ∧ m.O[i]? = some o ∧ m.obs x = some o ∧ o.h = x := by
  rcases obs_fi m x with ⟨_, e⟩ | e
  · exfalso
    unfold Mo.chk at hc
    rw [e] at hc
    split at hc
    · rename_i e1; exact e1 hc
    split at hc
    · cases hc
    split at hc
    · cases hc
    split at hc
    · cases hc
    · simp at hc
  · exact e
theorem sl_no {m : Mo} {t : Nat} {c : Ca} (e : holdX m (m.ents t) (m.reg t c.h) c.b ≠ 0) : slD m t c = (no (holdX m (m.ents t) (m.reg t c.h) c.b), m) := by
  unfold slD loadV storeV
  rw [if_pos e, if_pos e]
  split <;> rfl
set_option maxHeartbeats 8000000 in
theorem refslot_any (h : Rm w X p m) (v : Iv Z k m) (hk : k ≤ 10000) (hn : Z.n = X.n) {t : Nat} (ht : t < Z.nt) {op s b cc : Int} {r hh vv : Nat} (h4 : hh < 4) (hop : (op = 8 ∧ r < 4) ∨ (op = 9 ∧ vv < 4)) :
    Calls Tryz.prog 73 #[ptrX X, .int .i64 (t : Int), .agg #[.int .u8 op, .int .u8 (r : Int), .int .u8 (hh : Int), .int .u8 (vv : Int), .int .i64 s, .int .i64 b, .int .i64 cc]] w fun z w' =>
      z = .returned (anD ((slD m t ⟨op, r, hh, vv, s, b, cc⟩).1.c) ((slD m t ⟨op, r, hh, vv, s, b, cc⟩).1.n)) ∧ DidD X p w (slD m t ⟨op, r, hh, vv, s, b, cc⟩).2 w' := by
  replace hop := Lib.hid hop
  have n8 := v.n8
  have nt4 := v.nt.2
  have t4 : t < 4 := by omega
  have ti : (t : Int) < 4 := by omega
  have t0 : (0 : Int) ≤ (t : Int) := by omega
  have hi4 : (hh : Int) < 4 := by omega
  have hi0 : (0 : Int) ≤ (hh : Int) := by omega
  obtain ⟨x, hx0⟩ : ∃ x, x = (m.th t).r hh := ⟨_, rfl⟩
  have hx : wf64 x := by rw [hx0]; exact v.wreg ht (hh : Int)
  have er : m.reg t (hh : Int) = x := by rw [hx0]; rfl
  obtain ⟨W, hW⟩ : ∃ W : World, W = (w.alloc (.cells #[.int .u8 op, .int .u8 (r : Int), .int .u8 (hh : Int), .int .u8 (vv : Int), .int .i64 s, .int .i64 b, .int .i64 cc] 35)).alloc (.cells #[.int .i64 0, .int .i64 0, .slice none 0 0] anT) := ⟨_, rfl⟩
  have Q0 := heap_alloc_new w (.cells #[.int .u8 op, .int .u8 (r : Int), .int .u8 (hh : Int), .int .u8 (vv : Int), .int .i64 s, .int .i64 b, .int .i64 cc] 35)
  have B0 := below_one w (.cells #[.int .u8 op, .int .u8 (r : Int), .int .u8 (hh : Int), .int .u8 (vv : Int), .int .i64 s, .int .i64 b, .int .i64 cc] 35)
  have h1 := (h.alloc (.cells #[.int .u8 op, .int .u8 (r : Int), .int .u8 (hh : Int), .int .u8 (vv : Int), .int .i64 s, .int .i64 b, .int .i64 cc] 35)).alloc (.cells #[.int .i64 0, .int .i64 0, .slice none 0 0] anT)
  have q : Below w.heap.size w W := by rw [hW]; exact B0.trans ((below_one _ _).mono B0.size)
  rw [← hW] at h1
  go_enter Tryz.func73, Tryz.ntmps73
  have Q1 := (heap_alloc_new (w.alloc (.cells #[.int .u8 op, .int .u8 (r : Int), .int .u8 (hh : Int), .int .u8 (vv : Int), .int .i64 s, .int .i64 b, .int .i64 cc] 35)) (.cells #[.int .i64 0, .int .i64 0, .slice none 0 0] anT))
  have Q2 := ((below_one (w.alloc (.cells #[.int .u8 op, .int .u8 (r : Int), .int .u8 (hh : Int), .int .u8 (vv : Int), .int .i64 s, .int .i64 b, .int .i64 cc] 35)) (.cells #[.int .i64 0, .int .i64 0, .slice none 0 0] anT)).block w.heap.size (by rw [World.size_alloc]; omega)).trans Q0
  rw [World.size_alloc] at Q1
  rw [← hW] at Q1 Q2
  have lw : w.heap.size + 1 < W.heap.size := by rw [hW, World.size_alloc, World.size_alloc]; omega
  have c2 := cell_of Q2 2 _ rfl
  have cr := h1.reg t4 h4
  rw [← hx0] at cr
  have lD := h1.hd.lt
  have lDw := h.hd.lt
  have l0 : w.heap.size < W.heap.size := by omega
  clear Q0 B0
  go_wp2_with fail
  rw [← hW]
  clear hW hx0
  by_cases hc : m.chk (m.ents t) x = 0
  rotate_left
  · obtain ⟨F, hF⟩ : ∃ F, m.chk (m.ents t) x = F := ⟨_, rfl⟩
    have hX : holdX m (m.ents t) x b = F := by unfold holdX; rw [if_pos hc, hF]
    have KK := Lib.hid (show slD m t ⟨op, r, hh, vv, s, b, cc⟩ = (no F, m) by
      rw [sl_no (by dsimp only; rw [er, hX, ← hF]; exact hc)]
      dsimp only
      rw [er, hX])
    have CK := Lib.hid hF
    have z1 : (F != 0) = true := by rw [← hF]; simpa using hc
    clear hc hF hX er
    as_aux_lemma =>
      go_region_held3 (fun W' => W'.cell? ⟨X.D, 23 + t * 4 + hh, none⟩ = some (.int .u64 x) ∧ W'.cell? ⟨w.heap.size, 2, none⟩ = some (.int .u8 (hh : Int)))
        (first | exact ⟨cr, c2⟩ | exact KD)
        ((go_at_call 125; refine (refcheck_any (by first | exact h1 | exact h1.drew | exact h1.drew.drew) v hk hn t4 hx).mono ?_; rintro z w2 ⟨rfl, h2, q2⟩; rw [CK.out]
          have KD := (show w2.cell? ⟨X.D, 23 + t * 4 + hh, none⟩ = some (.int .u64 x) ∧ w2.cell? ⟨w.heap.size, 2, none⟩ = some (.int .u8 (hh : Int)) from ⟨(q2.cell (p := ⟨X.D, 23 + t * 4 + hh, none⟩) lD).trans cr, (q2.cell (p := ⟨w.heap.size, 2, none⟩) l0).trans c2⟩)))
      have K2 : Below W.heap.size W w2 := (Below.refl W.heap.size W).drew.trans q2
      have Q3 := (K2.block _ lw).trans Q1
      have Q4 := (K2.block w.heap.size l0).trans Q2
      have B2 := q.trans (K2.mono q.size)
      have l2 : w.heap.size + 1 < w2.heap.size := Nat.lt_of_lt_of_le lw K2.size
      have d0 := cell_of Q4 0 _ rfl
      have d1 := cell_of Q4 1 _ rfl
      have d3 := cell_of Q4 3 _ rfl
      have d5 := cell_of Q4 5 _ rfl
      go_wp2_with fail
      refine (code_any _ _).mono ?_
      rintro z w7 ⟨rfl, q7⟩
      have h7 := h2.keep q7
      have Q6 := (q7.block (w.heap.size + 1) l2).trans Q3
      have a0 := cell_of Q6 0 _ rfl
      have a1 := cell_of Q6 1 _ rfl
      have a2 := cell_of Q6 2 _ rfl
      have fz : ∀ o, w7.frozen? ⟨w.heap.size + 1, o, none⟩ = false := fun o => by simp [World.frozen?, Q6]
      have h8 := h7.ans ⟨_, Q6⟩ (.int .i64 (F)) (.int .i64 0) (.slice none 0 0)
      have B8 := (B2).trans (q7.mono (B2).size)
      go_wp2
      refine bodyPost_ret (v := anD (F) 0) (by simp [results, Tryz.results73, go_sem, a0, a1, a2]) rfl ?_
      rw [KK.out]
      exact ⟨rfl, DidD.calm h8 (((B8.setCell (p := ⟨w.heap.size + 1, 0, none⟩) (by show w.heap.size ≤ w.heap.size + 1; omega) _).setCell (p := ⟨w.heap.size + 1, 1, none⟩) (by show w.heap.size ≤ w.heap.size + 1; omega) _).setCell (p := ⟨w.heap.size + 1, 2, none⟩) (by show w.heap.size ≤ w.heap.size + 1; omega) _)⟩
  · obtain ⟨i, o, f1, f2, f3, f4⟩ := chk_fi hc
    have hci := (ck_yes hc).1
    have hcs := (ck_yes hc).2
    have CK0 := Lib.hid hc
    have CK1 := Lib.hid (hci.trans f1)
    have CK2 := Lib.hid hcs
    have il : i < m.O.length := (List.getElem?_eq_some_iff.1 f2).1
    have hl := v.cnt
    have hol := v.sl o (List.mem_of_getElem? f2)
    obtain ⟨N, hN⟩ : ∃ N, m.O.length = N := ⟨_, rfl⟩
    have HN := Lib.hid hN
    rw [hN] at il hl
    have i1 : (i : Int) < (N : Int) := by omega
    have i0 : (0 : Int) ≤ (i : Int) := by omega
    by_cases hb : 0 ≤ b ∧ b < (o.sl.length : Int)
    rotate_left
    · have hX : holdX m (m.ents t) x b = 21 := by
        unfold holdX
        rw [if_neg (by rw [hc]; decide), f3]
        dsimp only
        rw [if_neg (by rw [decide_eq_false hb]; decide)]
      have KK := Lib.hid (show slD m t ⟨op, r, hh, vv, s, b, cc⟩ = (no 21, m) by
        rw [sl_no (by dsimp only; rw [er, hX]; decide)]
        dsimp only
        rw [er, hX])
      obtain ⟨M, hM⟩ : ∃ M, o.sl.length = M := ⟨_, rfl⟩
      rw [hM] at hb hol
      have HM := Lib.hid hM
      clear hc hci hcs f1 f3 f4 hX er hN hM
      as_aux_lemma =>
        go_region_held3 (fun W' => W'.cell? ⟨X.D, 23 + t * 4 + hh, none⟩ = some (.int .u64 x) ∧ W'.cell? ⟨w.heap.size, 2, none⟩ = some (.int .u8 (hh : Int)))
          (first | exact ⟨cr, c2⟩ | exact KD)
          ((go_at_call 125; refine (refcheck_any (by first | exact h1 | exact h1.drew | exact h1.drew.drew) v hk hn t4 hx).mono ?_; rintro z w2 ⟨rfl, h2, q2⟩; rw [CK0.out, CK1.out, CK2.out]
            have KD := (show w2.cell? ⟨X.D, 23 + t * 4 + hh, none⟩ = some (.int .u64 x) ∧ w2.cell? ⟨w.heap.size, 2, none⟩ = some (.int .u8 (hh : Int)) from ⟨(q2.cell (p := ⟨X.D, 23 + t * 4 + hh, none⟩) lD).trans cr, (q2.cell (p := ⟨w.heap.size, 2, none⟩) l0).trans c2⟩)))
        have K2 : Below W.heap.size W w2 := (Below.refl W.heap.size W).drew.trans q2
        have Q3 := (K2.block _ lw).trans Q1
        have Q4 := (K2.block w.heap.size l0).trans Q2
        have B2 := q.trans (K2.mono q.size)
        have l2 : w.heap.size + 1 < w2.heap.size := Nat.lt_of_lt_of_le lw K2.size
        have d0 := cell_of Q4 0 _ rfl
        have d1 := cell_of Q4 1 _ rfl
        have d3 := cell_of Q4 3 _ rfl
        have d5 := cell_of Q4 5 _ rfl
        obtain ⟨g, c, ⟨tA, tn, tc⟩, ep, hp, lg, _, _, _, o3, _⟩ := h2.objAt f2
        replace o3 : w2.cell? ⟨g, i * 5 + 3, none⟩ = some (.slice tA tn tc) := o3
        have c6 := h2.c6
        rw [ep] at c6
        replace c6 : w2.cell? ⟨X.D, 6, none⟩ = some (.slice (some ⟨g, 0, none⟩) m.O.length c) := c6
        rw [HN.out] at c6
        have so := h2.sl i o _ f2 hp
        obtain rfl : M = tn := by
          obtain ⟨Aq, cq, eq_, _⟩ := so.sr.form
          rw [← HM.out]
          injection eq_ with _ e _
          exact e.symm
        by_cases hb0 : b < 0
        · go_wp2_with fail
          go_quiet (fail)
          go_wp2_with fail
          refine (code_any _ _).mono ?_
          rintro z w7 ⟨rfl, q7⟩
          have h7 := (h2.keep (Held.below_drewN (Below.refl _ _) _)).keep q7
          have Q6 := (q7.block (w.heap.size + 1) l2).trans Q3
          have a0 := cell_of Q6 0 _ rfl
          have a1 := cell_of Q6 1 _ rfl
          have a2 := cell_of Q6 2 _ rfl
          have fz : ∀ o, w7.frozen? ⟨w.heap.size + 1, o, none⟩ = false := fun o => by simp [World.frozen?, Q6]
          have h8 := h7.ans ⟨_, Q6⟩ (.int .i64 (21)) (.int .i64 0) (.slice none 0 0)
          have B8 := (Held.below_drewN B2 _).trans (q7.mono (Held.below_drewN B2 _).size)
          go_wp2
          refine bodyPost_ret (v := anD (21) 0) (by simp [results, Tryz.results73, go_sem, a0, a1, a2]) rfl ?_
          rw [KK.out]
          exact ⟨rfl, DidD.calm h8 (((B8.setCell (p := ⟨w.heap.size + 1, 0, none⟩) (by show w.heap.size ≤ w.heap.size + 1; omega) _).setCell (p := ⟨w.heap.size + 1, 1, none⟩) (by show w.heap.size ≤ w.heap.size + 1; omega) _).setCell (p := ⟨w.heap.size + 1, 2, none⟩) (by show w.heap.size ≤ w.heap.size + 1; omega) _)⟩
        · have hbM : (M : Int) ≤ b := by omega
          have z2 : decide (b < 0) = false := decide_eq_false hb0
          have z3 : decide ((M : Int) ≤ b) = true := decide_eq_true hbM
          go_wp2_with fail
          go_quiet (fail)
          go_wp2_with fail
          refine (code_any _ _).mono ?_
          rintro z w7 ⟨rfl, q7⟩
          have h7 := (h2.keep (Held.below_drewN (Below.refl _ _) _)).keep q7
          have Q6 := (q7.block (w.heap.size + 1) l2).trans Q3
          have a0 := cell_of Q6 0 _ rfl
          have a1 := cell_of Q6 1 _ rfl
          have a2 := cell_of Q6 2 _ rfl
          have fz : ∀ o, w7.frozen? ⟨w.heap.size + 1, o, none⟩ = false := fun o => by simp [World.frozen?, Q6]
          have h8 := h7.ans ⟨_, Q6⟩ (.int .i64 (21)) (.int .i64 0) (.slice none 0 0)
          have B8 := (Held.below_drewN B2 _).trans (q7.mono (Held.below_drewN B2 _).size)
          go_wp2
          refine bodyPost_ret (v := anD (21) 0) (by simp [results, Tryz.results73, go_sem, a0, a1, a2]) rfl ?_
          rw [KK.out]
          exact ⟨rfl, DidD.calm h8 (((B8.setCell (p := ⟨w.heap.size + 1, 0, none⟩) (by show w.heap.size ≤ w.heap.size + 1; omega) _).setCell (p := ⟨w.heap.size + 1, 1, none⟩) (by show w.heap.size ≤ w.heap.size + 1; omega) _).setCell (p := ⟨w.heap.size + 1, 2, none⟩) (by show w.heap.size ≤ w.heap.size + 1; omega) _)⟩
    · obtain ⟨bb, rfl⟩ : ∃ k : Nat, b = (k : Int) := ⟨b.toNat, by omega⟩
      have hX : holdX m (m.ents t) x bb = 0 := by
        unfold holdX
        rw [if_neg (by rw [hc]; decide), f3]
        dsimp only
        rw [if_pos (decide_eq_true hb)]
      have hbl : bb < o.sl.length := by omega
      obtain ⟨u, hu⟩ : ∃ u, o.sl[bb] = u := ⟨_, rfl⟩
      have so_ : slotOf m x bb = u := by
        unfold slotOf
        rw [f3]
        dsimp only
        rw [Int.toNat_natCast, List.getD_eq_getElem?_getD, List.getElem?_eq_getElem hbl, hu]
        rfl
      obtain ⟨M, hM⟩ : ∃ M, o.sl.length = M := ⟨_, rfl⟩
      have hbM : bb < M := by omega
      have z2 : decide ((bb : Int) < 0) = false := decide_eq_false (by omega)
      have z3 : decide (M ≤ bb) = false := decide_eq_false (by omega)
      have j0 : (0 : Int) ≤ (bb : Int) := by omega
      have j1 : (bb : Int) < (M : Int) := by omega
      rw [hM] at hol
      have HM := Lib.hid hM
      have HU := Lib.hid hu
      have F4 := Lib.hid f4
      have HBL := Lib.hid hbl
      clear hb hM hu hN hci hcs f1 f3 f4
      rcases hop.out with ⟨rfl, hr4⟩ | ⟨rfl, hv4⟩
      · obtain ⟨gw, hgw⟩ : ∃ gw, IntKind.i64.wrap u = gw := ⟨_, rfl⟩
        have KK := Lib.hid (show slD m t ⟨8, r, hh, vv, s, bb, cc⟩ = (⟨0, gw, []⟩, m.setReg t (r : Int) u) by
          unfold slD loadV
          dsimp only
          rw [if_pos rfl, er, hX, if_neg (by decide), so_, ← hgw]
          rfl)
        have ri : (r : Int) < 4 := by omega
        have r0 : (0 : Int) ≤ (r : Int) := by omega
        have nT := v.nT
        clear hc hX er so_
        as_aux_lemma =>
          go_region_held3 (fun W' => W'.cell? ⟨X.D, 23 + t * 4 + hh, none⟩ = some (.int .u64 x) ∧ W'.cell? ⟨w.heap.size, 2, none⟩ = some (.int .u8 (hh : Int)))
            (first | exact ⟨cr, c2⟩ | exact KD)
            ((go_at_call 125; refine (refcheck_any (by first | exact h1 | exact h1.drew | exact h1.drew.drew) v hk hn t4 hx).mono ?_; rintro z w2 ⟨rfl, h2, q2⟩; rw [CK0.out, CK1.out, CK2.out]
              have KD := (show w2.cell? ⟨X.D, 23 + t * 4 + hh, none⟩ = some (.int .u64 x) ∧ w2.cell? ⟨w.heap.size, 2, none⟩ = some (.int .u8 (hh : Int)) from ⟨(q2.cell (p := ⟨X.D, 23 + t * 4 + hh, none⟩) lD).trans cr, (q2.cell (p := ⟨w.heap.size, 2, none⟩) l0).trans c2⟩)))
          have K2 : Below W.heap.size W w2 := (Below.refl W.heap.size W).drew.trans q2
          have Q3 := (K2.block _ lw).trans Q1
          have Q4 := (K2.block w.heap.size l0).trans Q2
          have B2 := q.trans (K2.mono q.size)
          have l2 : w.heap.size + 1 < w2.heap.size := Nat.lt_of_lt_of_le lw K2.size
          have d0 := cell_of Q4 0 _ rfl
          have d1 := cell_of Q4 1 _ rfl
          have d3 := cell_of Q4 3 _ rfl
          have d5 := cell_of Q4 5 _ rfl
          obtain ⟨g, c, ⟨tA, tn, tc⟩, ep, hp, lg, _, _, _, o3, _⟩ := h2.objAt f2
          replace o3 : w2.cell? ⟨g, i * 5 + 3, none⟩ = some (.slice tA tn tc) := o3
          have c6 := h2.c6
          rw [ep] at c6
          replace c6 : w2.cell? ⟨X.D, 6, none⟩ = some (.slice (some ⟨g, 0, none⟩) m.O.length c) := c6
          rw [HN.out] at c6
          have so := h2.sl i o _ f2 hp
          obtain rfl : M = tn := by
            obtain ⟨Aq, cq, eq_, _⟩ := so.sr.form
            rw [← HM.out]
            injection eq_ with _ e _
            exact e.symm
          have sq := so.form (by omega)
          obtain ⟨gs, cs_, es, _, lgs, _, _, _, hcs⟩ := sq
          have xs := hcs bb 0 _ HBL.out rfl
          rw [HU.out] at xs
          rw [show bb * Fina.kU.m + 0 = bb by simp [Fina.kU]] at xs
          obtain ⟨rfl, rfl⟩ : some ⟨gs, 0, none⟩ = tA ∧ cs_ = tc := by injection es with e1 _ e3; exact ⟨e1.symm, e3.symm⟩
          go_wp2_with fail
          go_quiet (fail)
          have x6 : (w2.drewN nq).cell? ⟨X.D, 6, none⟩ = some (.slice (some ⟨g, 0, none⟩) N c) := c6
          have x3 : (w2.drewN nq).cell? ⟨g, i * 5 + 3, none⟩ = some (.slice (some ⟨gs, 0, none⟩) M cs_) := o3
          have xs' : (w2.drewN nq).cell? ⟨gs, bb, none⟩ = some (.int .u64 u) := xs
          have h3 := h2.keep (Held.below_drewN (Below.refl _ _) nq)
          have K3 := Held.below_drewN K2 nq
          have y0 : (w2.drewN nq).cell? ⟨w.heap.size, 0, none⟩ = some (.int .u8 8) := d0
          have y1 : (w2.drewN nq).cell? ⟨w.heap.size, 1, none⟩ = some (.int .u8 (r : Int)) := d1
          have y5 : (w2.drewN nq).cell? ⟨w.heap.size, 5, none⟩ = some (.int .i64 (bb : Int)) := d5
          clear c6 o3 xs d0 d1 d3 d5 hcs so
          generalize w2.drewN nq = w3 at *
          have cr3 := h3.reg t4 hr4
          have fr := h3.hd.frozen
          have Q3' := (K3.block _ lw).trans Q1
          have Q4' := (K3.block w.heap.size l0).trans Q2
          have B3 := q.trans (K3.mono q.size)
          have l3 : w.heap.size + 1 < w3.heap.size := Nat.lt_of_lt_of_le lw K3.size
          obtain ⟨W2, hW2⟩ : ∃ W2 : World, W2 = (w3.setCell ⟨X.D, 23 + t * 4 + r, none⟩ (.int .u64 u)).drew := ⟨_, rfl⟩
          have h4_ := (h3.putReg (t := t) (r := r) (by omega) (by omega) hr4 u).drew
          have cr4 : W2.cell? ⟨X.D, 23 + t * 4 + r, none⟩ = some (.int .u64 u) := by rw [hW2]; simp [go_sem, cr3]
          rw [← hW2] at h4_
          have k2 : Only [X.D] w3 W2 := by rw [hW2]; exact (Only.put w3 _ _ _ (by simp)).trans (Only.below (Below.refl _ _).drew)
          have Q5 := (k2.block (w.heap.size + 1) l3 (by simp; omega)).trans Q3'
          have Q6 := (k2.block w.heap.size (by omega) (by simp; omega)).trans Q4'
          have a0 := cell_of Q5 0 _ rfl
          have a1 := cell_of Q5 1 _ rfl
          have a2 := cell_of Q5 2 _ rfl
          have fz : ∀ o, W2.frozen? ⟨w.heap.size + 1, o, none⟩ = false := fun o => by simp [World.frozen?, Q5]
          have e1 := cell_of Q6 1 _ rfl
          have h5 := (h4_.ans ⟨_, Q5⟩ (.int .i64 0) (.int .i64 gw) (.slice none 0 0)).drew
          go_wp2_with fail
          go_region
          go_wp2_with fail
          rw [← hW2]
          clear hW2
          go_region
          go_wp2
          refine bodyPost_ret (v := anD 0 gw) (by simp [results, Tryz.results73, go_sem, a0, a1, a2]) rfl ?_
          rw [KK.out]
          have o3 : Only [w.heap.size + 1] W2 (((W2.setCell ⟨w.heap.size + 1, 0, none⟩ (.int .i64 0)).setCell ⟨w.heap.size + 1, 1, none⟩ (.int .i64 gw)).setCell ⟨w.heap.size + 1, 2, none⟩ (.slice none 0 0)).drew := (((Only.put W2 _ _ _ (by simp)).trans (Only.put _ _ _ _ (by simp))).trans (Only.put _ _ _ _ (by simp))).trans (Only.below (Below.refl _ _).drew)
          exact ⟨rfl, DidD.put h5 (only_new (only_new (Only.below B3) k2 (fun x hx => .inl hx)) o3 (fun x hx => by rw [List.mem_singleton.1 hx]; exact .inr (by omega)))⟩
      · obtain ⟨xv, hv0⟩ : ∃ xv, xv = (m.th t).r vv := ⟨_, rfl⟩
        have hxv : wf64 xv := by rw [hv0]; exact v.wreg ht (vv : Int)
        have cv := h1.reg t4 hv4
        rw [← hv0] at cv
        have ev : m.reg t (vv : Int) = xv := by rw [hv0]; rfl
        have vi : (vv : Int) < 4 := by omega
        have v0 : (0 : Int) ≤ (vv : Int) := by omega
        obtain ⟨f, hf0⟩ : ∃ f, (Refs.unV x).s = f := ⟨_, rfl⟩
        have CKF := Lib.hid hf0
        have SV : slD m t ⟨9, r, hh, vv, s, bb, cc⟩ = if m.fits (m.ents t) xv f ≠ 0 then (no (m.fits (m.ents t) xv f), m) else (no 0, ⟨m.F, m.O.map (Mod.putSlot x bb xv), m.A, m.T⟩) := by
          unfold slD storeV
          dsimp only
          rw [if_neg (by decide), er, hX, if_neg (by decide), ev, hf0, Int.toNat_natCast]
        have VAL : ∀ w9, Rm w9 X p m → Calls Tryz.prog 126 #[ptrX X, .int .i64 (t : Int), .int .u64 xv, .int .i64 f] w9 fun z w' => z = .returned (.int .i64 (m.fits (m.ents t) xv f)) ∧ Rm w' X p m ∧ Below w9.heap.size w9 w' := fun w9 h9 => refvalue_any h9 v hk hn t4 hxv f
        obtain ⟨F, hF⟩ : ∃ F, m.fits (m.ents t) xv f = F := ⟨_, rfl⟩
        rw [hF] at SV
        have HF := Lib.hid hF
        clear hc hX er so_ hv0 hf0 ev hF
        as_aux_lemma =>
          go_region_held3 (fun W' => W'.cell? ⟨X.D, 23 + t * 4 + hh, none⟩ = some (.int .u64 x) ∧ W'.cell? ⟨w.heap.size, 2, none⟩ = some (.int .u8 (hh : Int)))
            (first | exact ⟨cr, c2⟩ | exact KD)
            ((go_at_call 125; refine (refcheck_any (by first | exact h1 | exact h1.drew | exact h1.drew.drew) v hk hn t4 hx).mono ?_; rintro z w2 ⟨rfl, h2, q2⟩; rw [CK0.out, CK1.out, CK2.out, CKF.out]
              have KD := (show w2.cell? ⟨X.D, 23 + t * 4 + hh, none⟩ = some (.int .u64 x) ∧ w2.cell? ⟨w.heap.size, 2, none⟩ = some (.int .u8 (hh : Int)) from ⟨(q2.cell (p := ⟨X.D, 23 + t * 4 + hh, none⟩) lD).trans cr, (q2.cell (p := ⟨w.heap.size, 2, none⟩) l0).trans c2⟩)))
          have K2 : Below W.heap.size W w2 := (Below.refl W.heap.size W).drew.trans q2
          have Q3 := (K2.block _ lw).trans Q1
          have Q4 := (K2.block w.heap.size l0).trans Q2
          have B2 := q.trans (K2.mono q.size)
          have l2 : w.heap.size + 1 < w2.heap.size := Nat.lt_of_lt_of_le lw K2.size
          have d0 := cell_of Q4 0 _ rfl
          have d1 := cell_of Q4 1 _ rfl
          have d3 := cell_of Q4 3 _ rfl
          have d5 := cell_of Q4 5 _ rfl
          obtain ⟨g, c, ⟨tA, tn, tc⟩, ep, hp, lg, _, _, _, o3, _⟩ := h2.objAt f2
          replace o3 : w2.cell? ⟨g, i * 5 + 3, none⟩ = some (.slice tA tn tc) := o3
          have c6 := h2.c6
          rw [ep] at c6
          replace c6 : w2.cell? ⟨X.D, 6, none⟩ = some (.slice (some ⟨g, 0, none⟩) m.O.length c) := c6
          rw [HN.out] at c6
          have so := h2.sl i o _ f2 hp
          obtain rfl : M = tn := by
            obtain ⟨Aq, cq, eq_, _⟩ := so.sr.form
            rw [← HM.out]
            injection eq_ with _ e _
            exact e.symm
          have sq := so.form (by omega)
          obtain ⟨gs, cs_, es, _, lgs, _, _, fzs, hcs⟩ := sq
          have xs := hcs bb 0 _ HBL.out rfl
          rw [HU.out] at xs
          rw [show bb * Fina.kU.m + 0 = bb by simp [Fina.kU]] at xs
          obtain ⟨rfl, rfl⟩ : some ⟨gs, 0, none⟩ = tA ∧ cs_ = tc := by injection es with e1 _ e3; exact ⟨e1.symm, e3.symm⟩
          go_wp2_with fail
          go_quiet (fail)
          have x6 : (w2.drewN nq).cell? ⟨X.D, 6, none⟩ = some (.slice (some ⟨g, 0, none⟩) N c) := c6
          have x3 : (w2.drewN nq).cell? ⟨g, i * 5 + 3, none⟩ = some (.slice (some ⟨gs, 0, none⟩) M cs_) := o3
          have xs' : (w2.drewN nq).cell? ⟨gs, bb, none⟩ = some (.int .u64 u) := xs
          have fz' : ∀ o, (w2.drewN nq).frozen? ⟨gs, o, none⟩ = false := fzs
          have h3 := h2.keep (Held.below_drewN (Below.refl _ _) nq)
          have K3 := Held.below_drewN K2 nq
          have y0 : (w2.drewN nq).cell? ⟨w.heap.size, 0, none⟩ = some (.int .u8 9) := d0
          have y3 : (w2.drewN nq).cell? ⟨w.heap.size, 3, none⟩ = some (.int .u8 (vv : Int)) := d3
          have y5 : (w2.drewN nq).cell? ⟨w.heap.size, 5, none⟩ = some (.int .i64 (bb : Int)) := d5
          have lg' : g < (w2.drewN nq).heap.size := lg
          have lgs' : gs < (w2.drewN nq).heap.size := lgs
          clear c6 o3 xs d0 d1 d3 d5 hcs so fzs lg lgs
          generalize w2.drewN nq = w3 at *
          have cr3 := h3.reg t4 hv4
          have ee : ∀ j, (m.th t).r j = (m.th t).r j := fun _ => rfl
          clear ee
          have cv3 : w3.cell? ⟨X.D, 23 + t * 4 + vv, none⟩ = some (.int .u64 xv) := (K3.cell (p := ⟨X.D, 23 + t * 4 + vv, none⟩) lD).trans cv
          clear cr3
          have Q3' := (K3.block _ lw).trans Q1
          have Q4' := (K3.block w.heap.size l0).trans Q2
          have B3 := q.trans (K3.mono q.size)
          have l3 : w.heap.size + 1 < w3.heap.size := Nat.lt_of_lt_of_le lw K3.size
          go_wp2_with fail
          go_region
          go_wp2_with fail
          refine (VAL _ h3.drew).mono ?_
          rintro z w5 ⟨rfl, h5, q5⟩
          rw [HF.out]
          have K5 : Below w3.heap.size w3 w5 := (Below.refl _ w3).drew.trans q5
          have e6 := (K5.cell (p := ⟨X.D, 6, none⟩) (Nat.lt_of_lt_of_le lD K3.size)).trans x6
          have e3 := (K5.cell (p := ⟨g, i * 5 + 3, none⟩) lg').trans x3
          have es := (K5.cell (p := ⟨gs, bb, none⟩) lgs').trans xs'
          have e5 := (K5.cell (p := ⟨w.heap.size, 5, none⟩) (by show w.heap.size < _; omega)).trans y5
          have f5 : ∀ o, w5.frozen? ⟨gs, o, none⟩ = false := fun o => (K5.frozen (p := ⟨gs, o, none⟩) lgs').trans (fz' o)
          have Q5 := (K5.block _ l3).trans Q3'
          have B5 := B3.trans (K5.mono B3.size)
          have l5 : w.heap.size + 1 < w5.heap.size := Nat.lt_of_lt_of_le l3 K5.size
          clear x6 x3 xs' y0 y3 y5 cv3
          by_cases hF0 : F = 0
          · subst hF0
            have KK := Lib.hid (show slD m t ⟨9, r, hh, vv, s, bb, cc⟩ = (no 0, ⟨m.F, m.O.map (Mod.putSlot x bb xv), m.A, m.T⟩) by rw [SV, if_neg (by decide)])
            clear SV
            obtain ⟨W6, hW6⟩ : ∃ W6 : World, W6 = (w5.setCell ⟨gs, bb, none⟩ (.int .u64 xv)).drew := ⟨_, rfl⟩
            have h6 := (h5.putSlot v f2 hp HBL.out (g := gs) (n := M) (c := cs_) rfl xv).drew
            rw [← hW6, F4.out] at h6
            have k6 : Only [gs] w5 W6 := by rw [hW6]; exact (Only.put w5 _ _ _ (by simp)).trans (Only.below (Below.refl _ _).drew)
            have lgw : gs ≠ w.heap.size + 1 := by
              rintro rfl
              have ty := own_isT (h5.sl i o _ f2 hp) (b := w.heap.size + 1) rfl
              exact (ty.ne ⟨_, Q5⟩ (by decide)) rfl
            have Q6 := (k6.block (w.heap.size + 1) l5 (by simp; exact fun e => lgw e.symm)).trans Q5
            have dg : dw X p gs := .inr (.inr (.inr (.inr (.inr ⟨_, List.mem_of_getElem? hp, rfl⟩))))
            have l6 : w.heap.size + 1 < W6.heap.size := Nat.lt_of_lt_of_le l5 k6.size
            go_wp2_with fail
            go_region
            go_wp2_with fail
            rw [← hW6]
            clear hW6
            refine (code_any _ _).mono ?_
            rintro z w7 ⟨rfl, q7⟩
            have h7 := h6.keep q7
            have Q7 := (q7.block (w.heap.size + 1) l6).trans Q6
            have a0 := cell_of Q7 0 _ rfl
            have a1 := cell_of Q7 1 _ rfl
            have a2 := cell_of Q7 2 _ rfl
            have fz : ∀ o, w7.frozen? ⟨w.heap.size + 1, o, none⟩ = false := fun o => by simp [World.frozen?, Q7]
            have h8 := h7.ans ⟨_, Q7⟩ (.int .i64 0) (.int .i64 0) (.slice none 0 0)
            have o8 : Only [w.heap.size + 1] w7 (((w7.setCell ⟨w.heap.size + 1, 0, none⟩ (.int .i64 0)).setCell ⟨w.heap.size + 1, 1, none⟩ (.int .i64 0)).setCell ⟨w.heap.size + 1, 2, none⟩ (.slice none 0 0)) := ((Only.put w7 _ _ _ (by simp)).trans (Only.put _ _ _ _ (by simp))).trans (Only.put _ _ _ _ (by simp))
            go_wp2
            refine bodyPost_ret (v := anD 0 0) (by simp [results, Tryz.results73, go_sem, a0, a1, a2]) rfl ?_
            rw [KK.out]
            exact ⟨rfl, p, h8, Dly.one dg (only_new (only_new (only_new (Only.below B5) k6 (fun x hx => .inl hx)) (Only.below (X := [gs]) q7) (fun x hx => .inl hx)) o8 (fun x hx => by rw [List.mem_singleton.1 hx]; exact .inr (by omega))), fun b hb => .inl hb⟩
          · have KK := Lib.hid (show slD m t ⟨9, r, hh, vv, s, bb, cc⟩ = (no F, m) by rw [SV, if_pos hF0])
            have z1 : (F == 0) = false := by simpa using hF0
            clear SV hF0
            go_wp2_with fail
            refine (code_any _ _).mono ?_
            rintro z w7 ⟨rfl, q7⟩
            have h7 := h5.keep q7
            have Q6 := (q7.block (w.heap.size + 1) l5).trans Q5
            have a0 := cell_of Q6 0 _ rfl
            have a1 := cell_of Q6 1 _ rfl
            have a2 := cell_of Q6 2 _ rfl
            have fz : ∀ o, w7.frozen? ⟨w.heap.size + 1, o, none⟩ = false := fun o => by simp [World.frozen?, Q6]
            have h8 := h7.ans ⟨_, Q6⟩ (.int .i64 (F)) (.int .i64 0) (.slice none 0 0)
            have B8 := (B5).trans (q7.mono (B5).size)
            go_wp2
            refine bodyPost_ret (v := anD (F) 0) (by simp [results, Tryz.results73, go_sem, a0, a1, a2]) rfl ?_
            rw [KK.out]
            exact ⟨rfl, DidD.calm h8 (((B8.setCell (p := ⟨w.heap.size + 1, 0, none⟩) (by show w.heap.size ≤ w.heap.size + 1; omega) _).setCell (p := ⟨w.heap.size + 1, 1, none⟩) (by show w.heap.size ≤ w.heap.size + 1; omega) _).setCell (p := ⟨w.heap.size + 1, 2, none⟩) (by show w.heap.size ≤ w.heap.size + 1; omega) _)⟩
end
end Go.Proofs.YtbpmnjmegffllaaGreat.Mod
