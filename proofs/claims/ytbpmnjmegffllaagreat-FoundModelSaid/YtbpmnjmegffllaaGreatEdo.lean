/-
  The document's Do: what a callee leaves of a local block, and how its answer is told.
-/
import Derived.Test.YtbpmnjmegffllaaGreatDz
import Derived.Deep.DeepCutAuto
namespace Go.Proofs.YtbpmnjmegffllaaGreat.Mod
open Go.ChangeShapes Go.WideShapes Go.ChangeAt Go.RowKit
open Slic Sco
set_option linter.unusedVariables false
set_option linter.unusedSimpArgs false
set_option maxRecDepth 8000
section
variable {w w' W : World} {X : Dx} {p : Dp} {m m' : Mo} {Z : Fx} {k : Nat}
theorem Dly.keepT (h : Rm W X p m) (d : Dly X p W w') {b : Nat} {T : TypeId} (tb : isT W b T) (hT : dT.contains T = false) : w'.heap[b]? = W.heap[b]? := by
  have ne : ∀ t ∈ dT, (T == t) = false := fun t ht => by
    rw [beq_eq_false_iff_ne]
    rintro rfl
    rw [List.contains_iff_mem.2 ht] at hT
    cases hT
  have off : ∀ {g : Nat} {t : TypeId}, isT W g t → t ∈ dT → b ≠ g := fun hg ht => tb.ne hg (ne _ ht)
  obtain ⟨L, hL, q⟩ := d
  refine q.block b tb.lt fun hm => ?_
  rcases hL b hm with e | e | e | e | e | ⟨t, ht, e⟩
  · exact off h.tD (by simp [dT]) e
  · exact off h.rs.tc (by simp [dT]) e
  · exact off h.rs.tx (by simp [dT]) e
  · exact off h.rs.tw (by simp [dT]) e
  · exact off (own_isT h.ob e) (by simp [dT, kO]) rfl
  · obtain ⟨i, hi⟩ := List.getElem?_of_mem ht
    have li : i < m.O.length := by
      have := (List.getElem?_eq_some_iff.1 hi).1
      have := h.ln
      omega
    exact off (own_isT (h.sl i _ t (List.getElem?_eq_getElem li) hi) e) (by simp [dT, Fina.kU]) rfl
theorem did_end {r : Re2} {sd : Tri} {b : Nat} (q : Below w.heap.size w W) (h1 : Rm W X p m) (tq : isT W b anT) (hb : w.heap.size ≤ b) (S : Slic.Own Fina.kI w' 0 (sl3 sd) r.1.said) (sb : ∀ g, Mod.ob sd = some g → W.heap.size ≤ g) (d : DidD X p W r.2 w') :
    DidE X p w r (.returned (.agg #[.int .i64 r.1.c, .int .i64 r.1.n, sl3 sd])) (((w'.setCell ⟨b, 0, none⟩ (.int .i64 r.1.c)).setCell ⟨b, 1, none⟩ (.int .i64 r.1.n)).setCell ⟨b, 2, none⟩ (sl3 sd)) := by
  obtain ⟨p', h', dl, dn⟩ := d
  obtain ⟨cs, hq⟩ := tq
  have hq' := (dl.keepT h1 ⟨cs, hq⟩ (by decide)).trans hq
  have k3 := put3 (W := w') (b := b) (.int .i64 r.1.c) (.int .i64 r.1.n) (sl3 sd)
  obtain ⟨L, hL, qL⟩ := dl
  refine ⟨sd, rfl, own_local S hq' (by decide) k3, fun g e => Nat.le_trans q.size (sb g e), p', h'.ans ⟨cs, hq'⟩ _ _ _, ⟨L, hL, only_new (only_new (Only.below q) qL (fun x hx => .inl hx)) k3 (fun x hx => by rw [List.mem_singleton.1 hx]; exact .inr hb)⟩, fun g e => ?_⟩
  rcases dn g e with e2 | e2
  · exact .inl e2
  · exact .inr (Nat.le_trans q.size e2)
theorem did_plain {c n : Int} {mo : Mo} {b : Nat} (q : Below w.heap.size w W) (h1 : Rm W X p m) (tq : isT W b anT) (hb : w.heap.size ≤ b) (d : DidD X p W mo w') :
    DidE X p w (⟨c, n, []⟩, mo) (.returned (anD c n)) (((w'.setCell ⟨b, 0, none⟩ (.int .i64 c)).setCell ⟨b, 1, none⟩ (.int .i64 n)).setCell ⟨b, 2, none⟩ (.slice none 0 0)) :=
  did_end (r := (⟨c, n, []⟩, mo)) (sd := (none, 0, 0)) q h1 tq hb (Slic.Own.nil _ _) (fun g e => by cases e) d
end
end Go.Proofs.YtbpmnjmegffllaaGreat.Mod

namespace Go.Proofs.YtbpmnjmegffllaaGreat.Mod
open Go.ChangeShapes Go.WideShapes Go.ChangeAt Go.RowKit
open Slic Sco
set_option linter.unusedVariables false
set_option linter.unusedSimpArgs false
set_option maxRecDepth 8000
section
variable {w w' : World} {X : Dx} {p : Dp} {m m' : Mo} {Z : Fx} {k : Nat}
theorem said_alloc (m : Mo) (t : Nat) (c : Ca) : (allocV m t c).1.said = [] := by
  unfold allocV give
  split
  · rfl
  · split <;> rfl
theorem said_slot (m : Mo) (t : Nat) (c : Ca) : (slD m t c).1.said = [] := by
  unfold slD loadV storeV give
  split
  · split <;> rfl
  · split
    · rfl
    · split <;> rfl
set_option maxHeartbeats 4000000 in
theorem refdo7 (h : Rm w X p m) (v : Iv Z k m) (hk : k ≤ 10000) (hn : Z.n = X.n) {t : Nat} (ht : t < Z.nt) {r hh vv a b cc : Int} (hr : 0 ≤ r) (hh0 : 0 ≤ hh) (hv0 : 0 ≤ vv) (hb : badC ⟨7, r, hh, vv, a, b, cc⟩ = false) :
    Calls Tryz.prog 23 #[ptrX X, .int .i64 (t : Int), .agg #[.int .u8 7, .int .u8 r, .int .u8 hh, .int .u8 vv, .int .i64 a, .int .i64 b, .int .i64 cc]] w (DidE X p w (doM X.FF m t ⟨7, r, hh, vv, a, b, cc⟩)) := by
  have n8 := v.n8
  have nt4 := v.nt.2
  have t4 : t < 4 := by omega
  have ti : (t : Int) < 4 := by omega
  have t0 : (0 : Int) ≤ (t : Int) := by omega
  obtain ⟨r, rfl⟩ : ∃ n : Nat, r = (n : Int) := ⟨r.toNat, by omega⟩
  have r4 : r < 4 := by
    simp [badC, badR] at hb
    omega
  obtain ⟨W, hW⟩ : ∃ W : World, W = (w.alloc (.cells #[.int .u8 7, .int .u8 r, .int .u8 hh, .int .u8 vv, .int .i64 a, .int .i64 b, .int .i64 cc] 35)).alloc (.cells #[.int .i64 0, .int .i64 0, .slice none 0 0] anT) := ⟨_, rfl⟩
  have Q0 := heap_alloc_new w (.cells #[.int .u8 7, .int .u8 r, .int .u8 hh, .int .u8 vv, .int .i64 a, .int .i64 b, .int .i64 cc] 35)
  have B0 := below_one w (.cells #[.int .u8 7, .int .u8 r, .int .u8 hh, .int .u8 vv, .int .i64 a, .int .i64 b, .int .i64 cc] 35)
  have h1 := (h.alloc (.cells #[.int .u8 7, .int .u8 r, .int .u8 hh, .int .u8 vv, .int .i64 a, .int .i64 b, .int .i64 cc] 35)).alloc (.cells #[.int .i64 0, .int .i64 0, .slice none 0 0] anT)
  have q : Below w.heap.size w W := by rw [hW]; exact B0.trans ((below_one _ _).mono B0.size)
  rw [← hW] at h1
  go_enter Tryz.func23, Tryz.ntmps23
  have Q1 := (heap_alloc_new (w.alloc (.cells #[.int .u8 7, .int .u8 r, .int .u8 hh, .int .u8 vv, .int .i64 a, .int .i64 b, .int .i64 cc] 35)) (.cells #[.int .i64 0, .int .i64 0, .slice none 0 0] anT))
  have Q2 := ((below_one (w.alloc (.cells #[.int .u8 7, .int .u8 r, .int .u8 hh, .int .u8 vv, .int .i64 a, .int .i64 b, .int .i64 cc] 35)) (.cells #[.int .i64 0, .int .i64 0, .slice none 0 0] anT)).block w.heap.size (by rw [World.size_alloc]; omega)).trans Q0
  rw [World.size_alloc] at Q1
  rw [← hW] at Q1 Q2
  have lw : w.heap.size + 1 < W.heap.size := by rw [hW, World.size_alloc, World.size_alloc]; omega
  have lDw := h.hd.lt
  have l0 : w.heap.size < W.heap.size := by omega
  have BC := Lib.hid hb
  have b0 := cell_of Q2 0 _ rfl
  have b1 := cell_of Q2 1 _ rfl
  have b2 := cell_of Q2 2 _ rfl
  have b3 := cell_of Q2 3 _ rfl
  have b4 := cell_of Q2 4 _ rfl
  have b5 := cell_of Q2 5 _ rfl
  have b6 := cell_of Q2 6 _ rfl
  clear Q0 B0 hb
  go_upto_region 1 with (fail)
  rw [← hW]
  clear hW
  go_wp2_with fail
  refine (regs12_any _ ⟨7, r, hh, vv, a, b, cc⟩).mono ?_
  rintro z w2 ⟨rfl, k2⟩
  rw [BC.out]
  have h2 := h1.keep k2
  have Q12 := (k2.block _ lw).trans Q1
  have Q22 := (k2.block w.heap.size l0).trans Q2
  have B2 := q.trans (k2.mono q.size)
  have c0 := cell_of Q22 0 _ rfl
  have c1 := cell_of Q22 1 _ rfl
  have c2 := cell_of Q22 2 _ rfl
  have c3 := cell_of Q22 3 _ rfl
  have c4 := cell_of Q22 4 _ rfl
  have c5 := cell_of Q22 5 _ rfl
  have c6 := cell_of Q22 6 _ rfl
  have l2 : w.heap.size + 1 < w2.heap.size := Nat.lt_of_lt_of_le lw k2.size
  clear b0 b1 b2 b3 b4 b5 b6
  obtain ⟨R, hR⟩ : ∃ R, allocV m t ⟨7, r, hh, vv, a, b, cc⟩ = R := ⟨_, rfl⟩
  have hs := said_alloc m t ⟨7, r, hh, vv, a, b, cc⟩
  rw [hR] at hs
  obtain ⟨⟨rc, rn, rs⟩, rm_⟩ := R
  dsimp only at hs
  subst hs
  have KK := Lib.hid (show doM X.FF m t ⟨7, r, hh, vv, a, b, cc⟩ = (⟨rc, rn, []⟩, rm_) by unfold doM; rw [BC.out]; simpa using hR)
  have CT := fun w9 (h9 : Rm w9 X p m) => refalloc_any h9 v hk hn ht (op := 7) (hh := hh) (vv := vv) (a := a) (b := b) (cc := cc) r4
  rw [hR] at CT
  clear hR
  go_wp2_with fail
  refine (CT _ h2).mono ?_
  rintro z w3 ⟨rfl, dp⟩
  have dl := dp.choose_spec
  have Q13 := (dl.2.1.keepT h2 ⟨_, Q12⟩ (by decide)).trans Q12
  have a0 := cell_of Q13 0 _ rfl
  have a1 := cell_of Q13 1 _ rfl
  have a2 := cell_of Q13 2 _ rfl
  have fz : ∀ o, w3.frozen? ⟨w.heap.size + 1, o, none⟩ = false := fun o => by simp [World.frozen?, Q13]
  have END := did_plain (c := rc) (n := rn) (mo := rm_) B2 h2 ⟨_, Q12⟩ (Nat.le_succ _) dp
  go_wp2
  refine bodyPost_ret (v := anD (rc) (rn)) (by simp [results, Tryz.results23, go_sem, a0, a1, a2]) rfl ?_
  rw [KK.out]
  exact END
theorem said_enter (m : Mo) (t : Nat) (i : Int) : (enterV m t i).1.said = [] := by
  unfold enterV
  split
  · rfl
  · split
    · rfl
    · split <;> rfl
theorem said_in (m : Mo) (t : Nat) (i : Int) : (inV m t i).1.said = [] := by
  unfold inV
  split
  · rfl
  · split
    · rfl
    · split <;> rfl
theorem said_gate (m : Mo) (t : Nat) (c : Ca) : (gaD m t c).1.said = [] := by
  unfold gaD lookV gateV give
  split
  · split <;> rfl
  · split
    · rfl
    · split <;> rfl
set_option maxHeartbeats 4000000 in
theorem refdo8 (h : Rm w X p m) (v : Iv Z k m) (hk : k ≤ 10000) (hn : Z.n = X.n) {t : Nat} (ht : t < Z.nt) {r hh vv a b cc : Int} (hr : 0 ≤ r) (hh0 : 0 ≤ hh) (hv0 : 0 ≤ vv) (hb : badC ⟨8, r, hh, vv, a, b, cc⟩ = false) :
    Calls Tryz.prog 23 #[ptrX X, .int .i64 (t : Int), .agg #[.int .u8 8, .int .u8 r, .int .u8 hh, .int .u8 vv, .int .i64 a, .int .i64 b, .int .i64 cc]] w (DidE X p w (doM X.FF m t ⟨8, r, hh, vv, a, b, cc⟩)) := by
  have n8 := v.n8
  have nt4 := v.nt.2
  have t4 : t < 4 := by omega
  have ti : (t : Int) < 4 := by omega
  have t0 : (0 : Int) ≤ (t : Int) := by omega
  obtain ⟨r, rfl⟩ : ∃ n : Nat, r = (n : Int) := ⟨r.toNat, by omega⟩
  obtain ⟨hh, rfl⟩ : ∃ n : Nat, hh = (n : Int) := ⟨hh.toNat, by omega⟩
  obtain ⟨vv, rfl⟩ : ∃ n : Nat, vv = (n : Int) := ⟨vv.toNat, by omega⟩
  have r4 : r < 4 := by
    simp [badC, badR] at hb
    omega
  have h4 : hh < 4 := by
    simp [badC, badR] at hb
    omega
  obtain ⟨W, hW⟩ : ∃ W : World, W = (w.alloc (.cells #[.int .u8 8, .int .u8 r, .int .u8 hh, .int .u8 vv, .int .i64 a, .int .i64 b, .int .i64 cc] 35)).alloc (.cells #[.int .i64 0, .int .i64 0, .slice none 0 0] anT) := ⟨_, rfl⟩
  have Q0 := heap_alloc_new w (.cells #[.int .u8 8, .int .u8 r, .int .u8 hh, .int .u8 vv, .int .i64 a, .int .i64 b, .int .i64 cc] 35)
  have B0 := below_one w (.cells #[.int .u8 8, .int .u8 r, .int .u8 hh, .int .u8 vv, .int .i64 a, .int .i64 b, .int .i64 cc] 35)
  have h1 := (h.alloc (.cells #[.int .u8 8, .int .u8 r, .int .u8 hh, .int .u8 vv, .int .i64 a, .int .i64 b, .int .i64 cc] 35)).alloc (.cells #[.int .i64 0, .int .i64 0, .slice none 0 0] anT)
  have q : Below w.heap.size w W := by rw [hW]; exact B0.trans ((below_one _ _).mono B0.size)
  rw [← hW] at h1
  go_enter Tryz.func23, Tryz.ntmps23
  have Q1 := (heap_alloc_new (w.alloc (.cells #[.int .u8 8, .int .u8 r, .int .u8 hh, .int .u8 vv, .int .i64 a, .int .i64 b, .int .i64 cc] 35)) (.cells #[.int .i64 0, .int .i64 0, .slice none 0 0] anT))
  have Q2 := ((below_one (w.alloc (.cells #[.int .u8 8, .int .u8 r, .int .u8 hh, .int .u8 vv, .int .i64 a, .int .i64 b, .int .i64 cc] 35)) (.cells #[.int .i64 0, .int .i64 0, .slice none 0 0] anT)).block w.heap.size (by rw [World.size_alloc]; omega)).trans Q0
  rw [World.size_alloc] at Q1
  rw [← hW] at Q1 Q2
  have lw : w.heap.size + 1 < W.heap.size := by rw [hW, World.size_alloc, World.size_alloc]; omega
  have lDw := h.hd.lt
  have l0 : w.heap.size < W.heap.size := by omega
  have BC := Lib.hid hb
  have b0 := cell_of Q2 0 _ rfl
  have b1 := cell_of Q2 1 _ rfl
  have b2 := cell_of Q2 2 _ rfl
  have b3 := cell_of Q2 3 _ rfl
  have b4 := cell_of Q2 4 _ rfl
  have b5 := cell_of Q2 5 _ rfl
  have b6 := cell_of Q2 6 _ rfl
  clear Q0 B0 hb
  go_upto_region 1 with (fail)
  rw [← hW]
  clear hW
  go_wp2_with fail
  refine (regs12_any _ ⟨8, r, hh, vv, a, b, cc⟩).mono ?_
  rintro z w2 ⟨rfl, k2⟩
  rw [BC.out]
  have h2 := h1.keep k2
  have Q12 := (k2.block _ lw).trans Q1
  have Q22 := (k2.block w.heap.size l0).trans Q2
  have B2 := q.trans (k2.mono q.size)
  have c0 := cell_of Q22 0 _ rfl
  have c1 := cell_of Q22 1 _ rfl
  have c2 := cell_of Q22 2 _ rfl
  have c3 := cell_of Q22 3 _ rfl
  have c4 := cell_of Q22 4 _ rfl
  have c5 := cell_of Q22 5 _ rfl
  have c6 := cell_of Q22 6 _ rfl
  have l2 : w.heap.size + 1 < w2.heap.size := Nat.lt_of_lt_of_le lw k2.size
  clear b0 b1 b2 b3 b4 b5 b6
  obtain ⟨R, hR⟩ : ∃ R, slD m t ⟨8, r, hh, vv, a, b, cc⟩ = R := ⟨_, rfl⟩
  have hs := said_slot m t ⟨8, r, hh, vv, a, b, cc⟩
  rw [hR] at hs
  obtain ⟨⟨rc, rn, rs⟩, rm_⟩ := R
  dsimp only at hs
  subst hs
  have KK := Lib.hid (show doM X.FF m t ⟨8, r, hh, vv, a, b, cc⟩ = (⟨rc, rn, []⟩, rm_) by unfold doM; rw [BC.out]; simpa [slD] using hR)
  have CT := fun w9 (h9 : Rm w9 X p m) => refslot_any h9 v hk hn ht (op := 8) (s := a) (b := b) (cc := cc) (r := r) (vv := vv) h4 (.inl ⟨rfl, r4⟩)
  rw [hR] at CT
  clear hR
  go_wp2_with fail
  refine (CT _ h2).mono ?_
  rintro z w3 ⟨rfl, dp⟩
  have dl := dp.choose_spec
  have Q13 := (dl.2.1.keepT h2 ⟨_, Q12⟩ (by decide)).trans Q12
  have a0 := cell_of Q13 0 _ rfl
  have a1 := cell_of Q13 1 _ rfl
  have a2 := cell_of Q13 2 _ rfl
  have fz : ∀ o, w3.frozen? ⟨w.heap.size + 1, o, none⟩ = false := fun o => by simp [World.frozen?, Q13]
  have END := did_plain (c := rc) (n := rn) (mo := rm_) B2 h2 ⟨_, Q12⟩ (Nat.le_succ _) dp
  go_wp2
  refine bodyPost_ret (v := anD (rc) (rn)) (by simp [results, Tryz.results23, go_sem, a0, a1, a2]) rfl ?_
  rw [KK.out]
  exact END
set_option maxHeartbeats 4000000 in
theorem refdo9 (h : Rm w X p m) (v : Iv Z k m) (hk : k ≤ 10000) (hn : Z.n = X.n) {t : Nat} (ht : t < Z.nt) {r hh vv a b cc : Int} (hr : 0 ≤ r) (hh0 : 0 ≤ hh) (hv0 : 0 ≤ vv) (hb : badC ⟨9, r, hh, vv, a, b, cc⟩ = false) :
    Calls Tryz.prog 23 #[ptrX X, .int .i64 (t : Int), .agg #[.int .u8 9, .int .u8 r, .int .u8 hh, .int .u8 vv, .int .i64 a, .int .i64 b, .int .i64 cc]] w (DidE X p w (doM X.FF m t ⟨9, r, hh, vv, a, b, cc⟩)) := by
  have n8 := v.n8
  have nt4 := v.nt.2
  have t4 : t < 4 := by omega
  have ti : (t : Int) < 4 := by omega
  have t0 : (0 : Int) ≤ (t : Int) := by omega
  obtain ⟨r, rfl⟩ : ∃ n : Nat, r = (n : Int) := ⟨r.toNat, by omega⟩
  obtain ⟨hh, rfl⟩ : ∃ n : Nat, hh = (n : Int) := ⟨hh.toNat, by omega⟩
  obtain ⟨vv, rfl⟩ : ∃ n : Nat, vv = (n : Int) := ⟨vv.toNat, by omega⟩
  have v4 : vv < 4 := by
    simp [badC, badR] at hb
    omega
  have h4 : hh < 4 := by
    simp [badC, badR] at hb
    omega
  obtain ⟨W, hW⟩ : ∃ W : World, W = (w.alloc (.cells #[.int .u8 9, .int .u8 r, .int .u8 hh, .int .u8 vv, .int .i64 a, .int .i64 b, .int .i64 cc] 35)).alloc (.cells #[.int .i64 0, .int .i64 0, .slice none 0 0] anT) := ⟨_, rfl⟩
  have Q0 := heap_alloc_new w (.cells #[.int .u8 9, .int .u8 r, .int .u8 hh, .int .u8 vv, .int .i64 a, .int .i64 b, .int .i64 cc] 35)
  have B0 := below_one w (.cells #[.int .u8 9, .int .u8 r, .int .u8 hh, .int .u8 vv, .int .i64 a, .int .i64 b, .int .i64 cc] 35)
  have h1 := (h.alloc (.cells #[.int .u8 9, .int .u8 r, .int .u8 hh, .int .u8 vv, .int .i64 a, .int .i64 b, .int .i64 cc] 35)).alloc (.cells #[.int .i64 0, .int .i64 0, .slice none 0 0] anT)
  have q : Below w.heap.size w W := by rw [hW]; exact B0.trans ((below_one _ _).mono B0.size)
  rw [← hW] at h1
  go_enter Tryz.func23, Tryz.ntmps23
  have Q1 := (heap_alloc_new (w.alloc (.cells #[.int .u8 9, .int .u8 r, .int .u8 hh, .int .u8 vv, .int .i64 a, .int .i64 b, .int .i64 cc] 35)) (.cells #[.int .i64 0, .int .i64 0, .slice none 0 0] anT))
  have Q2 := ((below_one (w.alloc (.cells #[.int .u8 9, .int .u8 r, .int .u8 hh, .int .u8 vv, .int .i64 a, .int .i64 b, .int .i64 cc] 35)) (.cells #[.int .i64 0, .int .i64 0, .slice none 0 0] anT)).block w.heap.size (by rw [World.size_alloc]; omega)).trans Q0
  rw [World.size_alloc] at Q1
  rw [← hW] at Q1 Q2
  have lw : w.heap.size + 1 < W.heap.size := by rw [hW, World.size_alloc, World.size_alloc]; omega
  have lDw := h.hd.lt
  have l0 : w.heap.size < W.heap.size := by omega
  have BC := Lib.hid hb
  have b0 := cell_of Q2 0 _ rfl
  have b1 := cell_of Q2 1 _ rfl
  have b2 := cell_of Q2 2 _ rfl
  have b3 := cell_of Q2 3 _ rfl
  have b4 := cell_of Q2 4 _ rfl
  have b5 := cell_of Q2 5 _ rfl
  have b6 := cell_of Q2 6 _ rfl
  clear Q0 B0 hb
  go_upto_region 1 with (fail)
  rw [← hW]
  clear hW
  go_wp2_with fail
  refine (regs12_any _ ⟨9, r, hh, vv, a, b, cc⟩).mono ?_
  rintro z w2 ⟨rfl, k2⟩
  rw [BC.out]
  have h2 := h1.keep k2
  have Q12 := (k2.block _ lw).trans Q1
  have Q22 := (k2.block w.heap.size l0).trans Q2
  have B2 := q.trans (k2.mono q.size)
  have c0 := cell_of Q22 0 _ rfl
  have c1 := cell_of Q22 1 _ rfl
  have c2 := cell_of Q22 2 _ rfl
  have c3 := cell_of Q22 3 _ rfl
  have c4 := cell_of Q22 4 _ rfl
  have c5 := cell_of Q22 5 _ rfl
  have c6 := cell_of Q22 6 _ rfl
  have l2 : w.heap.size + 1 < w2.heap.size := Nat.lt_of_lt_of_le lw k2.size
  clear b0 b1 b2 b3 b4 b5 b6
  obtain ⟨R, hR⟩ : ∃ R, slD m t ⟨9, r, hh, vv, a, b, cc⟩ = R := ⟨_, rfl⟩
  have hs := said_slot m t ⟨9, r, hh, vv, a, b, cc⟩
  rw [hR] at hs
  obtain ⟨⟨rc, rn, rs⟩, rm_⟩ := R
  dsimp only at hs
  subst hs
  have KK := Lib.hid (show doM X.FF m t ⟨9, r, hh, vv, a, b, cc⟩ = (⟨rc, rn, []⟩, rm_) by unfold doM; rw [BC.out]; simpa [slD] using hR)
  have CT := fun w9 (h9 : Rm w9 X p m) => refslot_any h9 v hk hn ht (op := 9) (s := a) (b := b) (cc := cc) (r := r) (vv := vv) h4 (.inr ⟨rfl, v4⟩)
  rw [hR] at CT
  clear hR
  go_wp2_with fail
  refine (CT _ h2).mono ?_
  rintro z w3 ⟨rfl, dp⟩
  have dl := dp.choose_spec
  have Q13 := (dl.2.1.keepT h2 ⟨_, Q12⟩ (by decide)).trans Q12
  have a0 := cell_of Q13 0 _ rfl
  have a1 := cell_of Q13 1 _ rfl
  have a2 := cell_of Q13 2 _ rfl
  have fz : ∀ o, w3.frozen? ⟨w.heap.size + 1, o, none⟩ = false := fun o => by simp [World.frozen?, Q13]
  have END := did_plain (c := rc) (n := rn) (mo := rm_) B2 h2 ⟨_, Q12⟩ (Nat.le_succ _) dp
  go_wp2
  refine bodyPost_ret (v := anD (rc) (rn)) (by simp [results, Tryz.results23, go_sem, a0, a1, a2]) rfl ?_
  rw [KK.out]
  exact END
set_option maxHeartbeats 4000000 in
theorem refdo4 (h : Rm w X p m) (v : Iv Z k m) (hk : k ≤ 10000) (hn : Z.n = X.n) {t : Nat} (ht : t < Z.nt) {r hh vv a b cc : Int} (hr : 0 ≤ r) (hh0 : 0 ≤ hh) (hv0 : 0 ≤ vv) (hb : badC ⟨4, r, hh, vv, a, b, cc⟩ = false) :
    Calls Tryz.prog 23 #[ptrX X, .int .i64 (t : Int), .agg #[.int .u8 4, .int .u8 r, .int .u8 hh, .int .u8 vv, .int .i64 a, .int .i64 b, .int .i64 cc]] w (DidE X p w (doM X.FF m t ⟨4, r, hh, vv, a, b, cc⟩)) := by
  have n8 := v.n8
  have nt4 := v.nt.2
  have t4 : t < 4 := by omega
  have ti : (t : Int) < 4 := by omega
  have t0 : (0 : Int) ≤ (t : Int) := by omega
  obtain ⟨W, hW⟩ : ∃ W : World, W = (w.alloc (.cells #[.int .u8 4, .int .u8 r, .int .u8 hh, .int .u8 vv, .int .i64 a, .int .i64 b, .int .i64 cc] 35)).alloc (.cells #[.int .i64 0, .int .i64 0, .slice none 0 0] anT) := ⟨_, rfl⟩
  have Q0 := heap_alloc_new w (.cells #[.int .u8 4, .int .u8 r, .int .u8 hh, .int .u8 vv, .int .i64 a, .int .i64 b, .int .i64 cc] 35)
  have B0 := below_one w (.cells #[.int .u8 4, .int .u8 r, .int .u8 hh, .int .u8 vv, .int .i64 a, .int .i64 b, .int .i64 cc] 35)
  have h1 := (h.alloc (.cells #[.int .u8 4, .int .u8 r, .int .u8 hh, .int .u8 vv, .int .i64 a, .int .i64 b, .int .i64 cc] 35)).alloc (.cells #[.int .i64 0, .int .i64 0, .slice none 0 0] anT)
  have q : Below w.heap.size w W := by rw [hW]; exact B0.trans ((below_one _ _).mono B0.size)
  rw [← hW] at h1
  go_enter Tryz.func23, Tryz.ntmps23
  have Q1 := (heap_alloc_new (w.alloc (.cells #[.int .u8 4, .int .u8 r, .int .u8 hh, .int .u8 vv, .int .i64 a, .int .i64 b, .int .i64 cc] 35)) (.cells #[.int .i64 0, .int .i64 0, .slice none 0 0] anT))
  have Q2 := ((below_one (w.alloc (.cells #[.int .u8 4, .int .u8 r, .int .u8 hh, .int .u8 vv, .int .i64 a, .int .i64 b, .int .i64 cc] 35)) (.cells #[.int .i64 0, .int .i64 0, .slice none 0 0] anT)).block w.heap.size (by rw [World.size_alloc]; omega)).trans Q0
  rw [World.size_alloc] at Q1
  rw [← hW] at Q1 Q2
  have lw : w.heap.size + 1 < W.heap.size := by rw [hW, World.size_alloc, World.size_alloc]; omega
  have lDw := h.hd.lt
  have l0 : w.heap.size < W.heap.size := by omega
  have BC := Lib.hid hb
  have b0 := cell_of Q2 0 _ rfl
  have b1 := cell_of Q2 1 _ rfl
  have b2 := cell_of Q2 2 _ rfl
  have b3 := cell_of Q2 3 _ rfl
  have b4 := cell_of Q2 4 _ rfl
  have b5 := cell_of Q2 5 _ rfl
  have b6 := cell_of Q2 6 _ rfl
  clear Q0 B0 hb
  go_upto_region 1 with (fail)
  rw [← hW]
  clear hW
  go_wp2_with fail
  refine (regs12_any _ ⟨4, r, hh, vv, a, b, cc⟩).mono ?_
  rintro z w2 ⟨rfl, k2⟩
  rw [BC.out]
  have h2 := h1.keep k2
  have Q12 := (k2.block _ lw).trans Q1
  have Q22 := (k2.block w.heap.size l0).trans Q2
  have B2 := q.trans (k2.mono q.size)
  have c0 := cell_of Q22 0 _ rfl
  have c1 := cell_of Q22 1 _ rfl
  have c2 := cell_of Q22 2 _ rfl
  have c3 := cell_of Q22 3 _ rfl
  have c4 := cell_of Q22 4 _ rfl
  have c5 := cell_of Q22 5 _ rfl
  have c6 := cell_of Q22 6 _ rfl
  have l2 : w.heap.size + 1 < w2.heap.size := Nat.lt_of_lt_of_le lw k2.size
  clear b0 b1 b2 b3 b4 b5 b6
  obtain ⟨R, hR⟩ : ∃ R, enterV m t a = R := ⟨_, rfl⟩
  have hs := said_enter m t a
  rw [hR] at hs
  obtain ⟨⟨rc, rn, rs⟩, rm_⟩ := R
  dsimp only at hs
  subst hs
  have KK := Lib.hid (show doM X.FF m t ⟨4, r, hh, vv, a, b, cc⟩ = (⟨rc, rn, []⟩, rm_) by unfold doM; rw [BC.out]; simpa using hR)
  have CT := fun w9 (h9 : Rm w9 X p m) => refenter12_any h9 v hn ht (r := r) (hh := hh) (vv := vv) (s := a) (b := b) (cc := cc)
  rw [hR] at CT
  clear hR
  go_wp2_with fail
  refine (CT _ h2).mono ?_
  rintro z w3 ⟨rfl, dp⟩
  have dl := dp.choose_spec
  have Q13 := (dl.2.1.keepT h2 ⟨_, Q12⟩ (by decide)).trans Q12
  have a0 := cell_of Q13 0 _ rfl
  have a1 := cell_of Q13 1 _ rfl
  have a2 := cell_of Q13 2 _ rfl
  have fz : ∀ o, w3.frozen? ⟨w.heap.size + 1, o, none⟩ = false := fun o => by simp [World.frozen?, Q13]
  have END := did_plain (c := rc) (n := rn) (mo := rm_) B2 h2 ⟨_, Q12⟩ (Nat.le_succ _) dp
  go_wp2
  refine bodyPost_ret (v := anD (rc) (rn)) (by simp [results, Tryz.results23, go_sem, a0, a1, a2]) rfl ?_
  rw [KK.out]
  exact END
set_option maxHeartbeats 4000000 in
theorem refdo6 (h : Rm w X p m) (v : Iv Z k m) (hk : k ≤ 10000) (hn : Z.n = X.n) {t : Nat} (ht : t < Z.nt) {r hh vv a b cc : Int} (hr : 0 ≤ r) (hh0 : 0 ≤ hh) (hv0 : 0 ≤ vv) (hb : badC ⟨6, r, hh, vv, a, b, cc⟩ = false) :
    Calls Tryz.prog 23 #[ptrX X, .int .i64 (t : Int), .agg #[.int .u8 6, .int .u8 r, .int .u8 hh, .int .u8 vv, .int .i64 a, .int .i64 b, .int .i64 cc]] w (DidE X p w (doM X.FF m t ⟨6, r, hh, vv, a, b, cc⟩)) := by
  have n8 := v.n8
  have nt4 := v.nt.2
  have t4 : t < 4 := by omega
  have ti : (t : Int) < 4 := by omega
  have t0 : (0 : Int) ≤ (t : Int) := by omega
  obtain ⟨W, hW⟩ : ∃ W : World, W = (w.alloc (.cells #[.int .u8 6, .int .u8 r, .int .u8 hh, .int .u8 vv, .int .i64 a, .int .i64 b, .int .i64 cc] 35)).alloc (.cells #[.int .i64 0, .int .i64 0, .slice none 0 0] anT) := ⟨_, rfl⟩
  have Q0 := heap_alloc_new w (.cells #[.int .u8 6, .int .u8 r, .int .u8 hh, .int .u8 vv, .int .i64 a, .int .i64 b, .int .i64 cc] 35)
  have B0 := below_one w (.cells #[.int .u8 6, .int .u8 r, .int .u8 hh, .int .u8 vv, .int .i64 a, .int .i64 b, .int .i64 cc] 35)
  have h1 := (h.alloc (.cells #[.int .u8 6, .int .u8 r, .int .u8 hh, .int .u8 vv, .int .i64 a, .int .i64 b, .int .i64 cc] 35)).alloc (.cells #[.int .i64 0, .int .i64 0, .slice none 0 0] anT)
  have q : Below w.heap.size w W := by rw [hW]; exact B0.trans ((below_one _ _).mono B0.size)
  rw [← hW] at h1
  go_enter Tryz.func23, Tryz.ntmps23
  have Q1 := (heap_alloc_new (w.alloc (.cells #[.int .u8 6, .int .u8 r, .int .u8 hh, .int .u8 vv, .int .i64 a, .int .i64 b, .int .i64 cc] 35)) (.cells #[.int .i64 0, .int .i64 0, .slice none 0 0] anT))
  have Q2 := ((below_one (w.alloc (.cells #[.int .u8 6, .int .u8 r, .int .u8 hh, .int .u8 vv, .int .i64 a, .int .i64 b, .int .i64 cc] 35)) (.cells #[.int .i64 0, .int .i64 0, .slice none 0 0] anT)).block w.heap.size (by rw [World.size_alloc]; omega)).trans Q0
  rw [World.size_alloc] at Q1
  rw [← hW] at Q1 Q2
  have lw : w.heap.size + 1 < W.heap.size := by rw [hW, World.size_alloc, World.size_alloc]; omega
  have lDw := h.hd.lt
  have l0 : w.heap.size < W.heap.size := by omega
  have BC := Lib.hid hb
  have b0 := cell_of Q2 0 _ rfl
  have b1 := cell_of Q2 1 _ rfl
  have b2 := cell_of Q2 2 _ rfl
  have b3 := cell_of Q2 3 _ rfl
  have b4 := cell_of Q2 4 _ rfl
  have b5 := cell_of Q2 5 _ rfl
  have b6 := cell_of Q2 6 _ rfl
  clear Q0 B0 hb
  go_upto_region 1 with (fail)
  rw [← hW]
  clear hW
  go_wp2_with fail
  refine (regs12_any _ ⟨6, r, hh, vv, a, b, cc⟩).mono ?_
  rintro z w2 ⟨rfl, k2⟩
  rw [BC.out]
  have h2 := h1.keep k2
  have Q12 := (k2.block _ lw).trans Q1
  have Q22 := (k2.block w.heap.size l0).trans Q2
  have B2 := q.trans (k2.mono q.size)
  have c0 := cell_of Q22 0 _ rfl
  have c1 := cell_of Q22 1 _ rfl
  have c2 := cell_of Q22 2 _ rfl
  have c3 := cell_of Q22 3 _ rfl
  have c4 := cell_of Q22 4 _ rfl
  have c5 := cell_of Q22 5 _ rfl
  have c6 := cell_of Q22 6 _ rfl
  have l2 : w.heap.size + 1 < w2.heap.size := Nat.lt_of_lt_of_le lw k2.size
  clear b0 b1 b2 b3 b4 b5 b6
  obtain ⟨R, hR⟩ : ∃ R, inV m t a = R := ⟨_, rfl⟩
  have hs := said_in m t a
  rw [hR] at hs
  obtain ⟨⟨rc, rn, rs⟩, rm_⟩ := R
  dsimp only at hs
  subst hs
  have KK := Lib.hid (show doM X.FF m t ⟨6, r, hh, vv, a, b, cc⟩ = (⟨rc, rn, []⟩, rm_) by unfold doM; rw [BC.out]; simpa using hR)
  have CT := fun w9 (h9 : Rm w9 X p m) => refin_any h9 v hn ht (r := r) (hh := hh) (vv := vv) (s := a) (b := b) (cc := cc)
  rw [hR] at CT
  clear hR
  go_wp2_with fail
  refine (CT _ h2).mono ?_
  rintro z w3 ⟨rfl, dp⟩
  have dl := dp.choose_spec
  have Q13 := (dl.2.1.keepT h2 ⟨_, Q12⟩ (by decide)).trans Q12
  have a0 := cell_of Q13 0 _ rfl
  have a1 := cell_of Q13 1 _ rfl
  have a2 := cell_of Q13 2 _ rfl
  have fz : ∀ o, w3.frozen? ⟨w.heap.size + 1, o, none⟩ = false := fun o => by simp [World.frozen?, Q13]
  have END := did_plain (c := rc) (n := rn) (mo := rm_) B2 h2 ⟨_, Q12⟩ (Nat.le_succ _) dp
  go_wp2
  refine bodyPost_ret (v := anD (rc) (rn)) (by simp [results, Tryz.results23, go_sem, a0, a1, a2]) rfl ?_
  rw [KK.out]
  exact END
set_option maxHeartbeats 4000000 in
theorem refdo0 (h : Rm w X p m) (v : Iv Z k m) (hk : k ≤ 10000) (hn : Z.n = X.n) {t : Nat} (ht : t < Z.nt) {r hh vv a b cc : Int} (hr : 0 ≤ r) (hh0 : 0 ≤ hh) (hv0 : 0 ≤ vv) (hb : badC ⟨0, r, hh, vv, a, b, cc⟩ = false) :
    Calls Tryz.prog 23 #[ptrX X, .int .i64 (t : Int), .agg #[.int .u8 0, .int .u8 r, .int .u8 hh, .int .u8 vv, .int .i64 a, .int .i64 b, .int .i64 cc]] w (DidE X p w (doM X.FF m t ⟨0, r, hh, vv, a, b, cc⟩)) := by
  have n8 := v.n8
  have nt4 := v.nt.2
  have t4 : t < 4 := by omega
  have ti : (t : Int) < 4 := by omega
  have t0 : (0 : Int) ≤ (t : Int) := by omega
  obtain ⟨W, hW⟩ : ∃ W : World, W = (w.alloc (.cells #[.int .u8 0, .int .u8 r, .int .u8 hh, .int .u8 vv, .int .i64 a, .int .i64 b, .int .i64 cc] 35)).alloc (.cells #[.int .i64 0, .int .i64 0, .slice none 0 0] anT) := ⟨_, rfl⟩
  have Q0 := heap_alloc_new w (.cells #[.int .u8 0, .int .u8 r, .int .u8 hh, .int .u8 vv, .int .i64 a, .int .i64 b, .int .i64 cc] 35)
  have B0 := below_one w (.cells #[.int .u8 0, .int .u8 r, .int .u8 hh, .int .u8 vv, .int .i64 a, .int .i64 b, .int .i64 cc] 35)
  have h1 := (h.alloc (.cells #[.int .u8 0, .int .u8 r, .int .u8 hh, .int .u8 vv, .int .i64 a, .int .i64 b, .int .i64 cc] 35)).alloc (.cells #[.int .i64 0, .int .i64 0, .slice none 0 0] anT)
  have q : Below w.heap.size w W := by rw [hW]; exact B0.trans ((below_one _ _).mono B0.size)
  rw [← hW] at h1
  go_enter Tryz.func23, Tryz.ntmps23
  have Q1 := (heap_alloc_new (w.alloc (.cells #[.int .u8 0, .int .u8 r, .int .u8 hh, .int .u8 vv, .int .i64 a, .int .i64 b, .int .i64 cc] 35)) (.cells #[.int .i64 0, .int .i64 0, .slice none 0 0] anT))
  have Q2 := ((below_one (w.alloc (.cells #[.int .u8 0, .int .u8 r, .int .u8 hh, .int .u8 vv, .int .i64 a, .int .i64 b, .int .i64 cc] 35)) (.cells #[.int .i64 0, .int .i64 0, .slice none 0 0] anT)).block w.heap.size (by rw [World.size_alloc]; omega)).trans Q0
  rw [World.size_alloc] at Q1
  rw [← hW] at Q1 Q2
  have lw : w.heap.size + 1 < W.heap.size := by rw [hW, World.size_alloc, World.size_alloc]; omega
  have lDw := h.hd.lt
  have l0 : w.heap.size < W.heap.size := by omega
  have BC := Lib.hid hb
  have b0 := cell_of Q2 0 _ rfl
  have b1 := cell_of Q2 1 _ rfl
  have b2 := cell_of Q2 2 _ rfl
  have b3 := cell_of Q2 3 _ rfl
  have b4 := cell_of Q2 4 _ rfl
  have b5 := cell_of Q2 5 _ rfl
  have b6 := cell_of Q2 6 _ rfl
  clear Q0 B0 hb
  go_upto_region 1 with (fail)
  rw [← hW]
  clear hW
  go_wp2_with fail
  refine (regs12_any _ ⟨0, r, hh, vv, a, b, cc⟩).mono ?_
  rintro z w2 ⟨rfl, k2⟩
  rw [BC.out]
  have h2 := h1.keep k2
  have Q12 := (k2.block _ lw).trans Q1
  have Q22 := (k2.block w.heap.size l0).trans Q2
  have B2 := q.trans (k2.mono q.size)
  have c0 := cell_of Q22 0 _ rfl
  have c1 := cell_of Q22 1 _ rfl
  have c2 := cell_of Q22 2 _ rfl
  have c3 := cell_of Q22 3 _ rfl
  have c4 := cell_of Q22 4 _ rfl
  have c5 := cell_of Q22 5 _ rfl
  have c6 := cell_of Q22 6 _ rfl
  have l2 : w.heap.size + 1 < w2.heap.size := Nat.lt_of_lt_of_le lw k2.size
  clear b0 b1 b2 b3 b4 b5 b6
  have KK := Lib.hid (show doM X.FF m t ⟨0, r, hh, vv, a, b, cc⟩ = (⟨0, 0, []⟩, m) by unfold doM; rw [BC.out]; rfl)
  go_wp2_with fail
  refine (code_any _ _).mono ?_
  rintro z w3 ⟨rfl, k3⟩
  have dp := DidD.calm (h2.keep k3) k3
  have dl := dp.choose_spec
  have Q13 := (dl.2.1.keepT h2 ⟨_, Q12⟩ (by decide)).trans Q12
  have a0 := cell_of Q13 0 _ rfl
  have a1 := cell_of Q13 1 _ rfl
  have a2 := cell_of Q13 2 _ rfl
  have fz : ∀ o, w3.frozen? ⟨w.heap.size + 1, o, none⟩ = false := fun o => by simp [World.frozen?, Q13]
  have END := did_plain (c := 0) (n := 0) (mo := m) B2 h2 ⟨_, Q12⟩ (Nat.le_succ _) dp
  go_wp2
  refine bodyPost_ret (v := anD (0) (0)) (by simp [results, Tryz.results23, go_sem, a0, a1, a2]) rfl ?_
  rw [KK.out]
  exact END
set_option maxHeartbeats 4000000 in
theorem refdo10 (h : Rm w X p m) (v : Iv Z k m) (hk : k ≤ 10000) (hn : Z.n = X.n) {t : Nat} (ht : t < Z.nt) {r hh vv a b cc : Int} (hr : 0 ≤ r) (hh0 : 0 ≤ hh) (hv0 : 0 ≤ vv) (hb : badC ⟨10, r, hh, vv, a, b, cc⟩ = false) :
    Calls Tryz.prog 23 #[ptrX X, .int .i64 (t : Int), .agg #[.int .u8 10, .int .u8 r, .int .u8 hh, .int .u8 vv, .int .i64 a, .int .i64 b, .int .i64 cc]] w (DidE X p w (doM X.FF m t ⟨10, r, hh, vv, a, b, cc⟩)) := by
  have n8 := v.n8
  have nt4 := v.nt.2
  have t4 : t < 4 := by omega
  have ti : (t : Int) < 4 := by omega
  have t0 : (0 : Int) ≤ (t : Int) := by omega
  obtain ⟨r, rfl⟩ : ∃ n : Nat, r = (n : Int) := ⟨r.toNat, by omega⟩
  obtain ⟨vv, rfl⟩ : ∃ n : Nat, vv = (n : Int) := ⟨vv.toNat, by omega⟩
  have r4 : r < 4 := by
    simp [badC, badR] at hb
    omega
  obtain ⟨W, hW⟩ : ∃ W : World, W = (w.alloc (.cells #[.int .u8 10, .int .u8 r, .int .u8 hh, .int .u8 vv, .int .i64 a, .int .i64 b, .int .i64 cc] 35)).alloc (.cells #[.int .i64 0, .int .i64 0, .slice none 0 0] anT) := ⟨_, rfl⟩
  have Q0 := heap_alloc_new w (.cells #[.int .u8 10, .int .u8 r, .int .u8 hh, .int .u8 vv, .int .i64 a, .int .i64 b, .int .i64 cc] 35)
  have B0 := below_one w (.cells #[.int .u8 10, .int .u8 r, .int .u8 hh, .int .u8 vv, .int .i64 a, .int .i64 b, .int .i64 cc] 35)
  have h1 := (h.alloc (.cells #[.int .u8 10, .int .u8 r, .int .u8 hh, .int .u8 vv, .int .i64 a, .int .i64 b, .int .i64 cc] 35)).alloc (.cells #[.int .i64 0, .int .i64 0, .slice none 0 0] anT)
  have q : Below w.heap.size w W := by rw [hW]; exact B0.trans ((below_one _ _).mono B0.size)
  rw [← hW] at h1
  go_enter Tryz.func23, Tryz.ntmps23
  have Q1 := (heap_alloc_new (w.alloc (.cells #[.int .u8 10, .int .u8 r, .int .u8 hh, .int .u8 vv, .int .i64 a, .int .i64 b, .int .i64 cc] 35)) (.cells #[.int .i64 0, .int .i64 0, .slice none 0 0] anT))
  have Q2 := ((below_one (w.alloc (.cells #[.int .u8 10, .int .u8 r, .int .u8 hh, .int .u8 vv, .int .i64 a, .int .i64 b, .int .i64 cc] 35)) (.cells #[.int .i64 0, .int .i64 0, .slice none 0 0] anT)).block w.heap.size (by rw [World.size_alloc]; omega)).trans Q0
  rw [World.size_alloc] at Q1
  rw [← hW] at Q1 Q2
  have lw : w.heap.size + 1 < W.heap.size := by rw [hW, World.size_alloc, World.size_alloc]; omega
  have lDw := h.hd.lt
  have l0 : w.heap.size < W.heap.size := by omega
  have BC := Lib.hid hb
  have b0 := cell_of Q2 0 _ rfl
  have b1 := cell_of Q2 1 _ rfl
  have b2 := cell_of Q2 2 _ rfl
  have b3 := cell_of Q2 3 _ rfl
  have b4 := cell_of Q2 4 _ rfl
  have b5 := cell_of Q2 5 _ rfl
  have b6 := cell_of Q2 6 _ rfl
  clear Q0 B0 hb
  go_upto_region 1 with (fail)
  rw [← hW]
  clear hW
  go_wp2_with fail
  refine (regs12_any _ ⟨10, r, hh, vv, a, b, cc⟩).mono ?_
  rintro z w2 ⟨rfl, k2⟩
  rw [BC.out]
  have h2 := h1.keep k2
  have Q12 := (k2.block _ lw).trans Q1
  have Q22 := (k2.block w.heap.size l0).trans Q2
  have B2 := q.trans (k2.mono q.size)
  have c0 := cell_of Q22 0 _ rfl
  have c1 := cell_of Q22 1 _ rfl
  have c2 := cell_of Q22 2 _ rfl
  have c3 := cell_of Q22 3 _ rfl
  have c4 := cell_of Q22 4 _ rfl
  have c5 := cell_of Q22 5 _ rfl
  have c6 := cell_of Q22 6 _ rfl
  have l2 : w.heap.size + 1 < w2.heap.size := Nat.lt_of_lt_of_le lw k2.size
  clear b0 b1 b2 b3 b4 b5 b6
  have c0' := h2.c0
  by_cases ha1 : a < 1
  · skip
    have KK := Lib.hid (show doM X.FF m t ⟨10, r, hh, vv, a, b, cc⟩ = (⟨11, 0, []⟩, m) by
      unfold doM; rw [BC.out]
      have e : reachX m (m.ents t) a = 11 := by unfold reachX; rw [if_pos (show scopeB m a = false from decide_eq_false (by have := v.nA; omega))]
      simp [lookV, gateV, e, no])
    have z1 : decide (a < 1) = true := decide_eq_true ha1
    as_aux_lemma =>
      go_wp2_with fail
      go_quiet (fail)
      have h3 := h2.keep (Held.below_drewN (Below.refl _ _) nq)
      have B3 := Held.below_drewN B2 nq
      go_wp2_with fail
      refine (code_any _ _).mono ?_
      rintro z w3 ⟨rfl, k3⟩
      have dp := DidD.calm (h3.keep k3) k3
      have dl := dp.choose_spec
      have Q13 := (dl.2.1.keepT h3 ⟨_, Q12⟩ (by decide)).trans Q12
      have a0 := cell_of Q13 0 _ rfl
      have a1 := cell_of Q13 1 _ rfl
      have a2 := cell_of Q13 2 _ rfl
      have fz : ∀ o, w3.frozen? ⟨w.heap.size + 1, o, none⟩ = false := fun o => by simp [World.frozen?, Q13]
      have END := did_plain (c := 11) (n := 0) (mo := m) B3 h3 ⟨_, Q12⟩ (Nat.le_succ _) dp
      go_wp2
      refine bodyPost_ret (v := anD (11) (0)) (by simp [results, Tryz.results23, go_sem, a0, a1, a2]) rfl ?_
      rw [KK.out]
      exact END
  have y1 : decide (a < 1) = false := decide_eq_false ha1
  by_cases ha2 : (X.n : Int) ≤ a
  · skip
    have KK := Lib.hid (show doM X.FF m t ⟨10, r, hh, vv, a, b, cc⟩ = (⟨11, 0, []⟩, m) by
      unfold doM; rw [BC.out]
      have e : reachX m (m.ents t) a = 11 := by unfold reachX; rw [if_pos (show scopeB m a = false from decide_eq_false (by have := v.nA; omega))]
      simp [lookV, gateV, e, no])
    have z1 : decide ((X.n : Int) ≤ a) = true := decide_eq_true ha2
    as_aux_lemma =>
      go_wp2_with fail
      go_quiet (fail)
      have h3 := h2.keep (Held.below_drewN (Below.refl _ _) nq)
      have B3 := Held.below_drewN B2 nq
      go_wp2_with fail
      refine (code_any _ _).mono ?_
      rintro z w3 ⟨rfl, k3⟩
      have dp := DidD.calm (h3.keep k3) k3
      have dl := dp.choose_spec
      have Q13 := (dl.2.1.keepT h3 ⟨_, Q12⟩ (by decide)).trans Q12
      have a0 := cell_of Q13 0 _ rfl
      have a1 := cell_of Q13 1 _ rfl
      have a2 := cell_of Q13 2 _ rfl
      have fz : ∀ o, w3.frozen? ⟨w.heap.size + 1, o, none⟩ = false := fun o => by simp [World.frozen?, Q13]
      have END := did_plain (c := 11) (n := 0) (mo := m) B3 h3 ⟨_, Q12⟩ (Nat.le_succ _) dp
      go_wp2
      refine bodyPost_ret (v := anD (11) (0)) (by simp [results, Tryz.results23, go_sem, a0, a1, a2]) rfl ?_
      rw [KK.out]
      exact END
  have y2 : decide ((X.n : Int) ≤ a) = false := decide_eq_false ha2
  obtain ⟨s, rfl⟩ : ∃ n : Nat, a = (n : Int) := ⟨a.toNat, by omega⟩
  obtain ⟨R, hR⟩ : ∃ R, gaD m t ⟨10, r, hh, vv, s, b, cc⟩ = R := ⟨_, rfl⟩
  have hs := said_gate m t ⟨10, r, hh, vv, s, b, cc⟩
  rw [hR] at hs
  obtain ⟨⟨rc, rn, rs⟩, rm_⟩ := R
  dsimp only at hs
  subst hs
  have KK := Lib.hid (show doM X.FF m t ⟨10, r, hh, vv, s, b, cc⟩ = (⟨rc, rn, []⟩, rm_) by unfold doM; rw [BC.out]; simpa [gaD] using hR)
  have CT := fun w9 (h9 : Rm w9 X p m) => refgate_any h9 v hk hn ht (op := 10) (h' := hh) (b := b) (cc := cc) (r := r) (vv := vv) (s := s) (by omega) (by omega) (.inl ⟨rfl, r4⟩)
  rw [hR] at CT
  clear hR
  go_wp2_with fail
  go_quiet (fail)
  have h3 := h2.keep (Held.below_drewN (Below.refl _ _) nq)
  have B3 := Held.below_drewN B2 nq
  go_wp2_with fail
  refine (CT _ h3).mono ?_
  rintro z w3 ⟨rfl, dp⟩
  have dl := dp.choose_spec
  have Q13 := (dl.2.1.keepT h3 ⟨_, Q12⟩ (by decide)).trans Q12
  have a0 := cell_of Q13 0 _ rfl
  have a1 := cell_of Q13 1 _ rfl
  have a2 := cell_of Q13 2 _ rfl
  have fz : ∀ o, w3.frozen? ⟨w.heap.size + 1, o, none⟩ = false := fun o => by simp [World.frozen?, Q13]
  have END := did_plain (c := rc) (n := rn) (mo := rm_) B3 h3 ⟨_, Q12⟩ (Nat.le_succ _) dp
  go_wp2
  refine bodyPost_ret (v := anD (rc) (rn)) (by simp [results, Tryz.results23, go_sem, a0, a1, a2]) rfl ?_
  rw [KK.out]
  exact END
set_option maxHeartbeats 4000000 in
theorem refdo11 (h : Rm w X p m) (v : Iv Z k m) (hk : k ≤ 10000) (hn : Z.n = X.n) {t : Nat} (ht : t < Z.nt) {r hh vv a b cc : Int} (hr : 0 ≤ r) (hh0 : 0 ≤ hh) (hv0 : 0 ≤ vv) (hb : badC ⟨11, r, hh, vv, a, b, cc⟩ = false) :
    Calls Tryz.prog 23 #[ptrX X, .int .i64 (t : Int), .agg #[.int .u8 11, .int .u8 r, .int .u8 hh, .int .u8 vv, .int .i64 a, .int .i64 b, .int .i64 cc]] w (DidE X p w (doM X.FF m t ⟨11, r, hh, vv, a, b, cc⟩)) := by
  have n8 := v.n8
  have nt4 := v.nt.2
  have t4 : t < 4 := by omega
  have ti : (t : Int) < 4 := by omega
  have t0 : (0 : Int) ≤ (t : Int) := by omega
  obtain ⟨r, rfl⟩ : ∃ n : Nat, r = (n : Int) := ⟨r.toNat, by omega⟩
  obtain ⟨vv, rfl⟩ : ∃ n : Nat, vv = (n : Int) := ⟨vv.toNat, by omega⟩
  have v4 : vv < 4 := by
    simp [badC, badR] at hb
    omega
  obtain ⟨W, hW⟩ : ∃ W : World, W = (w.alloc (.cells #[.int .u8 11, .int .u8 r, .int .u8 hh, .int .u8 vv, .int .i64 a, .int .i64 b, .int .i64 cc] 35)).alloc (.cells #[.int .i64 0, .int .i64 0, .slice none 0 0] anT) := ⟨_, rfl⟩
  have Q0 := heap_alloc_new w (.cells #[.int .u8 11, .int .u8 r, .int .u8 hh, .int .u8 vv, .int .i64 a, .int .i64 b, .int .i64 cc] 35)
  have B0 := below_one w (.cells #[.int .u8 11, .int .u8 r, .int .u8 hh, .int .u8 vv, .int .i64 a, .int .i64 b, .int .i64 cc] 35)
  have h1 := (h.alloc (.cells #[.int .u8 11, .int .u8 r, .int .u8 hh, .int .u8 vv, .int .i64 a, .int .i64 b, .int .i64 cc] 35)).alloc (.cells #[.int .i64 0, .int .i64 0, .slice none 0 0] anT)
  have q : Below w.heap.size w W := by rw [hW]; exact B0.trans ((below_one _ _).mono B0.size)
  rw [← hW] at h1
  go_enter Tryz.func23, Tryz.ntmps23
  have Q1 := (heap_alloc_new (w.alloc (.cells #[.int .u8 11, .int .u8 r, .int .u8 hh, .int .u8 vv, .int .i64 a, .int .i64 b, .int .i64 cc] 35)) (.cells #[.int .i64 0, .int .i64 0, .slice none 0 0] anT))
  have Q2 := ((below_one (w.alloc (.cells #[.int .u8 11, .int .u8 r, .int .u8 hh, .int .u8 vv, .int .i64 a, .int .i64 b, .int .i64 cc] 35)) (.cells #[.int .i64 0, .int .i64 0, .slice none 0 0] anT)).block w.heap.size (by rw [World.size_alloc]; omega)).trans Q0
  rw [World.size_alloc] at Q1
  rw [← hW] at Q1 Q2
  have lw : w.heap.size + 1 < W.heap.size := by rw [hW, World.size_alloc, World.size_alloc]; omega
  have lDw := h.hd.lt
  have l0 : w.heap.size < W.heap.size := by omega
  have BC := Lib.hid hb
  have b0 := cell_of Q2 0 _ rfl
  have b1 := cell_of Q2 1 _ rfl
  have b2 := cell_of Q2 2 _ rfl
  have b3 := cell_of Q2 3 _ rfl
  have b4 := cell_of Q2 4 _ rfl
  have b5 := cell_of Q2 5 _ rfl
  have b6 := cell_of Q2 6 _ rfl
  clear Q0 B0 hb
  go_upto_region 1 with (fail)
  rw [← hW]
  clear hW
  go_wp2_with fail
  refine (regs12_any _ ⟨11, r, hh, vv, a, b, cc⟩).mono ?_
  rintro z w2 ⟨rfl, k2⟩
  rw [BC.out]
  have h2 := h1.keep k2
  have Q12 := (k2.block _ lw).trans Q1
  have Q22 := (k2.block w.heap.size l0).trans Q2
  have B2 := q.trans (k2.mono q.size)
  have c0 := cell_of Q22 0 _ rfl
  have c1 := cell_of Q22 1 _ rfl
  have c2 := cell_of Q22 2 _ rfl
  have c3 := cell_of Q22 3 _ rfl
  have c4 := cell_of Q22 4 _ rfl
  have c5 := cell_of Q22 5 _ rfl
  have c6 := cell_of Q22 6 _ rfl
  have l2 : w.heap.size + 1 < w2.heap.size := Nat.lt_of_lt_of_le lw k2.size
  clear b0 b1 b2 b3 b4 b5 b6
  have c0' := h2.c0
  by_cases ha1 : a < 1
  · skip
    have KK := Lib.hid (show doM X.FF m t ⟨11, r, hh, vv, a, b, cc⟩ = (⟨11, 0, []⟩, m) by
      unfold doM; rw [BC.out]
      have e : reachX m (m.ents t) a = 11 := by unfold reachX; rw [if_pos (show scopeB m a = false from decide_eq_false (by have := v.nA; omega))]
      simp [lookV, gateV, e, no])
    have z1 : decide (a < 1) = true := decide_eq_true ha1
    as_aux_lemma =>
      go_wp2_with fail
      go_quiet (fail)
      have h3 := h2.keep (Held.below_drewN (Below.refl _ _) nq)
      have B3 := Held.below_drewN B2 nq
      go_wp2_with fail
      refine (code_any _ _).mono ?_
      rintro z w3 ⟨rfl, k3⟩
      have dp := DidD.calm (h3.keep k3) k3
      have dl := dp.choose_spec
      have Q13 := (dl.2.1.keepT h3 ⟨_, Q12⟩ (by decide)).trans Q12
      have a0 := cell_of Q13 0 _ rfl
      have a1 := cell_of Q13 1 _ rfl
      have a2 := cell_of Q13 2 _ rfl
      have fz : ∀ o, w3.frozen? ⟨w.heap.size + 1, o, none⟩ = false := fun o => by simp [World.frozen?, Q13]
      have END := did_plain (c := 11) (n := 0) (mo := m) B3 h3 ⟨_, Q12⟩ (Nat.le_succ _) dp
      go_wp2
      refine bodyPost_ret (v := anD (11) (0)) (by simp [results, Tryz.results23, go_sem, a0, a1, a2]) rfl ?_
      rw [KK.out]
      exact END
  have y1 : decide (a < 1) = false := decide_eq_false ha1
  by_cases ha2 : (X.n : Int) ≤ a
  · skip
    have KK := Lib.hid (show doM X.FF m t ⟨11, r, hh, vv, a, b, cc⟩ = (⟨11, 0, []⟩, m) by
      unfold doM; rw [BC.out]
      have e : reachX m (m.ents t) a = 11 := by unfold reachX; rw [if_pos (show scopeB m a = false from decide_eq_false (by have := v.nA; omega))]
      simp [lookV, gateV, e, no])
    have z1 : decide ((X.n : Int) ≤ a) = true := decide_eq_true ha2
    as_aux_lemma =>
      go_wp2_with fail
      go_quiet (fail)
      have h3 := h2.keep (Held.below_drewN (Below.refl _ _) nq)
      have B3 := Held.below_drewN B2 nq
      go_wp2_with fail
      refine (code_any _ _).mono ?_
      rintro z w3 ⟨rfl, k3⟩
      have dp := DidD.calm (h3.keep k3) k3
      have dl := dp.choose_spec
      have Q13 := (dl.2.1.keepT h3 ⟨_, Q12⟩ (by decide)).trans Q12
      have a0 := cell_of Q13 0 _ rfl
      have a1 := cell_of Q13 1 _ rfl
      have a2 := cell_of Q13 2 _ rfl
      have fz : ∀ o, w3.frozen? ⟨w.heap.size + 1, o, none⟩ = false := fun o => by simp [World.frozen?, Q13]
      have END := did_plain (c := 11) (n := 0) (mo := m) B3 h3 ⟨_, Q12⟩ (Nat.le_succ _) dp
      go_wp2
      refine bodyPost_ret (v := anD (11) (0)) (by simp [results, Tryz.results23, go_sem, a0, a1, a2]) rfl ?_
      rw [KK.out]
      exact END
  have y2 : decide ((X.n : Int) ≤ a) = false := decide_eq_false ha2
  obtain ⟨s, rfl⟩ : ∃ n : Nat, a = (n : Int) := ⟨a.toNat, by omega⟩
  obtain ⟨R, hR⟩ : ∃ R, gaD m t ⟨11, r, hh, vv, s, b, cc⟩ = R := ⟨_, rfl⟩
  have hs := said_gate m t ⟨11, r, hh, vv, s, b, cc⟩
  rw [hR] at hs
  obtain ⟨⟨rc, rn, rs⟩, rm_⟩ := R
  dsimp only at hs
  subst hs
  have KK := Lib.hid (show doM X.FF m t ⟨11, r, hh, vv, s, b, cc⟩ = (⟨rc, rn, []⟩, rm_) by unfold doM; rw [BC.out]; simpa [gaD] using hR)
  have CT := fun w9 (h9 : Rm w9 X p m) => refgate_any h9 v hk hn ht (op := 11) (h' := hh) (b := b) (cc := cc) (r := r) (vv := vv) (s := s) (by omega) (by omega) (.inr ⟨rfl, v4⟩)
  rw [hR] at CT
  clear hR
  go_wp2_with fail
  go_quiet (fail)
  have h3 := h2.keep (Held.below_drewN (Below.refl _ _) nq)
  have B3 := Held.below_drewN B2 nq
  go_wp2_with fail
  refine (CT _ h3).mono ?_
  rintro z w3 ⟨rfl, dp⟩
  have dl := dp.choose_spec
  have Q13 := (dl.2.1.keepT h3 ⟨_, Q12⟩ (by decide)).trans Q12
  have a0 := cell_of Q13 0 _ rfl
  have a1 := cell_of Q13 1 _ rfl
  have a2 := cell_of Q13 2 _ rfl
  have fz : ∀ o, w3.frozen? ⟨w.heap.size + 1, o, none⟩ = false := fun o => by simp [World.frozen?, Q13]
  have END := did_plain (c := rc) (n := rn) (mo := rm_) B3 h3 ⟨_, Q12⟩ (Nat.le_succ _) dp
  go_wp2
  refine bodyPost_ret (v := anD (rc) (rn)) (by simp [results, Tryz.results23, go_sem, a0, a1, a2]) rfl ?_
  rw [KK.out]
  exact END
set_option maxHeartbeats 4000000 in
theorem refdo1 (h : Rm w X p m) (v : Iv Z k m) (hk : k ≤ 10000) (hn : Z.n = X.n) {t : Nat} (ht : t < Z.nt) {r hh vv a b cc : Int} (hr : 0 ≤ r) (hh0 : 0 ≤ hh) (hv0 : 0 ≤ vv) (hb : badC ⟨1, r, hh, vv, a, b, cc⟩ = false) :
    Calls Tryz.prog 23 #[ptrX X, .int .i64 (t : Int), .agg #[.int .u8 1, .int .u8 r, .int .u8 hh, .int .u8 vv, .int .i64 a, .int .i64 b, .int .i64 cc]] w (DidE X p w (doM X.FF m t ⟨1, r, hh, vv, a, b, cc⟩)) := by
  have n8 := v.n8
  have nt4 := v.nt.2
  have t4 : t < 4 := by omega
  have ti : (t : Int) < 4 := by omega
  have t0 : (0 : Int) ≤ (t : Int) := by omega
  obtain ⟨r, rfl⟩ : ∃ n : Nat, r = (n : Int) := ⟨r.toNat, by omega⟩
  have r4 : r < 4 := by
    simp [badC, badR] at hb
    omega
  obtain ⟨W, hW⟩ : ∃ W : World, W = (w.alloc (.cells #[.int .u8 1, .int .u8 r, .int .u8 hh, .int .u8 vv, .int .i64 a, .int .i64 b, .int .i64 cc] 35)).alloc (.cells #[.int .i64 0, .int .i64 0, .slice none 0 0] anT) := ⟨_, rfl⟩
  have Q0 := heap_alloc_new w (.cells #[.int .u8 1, .int .u8 r, .int .u8 hh, .int .u8 vv, .int .i64 a, .int .i64 b, .int .i64 cc] 35)
  have B0 := below_one w (.cells #[.int .u8 1, .int .u8 r, .int .u8 hh, .int .u8 vv, .int .i64 a, .int .i64 b, .int .i64 cc] 35)
  have h1 := (h.alloc (.cells #[.int .u8 1, .int .u8 r, .int .u8 hh, .int .u8 vv, .int .i64 a, .int .i64 b, .int .i64 cc] 35)).alloc (.cells #[.int .i64 0, .int .i64 0, .slice none 0 0] anT)
  have q : Below w.heap.size w W := by rw [hW]; exact B0.trans ((below_one _ _).mono B0.size)
  rw [← hW] at h1
  go_enter Tryz.func23, Tryz.ntmps23
  have Q1 := (heap_alloc_new (w.alloc (.cells #[.int .u8 1, .int .u8 r, .int .u8 hh, .int .u8 vv, .int .i64 a, .int .i64 b, .int .i64 cc] 35)) (.cells #[.int .i64 0, .int .i64 0, .slice none 0 0] anT))
  have Q2 := ((below_one (w.alloc (.cells #[.int .u8 1, .int .u8 r, .int .u8 hh, .int .u8 vv, .int .i64 a, .int .i64 b, .int .i64 cc] 35)) (.cells #[.int .i64 0, .int .i64 0, .slice none 0 0] anT)).block w.heap.size (by rw [World.size_alloc]; omega)).trans Q0
  rw [World.size_alloc] at Q1
  rw [← hW] at Q1 Q2
  have lw : w.heap.size + 1 < W.heap.size := by rw [hW, World.size_alloc, World.size_alloc]; omega
  have lDw := h.hd.lt
  have l0 : w.heap.size < W.heap.size := by omega
  have BC := Lib.hid hb
  have b0 := cell_of Q2 0 _ rfl
  have b1 := cell_of Q2 1 _ rfl
  have b2 := cell_of Q2 2 _ rfl
  have b3 := cell_of Q2 3 _ rfl
  have b4 := cell_of Q2 4 _ rfl
  have b5 := cell_of Q2 5 _ rfl
  have b6 := cell_of Q2 6 _ rfl
  clear Q0 B0 hb
  go_upto_region 1 with (fail)
  rw [← hW]
  clear hW
  go_wp2_with fail
  refine (regs12_any _ ⟨1, r, hh, vv, a, b, cc⟩).mono ?_
  rintro z w2 ⟨rfl, k2⟩
  rw [BC.out]
  have h2 := h1.keep k2
  have Q12 := (k2.block _ lw).trans Q1
  have Q22 := (k2.block w.heap.size l0).trans Q2
  have B2 := q.trans (k2.mono q.size)
  have c0 := cell_of Q22 0 _ rfl
  have c1 := cell_of Q22 1 _ rfl
  have c2 := cell_of Q22 2 _ rfl
  have c3 := cell_of Q22 3 _ rfl
  have c4 := cell_of Q22 4 _ rfl
  have c5 := cell_of Q22 5 _ rfl
  have c6 := cell_of Q22 6 _ rfl
  have l2 : w.heap.size + 1 < w2.heap.size := Nat.lt_of_lt_of_le lw k2.size
  clear b0 b1 b2 b3 b4 b5 b6
  have nT := v.nT
  have ri : (r : Int) < 4 := by omega
  have r0 : (0 : Int) ≤ (r : Int) := by omega
  obtain ⟨u, hu⟩ : ∃ u, IntKind.u64.wrap a = u := ⟨_, rfl⟩
  have KK := Lib.hid (show doM X.FF m t ⟨1, r, hh, vv, a, b, cc⟩ = (⟨0, 0, []⟩, m.setReg t (r : Int) u) by rw [← hu]; unfold doM; rw [BC.out]; rfl)
  have cr := h2.reg t4 r4
  have fr := h2.hd.frozen
  have lX := h2.hd.lt
  obtain ⟨W4, hW4⟩ : ∃ W4 : World, W4 = (w2.setCell ⟨X.D, 23 + t * 4 + r, none⟩ (.int .u64 u)).drew := ⟨_, rfl⟩
  have h4 := (h2.putReg (t := t) (r := r) (by omega) (by omega) r4 u).drew
  rw [← hW4] at h4
  have k4 : Only [X.D] w2 W4 := by rw [hW4]; exact (Only.put w2 _ _ _ (by simp)).trans (Only.below (Below.refl _ _).drew)
  go_wp2_with fail
  go_region
  go_wp2_with fail
  rw [← hW4]
  clear hW4 cr fr
  refine (code_any _ _).mono ?_
  rintro z w3 ⟨rfl, k3⟩
  have dp : DidD X p w2 (m.setReg t (r : Int) u) w3 := DidD.put (h4.keep k3) (only_new k4 (Only.below (X := []) k3) (fun x hx => absurd hx List.not_mem_nil))
  have dl := dp.choose_spec
  have Q13 := (dl.2.1.keepT h2 ⟨_, Q12⟩ (by decide)).trans Q12
  have a0 := cell_of Q13 0 _ rfl
  have a1 := cell_of Q13 1 _ rfl
  have a2 := cell_of Q13 2 _ rfl
  have fz : ∀ o, w3.frozen? ⟨w.heap.size + 1, o, none⟩ = false := fun o => by simp [World.frozen?, Q13]
  have END := did_plain (c := 0) (n := 0) (mo := (m.setReg t (r : Int) u)) B2 h2 ⟨_, Q12⟩ (Nat.le_succ _) dp
  go_wp2
  refine bodyPost_ret (v := anD (0) (0)) (by simp [results, Tryz.results23, go_sem, a0, a1, a2]) rfl ?_
  rw [KK.out]
  exact END
set_option maxHeartbeats 4000000 in
theorem refdoX (h : Rm w X p m) (v : Iv Z k m) (hk : k ≤ 10000) (hn : Z.n = X.n) {t : Nat} (ht : t < Z.nt) {op r hh vv a b cc : Int} (h12 : 12 ≤ op) (hr : 0 ≤ r) (hh0 : 0 ≤ hh) (hv0 : 0 ≤ vv) (hb : badC ⟨op, r, hh, vv, a, b, cc⟩ = false) :
    Calls Tryz.prog 23 #[ptrX X, .int .i64 (t : Int), .agg #[.int .u8 op, .int .u8 r, .int .u8 hh, .int .u8 vv, .int .i64 a, .int .i64 b, .int .i64 cc]] w (DidE X p w (doM X.FF m t ⟨op, r, hh, vv, a, b, cc⟩)) := by
  have n8 := v.n8
  have nt4 := v.nt.2
  have t4 : t < 4 := by omega
  have ti : (t : Int) < 4 := by omega
  have t0 : (0 : Int) ≤ (t : Int) := by omega
  have n0 : op ≠ 0 := by omega
  have e0 : (op == 0) = false := by simpa using n0
  have n1 : op ≠ 1 := by omega
  have e1 : (op == 1) = false := by simpa using n1
  have n2 : op ≠ 2 := by omega
  have e2 : (op == 2) = false := by simpa using n2
  have n3 : op ≠ 3 := by omega
  have e3 : (op == 3) = false := by simpa using n3
  have n4 : op ≠ 4 := by omega
  have e4 : (op == 4) = false := by simpa using n4
  have n5 : op ≠ 5 := by omega
  have e5 : (op == 5) = false := by simpa using n5
  have n6 : op ≠ 6 := by omega
  have e6 : (op == 6) = false := by simpa using n6
  have n7 : op ≠ 7 := by omega
  have e7 : (op == 7) = false := by simpa using n7
  have n8_ : op ≠ 8 := by omega
  have e8 : (op == 8) = false := by simpa using n8_
  have n9 : op ≠ 9 := by omega
  have e9 : (op == 9) = false := by simpa using n9
  have n10 : op ≠ 10 := by omega
  have e10 : (op == 10) = false := by simpa using n10
  have n11 : op ≠ 11 := by omega
  have e11 : (op == 11) = false := by simpa using n11
  obtain ⟨W, hW⟩ : ∃ W : World, W = (w.alloc (.cells #[.int .u8 op, .int .u8 r, .int .u8 hh, .int .u8 vv, .int .i64 a, .int .i64 b, .int .i64 cc] 35)).alloc (.cells #[.int .i64 0, .int .i64 0, .slice none 0 0] anT) := ⟨_, rfl⟩
  have Q0 := heap_alloc_new w (.cells #[.int .u8 op, .int .u8 r, .int .u8 hh, .int .u8 vv, .int .i64 a, .int .i64 b, .int .i64 cc] 35)
  have B0 := below_one w (.cells #[.int .u8 op, .int .u8 r, .int .u8 hh, .int .u8 vv, .int .i64 a, .int .i64 b, .int .i64 cc] 35)
  have h1 := (h.alloc (.cells #[.int .u8 op, .int .u8 r, .int .u8 hh, .int .u8 vv, .int .i64 a, .int .i64 b, .int .i64 cc] 35)).alloc (.cells #[.int .i64 0, .int .i64 0, .slice none 0 0] anT)
  have q : Below w.heap.size w W := by rw [hW]; exact B0.trans ((below_one _ _).mono B0.size)
  rw [← hW] at h1
  go_enter Tryz.func23, Tryz.ntmps23
  have Q1 := (heap_alloc_new (w.alloc (.cells #[.int .u8 op, .int .u8 r, .int .u8 hh, .int .u8 vv, .int .i64 a, .int .i64 b, .int .i64 cc] 35)) (.cells #[.int .i64 0, .int .i64 0, .slice none 0 0] anT))
  have Q2 := ((below_one (w.alloc (.cells #[.int .u8 op, .int .u8 r, .int .u8 hh, .int .u8 vv, .int .i64 a, .int .i64 b, .int .i64 cc] 35)) (.cells #[.int .i64 0, .int .i64 0, .slice none 0 0] anT)).block w.heap.size (by rw [World.size_alloc]; omega)).trans Q0
  rw [World.size_alloc] at Q1
  rw [← hW] at Q1 Q2
  have lw : w.heap.size + 1 < W.heap.size := by rw [hW, World.size_alloc, World.size_alloc]; omega
  have lDw := h.hd.lt
  have l0 : w.heap.size < W.heap.size := by omega
  have BC := Lib.hid hb
  have b0 := cell_of Q2 0 _ rfl
  have b1 := cell_of Q2 1 _ rfl
  have b2 := cell_of Q2 2 _ rfl
  have b3 := cell_of Q2 3 _ rfl
  have b4 := cell_of Q2 4 _ rfl
  have b5 := cell_of Q2 5 _ rfl
  have b6 := cell_of Q2 6 _ rfl
  clear Q0 B0 hb
  go_upto_region 1 with (fail)
  rw [← hW]
  clear hW
  go_wp2_with fail
  refine (regs12_any _ ⟨op, r, hh, vv, a, b, cc⟩).mono ?_
  rintro z w2 ⟨rfl, k2⟩
  rw [BC.out]
  have h2 := h1.keep k2
  have Q12 := (k2.block _ lw).trans Q1
  have Q22 := (k2.block w.heap.size l0).trans Q2
  have B2 := q.trans (k2.mono q.size)
  have c0 := cell_of Q22 0 _ rfl
  have c1 := cell_of Q22 1 _ rfl
  have c2 := cell_of Q22 2 _ rfl
  have c3 := cell_of Q22 3 _ rfl
  have c4 := cell_of Q22 4 _ rfl
  have c5 := cell_of Q22 5 _ rfl
  have c6 := cell_of Q22 6 _ rfl
  have l2 : w.heap.size + 1 < w2.heap.size := Nat.lt_of_lt_of_le lw k2.size
  clear b0 b1 b2 b3 b4 b5 b6
  have KK := Lib.hid (show doM X.FF m t ⟨op, r, hh, vv, a, b, cc⟩ = (⟨1, 0, []⟩, m) by unfold doM; rw [BC.out]; simp [n0, n1, n2, n3, n4, n5, n6, n7, n8_, n9, n10, n11, no])
  clear n0 n1 n2 n3 n4 n5 n6 n7 n8_ n9 n10 n11
  go_wp2_with fail
  refine (code_any _ _).mono ?_
  rintro z w3 ⟨rfl, k3⟩
  have dp := DidD.calm (h2.keep k3) k3
  have dl := dp.choose_spec
  have Q13 := (dl.2.1.keepT h2 ⟨_, Q12⟩ (by decide)).trans Q12
  have a0 := cell_of Q13 0 _ rfl
  have a1 := cell_of Q13 1 _ rfl
  have a2 := cell_of Q13 2 _ rfl
  have fz : ∀ o, w3.frozen? ⟨w.heap.size + 1, o, none⟩ = false := fun o => by simp [World.frozen?, Q13]
  have END := did_plain (c := 1) (n := 0) (mo := m) B2 h2 ⟨_, Q12⟩ (Nat.le_succ _) dp
  go_wp2
  refine bodyPost_ret (v := anD (1) (0)) (by simp [results, Tryz.results23, go_sem, a0, a1, a2]) rfl ?_
  rw [KK.out]
  exact END
set_option maxHeartbeats 4000000 in
theorem refdoB (h : Rm w X p m) (v : Iv Z k m) (hk : k ≤ 10000) (hn : Z.n = X.n) {t : Nat} (ht : t < Z.nt) {op r hh vv a b cc : Int} (hr : 0 ≤ r) (hh0 : 0 ≤ hh) (hv0 : 0 ≤ vv) (hb : badC ⟨op, r, hh, vv, a, b, cc⟩ = true) :
    Calls Tryz.prog 23 #[ptrX X, .int .i64 (t : Int), .agg #[.int .u8 op, .int .u8 r, .int .u8 hh, .int .u8 vv, .int .i64 a, .int .i64 b, .int .i64 cc]] w (DidE X p w (doM X.FF m t ⟨op, r, hh, vv, a, b, cc⟩)) := by
  have n8 := v.n8
  have nt4 := v.nt.2
  have t4 : t < 4 := by omega
  have ti : (t : Int) < 4 := by omega
  have t0 : (0 : Int) ≤ (t : Int) := by omega
  obtain ⟨W, hW⟩ : ∃ W : World, W = (w.alloc (.cells #[.int .u8 op, .int .u8 r, .int .u8 hh, .int .u8 vv, .int .i64 a, .int .i64 b, .int .i64 cc] 35)).alloc (.cells #[.int .i64 0, .int .i64 0, .slice none 0 0] anT) := ⟨_, rfl⟩
  have Q0 := heap_alloc_new w (.cells #[.int .u8 op, .int .u8 r, .int .u8 hh, .int .u8 vv, .int .i64 a, .int .i64 b, .int .i64 cc] 35)
  have B0 := below_one w (.cells #[.int .u8 op, .int .u8 r, .int .u8 hh, .int .u8 vv, .int .i64 a, .int .i64 b, .int .i64 cc] 35)
  have h1 := (h.alloc (.cells #[.int .u8 op, .int .u8 r, .int .u8 hh, .int .u8 vv, .int .i64 a, .int .i64 b, .int .i64 cc] 35)).alloc (.cells #[.int .i64 0, .int .i64 0, .slice none 0 0] anT)
  have q : Below w.heap.size w W := by rw [hW]; exact B0.trans ((below_one _ _).mono B0.size)
  rw [← hW] at h1
  go_enter Tryz.func23, Tryz.ntmps23
  have Q1 := (heap_alloc_new (w.alloc (.cells #[.int .u8 op, .int .u8 r, .int .u8 hh, .int .u8 vv, .int .i64 a, .int .i64 b, .int .i64 cc] 35)) (.cells #[.int .i64 0, .int .i64 0, .slice none 0 0] anT))
  have Q2 := ((below_one (w.alloc (.cells #[.int .u8 op, .int .u8 r, .int .u8 hh, .int .u8 vv, .int .i64 a, .int .i64 b, .int .i64 cc] 35)) (.cells #[.int .i64 0, .int .i64 0, .slice none 0 0] anT)).block w.heap.size (by rw [World.size_alloc]; omega)).trans Q0
  rw [World.size_alloc] at Q1
  rw [← hW] at Q1 Q2
  have lw : w.heap.size + 1 < W.heap.size := by rw [hW, World.size_alloc, World.size_alloc]; omega
  have lDw := h.hd.lt
  have l0 : w.heap.size < W.heap.size := by omega
  have BC := Lib.hid hb
  have b0 := cell_of Q2 0 _ rfl
  have b1 := cell_of Q2 1 _ rfl
  have b2 := cell_of Q2 2 _ rfl
  have b3 := cell_of Q2 3 _ rfl
  have b4 := cell_of Q2 4 _ rfl
  have b5 := cell_of Q2 5 _ rfl
  have b6 := cell_of Q2 6 _ rfl
  clear Q0 B0 hb
  go_upto_region 1 with (fail)
  rw [← hW]
  clear hW
  go_wp2_with fail
  refine (regs12_any _ ⟨op, r, hh, vv, a, b, cc⟩).mono ?_
  rintro z w2 ⟨rfl, k2⟩
  rw [BC.out]
  have h2 := h1.keep k2
  have Q12 := (k2.block _ lw).trans Q1
  have Q22 := (k2.block w.heap.size l0).trans Q2
  have B2 := q.trans (k2.mono q.size)
  have c0 := cell_of Q22 0 _ rfl
  have c1 := cell_of Q22 1 _ rfl
  have c2 := cell_of Q22 2 _ rfl
  have c3 := cell_of Q22 3 _ rfl
  have c4 := cell_of Q22 4 _ rfl
  have c5 := cell_of Q22 5 _ rfl
  have c6 := cell_of Q22 6 _ rfl
  have l2 : w.heap.size + 1 < w2.heap.size := Nat.lt_of_lt_of_le lw k2.size
  clear b0 b1 b2 b3 b4 b5 b6
  have KK := Lib.hid (show doM X.FF m t ⟨op, r, hh, vv, a, b, cc⟩ = (⟨1, 0, []⟩, m) by unfold doM; rw [BC.out]; rfl)
  go_wp2_with fail
  refine (code_any _ _).mono ?_
  rintro z w3 ⟨rfl, k3⟩
  have dp := DidD.calm (h2.keep k3) k3
  have dl := dp.choose_spec
  have Q13 := (dl.2.1.keepT h2 ⟨_, Q12⟩ (by decide)).trans Q12
  have a0 := cell_of Q13 0 _ rfl
  have a1 := cell_of Q13 1 _ rfl
  have a2 := cell_of Q13 2 _ rfl
  have fz : ∀ o, w3.frozen? ⟨w.heap.size + 1, o, none⟩ = false := fun o => by simp [World.frozen?, Q13]
  have END := did_plain (c := 1) (n := 0) (mo := m) B2 h2 ⟨_, Q12⟩ (Nat.le_succ _) dp
  go_wp2
  refine bodyPost_ret (v := anD (1) (0)) (by simp [results, Tryz.results23, go_sem, a0, a1, a2]) rfl ?_
  rw [KK.out]
  exact END
end
end Go.Proofs.YtbpmnjmegffllaaGreat.Mod

namespace Go.Proofs.YtbpmnjmegffllaaGreat.Mod
open Go.ChangeShapes Go.WideShapes Go.ChangeAt Go.RowKit
open Slic Sco
set_option linter.unusedVariables false
set_option linter.unusedSimpArgs false
set_option maxRecDepth 8000
section
variable {w w' : World} {X : Dx} {p : Dp} {m m' : Mo} {Z : Fx} {k : Nat}
set_option maxHeartbeats 4000000 in
theorem refdo5 (h : Rm w X p m) (v : Iv Z k m) (hk : k ≤ 10000) (ff : Fok X.FF) (hn : Z.n = X.n) {t : Nat} (ht : t < Z.nt) {r hh vv a b cc : Int} (hr : 0 ≤ r) (hh0 : 0 ≤ hh) (hv0 : 0 ≤ vv) (hb : badC ⟨5, r, hh, vv, a, b, cc⟩ = false) :
    Calls Tryz.prog 23 #[ptrX X, .int .i64 (t : Int), .agg #[.int .u8 5, .int .u8 r, .int .u8 hh, .int .u8 vv, .int .i64 a, .int .i64 b, .int .i64 cc]] w (DidE X p w (doM X.FF m t ⟨5, r, hh, vv, a, b, cc⟩)) := by
  have n8 := v.n8
  have nt4 := v.nt.2
  have t4 : t < 4 := by omega
  have ti : (t : Int) < 4 := by omega
  have t0 : (0 : Int) ≤ (t : Int) := by omega
  obtain ⟨W, hW⟩ : ∃ W : World, W = (w.alloc (.cells #[.int .u8 5, .int .u8 r, .int .u8 hh, .int .u8 vv, .int .i64 a, .int .i64 b, .int .i64 cc] 35)).alloc (.cells #[.int .i64 0, .int .i64 0, .slice none 0 0] anT) := ⟨_, rfl⟩
  have Q0 := heap_alloc_new w (.cells #[.int .u8 5, .int .u8 r, .int .u8 hh, .int .u8 vv, .int .i64 a, .int .i64 b, .int .i64 cc] 35)
  have B0 := below_one w (.cells #[.int .u8 5, .int .u8 r, .int .u8 hh, .int .u8 vv, .int .i64 a, .int .i64 b, .int .i64 cc] 35)
  have h1 := (h.alloc (.cells #[.int .u8 5, .int .u8 r, .int .u8 hh, .int .u8 vv, .int .i64 a, .int .i64 b, .int .i64 cc] 35)).alloc (.cells #[.int .i64 0, .int .i64 0, .slice none 0 0] anT)
  have q : Below w.heap.size w W := by rw [hW]; exact B0.trans ((below_one _ _).mono B0.size)
  rw [← hW] at h1
  go_enter Tryz.func23, Tryz.ntmps23
  have Q1 := (heap_alloc_new (w.alloc (.cells #[.int .u8 5, .int .u8 r, .int .u8 hh, .int .u8 vv, .int .i64 a, .int .i64 b, .int .i64 cc] 35)) (.cells #[.int .i64 0, .int .i64 0, .slice none 0 0] anT))
  have Q2 := ((below_one (w.alloc (.cells #[.int .u8 5, .int .u8 r, .int .u8 hh, .int .u8 vv, .int .i64 a, .int .i64 b, .int .i64 cc] 35)) (.cells #[.int .i64 0, .int .i64 0, .slice none 0 0] anT)).block w.heap.size (by rw [World.size_alloc]; omega)).trans Q0
  rw [World.size_alloc] at Q1
  rw [← hW] at Q1 Q2
  have lw : w.heap.size + 1 < W.heap.size := by rw [hW, World.size_alloc, World.size_alloc]; omega
  have lDw := h.hd.lt
  have l0 : w.heap.size < W.heap.size := by omega
  have BC := Lib.hid hb
  have b0 := cell_of Q2 0 _ rfl
  have b1 := cell_of Q2 1 _ rfl
  have b2 := cell_of Q2 2 _ rfl
  have b3 := cell_of Q2 3 _ rfl
  have b4 := cell_of Q2 4 _ rfl
  have b5 := cell_of Q2 5 _ rfl
  have b6 := cell_of Q2 6 _ rfl
  clear Q0 B0 hb
  go_upto_region 1 with (fail)
  rw [← hW]
  clear hW
  go_wp2_with fail
  refine (regs12_any _ ⟨5, r, hh, vv, a, b, cc⟩).mono ?_
  rintro z w2 ⟨rfl, k2⟩
  rw [BC.out]
  have h2 := h1.keep k2
  have Q12 := (k2.block _ lw).trans Q1
  have Q22 := (k2.block w.heap.size l0).trans Q2
  have B2 := q.trans (k2.mono q.size)
  have c0 := cell_of Q22 0 _ rfl
  have c1 := cell_of Q22 1 _ rfl
  have c2 := cell_of Q22 2 _ rfl
  have c3 := cell_of Q22 3 _ rfl
  have c4 := cell_of Q22 4 _ rfl
  have c5 := cell_of Q22 5 _ rfl
  have c6 := cell_of Q22 6 _ rfl
  have l2 : w.heap.size + 1 < w2.heap.size := Nat.lt_of_lt_of_le lw k2.size
  clear b0 b1 b2 b3 b4 b5 b6
  have hl6 := v.l6 ht
  have nT := v.nT
  have cE := h2.entC t4
  have oE := (ent_own.2 (h2.en t t4)).sr
  obtain ⟨⟨l1, l2_⟩, hlv⟩ : ∃ e, Chain.lastV (m.ents t) = e := ⟨_, rfl⟩
  obtain ⟨E, hE⟩ : ∃ e, Chain.popE (m.ents t) = e := ⟨_, rfl⟩
  have LV := Lib.hid hlv
  have PE := Lib.hid hE
  have DM : doM X.FF m t ⟨5, r, hh, vv, a, b, cc⟩ = exitV X.FF m t := by unfold doM; rw [BC.out]; rfl
  clear hlv hE
  go_wp2_with fail
  refine (Chain.refpop_any _ (sl3 (p.c t)) (m.ents t) oE (by omega)).mono ?_
  rintro e w4 ⟨y, rfl, O4, k4⟩
  obtain ⟨yt, rfl⟩ := own_tri (ent_own.1 O4)
  rw [LV.out, PE.out]
  have h5 := (h2.keep k4).alloc (.cells #[.int .i64 l1, .bool l2_] 147)
  have kE_ := below_one w4 (.cells #[.int .i64 l1, .bool l2_] 147)
  have Qe := heap_alloc_new w4 (.cells #[.int .i64 l1, .bool l2_] 147)
  have e1 := cell_of Qe 1 _ rfl
  have O5 := ((ent_own.1 O4).zero (Nat.zero_le _)).below kE_
  have k5 := k4.trans (kE_.mono k4.size)
  obtain ⟨W5, hW5⟩ : ∃ W5 : World, W5 = w4.alloc (.cells #[.int .i64 l1, .bool l2_] 147) := ⟨_, rfl⟩
  rw [← hW5] at h5 kE_ Qe O5 k5 e1
  have Q15 := (k5.block _ l2).trans Q12
  have B5 := B2.trans (k5.mono B2.size)
  go_upto_region 20 with (fail)
  rw [← hW5]
  clear hW5 cE oE O4 k4 kE_
  by_cases hE0 : E = 0
  rotate_left
  · have KK := Lib.hid (show doM X.FF m t ⟨5, r, hh, vv, a, b, cc⟩ = (⟨E, 0, []⟩, m) by rw [DM]; unfold exitV; rw [PE.out, if_pos hE0]; rfl)
    have z1 : (E == 0) = false := by simpa using hE0
    clear hE0 DM
    as_aux_lemma =>
      go_wp2_with fail
      refine (code_any _ _).mono ?_
      rintro z w3 ⟨rfl, k3⟩
      have dp := DidD.calm (h5.keep k3) k3
      have dl := dp.choose_spec
      have Q13 := (dl.2.1.keepT h5 ⟨_, Q15⟩ (by decide)).trans Q15
      have a0 := cell_of Q13 0 _ rfl
      have a1 := cell_of Q13 1 _ rfl
      have a2 := cell_of Q13 2 _ rfl
      have fz : ∀ o, w3.frozen? ⟨w.heap.size + 1, o, none⟩ = false := fun o => by simp [World.frozen?, Q13]
      have END := did_plain (c := E) (n := 0) (mo := m) B5 h5 ⟨_, Q15⟩ (Nat.le_succ _) dp
      go_wp2
      refine bodyPost_ret (v := anD (E) (0)) (by simp [results, Tryz.results23, go_sem, a0, a1, a2]) rfl ?_
      rw [KK.out]
      exact END
  subst hE0
  cases l2_ with
  | false =>
    have KK := Lib.hid (show doM X.FF m t ⟨5, r, hh, vv, a, b, cc⟩ = (⟨0, 0, []⟩, m.setEnt t (m.ents t).dropLast) by rw [DM]; unfold exitV; rw [PE.out, if_neg (by decide), LV.out, if_pos rfl]; rfl)
    have cr := h5.entC t4
    have fr := h5.hd.frozen
    obtain ⟨W6, hW6⟩ : ∃ W6 : World, W6 = W5.setCell ⟨X.D, 39 + t, none⟩ (sl3 yt) := ⟨_, rfl⟩
    have h6 := h5.putC (t := t) (by omega) (by omega) yt O5
    rw [← hW6] at h6
    have k6 : Only [X.D] W5 W6 := by rw [hW6]; exact Only.put W5 _ _ _ (by simp)
    clear DM
    as_aux_lemma =>
      go_wp2_with fail
      rw [← hW6]
      clear hW6 cr fr
      refine (code_any _ _).mono ?_
      rintro z w3 ⟨rfl, k3⟩
      have dp : DidD X p W5 (m.setEnt t (m.ents t).dropLast) w3 := ⟨_, h6.keep k3, ⟨[X.D], fun b hb => .inl (List.mem_singleton.1 hb), only_new k6 (Only.below (X := []) k3) (fun x hx => absurd hx List.not_mem_nil)⟩, fun b hb => .inl hb⟩
      have dl := dp.choose_spec
      have Q13 := (dl.2.1.keepT h5 ⟨_, Q15⟩ (by decide)).trans Q15
      have a0 := cell_of Q13 0 _ rfl
      have a1 := cell_of Q13 1 _ rfl
      have a2 := cell_of Q13 2 _ rfl
      have fz : ∀ o, w3.frozen? ⟨w.heap.size + 1, o, none⟩ = false := fun o => by simp [World.frozen?, Q13]
      have END := did_plain (c := 0) (n := 0) (mo := (m.setEnt t (m.ents t).dropLast)) B5 h5 ⟨_, Q15⟩ (Nat.le_succ _) dp
      go_wp2
      refine bodyPost_ret (v := anD (0) (0)) (by simp [results, Tryz.results23, go_sem, a0, a1, a2]) rfl ?_
      rw [KK.out]
      exact END
  | true =>
    have EX := refexit_any h5 v hk ff hn ht PE.out (by rw [LV.out])
    obtain ⟨r5, hr_⟩ : ∃ r, exitV X.FF m t = r := ⟨_, rfl⟩
    rw [hr_] at EX
    have KK := Lib.hid (show doM X.FF m t ⟨5, r, hh, vv, a, b, cc⟩ = r5 by rw [DM, hr_])
    clear DM hr_
    as_aux_lemma =>
      go_wp2_with fail
      refine EX.mono ?_
      rintro z w3 ⟨sd, rfl, S3, s3, dp⟩
      have dl := dp.choose_spec
      have Q13 := (dl.2.1.keepT h5 ⟨_, Q15⟩ (by decide)).trans Q15
      have a0 := cell_of Q13 0 _ rfl
      have a1 := cell_of Q13 1 _ rfl
      have a2 := cell_of Q13 2 _ rfl
      have fz : ∀ o, w3.frozen? ⟨w.heap.size + 1, o, none⟩ = false := fun o => by simp [World.frozen?, Q13]
      have END := did_end (r := r5) B5 h5 ⟨_, Q15⟩ (Nat.le_succ _) S3 s3 dp
      go_wp2
      refine bodyPost_ret (v := .agg #[.int .i64 r5.1.c, .int .i64 r5.1.n, sl3 sd]) (by simp [results, Tryz.results23, go_sem, a0, a1, a2]) rfl ?_
      rw [KK.out]
      exact END
end
end Go.Proofs.YtbpmnjmegffllaaGreat.Mod

namespace Go.Proofs.YtbpmnjmegffllaaGreat.Mod
open Go.ChangeShapes Go.WideShapes Go.ChangeAt Go.RowKit
open Slic Sco
set_option linter.unusedVariables false
set_option linter.unusedSimpArgs false
set_option maxRecDepth 8000
section
variable {w w' : World} {X : Dx} {p : Dp} {m m' : Mo} {Z : Fx} {k : Nat}
theorem Rm.create {I J : Int} (h : Rm w X p m) (v : Inv X.n X.A (8 * (X.N : Int)) I J m.F) (hN : X.N ≤ 8192) (z : Int) (z1 : -9223372036854775808 ≤ z) (z2 : z ≤ 9223372036854775807) :
    Calls Tryz.prog 67 #[ptrD X.P, .int .i64 z] w fun e w' => e = tellN (createV m.F z).v (createV m.F z).x ∧ ∃ Y', Rm w' X ⟨p.o, p.c, p.s, Y'⟩ ⟨(createV m.F z).F, m.O, m.A, m.T⟩ ∧ Only [X.P.gc, X.P.gx, X.P.gw] w w' := by
  obtain ⟨⟨R, L⟩, O, A, T⟩ := m
  obtain rfl : Gm.runs X.A p.Y X.N = L := h.rl.symm
  exact (refcreate_any h.rs v hN z z1 z2).mono fun e w' ⟨Y', a, b, c, d⟩ => ⟨a, Y', h.scopes d (fun b hb => by simpa using hb) b c, d⟩
theorem Rm.destroy {I J : Int} (h : Rm w X p m) (v : Inv X.n X.A (8 * (X.N : Int)) I J m.F) (hN : X.N ≤ 8192) (i : Int) :
    Calls Tryz.prog 68 #[ptrD X.P, .int .i64 i] w fun e w' => e = .returned (.int .i64 (destroyV m.F i).x) ∧ ∃ Y', Rm w' X ⟨p.o, p.c, p.s, Y'⟩ ⟨(destroyV m.F i).F, m.O, m.A, m.T⟩ ∧ Only [X.P.gc, X.P.gx, X.P.gw] w w' := by
  obtain ⟨⟨R, L⟩, O, A, T⟩ := m
  obtain rfl : Gm.runs X.A p.Y X.N = L := h.rl.symm
  exact (refdestroy_any h.rs v hN i).mono fun e w' ⟨Y', a, b, c, d⟩ => ⟨a, Y', h.scopes d (fun b hb => by simpa using hb) b c, d⟩
set_option maxHeartbeats 4000000 in
theorem refdo2 {a : Int} (h : Rm w X p m) (v : Iv Z k m) (hk : k ≤ 10000) (zA : Z.A = X.A) (zS : Z.S = 8 * (X.N : Int)) (zN : X.N ≤ 8192) (za1 : -9223372036854775808 ≤ a) (za2 : a ≤ 9223372036854775807) (hn : Z.n = X.n) {t : Nat} (ht : t < Z.nt) {r hh vv b cc : Int} (hr : 0 ≤ r) (hh0 : 0 ≤ hh) (hv0 : 0 ≤ vv) (hb : badC ⟨2, r, hh, vv, a, b, cc⟩ = false) :
    Calls Tryz.prog 23 #[ptrX X, .int .i64 (t : Int), .agg #[.int .u8 2, .int .u8 r, .int .u8 hh, .int .u8 vv, .int .i64 a, .int .i64 b, .int .i64 cc]] w (DidE X p w (doM X.FF m t ⟨2, r, hh, vv, a, b, cc⟩)) := by
  have n8 := v.n8
  have nt4 := v.nt.2
  have t4 : t < 4 := by omega
  have ti : (t : Int) < 4 := by omega
  have t0 : (0 : Int) ≤ (t : Int) := by omega
  have VF : Inv X.n X.A (8 * (X.N : Int)) Z.I Z.J m.F := by rw [← hn, ← zA, ← zS]; exact v.f
  obtain ⟨W, hW⟩ : ∃ W : World, W = (w.alloc (.cells #[.int .u8 2, .int .u8 r, .int .u8 hh, .int .u8 vv, .int .i64 a, .int .i64 b, .int .i64 cc] 35)).alloc (.cells #[.int .i64 0, .int .i64 0, .slice none 0 0] anT) := ⟨_, rfl⟩
  have Q0 := heap_alloc_new w (.cells #[.int .u8 2, .int .u8 r, .int .u8 hh, .int .u8 vv, .int .i64 a, .int .i64 b, .int .i64 cc] 35)
  have B0 := below_one w (.cells #[.int .u8 2, .int .u8 r, .int .u8 hh, .int .u8 vv, .int .i64 a, .int .i64 b, .int .i64 cc] 35)
  have h1 := (h.alloc (.cells #[.int .u8 2, .int .u8 r, .int .u8 hh, .int .u8 vv, .int .i64 a, .int .i64 b, .int .i64 cc] 35)).alloc (.cells #[.int .i64 0, .int .i64 0, .slice none 0 0] anT)
  have q : Below w.heap.size w W := by rw [hW]; exact B0.trans ((below_one _ _).mono B0.size)
  rw [← hW] at h1
  go_enter Tryz.func23, Tryz.ntmps23
  have Q1 := (heap_alloc_new (w.alloc (.cells #[.int .u8 2, .int .u8 r, .int .u8 hh, .int .u8 vv, .int .i64 a, .int .i64 b, .int .i64 cc] 35)) (.cells #[.int .i64 0, .int .i64 0, .slice none 0 0] anT))
  have Q2 := ((below_one (w.alloc (.cells #[.int .u8 2, .int .u8 r, .int .u8 hh, .int .u8 vv, .int .i64 a, .int .i64 b, .int .i64 cc] 35)) (.cells #[.int .i64 0, .int .i64 0, .slice none 0 0] anT)).block w.heap.size (by rw [World.size_alloc]; omega)).trans Q0
  rw [World.size_alloc] at Q1
  rw [← hW] at Q1 Q2
  have lw : w.heap.size + 1 < W.heap.size := by rw [hW, World.size_alloc, World.size_alloc]; omega
  have lDw := h.hd.lt
  have l0 : w.heap.size < W.heap.size := by omega
  have BC := Lib.hid hb
  have b0 := cell_of Q2 0 _ rfl
  have b1 := cell_of Q2 1 _ rfl
  have b2 := cell_of Q2 2 _ rfl
  have b3 := cell_of Q2 3 _ rfl
  have b4 := cell_of Q2 4 _ rfl
  have b5 := cell_of Q2 5 _ rfl
  have b6 := cell_of Q2 6 _ rfl
  clear Q0 B0 hb
  go_upto_region 1 with (fail)
  rw [← hW]
  clear hW
  go_wp2_with fail
  refine (regs12_any _ ⟨2, r, hh, vv, a, b, cc⟩).mono ?_
  rintro z w2 ⟨rfl, k2⟩
  rw [BC.out]
  have h2 := h1.keep k2
  have Q12 := (k2.block _ lw).trans Q1
  have Q22 := (k2.block w.heap.size l0).trans Q2
  have B2 := q.trans (k2.mono q.size)
  have c0 := cell_of Q22 0 _ rfl
  have c1 := cell_of Q22 1 _ rfl
  have c2 := cell_of Q22 2 _ rfl
  have c3 := cell_of Q22 3 _ rfl
  have c4 := cell_of Q22 4 _ rfl
  have c5 := cell_of Q22 5 _ rfl
  have c6 := cell_of Q22 6 _ rfl
  have l2 : w.heap.size + 1 < w2.heap.size := Nat.lt_of_lt_of_le lw k2.size
  clear b0 b1 b2 b3 b4 b5 b6
  have c5_ := h2.c5
  have lX := h2.hd.lt
  have CT := fun w9 (h9 : Rm w9 X p m) => h9.create VF zN a za1 za2
  obtain ⟨R, hR⟩ : ∃ R, createV m.F a = R := ⟨_, rfl⟩
  have KK := Lib.hid (show doM X.FF m t ⟨2, r, hh, vv, a, b, cc⟩ = (⟨R.x, R.v, []⟩, ⟨R.F, m.O, m.A, m.T⟩) by rw [← hR]; unfold doM; rw [BC.out]; rfl)
  simp only [hR] at CT
  clear hR VF
  go_wp2_with fail
  have n4_ : w.heap.size ∉ [X.P.gc, X.P.gx, X.P.gw] := fun hx => by
    simp at hx
    rcases hx with e | e | e
    · exact (isT.of Q22).ne h2.rs.tc (by decide) e
    · exact (isT.of Q22).ne h2.rs.tx (by decide) e
    · exact (isT.of Q22).ne h2.rs.tw (by decide) e
  go_region_held3 (fun W' => W'.cell? ⟨X.D, 5, none⟩ = some (ptrD X.P) ∧ W'.cell? ⟨w.heap.size, 4, none⟩ = some (.int .i64 a))
    (first | exact ⟨c5_, c4⟩ | exact KD)
    ((go_at_call 67; refine (CT _ (by first | exact h2 | exact h2.drew | exact h2.drew.drew)).mono ?_; rintro z w3 ⟨rfl, Y', h3, k3⟩; have n4 : w.heap.size ∉ [X.P.gc, X.P.gx, X.P.gw] := n4_; have KD := (show w3.cell? ⟨X.D, 5, none⟩ = some (ptrD X.P) ∧ w3.cell? ⟨w.heap.size, 4, none⟩ = some (.int .i64 a) from ⟨h3.c5, (World.cell?_of_block (a := ⟨w.heap.size, 4, none⟩) (k3.block w.heap.size (by show w.heap.size < w2.heap.size; omega) n4)).trans c4⟩)))
  have dp : DidD X p w2 ⟨R.F, m.O, m.A, m.T⟩ w3 := ⟨_, h3, ⟨[X.P.gc, X.P.gx, X.P.gw], fun b hb => by simp at hb; rcases hb with e | e | e; exact .inr (.inl e); exact .inr (.inr (.inl e)); exact .inr (.inr (.inr (.inl e))), (Only.below (X := [X.P.gc, X.P.gx, X.P.gw]) (Below.refl _ w2).drew).trans k3⟩, fun b hb => .inl hb⟩
  have dl := dp.choose_spec
  have Q13 := (dl.2.1.keepT h2 ⟨_, Q12⟩ (by decide)).trans Q12
  have a0 := cell_of Q13 0 _ rfl
  have a1 := cell_of Q13 1 _ rfl
  have a2 := cell_of Q13 2 _ rfl
  have fz : ∀ o, w3.frozen? ⟨w.heap.size + 1, o, none⟩ = false := fun o => by simp [World.frozen?, Q13]
  have END := did_plain (c := R.x) (n := R.v) (mo := ⟨R.F, m.O, m.A, m.T⟩) B2 h2 ⟨_, Q12⟩ (Nat.le_succ _) dp
  go_wp2
  refine bodyPost_ret (v := anD (R.x) (R.v)) (by simp [results, Tryz.results23, go_sem, a0, a1, a2]) rfl ?_
  rw [KK.out]
  exact END
set_option maxHeartbeats 4000000 in
theorem refdo3 {a : Int} (h : Rm w X p m) (v : Iv Z k m) (hk : k ≤ 10000) (zA : Z.A = X.A) (zS : Z.S = 8 * (X.N : Int)) (zN : X.N ≤ 8192) (za1 : -9223372036854775808 ≤ a) (za2 : a ≤ 9223372036854775807) (hn : Z.n = X.n) {t : Nat} (ht : t < Z.nt) {r hh vv b cc : Int} (hr : 0 ≤ r) (hh0 : 0 ≤ hh) (hv0 : 0 ≤ vv) (hb : badC ⟨3, r, hh, vv, a, b, cc⟩ = false) :
    Calls Tryz.prog 23 #[ptrX X, .int .i64 (t : Int), .agg #[.int .u8 3, .int .u8 r, .int .u8 hh, .int .u8 vv, .int .i64 a, .int .i64 b, .int .i64 cc]] w (DidE X p w (doM X.FF m t ⟨3, r, hh, vv, a, b, cc⟩)) := by
  have n8 := v.n8
  have nt4 := v.nt.2
  have t4 : t < 4 := by omega
  have ti : (t : Int) < 4 := by omega
  have t0 : (0 : Int) ≤ (t : Int) := by omega
  have VF : Inv X.n X.A (8 * (X.N : Int)) Z.I Z.J m.F := by rw [← hn, ← zA, ← zS]; exact v.f
  obtain ⟨W, hW⟩ : ∃ W : World, W = (w.alloc (.cells #[.int .u8 3, .int .u8 r, .int .u8 hh, .int .u8 vv, .int .i64 a, .int .i64 b, .int .i64 cc] 35)).alloc (.cells #[.int .i64 0, .int .i64 0, .slice none 0 0] anT) := ⟨_, rfl⟩
  have Q0 := heap_alloc_new w (.cells #[.int .u8 3, .int .u8 r, .int .u8 hh, .int .u8 vv, .int .i64 a, .int .i64 b, .int .i64 cc] 35)
  have B0 := below_one w (.cells #[.int .u8 3, .int .u8 r, .int .u8 hh, .int .u8 vv, .int .i64 a, .int .i64 b, .int .i64 cc] 35)
  have h1 := (h.alloc (.cells #[.int .u8 3, .int .u8 r, .int .u8 hh, .int .u8 vv, .int .i64 a, .int .i64 b, .int .i64 cc] 35)).alloc (.cells #[.int .i64 0, .int .i64 0, .slice none 0 0] anT)
  have q : Below w.heap.size w W := by rw [hW]; exact B0.trans ((below_one _ _).mono B0.size)
  rw [← hW] at h1
  go_enter Tryz.func23, Tryz.ntmps23
  have Q1 := (heap_alloc_new (w.alloc (.cells #[.int .u8 3, .int .u8 r, .int .u8 hh, .int .u8 vv, .int .i64 a, .int .i64 b, .int .i64 cc] 35)) (.cells #[.int .i64 0, .int .i64 0, .slice none 0 0] anT))
  have Q2 := ((below_one (w.alloc (.cells #[.int .u8 3, .int .u8 r, .int .u8 hh, .int .u8 vv, .int .i64 a, .int .i64 b, .int .i64 cc] 35)) (.cells #[.int .i64 0, .int .i64 0, .slice none 0 0] anT)).block w.heap.size (by rw [World.size_alloc]; omega)).trans Q0
  rw [World.size_alloc] at Q1
  rw [← hW] at Q1 Q2
  have lw : w.heap.size + 1 < W.heap.size := by rw [hW, World.size_alloc, World.size_alloc]; omega
  have lDw := h.hd.lt
  have l0 : w.heap.size < W.heap.size := by omega
  have BC := Lib.hid hb
  have b0 := cell_of Q2 0 _ rfl
  have b1 := cell_of Q2 1 _ rfl
  have b2 := cell_of Q2 2 _ rfl
  have b3 := cell_of Q2 3 _ rfl
  have b4 := cell_of Q2 4 _ rfl
  have b5 := cell_of Q2 5 _ rfl
  have b6 := cell_of Q2 6 _ rfl
  clear Q0 B0 hb
  go_upto_region 1 with (fail)
  rw [← hW]
  clear hW
  go_wp2_with fail
  refine (regs12_any _ ⟨3, r, hh, vv, a, b, cc⟩).mono ?_
  rintro z w2 ⟨rfl, k2⟩
  rw [BC.out]
  have h2 := h1.keep k2
  have Q12 := (k2.block _ lw).trans Q1
  have Q22 := (k2.block w.heap.size l0).trans Q2
  have B2 := q.trans (k2.mono q.size)
  have c0 := cell_of Q22 0 _ rfl
  have c1 := cell_of Q22 1 _ rfl
  have c2 := cell_of Q22 2 _ rfl
  have c3 := cell_of Q22 3 _ rfl
  have c4 := cell_of Q22 4 _ rfl
  have c5 := cell_of Q22 5 _ rfl
  have c6 := cell_of Q22 6 _ rfl
  have l2 : w.heap.size + 1 < w2.heap.size := Nat.lt_of_lt_of_le lw k2.size
  clear b0 b1 b2 b3 b4 b5 b6
  have c5_ := h2.c5
  have lX := h2.hd.lt
  have CT := fun w9 (h9 : Rm w9 X p m) => h9.destroy VF zN a
  obtain ⟨R, hR⟩ : ∃ R, destroyV m.F a = R := ⟨_, rfl⟩
  have KK := Lib.hid (show doM X.FF m t ⟨3, r, hh, vv, a, b, cc⟩ = (⟨R.x, 0, []⟩, ⟨R.F, m.O, m.A, m.T⟩) by rw [← hR]; unfold doM; rw [BC.out]; rfl)
  simp only [hR] at CT
  clear hR VF
  go_wp2_with fail
  have n4_ : w.heap.size ∉ [X.P.gc, X.P.gx, X.P.gw] := fun hx => by
    simp at hx
    rcases hx with e | e | e
    · exact (isT.of Q22).ne h2.rs.tc (by decide) e
    · exact (isT.of Q22).ne h2.rs.tx (by decide) e
    · exact (isT.of Q22).ne h2.rs.tw (by decide) e
  have nX : X.D ≠ w.heap.size + 1 := by omega
  have n1_ : w.heap.size + 1 ∉ [X.P.gc, X.P.gx, X.P.gw] := fun hx => by
    simp at hx
    rcases hx with e | e | e
    · exact (isT.of Q12).ne h2.rs.tc (by decide) e
    · exact (isT.of Q12).ne h2.rs.tx (by decide) e
    · exact (isT.of Q12).ne h2.rs.tw (by decide) e
  go_region_held3 (fun W' => W'.cell? ⟨X.D, 5, none⟩ = some (ptrD X.P) ∧ W'.cell? ⟨w.heap.size, 4, none⟩ = some (.int .i64 a))
    (first | exact ⟨c5_, c4⟩ | exact KD4 | exact KD | (refine ⟨?_, ?_⟩ <;> simp [go_sem, KD4.1, KD4.2, nX]))
    (first | ((go_at_call 68; refine (CT _ (by first | exact h2 | exact h2.drew | exact h2.drew.drew)).mono ?_; rintro z w3 ⟨rfl, Y', h3, k3⟩; have n4 : w.heap.size ∉ [X.P.gc, X.P.gx, X.P.gw] := n4_; have KD := (show w3.cell? ⟨X.D, 5, none⟩ = some (ptrD X.P) ∧ w3.cell? ⟨w.heap.size, 4, none⟩ = some (.int .i64 a) from ⟨h3.c5, (World.cell?_of_block (a := ⟨w.heap.size, 4, none⟩) (k3.block w.heap.size (by show w.heap.size < w2.heap.size; omega) n4)).trans c4⟩))) | ((go_at_call 66; refine (code_any _ _).mono ?_; rintro z w4 ⟨rfl, k4⟩; have h4 := h3.keep k4; have k34 : Only [X.P.gc, X.P.gx, X.P.gw] w2 w4 := (only_new ((Only.below (X := [X.P.gc, X.P.gx, X.P.gw]) (Below.refl _ w2).drew).trans k3) (Only.below (X := []) k4) (fun x hx => absurd hx List.not_mem_nil)); have Q14 := (k34.block (w.heap.size + 1) l2 n1_).trans Q12; have a0 := cell_of Q14 0 _ rfl; have a1 := cell_of Q14 1 _ rfl; have a2 := cell_of Q14 2 _ rfl; have fz : ∀ o, w4.frozen? ⟨w.heap.size + 1, o, none⟩ = false := (fun o => by simp [World.frozen?, Q14]); have KD4 := (show w4.cell? ⟨X.D, 5, none⟩ = some (ptrD X.P) ∧ w4.cell? ⟨w.heap.size, 4, none⟩ = some (.int .i64 a) from ⟨h4.c5, (World.cell?_of_block (a := ⟨w.heap.size, 4, none⟩) (k34.block w.heap.size (by show w.heap.size < w2.heap.size; omega) n4_)).trans c4⟩))))
  have dp : DidD X p w2 ⟨R.F, m.O, m.A, m.T⟩ w4 := ⟨_, h4, ⟨[X.P.gc, X.P.gx, X.P.gw], fun b hb => by simp at hb; rcases hb with e | e | e; exact .inr (.inl e); exact .inr (.inr (.inl e)); exact .inr (.inr (.inr (.inl e))), k34⟩, fun b hb => .inl hb⟩
  have END := did_plain (c := R.x) (n := 0) (mo := ⟨R.F, m.O, m.A, m.T⟩) B2 h2 ⟨_, Q12⟩ (Nat.le_succ _) dp
  go_wp2
  refine bodyPost_ret (v := anD (R.x) 0) (by simp [results, Tryz.results23, go_sem, a0, a1, a2]) rfl ?_
  rw [KK.out]
  exact END
end
end Go.Proofs.YtbpmnjmegffllaaGreat.Mod

namespace Go.Proofs.YtbpmnjmegffllaaGreat.Mod
open Go.ChangeShapes Go.WideShapes Go.ChangeAt Go.RowKit
open Slic Sco
set_option linter.unusedVariables false
section
variable {w w' : World} {X : Dx} {p : Dp} {m m' : Mo} {Z : Fx} {k : Nat}
theorem refdo_any (h : Rm w X p m) (v : Iv Z k m) (hk : k ≤ 10000) (ff : Fok X.FF) (hn : Z.n = X.n) (zA : Z.A = X.A) (zS : Z.S = 8 * (X.N : Int)) (zN : X.N ≤ 8192) {t : Nat} (ht : t < Z.nt) {c : Ca} (hc : Cok c) :
    Calls Tryz.prog 23 #[ptrX X, .int .i64 (t : Int), .agg (caA c)] w (DidE X p w (doM X.FF m t c)) := by
  obtain ⟨c0, c1, c2, c3, c4, c5⟩ := hc
  obtain ⟨op, r, hh, vv, a, b, cc⟩ := c
  dsimp only at c0 c1 c2 c3 c4 c5
  cases hb : badC ⟨op, r, hh, vv, a, b, cc⟩ with
  | true => exact refdoB h v hk hn ht c1 c2 c3 hb
  | false =>
    have : op = 0 ∨ op = 1 ∨ op = 2 ∨ op = 3 ∨ op = 4 ∨ op = 5 ∨ op = 6 ∨ op = 7 ∨ op = 8 ∨ op = 9 ∨ op = 10 ∨ op = 11 ∨ 12 ≤ op := by omega
    rcases this with rfl | rfl | rfl | rfl | rfl | rfl | rfl | rfl | rfl | rfl | rfl | rfl | h12
    · exact refdo0 h v hk hn ht c1 c2 c3 hb
    · exact refdo1 h v hk hn ht c1 c2 c3 hb
    · exact refdo2 h v hk zA zS zN c4 c5 hn ht c1 c2 c3 hb
    · exact refdo3 h v hk zA zS zN c4 c5 hn ht c1 c2 c3 hb
    · exact refdo4 h v hk hn ht c1 c2 c3 hb
    · exact refdo5 h v hk ff hn ht c1 c2 c3 hb
    · exact refdo6 h v hk hn ht c1 c2 c3 hb
    · exact refdo7 h v hk hn ht c1 c2 c3 hb
    · exact refdo8 h v hk hn ht c1 c2 c3 hb
    · exact refdo9 h v hk hn ht c1 c2 c3 hb
    · exact refdo10 h v hk hn ht c1 c2 c3 hb
    · exact refdo11 h v hk hn ht c1 c2 c3 hb
    · exact refdoX h v hk hn ht h12 c1 c2 c3 hb
end
end Go.Proofs.YtbpmnjmegffllaaGreat.Mod

namespace Go.Proofs.YtbpmnjmegffllaaGreat.Mod
open Go.ChangeShapes Go.WideShapes Go.ChangeAt Go.RowKit
open Slic Sco
set_option linter.unusedVariables false
set_option linter.unusedSimpArgs false
set_option maxRecDepth 100000
attribute [local go_sem ↓] Go.wp_at_zero Go.wp_at_succ
theorem new_ar (n nt : Nat) (A S I J : Int) (s : Int) : (newM n nt A S I J).ar s = ar0 := by
  unfold Mo.ar newM
  dsimp only
  rw [List.getD_eq_getElem?_getD, List.getElem?_replicate]
  split <;> rfl
theorem new_th (n nt : Nat) (A S I J : Int) (t : Nat) : (newM n nt A S I J).th t = th0 := by
  unfold Mo.th newM
  dsimp only
  rw [List.getD_eq_getElem?_getD, List.getElem?_replicate]
  split <;> rfl
def p0 : Dp := ⟨(none, 0, 0), fun _ => (none, 0, 0), [], fun _ => true⟩
def newC (n nt I H : Int) (f pt : Value) (j : Nat) : Value :=
  if j = 0 then .int .i64 n else if j = 1 then .int .i64 nt else if j = 2 then .int .i64 I else if j = 3 then .int .i64 H
  else if j = 4 then f else if j = 5 then pt else if j = 6 then .slice none 0 0
  else if j < 15 then .int .u64 0 else if j < 23 then .int .i64 0 else if j < 39 then .int .u64 0 else .slice none 0 0
theorem new_cells (X : Dx) (n nt : Nat) (A S I J : Int) : dcell X p0 (newM n nt A S I J) = newC (X.n : Int) (X.nt : Int) X.I X.H X.f (ptrD X.P) := by
  funext j
  unfold dcell newC
  rw [new_ar, new_ar, new_th]
  rfl
abbrev cells43 (n nt I H : Int) (f pt : Value) : List Value := [.int .i64 n, .int .i64 nt, .int .i64 I, .int .i64 H, f, pt, .slice none 0 0, .int .u64 0, .int .u64 0, .int .u64 0, .int .u64 0, .int .u64 0, .int .u64 0, .int .u64 0, .int .u64 0, .int .i64 0, .int .i64 0, .int .i64 0, .int .i64 0, .int .i64 0, .int .i64 0, .int .i64 0, .int .i64 0, .int .u64 0, .int .u64 0, .int .u64 0, .int .u64 0, .int .u64 0, .int .u64 0, .int .u64 0, .int .u64 0, .int .u64 0, .int .u64 0, .int .u64 0, .int .u64 0, .int .u64 0, .int .u64 0, .int .u64 0, .int .u64 0, .slice none 0 0, .slice none 0 0, .slice none 0 0, .slice none 0 0]
theorem cells_new (n nt I H : Int) (f pt : Value) : cells43 n nt I H f pt = (List.range 43).map (newC n nt I H f pt) := rfl
theorem row_new43 (W : World) (n nt I H : Int) (f pt : Value) : (W.alloc (.cells (cells43 n nt I H f pt).toArray 94)).rowIs W.heap.size 94 43 (newC n nt I H f pt) :=
  World.rowIs_alloc W (cells43 n nt I H f pt).toArray 94 _ (fun i hi => by
    have hi' : i < 43 := hi
    rw [List.getElem?_toArray, cells_new, List.getElem?_map, List.getElem?_range hi']
    rfl)
set_option maxHeartbeats 4000000 in
theorem refnew12_any (w : World) (n N nt : Nat) (i : Int) (fA : Option Addr) (fl fc : Nat) (FF : List (List Fina.O)) (hr : Plan.rightB (n : Int) (nt : Int) i (8 * (N : Int)) = true) (hf : FRows w (.slice fA fl fc) FF) :
    Calls Tryz.prog 22 #[.agg #[.int .i64 (n : Int), .int .i64 (nt : Int), .int .i64 i, .int .i64 (8 * (N : Int))], .slice fA fl fc] w fun e w' => ∃ X : Dx, e = .returned (ptrX X) ∧ Rm w' X p0 (newM n nt (64 * (n : Int) + i) (8 * (N : Int)) (64 * (n : Int)) i) ∧ X.n = n ∧ X.nt = nt ∧ X.A = 64 * (n : Int) + i ∧ X.N = N ∧ X.FF = FF ∧ Below w.heap.size w w' ∧ (∀ b, dw X p0 b → w.heap.size ≤ b) := by
  have S0 := (Held.St.start w).new [.int .i64 (n : Int), .int .i64 (nt : Int), .int .i64 i, .int .i64 (8 * (N : Int))] 23
  have SD := S0.drew
  go_enter Tryz.func22, Tryz.ntmps22
  go_upto_region 1 with (fail)
  refine wp_region_held_drew (S := fun W' => W'.cell? ⟨w.heap.size, 0, none⟩ = some (.int .i64 (n : Int)) ∧ W'.cell? ⟨w.heap.size, 1, none⟩ = some (.int .i64 (nt : Int)) ∧ W'.cell? ⟨w.heap.size, 2, none⟩ = some (.int .i64 i) ∧ W'.cell? ⟨w.heap.size, 3, none⟩ = some (.int .i64 (8 * (N : Int)))) (by kernel_rfl) ?_ (fun hHeld => ?_)
  · exact (SD.get4 0 rfl).2
  refine wpAnyH_take (i := 0) (oi := ⟨some 5, _, _, _, _, _⟩) (v := ?_) rfl (by kernel_rfl) (by kernel_rfl) (by kernel_rfl) (fun _ _ _ h => h) (Or.inl ⟨by kernel_rfl, ?_⟩) (by assumption) ?_
  rotate_left
  · intro w hSw
    try dsimp only at hSw
    first | (go_simp; done) | (go_simp; with_reducible rfl) | with_reducible rfl
  simp only [Act.put, List.setIfInBounds_toArray, List.set_cons_zero, List.set_cons_succ]
  refine wpAnyH_take (i := 1) (oi := ⟨some 6, _, _, _, _, _⟩) (v := ?_) rfl (by kernel_rfl) (by kernel_rfl) (by kernel_rfl) (fun _ _ _ h => h) (Or.inl ⟨by kernel_rfl, ?_⟩) (by assumption) ?_
  rotate_left
  · intro w hSw
    try dsimp only at hSw
    first | (go_simp; done) | (go_simp; with_reducible rfl) | with_reducible rfl
  simp only [Act.put, List.setIfInBounds_toArray, List.set_cons_zero, List.set_cons_succ]
  refine wpAnyH_take (i := 2) (oi := ⟨some 7, _, _, _, _, _⟩) (v := ?_) rfl (by kernel_rfl) (by kernel_rfl) (by kernel_rfl) (fun _ _ _ h => h) (Or.inl ⟨by kernel_rfl, ?_⟩) (by assumption) ?_
  rotate_left
  · intro w hSw
    try dsimp only at hSw
    first | (go_simp; done) | (go_simp; with_reducible rfl) | with_reducible rfl
  simp only [Act.put, List.setIfInBounds_toArray, List.set_cons_zero, List.set_cons_succ]
  refine wpAnyH_ready (rs := [3]) (by kernel_rfl) (by simp) ?_
  refine AllReadyH.cons (o := ⟨some 8, _, _, _, _, _⟩) rfl (fun K hK => ?_) AllReadyH.nil
  go_simp
  refine (Sco.refnew_any _ n N (nt : Int) i hr).mono ?_
  rintro e w2 ⟨P, rfl, rs, k2, l1, l2, l3, l4, l5⟩
  have S2 := SD.call k2
  refine hK.out _ _ ?_ (fun hHeld => ?_)
  · exact (S2.get4 0 rfl).2
  clear hK K
  refine wpAnyH_take (i := 4) (oi := ⟨some 9, _, _, _, _, _⟩) (v := ?_) rfl (by kernel_rfl) (by kernel_rfl) (by kernel_rfl) (fun _ _ _ h => h) (Or.inl ⟨by kernel_rfl, ?_⟩) (by assumption) ?_
  rotate_left
  · intro w hSw
    try dsimp only at hSw
    first | (go_simp; done) | (go_simp; with_reducible rfl) | with_reducible rfl
  simp only [Act.put, List.setIfInBounds_toArray, List.set_cons_zero, List.set_cons_succ]
  have RW := row_new43 w2 (n : Int) (nt : Int) i (8 * (N : Int)) (.slice fA fl fc) (ptrD P)
  have S3 := S2.call ((Below.refl _ _).alloc (Nat.le_refl _) (.cells (cells43 (n : Int) (nt : Int) i (8 * (N : Int)) (.slice fA fl fc) (ptrD P)).toArray 94))
  refine wpAnyH_ready (rs := [5]) (by kernel_rfl) (by simp) ?_
  refine AllReadyH.cons (o := ⟨some 10, _, _, _, _, _⟩) rfl (fun K hK => ?_) AllReadyH.nil
  go_simp
  refine hK.out _ _ ?_ (fun hHeld => ?_)
  · exact (S3.get4 0 rfl).2
  clear hK K
  refine wpAnyH_ready (rs := [6]) (by kernel_rfl) (by simp) ?_
  refine AllReadyH.cons (o := ⟨some 4, _, _, _, _, _⟩) rfl (fun K hK => ?_) AllReadyH.nil
  go_simp
  refine hK.out _ _ ?_ (fun hHeld => ?_)
  · exact (S3.get4 0 rfl).2
  clear hK K
  refine wpAnyH_done (by kernel_rfl) ?_ _
  go_wp2_with fail
  go_ret
  have bl := S3.below
  have lw := S2.below.size
  have ls := SD.below.size
  refine ⟨⟨w2.heap.size, n, nt, i, 8 * (N : Int), 64 * (n : Int) + i, N, .slice fA fl fc, FF, P⟩, rfl, ⟨?_, ?_, ?_, Slic.Own.nil _ _, rfl, ?_, List.Pairwise.nil, ?_, ?_⟩, rfl, rfl, rfl, rfl, rfl, bl, ?_⟩
  · rw [new_cells]
    exact RW
  · exact rs.below ((Below.refl _ _).alloc (Nat.le_refl _) _)
  · exact start_runs n N _ _ _
  · intro j o t' h1 h2
    cases h2
  · intro t' ht
    show Slic.Own kE _ 0 (.slice none 0 0) ((newM _ _ _ _ _ _).th t').c
    rw [new_th]
    exact Slic.Own.nil _ _
  · exact hf.types (X := []) (Only.below bl) (fun x hx => absurd hx List.not_mem_nil) (fun x hx => absurd hx List.not_mem_nil)
  · intro b hb
    rcases hb with rfl | rfl | rfl | rfl | e | ⟨t', ht, _⟩
    · exact lw
    · exact Nat.le_trans ls l2
    · exact Nat.le_trans ls l3
    · exact Nat.le_trans ls l5
    · cases e
    · cases ht
end Go.Proofs.YtbpmnjmegffllaaGreat.Mod
