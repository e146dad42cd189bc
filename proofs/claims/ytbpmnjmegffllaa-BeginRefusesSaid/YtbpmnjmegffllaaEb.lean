/-
  Contracts of the document's model: Do.
-/
import Derived.Test.YtbpmnjmegffllaaEa
import Derived.Deep.DeepCutAuto
namespace Go.Proofs.Ytbpmnjmegffllaa.Mod
open Go.ChangeShapes Go.WideShapes Go.ChangeAt Go.RowKit
open Slic Sco
set_option linter.unusedVariables false
set_option linter.unusedSimpArgs false
set_option maxRecDepth 8000
section
variable {w w' : World} {X : Dx} {p : Dp} {m m' : Mo} {Z : Fx} {k : Nat}
theorem said_alloc (m : Mo) (t : Nat) (c : Ca) : (allocV m t c).1.said = [] := by
  unfold allocV give
  split
  · rfl
  · split <;> rfl
theorem said_slot (m : Mo) (t : Nat) (c : Ca) : (slD m t c).1.said = [] := by
  unfold slD loadV storeV give
  split
  · split <;> rfl
  · split
    · rfl
    · split <;> rfl
set_option maxHeartbeats 4000000 in
theorem refdo7 (h : Rm w X p m) (v : Iv Z k m) (hk : k ≤ 10000) (hn : Z.n = X.n) {t : Nat} (ht : t < Z.nt) {r hh vv a b cc : Int} (hr : 0 ≤ r) (hh0 : 0 ≤ hh) (hv0 : 0 ≤ vv) (hb : badC ⟨7, r, hh, vv, a, b, cc⟩ = false) :
    Calls Try.prog 24 #[ptrX X, .int .i64 (t : Int), .agg #[.int .u8 7, .int .u8 r, .int .u8 hh, .int .u8 vv, .int .i64 a, .int .i64 b, .int .i64 cc]] w (DidE X p w (doM X.FF m t ⟨7, r, hh, vv, a, b, cc⟩)) := by
  have n8 := v.n8
  have nt4 := v.nt.2
  have t4 : t < 4 := by omega
  have ti : (t : Int) < 4 := by omega
  have t0 : (0 : Int) ≤ (t : Int) := by omega
  obtain ⟨r, rfl⟩ : ∃ n : Nat, r = (n : Int) := ⟨r.toNat, by omega⟩
  have r4 : r < 4 := by
    simp [badC, badR] at hb
    omega
  obtain ⟨W, hW⟩ : ∃ W : World, W = (w.alloc (.cells #[.int .u8 7, .int .u8 r, .int .u8 hh, .int .u8 vv, .int .i64 a, .int .i64 b, .int .i64 cc] 47)).alloc (.cells #[.int .i64 0, .int .i64 0, .slice none 0 0] anT) := ⟨_, rfl⟩
  have Q0 := heap_alloc_new w (.cells #[.int .u8 7, .int .u8 r, .int .u8 hh, .int .u8 vv, .int .i64 a, .int .i64 b, .int .i64 cc] 47)
  have B0 := below_one w (.cells #[.int .u8 7, .int .u8 r, .int .u8 hh, .int .u8 vv, .int .i64 a, .int .i64 b, .int .i64 cc] 47)
  have h1 := (h.alloc (.cells #[.int .u8 7, .int .u8 r, .int .u8 hh, .int .u8 vv, .int .i64 a, .int .i64 b, .int .i64 cc] 47)).alloc (.cells #[.int .i64 0, .int .i64 0, .slice none 0 0] anT)
  have q : Below w.heap.size w W := by rw [hW]; exact B0.trans ((below_one _ _).mono B0.size)
  rw [← hW] at h1
  go_enter Try.func24, Try.ntmps24
  have Q1 := (heap_alloc_new (w.alloc (.cells #[.int .u8 7, .int .u8 r, .int .u8 hh, .int .u8 vv, .int .i64 a, .int .i64 b, .int .i64 cc] 47)) (.cells #[.int .i64 0, .int .i64 0, .slice none 0 0] anT))
  have Q2 := ((below_one (w.alloc (.cells #[.int .u8 7, .int .u8 r, .int .u8 hh, .int .u8 vv, .int .i64 a, .int .i64 b, .int .i64 cc] 47)) (.cells #[.int .i64 0, .int .i64 0, .slice none 0 0] anT)).block w.heap.size (by rw [World.size_alloc]; omega)).trans Q0
  rw [World.size_alloc] at Q1
  rw [← hW] at Q1 Q2
  have lw : w.heap.size + 1 < W.heap.size := by rw [hW, World.size_alloc, World.size_alloc]; omega
  have lDw := h.hd.lt
  have l0 : w.heap.size < W.heap.size := by omega
  have BC := Lib.hid hb
  have b0 := cell_of Q2 0 _ rfl
  have b1 := cell_of Q2 1 _ rfl
  have b2 := cell_of Q2 2 _ rfl
  have b3 := cell_of Q2 3 _ rfl
  have b4 := cell_of Q2 4 _ rfl
  have b5 := cell_of Q2 5 _ rfl
  have b6 := cell_of Q2 6 _ rfl
  clear Q0 B0 hb
  go_upto_region 1 with (fail)
  rw [← hW]
  clear hW
  go_wp2_with fail
  refine (regs12_any _ ⟨7, r, hh, vv, a, b, cc⟩).mono ?_
  rintro z w2 ⟨rfl, k2⟩
  rw [BC.out]
  have h2 := h1.keep k2
  have Q12 := (k2.block _ lw).trans Q1
  have Q22 := (k2.block w.heap.size l0).trans Q2
  have B2 := q.trans (k2.mono q.size)
  have c0 := cell_of Q22 0 _ rfl
  have c1 := cell_of Q22 1 _ rfl
  have c2 := cell_of Q22 2 _ rfl
  have c3 := cell_of Q22 3 _ rfl
  have c4 := cell_of Q22 4 _ rfl
  have c5 := cell_of Q22 5 _ rfl
  have c6 := cell_of Q22 6 _ rfl
  have l2 : w.heap.size + 1 < w2.heap.size := Nat.lt_of_lt_of_le lw k2.size
  clear b0 b1 b2 b3 b4 b5 b6
  obtain ⟨R, hR⟩ : ∃ R, allocV m t ⟨7, r, hh, vv, a, b, cc⟩ = R := ⟨_, rfl⟩
  have hs := said_alloc m t ⟨7, r, hh, vv, a, b, cc⟩
  rw [hR] at hs
  obtain ⟨⟨rc, rn, rs⟩, rm_⟩ := R
  dsimp only at hs
  subst hs
  have KK := Lib.hid (show doM X.FF m t ⟨7, r, hh, vv, a, b, cc⟩ = (⟨rc, rn, []⟩, rm_) by unfold doM; rw [BC.out]; simpa using hR)
  have CT := fun w9 (h9 : Rm w9 X p m) => refalloc_any h9 v hk hn ht (op := 7) (hh := hh) (vv := vv) (a := a) (b := b) (cc := cc) r4
  rw [hR] at CT
  clear hR
  go_wp2_with fail
  refine (CT _ h2).mono ?_
  rintro z w3 ⟨rfl, dp⟩
  have dl := dp.choose_spec
  have Q13 := (dl.2.1.keepT h2 ⟨_, Q12⟩ (by decide)).trans Q12
  have a0 := cell_of Q13 0 _ rfl
  have a1 := cell_of Q13 1 _ rfl
  have a2 := cell_of Q13 2 _ rfl
  have fz : ∀ o, w3.frozen? ⟨w.heap.size + 1, o, none⟩ = false := fun o => by simp [World.frozen?, Q13]
  have END := did_plain (c := rc) (n := rn) (mo := rm_) B2 h2 ⟨_, Q12⟩ (Nat.le_succ _) dp
  go_wp2
  refine bodyPost_ret (v := anD (rc) (rn)) (by simp [results, Try.results24, go_sem, a0, a1, a2]) rfl ?_
  rw [KK.out]
  exact END
theorem said_enter (m : Mo) (t : Nat) (i : Int) : (enterV m t i).1.said = [] := by
  unfold enterV
  split
  · rfl
  · split
    · rfl
    · split <;> rfl
theorem said_in (m : Mo) (t : Nat) (i : Int) : (inV m t i).1.said = [] := by
  unfold inV
  split
  · rfl
  · split
    · rfl
    · split <;> rfl
theorem said_gate (m : Mo) (t : Nat) (c : Ca) : (gaD m t c).1.said = [] := by
  unfold gaD lookV gateV give
  split
  · split <;> rfl
  · split
    · rfl
    · split <;> rfl
set_option maxHeartbeats 4000000 in
theorem refdo8 (h : Rm w X p m) (v : Iv Z k m) (hk : k ≤ 10000) (hn : Z.n = X.n) {t : Nat} (ht : t < Z.nt) {r hh vv a b cc : Int} (hr : 0 ≤ r) (hh0 : 0 ≤ hh) (hv0 : 0 ≤ vv) (hb : badC ⟨8, r, hh, vv, a, b, cc⟩ = false) :
    Calls Try.prog 24 #[ptrX X, .int .i64 (t : Int), .agg #[.int .u8 8, .int .u8 r, .int .u8 hh, .int .u8 vv, .int .i64 a, .int .i64 b, .int .i64 cc]] w (DidE X p w (doM X.FF m t ⟨8, r, hh, vv, a, b, cc⟩)) := by
  have n8 := v.n8
  have nt4 := v.nt.2
  have t4 : t < 4 := by omega
  have ti : (t : Int) < 4 := by omega
  have t0 : (0 : Int) ≤ (t : Int) := by omega
  obtain ⟨r, rfl⟩ : ∃ n : Nat, r = (n : Int) := ⟨r.toNat, by omega⟩
  obtain ⟨hh, rfl⟩ : ∃ n : Nat, hh = (n : Int) := ⟨hh.toNat, by omega⟩
  obtain ⟨vv, rfl⟩ : ∃ n : Nat, vv = (n : Int) := ⟨vv.toNat, by omega⟩
  have r4 : r < 4 := by
    simp [badC, badR] at hb
    omega
  have h4 : hh < 4 := by
    simp [badC, badR] at hb
    omega
  obtain ⟨W, hW⟩ : ∃ W : World, W = (w.alloc (.cells #[.int .u8 8, .int .u8 r, .int .u8 hh, .int .u8 vv, .int .i64 a, .int .i64 b, .int .i64 cc] 47)).alloc (.cells #[.int .i64 0, .int .i64 0, .slice none 0 0] anT) := ⟨_, rfl⟩
  have Q0 := heap_alloc_new w (.cells #[.int .u8 8, .int .u8 r, .int .u8 hh, .int .u8 vv, .int .i64 a, .int .i64 b, .int .i64 cc] 47)
  have B0 := below_one w (.cells #[.int .u8 8, .int .u8 r, .int .u8 hh, .int .u8 vv, .int .i64 a, .int .i64 b, .int .i64 cc] 47)
  have h1 := (h.alloc (.cells #[.int .u8 8, .int .u8 r, .int .u8 hh, .int .u8 vv, .int .i64 a, .int .i64 b, .int .i64 cc] 47)).alloc (.cells #[.int .i64 0, .int .i64 0, .slice none 0 0] anT)
  have q : Below w.heap.size w W := by rw [hW]; exact B0.trans ((below_one _ _).mono B0.size)
  rw [← hW] at h1
  go_enter Try.func24, Try.ntmps24
  have Q1 := (heap_alloc_new (w.alloc (.cells #[.int .u8 8, .int .u8 r, .int .u8 hh, .int .u8 vv, .int .i64 a, .int .i64 b, .int .i64 cc] 47)) (.cells #[.int .i64 0, .int .i64 0, .slice none 0 0] anT))
  have Q2 := ((below_one (w.alloc (.cells #[.int .u8 8, .int .u8 r, .int .u8 hh, .int .u8 vv, .int .i64 a, .int .i64 b, .int .i64 cc] 47)) (.cells #[.int .i64 0, .int .i64 0, .slice none 0 0] anT)).block w.heap.size (by rw [World.size_alloc]; omega)).trans Q0
  rw [World.size_alloc] at Q1
  rw [← hW] at Q1 Q2
  have lw : w.heap.size + 1 < W.heap.size := by rw [hW, World.size_alloc, World.size_alloc]; omega
  have lDw := h.hd.lt
  have l0 : w.heap.size < W.heap.size := by omega
  have BC := Lib.hid hb
  have b0 := cell_of Q2 0 _ rfl
  have b1 := cell_of Q2 1 _ rfl
  have b2 := cell_of Q2 2 _ rfl
  have b3 := cell_of Q2 3 _ rfl
  have b4 := cell_of Q2 4 _ rfl
  have b5 := cell_of Q2 5 _ rfl
  have b6 := cell_of Q2 6 _ rfl
  clear Q0 B0 hb
  go_upto_region 1 with (fail)
  rw [← hW]
  clear hW
  go_wp2_with fail
  refine (regs12_any _ ⟨8, r, hh, vv, a, b, cc⟩).mono ?_
  rintro z w2 ⟨rfl, k2⟩
  rw [BC.out]
  have h2 := h1.keep k2
  have Q12 := (k2.block _ lw).trans Q1
  have Q22 := (k2.block w.heap.size l0).trans Q2
  have B2 := q.trans (k2.mono q.size)
  have c0 := cell_of Q22 0 _ rfl
  have c1 := cell_of Q22 1 _ rfl
  have c2 := cell_of Q22 2 _ rfl
  have c3 := cell_of Q22 3 _ rfl
  have c4 := cell_of Q22 4 _ rfl
  have c5 := cell_of Q22 5 _ rfl
  have c6 := cell_of Q22 6 _ rfl
  have l2 : w.heap.size + 1 < w2.heap.size := Nat.lt_of_lt_of_le lw k2.size
  clear b0 b1 b2 b3 b4 b5 b6
  obtain ⟨R, hR⟩ : ∃ R, slD m t ⟨8, r, hh, vv, a, b, cc⟩ = R := ⟨_, rfl⟩
  have hs := said_slot m t ⟨8, r, hh, vv, a, b, cc⟩
  rw [hR] at hs
  obtain ⟨⟨rc, rn, rs⟩, rm_⟩ := R
  dsimp only at hs
  subst hs
  have KK := Lib.hid (show doM X.FF m t ⟨8, r, hh, vv, a, b, cc⟩ = (⟨rc, rn, []⟩, rm_) by unfold doM; rw [BC.out]; simpa [slD] using hR)
  have CT := fun w9 (h9 : Rm w9 X p m) => refslot_any h9 v hk hn ht (op := 8) (s := a) (b := b) (cc := cc) (r := r) (vv := vv) h4 (.inl ⟨rfl, r4⟩)
  rw [hR] at CT
  clear hR
  go_wp2_with fail
  refine (CT _ h2).mono ?_
  rintro z w3 ⟨rfl, dp⟩
  have dl := dp.choose_spec
  have Q13 := (dl.2.1.keepT h2 ⟨_, Q12⟩ (by decide)).trans Q12
  have a0 := cell_of Q13 0 _ rfl
  have a1 := cell_of Q13 1 _ rfl
  have a2 := cell_of Q13 2 _ rfl
  have fz : ∀ o, w3.frozen? ⟨w.heap.size + 1, o, none⟩ = false := fun o => by simp [World.frozen?, Q13]
  have END := did_plain (c := rc) (n := rn) (mo := rm_) B2 h2 ⟨_, Q12⟩ (Nat.le_succ _) dp
  go_wp2
  refine bodyPost_ret (v := anD (rc) (rn)) (by simp [results, Try.results24, go_sem, a0, a1, a2]) rfl ?_
  rw [KK.out]
  exact END
set_option maxHeartbeats 4000000 in
theorem refdo9 (h : Rm w X p m) (v : Iv Z k m) (hk : k ≤ 10000) (hn : Z.n = X.n) {t : Nat} (ht : t < Z.nt) {r hh vv a b cc : Int} (hr : 0 ≤ r) (hh0 : 0 ≤ hh) (hv0 : 0 ≤ vv) (hb : badC ⟨9, r, hh, vv, a, b, cc⟩ = false) :
    Calls Try.prog 24 #[ptrX X, .int .i64 (t : Int), .agg #[.int .u8 9, .int .u8 r, .int .u8 hh, .int .u8 vv, .int .i64 a, .int .i64 b, .int .i64 cc]] w (DidE X p w (doM X.FF m t ⟨9, r, hh, vv, a, b, cc⟩)) := by
  have n8 := v.n8
  have nt4 := v.nt.2
  have t4 : t < 4 := by omega
  have ti : (t : Int) < 4 := by omega
  have t0 : (0 : Int) ≤ (t : Int) := by omega
  obtain ⟨r, rfl⟩ : ∃ n : Nat, r = (n : Int) := ⟨r.toNat, by omega⟩
  obtain ⟨hh, rfl⟩ : ∃ n : Nat, hh = (n : Int) := ⟨hh.toNat, by omega⟩
  obtain ⟨vv, rfl⟩ : ∃ n : Nat, vv = (n : Int) := ⟨vv.toNat, by omega⟩
  have v4 : vv < 4 := by
    simp [badC, badR] at hb
    omega
  have h4 : hh < 4 := by
    simp [badC, badR] at hb
    omega
  obtain ⟨W, hW⟩ : ∃ W : World, W = (w.alloc (.cells #[.int .u8 9, .int .u8 r, .int .u8 hh, .int .u8 vv, .int .i64 a, .int .i64 b, .int .i64 cc] 47)).alloc (.cells #[.int .i64 0, .int .i64 0, .slice none 0 0] anT) := ⟨_, rfl⟩
  have Q0 := heap_alloc_new w (.cells #[.int .u8 9, .int .u8 r, .int .u8 hh, .int .u8 vv, .int .i64 a, .int .i64 b, .int .i64 cc] 47)
  have B0 := below_one w (.cells #[.int .u8 9, .int .u8 r, .int .u8 hh, .int .u8 vv, .int .i64 a, .int .i64 b, .int .i64 cc] 47)
  have h1 := (h.alloc (.cells #[.int .u8 9, .int .u8 r, .int .u8 hh, .int .u8 vv, .int .i64 a, .int .i64 b, .int .i64 cc] 47)).alloc (.cells #[.int .i64 0, .int .i64 0, .slice none 0 0] anT)
  have q : Below w.heap.size w W := by rw [hW]; exact B0.trans ((below_one _ _).mono B0.size)
  rw [← hW] at h1
  go_enter Try.func24, Try.ntmps24
  have Q1 := (heap_alloc_new (w.alloc (.cells #[.int .u8 9, .int .u8 r, .int .u8 hh, .int .u8 vv, .int .i64 a, .int .i64 b, .int .i64 cc] 47)) (.cells #[.int .i64 0, .int .i64 0, .slice none 0 0] anT))
  have Q2 := ((below_one (w.alloc (.cells #[.int .u8 9, .int .u8 r, .int .u8 hh, .int .u8 vv, .int .i64 a, .int .i64 b, .int .i64 cc] 47)) (.cells #[.int .i64 0, .int .i64 0, .slice none 0 0] anT)).block w.heap.size (by rw [World.size_alloc]; omega)).trans Q0
  rw [World.size_alloc] at Q1
  rw [← hW] at Q1 Q2
  have lw : w.heap.size + 1 < W.heap.size := by rw [hW, World.size_alloc, World.size_alloc]; omega
  have lDw := h.hd.lt
  have l0 : w.heap.size < W.heap.size := by omega
  have BC := Lib.hid hb
  have b0 := cell_of Q2 0 _ rfl
  have b1 := cell_of Q2 1 _ rfl
  have b2 := cell_of Q2 2 _ rfl
  have b3 := cell_of Q2 3 _ rfl
  have b4 := cell_of Q2 4 _ rfl
  have b5 := cell_of Q2 5 _ rfl
  have b6 := cell_of Q2 6 _ rfl
  clear Q0 B0 hb
  go_upto_region 1 with (fail)
  rw [← hW]
  clear hW
  go_wp2_with fail
  refine (regs12_any _ ⟨9, r, hh, vv, a, b, cc⟩).mono ?_
  rintro z w2 ⟨rfl, k2⟩
  rw [BC.out]
  have h2 := h1.keep k2
  have Q12 := (k2.block _ lw).trans Q1
  have Q22 := (k2.block w.heap.size l0).trans Q2
  have B2 := q.trans (k2.mono q.size)
  have c0 := cell_of Q22 0 _ rfl
  have c1 := cell_of Q22 1 _ rfl
  have c2 := cell_of Q22 2 _ rfl
  have c3 := cell_of Q22 3 _ rfl
  have c4 := cell_of Q22 4 _ rfl
  have c5 := cell_of Q22 5 _ rfl
  have c6 := cell_of Q22 6 _ rfl
  have l2 : w.heap.size + 1 < w2.heap.size := Nat.lt_of_lt_of_le lw k2.size
  clear b0 b1 b2 b3 b4 b5 b6
  obtain ⟨R, hR⟩ : ∃ R, slD m t ⟨9, r, hh, vv, a, b, cc⟩ = R := ⟨_, rfl⟩
  have hs := said_slot m t ⟨9, r, hh, vv, a, b, cc⟩
  rw [hR] at hs
  obtain ⟨⟨rc, rn, rs⟩, rm_⟩ := R
  dsimp only at hs
  subst hs
  have KK := Lib.hid (show doM X.FF m t ⟨9, r, hh, vv, a, b, cc⟩ = (⟨rc, rn, []⟩, rm_) by unfold doM; rw [BC.out]; simpa [slD] using hR)
  have CT := fun w9 (h9 : Rm w9 X p m) => refslot_any h9 v hk hn ht (op := 9) (s := a) (b := b) (cc := cc) (r := r) (vv := vv) h4 (.inr ⟨rfl, v4⟩)
  rw [hR] at CT
  clear hR
  go_wp2_with fail
  refine (CT _ h2).mono ?_
  rintro z w3 ⟨rfl, dp⟩
  have dl := dp.choose_spec
  have Q13 := (dl.2.1.keepT h2 ⟨_, Q12⟩ (by decide)).trans Q12
  have a0 := cell_of Q13 0 _ rfl
  have a1 := cell_of Q13 1 _ rfl
  have a2 := cell_of Q13 2 _ rfl
  have fz : ∀ o, w3.frozen? ⟨w.heap.size + 1, o, none⟩ = false := fun o => by simp [World.frozen?, Q13]
  have END := did_plain (c := rc) (n := rn) (mo := rm_) B2 h2 ⟨_, Q12⟩ (Nat.le_succ _) dp
  go_wp2
  refine bodyPost_ret (v := anD (rc) (rn)) (by simp [results, Try.results24, go_sem, a0, a1, a2]) rfl ?_
  rw [KK.out]
  exact END
set_option maxHeartbeats 4000000 in
theorem refdo4 (h : Rm w X p m) (v : Iv Z k m) (hk : k ≤ 10000) (hn : Z.n = X.n) {t : Nat} (ht : t < Z.nt) {r hh vv a b cc : Int} (hr : 0 ≤ r) (hh0 : 0 ≤ hh) (hv0 : 0 ≤ vv) (hb : badC ⟨4, r, hh, vv, a, b, cc⟩ = false) :
    Calls Try.prog 24 #[ptrX X, .int .i64 (t : Int), .agg #[.int .u8 4, .int .u8 r, .int .u8 hh, .int .u8 vv, .int .i64 a, .int .i64 b, .int .i64 cc]] w (DidE X p w (doM X.FF m t ⟨4, r, hh, vv, a, b, cc⟩)) := by
  have n8 := v.n8
  have nt4 := v.nt.2
  have t4 : t < 4 := by omega
  have ti : (t : Int) < 4 := by omega
  have t0 : (0 : Int) ≤ (t : Int) := by omega
  obtain ⟨W, hW⟩ : ∃ W : World, W = (w.alloc (.cells #[.int .u8 4, .int .u8 r, .int .u8 hh, .int .u8 vv, .int .i64 a, .int .i64 b, .int .i64 cc] 47)).alloc (.cells #[.int .i64 0, .int .i64 0, .slice none 0 0] anT) := ⟨_, rfl⟩
  have Q0 := heap_alloc_new w (.cells #[.int .u8 4, .int .u8 r, .int .u8 hh, .int .u8 vv, .int .i64 a, .int .i64 b, .int .i64 cc] 47)
  have B0 := below_one w (.cells #[.int .u8 4, .int .u8 r, .int .u8 hh, .int .u8 vv, .int .i64 a, .int .i64 b, .int .i64 cc] 47)
  have h1 := (h.alloc (.cells #[.int .u8 4, .int .u8 r, .int .u8 hh, .int .u8 vv, .int .i64 a, .int .i64 b, .int .i64 cc] 47)).alloc (.cells #[.int .i64 0, .int .i64 0, .slice none 0 0] anT)
  have q : Below w.heap.size w W := by rw [hW]; exact B0.trans ((below_one _ _).mono B0.size)
  rw [← hW] at h1
  go_enter Try.func24, Try.ntmps24
  have Q1 := (heap_alloc_new (w.alloc (.cells #[.int .u8 4, .int .u8 r, .int .u8 hh, .int .u8 vv, .int .i64 a, .int .i64 b, .int .i64 cc] 47)) (.cells #[.int .i64 0, .int .i64 0, .slice none 0 0] anT))
  have Q2 := ((below_one (w.alloc (.cells #[.int .u8 4, .int .u8 r, .int .u8 hh, .int .u8 vv, .int .i64 a, .int .i64 b, .int .i64 cc] 47)) (.cells #[.int .i64 0, .int .i64 0, .slice none 0 0] anT)).block w.heap.size (by rw [World.size_alloc]; omega)).trans Q0
  rw [World.size_alloc] at Q1
  rw [← hW] at Q1 Q2
  have lw : w.heap.size + 1 < W.heap.size := by rw [hW, World.size_alloc, World.size_alloc]; omega
  have lDw := h.hd.lt
  have l0 : w.heap.size < W.heap.size := by omega
  have BC := Lib.hid hb
  have b0 := cell_of Q2 0 _ rfl
  have b1 := cell_of Q2 1 _ rfl
  have b2 := cell_of Q2 2 _ rfl
  have b3 := cell_of Q2 3 _ rfl
  have b4 := cell_of Q2 4 _ rfl
  have b5 := cell_of Q2 5 _ rfl
  have b6 := cell_of Q2 6 _ rfl
  clear Q0 B0 hb
  go_upto_region 1 with (fail)
  rw [← hW]
  clear hW
  go_wp2_with fail
  refine (regs12_any _ ⟨4, r, hh, vv, a, b, cc⟩).mono ?_
  rintro z w2 ⟨rfl, k2⟩
  rw [BC.out]
  have h2 := h1.keep k2
  have Q12 := (k2.block _ lw).trans Q1
  have Q22 := (k2.block w.heap.size l0).trans Q2
  have B2 := q.trans (k2.mono q.size)
  have c0 := cell_of Q22 0 _ rfl
  have c1 := cell_of Q22 1 _ rfl
  have c2 := cell_of Q22 2 _ rfl
  have c3 := cell_of Q22 3 _ rfl
  have c4 := cell_of Q22 4 _ rfl
  have c5 := cell_of Q22 5 _ rfl
  have c6 := cell_of Q22 6 _ rfl
  have l2 : w.heap.size + 1 < w2.heap.size := Nat.lt_of_lt_of_le lw k2.size
  clear b0 b1 b2 b3 b4 b5 b6
  obtain ⟨R, hR⟩ : ∃ R, enterV m t a = R := ⟨_, rfl⟩
  have hs := said_enter m t a
  rw [hR] at hs
  obtain ⟨⟨rc, rn, rs⟩, rm_⟩ := R
  dsimp only at hs
  subst hs
  have KK := Lib.hid (show doM X.FF m t ⟨4, r, hh, vv, a, b, cc⟩ = (⟨rc, rn, []⟩, rm_) by unfold doM; rw [BC.out]; simpa using hR)
  have CT := fun w9 (h9 : Rm w9 X p m) => refenter12_any h9 v hn ht (r := r) (hh := hh) (vv := vv) (s := a) (b := b) (cc := cc)
  rw [hR] at CT
  clear hR
  go_wp2_with fail
  refine (CT _ h2).mono ?_
  rintro z w3 ⟨rfl, dp⟩
  have dl := dp.choose_spec
  have Q13 := (dl.2.1.keepT h2 ⟨_, Q12⟩ (by decide)).trans Q12
  have a0 := cell_of Q13 0 _ rfl
  have a1 := cell_of Q13 1 _ rfl
  have a2 := cell_of Q13 2 _ rfl
  have fz : ∀ o, w3.frozen? ⟨w.heap.size + 1, o, none⟩ = false := fun o => by simp [World.frozen?, Q13]
  have END := did_plain (c := rc) (n := rn) (mo := rm_) B2 h2 ⟨_, Q12⟩ (Nat.le_succ _) dp
  go_wp2
  refine bodyPost_ret (v := anD (rc) (rn)) (by simp [results, Try.results24, go_sem, a0, a1, a2]) rfl ?_
  rw [KK.out]
  exact END
set_option maxHeartbeats 4000000 in
theorem refdo6 (h : Rm w X p m) (v : Iv Z k m) (hk : k ≤ 10000) (hn : Z.n = X.n) {t : Nat} (ht : t < Z.nt) {r hh vv a b cc : Int} (hr : 0 ≤ r) (hh0 : 0 ≤ hh) (hv0 : 0 ≤ vv) (hb : badC ⟨6, r, hh, vv, a, b, cc⟩ = false) :
    Calls Try.prog 24 #[ptrX X, .int .i64 (t : Int), .agg #[.int .u8 6, .int .u8 r, .int .u8 hh, .int .u8 vv, .int .i64 a, .int .i64 b, .int .i64 cc]] w (DidE X p w (doM X.FF m t ⟨6, r, hh, vv, a, b, cc⟩)) := by
  have n8 := v.n8
  have nt4 := v.nt.2
  have t4 : t < 4 := by omega
  have ti : (t : Int) < 4 := by omega
  have t0 : (0 : Int) ≤ (t : Int) := by omega
  obtain ⟨W, hW⟩ : ∃ W : World, W = (w.alloc (.cells #[.int .u8 6, .int .u8 r, .int .u8 hh, .int .u8 vv, .int .i64 a, .int .i64 b, .int .i64 cc] 47)).alloc (.cells #[.int .i64 0, .int .i64 0, .slice none 0 0] anT) := ⟨_, rfl⟩
  have Q0 := heap_alloc_new w (.cells #[.int .u8 6, .int .u8 r, .int .u8 hh, .int .u8 vv, .int .i64 a, .int .i64 b, .int .i64 cc] 47)
  have B0 := below_one w (.cells #[.int .u8 6, .int .u8 r, .int .u8 hh, .int .u8 vv, .int .i64 a, .int .i64 b, .int .i64 cc] 47)
  have h1 := (h.alloc (.cells #[.int .u8 6, .int .u8 r, .int .u8 hh, .int .u8 vv, .int .i64 a, .int .i64 b, .int .i64 cc] 47)).alloc (.cells #[.int .i64 0, .int .i64 0, .slice none 0 0] anT)
  have q : Below w.heap.size w W := by rw [hW]; exact B0.trans ((below_one _ _).mono B0.size)
  rw [← hW] at h1
  go_enter Try.func24, Try.ntmps24
  have Q1 := (heap_alloc_new (w.alloc (.cells #[.int .u8 6, .int .u8 r, .int .u8 hh, .int .u8 vv, .int .i64 a, .int .i64 b, .int .i64 cc] 47)) (.cells #[.int .i64 0, .int .i64 0, .slice none 0 0] anT))
  have Q2 := ((below_one (w.alloc (.cells #[.int .u8 6, .int .u8 r, .int .u8 hh, .int .u8 vv, .int .i64 a, .int .i64 b, .int .i64 cc] 47)) (.cells #[.int .i64 0, .int .i64 0, .slice none 0 0] anT)).block w.heap.size (by rw [World.size_alloc]; omega)).trans Q0
  rw [World.size_alloc] at Q1
  rw [← hW] at Q1 Q2
  have lw : w.heap.size + 1 < W.heap.size := by rw [hW, World.size_alloc, World.size_alloc]; omega
  have lDw := h.hd.lt
  have l0 : w.heap.size < W.heap.size := by omega
  have BC := Lib.hid hb
  have b0 := cell_of Q2 0 _ rfl
  have b1 := cell_of Q2 1 _ rfl
  have b2 := cell_of Q2 2 _ rfl
  have b3 := cell_of Q2 3 _ rfl
  have b4 := cell_of Q2 4 _ rfl
  have b5 := cell_of Q2 5 _ rfl
  have b6 := cell_of Q2 6 _ rfl
  clear Q0 B0 hb
  go_upto_region 1 with (fail)
  rw [← hW]
  clear hW
  go_wp2_with fail
  refine (regs12_any _ ⟨6, r, hh, vv, a, b, cc⟩).mono ?_
  rintro z w2 ⟨rfl, k2⟩
  rw [BC.out]
  have h2 := h1.keep k2
  have Q12 := (k2.block _ lw).trans Q1
  have Q22 := (k2.block w.heap.size l0).trans Q2
  have B2 := q.trans (k2.mono q.size)
  have c0 := cell_of Q22 0 _ rfl
  have c1 := cell_of Q22 1 _ rfl
  have c2 := cell_of Q22 2 _ rfl
  have c3 := cell_of Q22 3 _ rfl
  have c4 := cell_of Q22 4 _ rfl
  have c5 := cell_of Q22 5 _ rfl
  have c6 := cell_of Q22 6 _ rfl
  have l2 : w.heap.size + 1 < w2.heap.size := Nat.lt_of_lt_of_le lw k2.size
  clear b0 b1 b2 b3 b4 b5 b6
  obtain ⟨R, hR⟩ : ∃ R, inV m t a = R := ⟨_, rfl⟩
  have hs := said_in m t a
  rw [hR] at hs
  obtain ⟨⟨rc, rn, rs⟩, rm_⟩ := R
  dsimp only at hs
  subst hs
  have KK := Lib.hid (show doM X.FF m t ⟨6, r, hh, vv, a, b, cc⟩ = (⟨rc, rn, []⟩, rm_) by unfold doM; rw [BC.out]; simpa using hR)
  have CT := fun w9 (h9 : Rm w9 X p m) => refin_any h9 v hn ht (r := r) (hh := hh) (vv := vv) (s := a) (b := b) (cc := cc)
  rw [hR] at CT
  clear hR
  go_wp2_with fail
  refine (CT _ h2).mono ?_
  rintro z w3 ⟨rfl, dp⟩
  have dl := dp.choose_spec
  have Q13 := (dl.2.1.keepT h2 ⟨_, Q12⟩ (by decide)).trans Q12
  have a0 := cell_of Q13 0 _ rfl
  have a1 := cell_of Q13 1 _ rfl
  have a2 := cell_of Q13 2 _ rfl
  have fz : ∀ o, w3.frozen? ⟨w.heap.size + 1, o, none⟩ = false := fun o => by simp [World.frozen?, Q13]
  have END := did_plain (c := rc) (n := rn) (mo := rm_) B2 h2 ⟨_, Q12⟩ (Nat.le_succ _) dp
  go_wp2
  refine bodyPost_ret (v := anD (rc) (rn)) (by simp [results, Try.results24, go_sem, a0, a1, a2]) rfl ?_
  rw [KK.out]
  exact END
set_option maxHeartbeats 4000000 in
theorem refdo0 (h : Rm w X p m) (v : Iv Z k m) (hk : k ≤ 10000) (hn : Z.n = X.n) {t : Nat} (ht : t < Z.nt) {r hh vv a b cc : Int} (hr : 0 ≤ r) (hh0 : 0 ≤ hh) (hv0 : 0 ≤ vv) (hb : badC ⟨0, r, hh, vv, a, b, cc⟩ = false) :
    Calls Try.prog 24 #[ptrX X, .int .i64 (t : Int), .agg #[.int .u8 0, .int .u8 r, .int .u8 hh, .int .u8 vv, .int .i64 a, .int .i64 b, .int .i64 cc]] w (DidE X p w (doM X.FF m t ⟨0, r, hh, vv, a, b, cc⟩)) := by
  have n8 := v.n8
  have nt4 := v.nt.2
  have t4 : t < 4 := by omega
  have ti : (t : Int) < 4 := by omega
  have t0 : (0 : Int) ≤ (t : Int) := by omega
  obtain ⟨W, hW⟩ : ∃ W : World, W = (w.alloc (.cells #[.int .u8 0, .int .u8 r, .int .u8 hh, .int .u8 vv, .int .i64 a, .int .i64 b, .int .i64 cc] 47)).alloc (.cells #[.int .i64 0, .int .i64 0, .slice none 0 0] anT) := ⟨_, rfl⟩
  have Q0 := heap_alloc_new w (.cells #[.int .u8 0, .int .u8 r, .int .u8 hh, .int .u8 vv, .int .i64 a, .int .i64 b, .int .i64 cc] 47)
  have B0 := below_one w (.cells #[.int .u8 0, .int .u8 r, .int .u8 hh, .int .u8 vv, .int .i64 a, .int .i64 b, .int .i64 cc] 47)
  have h1 := (h.alloc (.cells #[.int .u8 0, .int .u8 r, .int .u8 hh, .int .u8 vv, .int .i64 a, .int .i64 b, .int .i64 cc] 47)).alloc (.cells #[.int .i64 0, .int .i64 0, .slice none 0 0] anT)
  have q : Below w.heap.size w W := by rw [hW]; exact B0.trans ((below_one _ _).mono B0.size)
  rw [← hW] at h1
  go_enter Try.func24, Try.ntmps24
  have Q1 := (heap_alloc_new (w.alloc (.cells #[.int .u8 0, .int .u8 r, .int .u8 hh, .int .u8 vv, .int .i64 a, .int .i64 b, .int .i64 cc] 47)) (.cells #[.int .i64 0, .int .i64 0, .slice none 0 0] anT))
  have Q2 := ((below_one (w.alloc (.cells #[.int .u8 0, .int .u8 r, .int .u8 hh, .int .u8 vv, .int .i64 a, .int .i64 b, .int .i64 cc] 47)) (.cells #[.int .i64 0, .int .i64 0, .slice none 0 0] anT)).block w.heap.size (by rw [World.size_alloc]; omega)).trans Q0
  rw [World.size_alloc] at Q1
  rw [← hW] at Q1 Q2
  have lw : w.heap.size + 1 < W.heap.size := by rw [hW, World.size_alloc, World.size_alloc]; omega
  have lDw := h.hd.lt
  have l0 : w.heap.size < W.heap.size := by omega
  have BC := Lib.hid hb
  have b0 := cell_of Q2 0 _ rfl
  have b1 := cell_of Q2 1 _ rfl
  have b2 := cell_of Q2 2 _ rfl
  have b3 := cell_of Q2 3 _ rfl
  have b4 := cell_of Q2 4 _ rfl
  have b5 := cell_of Q2 5 _ rfl
  have b6 := cell_of Q2 6 _ rfl
  clear Q0 B0 hb
  go_upto_region 1 with (fail)
  rw [← hW]
  clear hW
  go_wp2_with fail
  refine (regs12_any _ ⟨0, r, hh, vv, a, b, cc⟩).mono ?_
  rintro z w2 ⟨rfl, k2⟩
  rw [BC.out]
  have h2 := h1.keep k2
  have Q12 := (k2.block _ lw).trans Q1
  have Q22 := (k2.block w.heap.size l0).trans Q2
  have B2 := q.trans (k2.mono q.size)
  have c0 := cell_of Q22 0 _ rfl
  have c1 := cell_of Q22 1 _ rfl
  have c2 := cell_of Q22 2 _ rfl
  have c3 := cell_of Q22 3 _ rfl
  have c4 := cell_of Q22 4 _ rfl
  have c5 := cell_of Q22 5 _ rfl
  have c6 := cell_of Q22 6 _ rfl
  have l2 : w.heap.size + 1 < w2.heap.size := Nat.lt_of_lt_of_le lw k2.size
  clear b0 b1 b2 b3 b4 b5 b6
  have KK := Lib.hid (show doM X.FF m t ⟨0, r, hh, vv, a, b, cc⟩ = (⟨0, 0, []⟩, m) by unfold doM; rw [BC.out]; rfl)
  go_wp2_with fail
  refine (code_any _ _).mono ?_
  rintro z w3 ⟨rfl, k3⟩
  have dp := DidD.calm (h2.keep k3) k3
  have dl := dp.choose_spec
  have Q13 := (dl.2.1.keepT h2 ⟨_, Q12⟩ (by decide)).trans Q12
  have a0 := cell_of Q13 0 _ rfl
  have a1 := cell_of Q13 1 _ rfl
  have a2 := cell_of Q13 2 _ rfl
  have fz : ∀ o, w3.frozen? ⟨w.heap.size + 1, o, none⟩ = false := fun o => by simp [World.frozen?, Q13]
  have END := did_plain (c := 0) (n := 0) (mo := m) B2 h2 ⟨_, Q12⟩ (Nat.le_succ _) dp
  go_wp2
  refine bodyPost_ret (v := anD (0) (0)) (by simp [results, Try.results24, go_sem, a0, a1, a2]) rfl ?_
  rw [KK.out]
  exact END
set_option maxHeartbeats 4000000 in
theorem refdo10 (h : Rm w X p m) (v : Iv Z k m) (hk : k ≤ 10000) (hn : Z.n = X.n) {t : Nat} (ht : t < Z.nt) {r hh vv a b cc : Int} (hr : 0 ≤ r) (hh0 : 0 ≤ hh) (hv0 : 0 ≤ vv) (hb : badC ⟨10, r, hh, vv, a, b, cc⟩ = false) :
    Calls Try.prog 24 #[ptrX X, .int .i64 (t : Int), .agg #[.int .u8 10, .int .u8 r, .int .u8 hh, .int .u8 vv, .int .i64 a, .int .i64 b, .int .i64 cc]] w (DidE X p w (doM X.FF m t ⟨10, r, hh, vv, a, b, cc⟩)) := by
  have n8 := v.n8
  have nt4 := v.nt.2
  have t4 : t < 4 := by omega
  have ti : (t : Int) < 4 := by omega
  have t0 : (0 : Int) ≤ (t : Int) := by omega
  obtain ⟨r, rfl⟩ : ∃ n : Nat, r = (n : Int) := ⟨r.toNat, by omega⟩
  obtain ⟨vv, rfl⟩ : ∃ n : Nat, vv = (n : Int) := ⟨vv.toNat, by omega⟩
  have r4 : r < 4 := by
    simp [badC, badR] at hb
    omega
  obtain ⟨W, hW⟩ : ∃ W : World, W = (w.alloc (.cells #[.int .u8 10, .int .u8 r, .int .u8 hh, .int .u8 vv, .int .i64 a, .int .i64 b, .int .i64 cc] 47)).alloc (.cells #[.int .i64 0, .int .i64 0, .slice none 0 0] anT) := ⟨_, rfl⟩
  have Q0 := heap_alloc_new w (.cells #[.int .u8 10, .int .u8 r, .int .u8 hh, .int .u8 vv, .int .i64 a, .int .i64 b, .int .i64 cc] 47)
  have B0 := below_one w (.cells #[.int .u8 10, .int .u8 r, .int .u8 hh, .int .u8 vv, .int .i64 a, .int .i64 b, .int .i64 cc] 47)
  have h1 := (h.alloc (.cells #[.int .u8 10, .int .u8 r, .int .u8 hh, .int .u8 vv, .int .i64 a, .int .i64 b, .int .i64 cc] 47)).alloc (.cells #[.int .i64 0, .int .i64 0, .slice none 0 0] anT)
  have q : Below w.heap.size w W := by rw [hW]; exact B0.trans ((below_one _ _).mono B0.size)
  rw [← hW] at h1
  go_enter Try.func24, Try.ntmps24
  have Q1 := (heap_alloc_new (w.alloc (.cells #[.int .u8 10, .int .u8 r, .int .u8 hh, .int .u8 vv, .int .i64 a, .int .i64 b, .int .i64 cc] 47)) (.cells #[.int .i64 0, .int .i64 0, .slice none 0 0] anT))
  have Q2 := ((below_one (w.alloc (.cells #[.int .u8 10, .int .u8 r, .int .u8 hh, .int .u8 vv, .int .i64 a, .int .i64 b, .int .i64 cc] 47)) (.cells #[.int .i64 0, .int .i64 0, .slice none 0 0] anT)).block w.heap.size (by rw [World.size_alloc]; omega)).trans Q0
  rw [World.size_alloc] at Q1
  rw [← hW] at Q1 Q2
  have lw : w.heap.size + 1 < W.heap.size := by rw [hW, World.size_alloc, World.size_alloc]; omega
  have lDw := h.hd.lt
  have l0 : w.heap.size < W.heap.size := by omega
  have BC := Lib.hid hb
  have b0 := cell_of Q2 0 _ rfl
  have b1 := cell_of Q2 1 _ rfl
  have b2 := cell_of Q2 2 _ rfl
  have b3 := cell_of Q2 3 _ rfl
  have b4 := cell_of Q2 4 _ rfl
  have b5 := cell_of Q2 5 _ rfl
  have b6 := cell_of Q2 6 _ rfl
  clear Q0 B0 hb
  go_upto_region 1 with (fail)
  rw [← hW]
  clear hW
  go_wp2_with fail
  refine (regs12_any _ ⟨10, r, hh, vv, a, b, cc⟩).mono ?_
  rintro z w2 ⟨rfl, k2⟩
  rw [BC.out]
  have h2 := h1.keep k2
  have Q12 := (k2.block _ lw).trans Q1
  have Q22 := (k2.block w.heap.size l0).trans Q2
  have B2 := q.trans (k2.mono q.size)
  have c0 := cell_of Q22 0 _ rfl
  have c1 := cell_of Q22 1 _ rfl
  have c2 := cell_of Q22 2 _ rfl
  have c3 := cell_of Q22 3 _ rfl
  have c4 := cell_of Q22 4 _ rfl
  have c5 := cell_of Q22 5 _ rfl
  have c6 := cell_of Q22 6 _ rfl
  have l2 : w.heap.size + 1 < w2.heap.size := Nat.lt_of_lt_of_le lw k2.size
  clear b0 b1 b2 b3 b4 b5 b6
  have c0' := h2.c0
  by_cases ha1 : a < 1
  · skip
    have KK := Lib.hid (show doM X.FF m t ⟨10, r, hh, vv, a, b, cc⟩ = (⟨11, 0, []⟩, m) by
      unfold doM; rw [BC.out]
      have e : reachX m (m.ents t) a = 11 := by unfold reachX; rw [if_pos (show scopeB m a = false from decide_eq_false (by have := v.nA; omega))]
      simp [lookV, gateV, e, no])
    have z1 : decide (a < 1) = true := decide_eq_true ha1
    as_aux_lemma =>
      go_wp2_with fail
      go_quiet (fail)
      have h3 := h2.keep (Held.below_drewN (Below.refl _ _) nq)
      have B3 := Held.below_drewN B2 nq
      go_wp2_with fail
      refine (code_any _ _).mono ?_
      rintro z w3 ⟨rfl, k3⟩
      have dp := DidD.calm (h3.keep k3) k3
      have dl := dp.choose_spec
      have Q13 := (dl.2.1.keepT h3 ⟨_, Q12⟩ (by decide)).trans Q12
      have a0 := cell_of Q13 0 _ rfl
      have a1 := cell_of Q13 1 _ rfl
      have a2 := cell_of Q13 2 _ rfl
      have fz : ∀ o, w3.frozen? ⟨w.heap.size + 1, o, none⟩ = false := fun o => by simp [World.frozen?, Q13]
      have END := did_plain (c := 11) (n := 0) (mo := m) B3 h3 ⟨_, Q12⟩ (Nat.le_succ _) dp
      go_wp2
      refine bodyPost_ret (v := anD (11) (0)) (by simp [results, Try.results24, go_sem, a0, a1, a2]) rfl ?_
      rw [KK.out]
      exact END
  have y1 : decide (a < 1) = false := decide_eq_false ha1
  by_cases ha2 : (X.n : Int) ≤ a
  · skip
    have KK := Lib.hid (show doM X.FF m t ⟨10, r, hh, vv, a, b, cc⟩ = (⟨11, 0, []⟩, m) by
      unfold doM; rw [BC.out]
      have e : reachX m (m.ents t) a = 11 := by unfold reachX; rw [if_pos (show scopeB m a = false from decide_eq_false (by have := v.nA; omega))]
      simp [lookV, gateV, e, no])
    have z1 : decide ((X.n : Int) ≤ a) = true := decide_eq_true ha2
    as_aux_lemma =>
      go_wp2_with fail
      go_quiet (fail)
      have h3 := h2.keep (Held.below_drewN (Below.refl _ _) nq)
      have B3 := Held.below_drewN B2 nq
      go_wp2_with fail
      refine (code_any _ _).mono ?_
      rintro z w3 ⟨rfl, k3⟩
      have dp := DidD.calm (h3.keep k3) k3
      have dl := dp.choose_spec
      have Q13 := (dl.2.1.keepT h3 ⟨_, Q12⟩ (by decide)).trans Q12
      have a0 := cell_of Q13 0 _ rfl
      have a1 := cell_of Q13 1 _ rfl
      have a2 := cell_of Q13 2 _ rfl
      have fz : ∀ o, w3.frozen? ⟨w.heap.size + 1, o, none⟩ = false := fun o => by simp [World.frozen?, Q13]
      have END := did_plain (c := 11) (n := 0) (mo := m) B3 h3 ⟨_, Q12⟩ (Nat.le_succ _) dp
      go_wp2
      refine bodyPost_ret (v := anD (11) (0)) (by simp [results, Try.results24, go_sem, a0, a1, a2]) rfl ?_
      rw [KK.out]
      exact END
  have y2 : decide ((X.n : Int) ≤ a) = false := decide_eq_false ha2
  obtain ⟨s, rfl⟩ : ∃ n : Nat, a = (n : Int) := ⟨a.toNat, by omega⟩
  obtain ⟨R, hR⟩ : ∃ R, gaD m t ⟨10, r, hh, vv, s, b, cc⟩ = R := ⟨_, rfl⟩
  have hs := said_gate m t ⟨10, r, hh, vv, s, b, cc⟩
  rw [hR] at hs
  obtain ⟨⟨rc, rn, rs⟩, rm_⟩ := R
  dsimp only at hs
  subst hs
  have KK := Lib.hid (show doM X.FF m t ⟨10, r, hh, vv, s, b, cc⟩ = (⟨rc, rn, []⟩, rm_) by unfold doM; rw [BC.out]; simpa [gaD] using hR)
  have CT := fun w9 (h9 : Rm w9 X p m) => refgate_any h9 v hk hn ht (op := 10) (h' := hh) (b := b) (cc := cc) (r := r) (vv := vv) (s := s) (by omega) (by omega) (.inl ⟨rfl, r4⟩)
  rw [hR] at CT
  clear hR
  go_wp2_with fail
  go_quiet (fail)
  have h3 := h2.keep (Held.below_drewN (Below.refl _ _) nq)
  have B3 := Held.below_drewN B2 nq
  go_wp2_with fail
  refine (CT _ h3).mono ?_
  rintro z w3 ⟨rfl, dp⟩
  have dl := dp.choose_spec
  have Q13 := (dl.2.1.keepT h3 ⟨_, Q12⟩ (by decide)).trans Q12
  have a0 := cell_of Q13 0 _ rfl
  have a1 := cell_of Q13 1 _ rfl
  have a2 := cell_of Q13 2 _ rfl
  have fz : ∀ o, w3.frozen? ⟨w.heap.size + 1, o, none⟩ = false := fun o => by simp [World.frozen?, Q13]
  have END := did_plain (c := rc) (n := rn) (mo := rm_) B3 h3 ⟨_, Q12⟩ (Nat.le_succ _) dp
  go_wp2
  refine bodyPost_ret (v := anD (rc) (rn)) (by simp [results, Try.results24, go_sem, a0, a1, a2]) rfl ?_
  rw [KK.out]
  exact END
set_option maxHeartbeats 4000000 in
theorem refdo11 (h : Rm w X p m) (v : Iv Z k m) (hk : k ≤ 10000) (hn : Z.n = X.n) {t : Nat} (ht : t < Z.nt) {r hh vv a b cc : Int} (hr : 0 ≤ r) (hh0 : 0 ≤ hh) (hv0 : 0 ≤ vv) (hb : badC ⟨11, r, hh, vv, a, b, cc⟩ = false) :
    Calls Try.prog 24 #[ptrX X, .int .i64 (t : Int), .agg #[.int .u8 11, .int .u8 r, .int .u8 hh, .int .u8 vv, .int .i64 a, .int .i64 b, .int .i64 cc]] w (DidE X p w (doM X.FF m t ⟨11, r, hh, vv, a, b, cc⟩)) := by
  have n8 := v.n8
  have nt4 := v.nt.2
  have t4 : t < 4 := by omega
  have ti : (t : Int) < 4 := by omega
  have t0 : (0 : Int) ≤ (t : Int) := by omega
  obtain ⟨r, rfl⟩ : ∃ n : Nat, r = (n : Int) := ⟨r.toNat, by omega⟩
  obtain ⟨vv, rfl⟩ : ∃ n : Nat, vv = (n : Int) := ⟨vv.toNat, by omega⟩
  have v4 : vv < 4 := by
    simp [badC, badR] at hb
    omega
  obtain ⟨W, hW⟩ : ∃ W : World, W = (w.alloc (.cells #[.int .u8 11, .int .u8 r, .int .u8 hh, .int .u8 vv, .int .i64 a, .int .i64 b, .int .i64 cc] 47)).alloc (.cells #[.int .i64 0, .int .i64 0, .slice none 0 0] anT) := ⟨_, rfl⟩
  have Q0 := heap_alloc_new w (.cells #[.int .u8 11, .int .u8 r, .int .u8 hh, .int .u8 vv, .int .i64 a, .int .i64 b, .int .i64 cc] 47)
  have B0 := below_one w (.cells #[.int .u8 11, .int .u8 r, .int .u8 hh, .int .u8 vv, .int .i64 a, .int .i64 b, .int .i64 cc] 47)
  have h1 := (h.alloc (.cells #[.int .u8 11, .int .u8 r, .int .u8 hh, .int .u8 vv, .int .i64 a, .int .i64 b, .int .i64 cc] 47)).alloc (.cells #[.int .i64 0, .int .i64 0, .slice none 0 0] anT)
  have q : Below w.heap.size w W := by rw [hW]; exact B0.trans ((below_one _ _).mono B0.size)
  rw [← hW] at h1
  go_enter Try.func24, Try.ntmps24
  have Q1 := (heap_alloc_new (w.alloc (.cells #[.int .u8 11, .int .u8 r, .int .u8 hh, .int .u8 vv, .int .i64 a, .int .i64 b, .int .i64 cc] 47)) (.cells #[.int .i64 0, .int .i64 0, .slice none 0 0] anT))
  have Q2 := ((below_one (w.alloc (.cells #[.int .u8 11, .int .u8 r, .int .u8 hh, .int .u8 vv, .int .i64 a, .int .i64 b, .int .i64 cc] 47)) (.cells #[.int .i64 0, .int .i64 0, .slice none 0 0] anT)).block w.heap.size (by rw [World.size_alloc]; omega)).trans Q0
  rw [World.size_alloc] at Q1
  rw [← hW] at Q1 Q2
  have lw : w.heap.size + 1 < W.heap.size := by rw [hW, World.size_alloc, World.size_alloc]; omega
  have lDw := h.hd.lt
  have l0 : w.heap.size < W.heap.size := by omega
  have BC := Lib.hid hb
  have b0 := cell_of Q2 0 _ rfl
  have b1 := cell_of Q2 1 _ rfl
  have b2 := cell_of Q2 2 _ rfl
  have b3 := cell_of Q2 3 _ rfl
  have b4 := cell_of Q2 4 _ rfl
  have b5 := cell_of Q2 5 _ rfl
  have b6 := cell_of Q2 6 _ rfl
  clear Q0 B0 hb
  go_upto_region 1 with (fail)
  rw [← hW]
  clear hW
  go_wp2_with fail
  refine (regs12_any _ ⟨11, r, hh, vv, a, b, cc⟩).mono ?_
  rintro z w2 ⟨rfl, k2⟩
  rw [BC.out]
  have h2 := h1.keep k2
  have Q12 := (k2.block _ lw).trans Q1
  have Q22 := (k2.block w.heap.size l0).trans Q2
  have B2 := q.trans (k2.mono q.size)
  have c0 := cell_of Q22 0 _ rfl
  have c1 := cell_of Q22 1 _ rfl
  have c2 := cell_of Q22 2 _ rfl
  have c3 := cell_of Q22 3 _ rfl
  have c4 := cell_of Q22 4 _ rfl
  have c5 := cell_of Q22 5 _ rfl
  have c6 := cell_of Q22 6 _ rfl
  have l2 : w.heap.size + 1 < w2.heap.size := Nat.lt_of_lt_of_le lw k2.size
  clear b0 b1 b2 b3 b4 b5 b6
  have c0' := h2.c0
  by_cases ha1 : a < 1
  · skip
    have KK := Lib.hid (show doM X.FF m t ⟨11, r, hh, vv, a, b, cc⟩ = (⟨11, 0, []⟩, m) by
      unfold doM; rw [BC.out]
      have e : reachX m (m.ents t) a = 11 := by unfold reachX; rw [if_pos (show scopeB m a = false from decide_eq_false (by have := v.nA; omega))]
      simp [lookV, gateV, e, no])
    have z1 : decide (a < 1) = true := decide_eq_true ha1
    as_aux_lemma =>
      go_wp2_with fail
      go_quiet (fail)
      have h3 := h2.keep (Held.below_drewN (Below.refl _ _) nq)
      have B3 := Held.below_drewN B2 nq
      go_wp2_with fail
      refine (code_any _ _).mono ?_
      rintro z w3 ⟨rfl, k3⟩
      have dp := DidD.calm (h3.keep k3) k3
      have dl := dp.choose_spec
      have Q13 := (dl.2.1.keepT h3 ⟨_, Q12⟩ (by decide)).trans Q12
      have a0 := cell_of Q13 0 _ rfl
      have a1 := cell_of Q13 1 _ rfl
      have a2 := cell_of Q13 2 _ rfl
      have fz : ∀ o, w3.frozen? ⟨w.heap.size + 1, o, none⟩ = false := fun o => by simp [World.frozen?, Q13]
      have END := did_plain (c := 11) (n := 0) (mo := m) B3 h3 ⟨_, Q12⟩ (Nat.le_succ _) dp
      go_wp2
      refine bodyPost_ret (v := anD (11) (0)) (by simp [results, Try.results24, go_sem, a0, a1, a2]) rfl ?_
      rw [KK.out]
      exact END
  have y1 : decide (a < 1) = false := decide_eq_false ha1
  by_cases ha2 : (X.n : Int) ≤ a
  · skip
    have KK := Lib.hid (show doM X.FF m t ⟨11, r, hh, vv, a, b, cc⟩ = (⟨11, 0, []⟩, m) by
      unfold doM; rw [BC.out]
      have e : reachX m (m.ents t) a = 11 := by unfold reachX; rw [if_pos (show scopeB m a = false from decide_eq_false (by have := v.nA; omega))]
      simp [lookV, gateV, e, no])
    have z1 : decide ((X.n : Int) ≤ a) = true := decide_eq_true ha2
    as_aux_lemma =>
      go_wp2_with fail
      go_quiet (fail)
      have h3 := h2.keep (Held.below_drewN (Below.refl _ _) nq)
      have B3 := Held.below_drewN B2 nq
      go_wp2_with fail
      refine (code_any _ _).mono ?_
      rintro z w3 ⟨rfl, k3⟩
      have dp := DidD.calm (h3.keep k3) k3
      have dl := dp.choose_spec
      have Q13 := (dl.2.1.keepT h3 ⟨_, Q12⟩ (by decide)).trans Q12
      have a0 := cell_of Q13 0 _ rfl
      have a1 := cell_of Q13 1 _ rfl
      have a2 := cell_of Q13 2 _ rfl
      have fz : ∀ o, w3.frozen? ⟨w.heap.size + 1, o, none⟩ = false := fun o => by simp [World.frozen?, Q13]
      have END := did_plain (c := 11) (n := 0) (mo := m) B3 h3 ⟨_, Q12⟩ (Nat.le_succ _) dp
      go_wp2
      refine bodyPost_ret (v := anD (11) (0)) (by simp [results, Try.results24, go_sem, a0, a1, a2]) rfl ?_
      rw [KK.out]
      exact END
  have y2 : decide ((X.n : Int) ≤ a) = false := decide_eq_false ha2
  obtain ⟨s, rfl⟩ : ∃ n : Nat, a = (n : Int) := ⟨a.toNat, by omega⟩
  obtain ⟨R, hR⟩ : ∃ R, gaD m t ⟨11, r, hh, vv, s, b, cc⟩ = R := ⟨_, rfl⟩
  have hs := said_gate m t ⟨11, r, hh, vv, s, b, cc⟩
  rw [hR] at hs
  obtain ⟨⟨rc, rn, rs⟩, rm_⟩ := R
  dsimp only at hs
  subst hs
  have KK := Lib.hid (show doM X.FF m t ⟨11, r, hh, vv, s, b, cc⟩ = (⟨rc, rn, []⟩, rm_) by unfold doM; rw [BC.out]; simpa [gaD] using hR)
  have CT := fun w9 (h9 : Rm w9 X p m) => refgate_any h9 v hk hn ht (op := 11) (h' := hh) (b := b) (cc := cc) (r := r) (vv := vv) (s := s) (by omega) (by omega) (.inr ⟨rfl, v4⟩)
  rw [hR] at CT
  clear hR
  go_wp2_with fail
  go_quiet (fail)
  have h3 := h2.keep (Held.below_drewN (Below.refl _ _) nq)
  have B3 := Held.below_drewN B2 nq
  go_wp2_with fail
  refine (CT _ h3).mono ?_
  rintro z w3 ⟨rfl, dp⟩
  have dl := dp.choose_spec
  have Q13 := (dl.2.1.keepT h3 ⟨_, Q12⟩ (by decide)).trans Q12
  have a0 := cell_of Q13 0 _ rfl
  have a1 := cell_of Q13 1 _ rfl
  have a2 := cell_of Q13 2 _ rfl
  have fz : ∀ o, w3.frozen? ⟨w.heap.size + 1, o, none⟩ = false := fun o => by simp [World.frozen?, Q13]
  have END := did_plain (c := rc) (n := rn) (mo := rm_) B3 h3 ⟨_, Q12⟩ (Nat.le_succ _) dp
  go_wp2
  refine bodyPost_ret (v := anD (rc) (rn)) (by simp [results, Try.results24, go_sem, a0, a1, a2]) rfl ?_
  rw [KK.out]
  exact END
set_option maxHeartbeats 4000000 in
theorem refdo1 (h : Rm w X p m) (v : Iv Z k m) (hk : k ≤ 10000) (hn : Z.n = X.n) {t : Nat} (ht : t < Z.nt) {r hh vv a b cc : Int} (hr : 0 ≤ r) (hh0 : 0 ≤ hh) (hv0 : 0 ≤ vv) (hb : badC ⟨1, r, hh, vv, a, b, cc⟩ = false) :
    Calls Try.prog 24 #[ptrX X, .int .i64 (t : Int), .agg #[.int .u8 1, .int .u8 r, .int .u8 hh, .int .u8 vv, .int .i64 a, .int .i64 b, .int .i64 cc]] w (DidE X p w (doM X.FF m t ⟨1, r, hh, vv, a, b, cc⟩)) := by
  have n8 := v.n8
  have nt4 := v.nt.2
  have t4 : t < 4 := by omega
  have ti : (t : Int) < 4 := by omega
  have t0 : (0 : Int) ≤ (t : Int) := by omega
  obtain ⟨r, rfl⟩ : ∃ n : Nat, r = (n : Int) := ⟨r.toNat, by omega⟩
  have r4 : r < 4 := by
    simp [badC, badR] at hb
    omega
  obtain ⟨W, hW⟩ : ∃ W : World, W = (w.alloc (.cells #[.int .u8 1, .int .u8 r, .int .u8 hh, .int .u8 vv, .int .i64 a, .int .i64 b, .int .i64 cc] 47)).alloc (.cells #[.int .i64 0, .int .i64 0, .slice none 0 0] anT) := ⟨_, rfl⟩
  have Q0 := heap_alloc_new w (.cells #[.int .u8 1, .int .u8 r, .int .u8 hh, .int .u8 vv, .int .i64 a, .int .i64 b, .int .i64 cc] 47)
  have B0 := below_one w (.cells #[.int .u8 1, .int .u8 r, .int .u8 hh, .int .u8 vv, .int .i64 a, .int .i64 b, .int .i64 cc] 47)
  have h1 := (h.alloc (.cells #[.int .u8 1, .int .u8 r, .int .u8 hh, .int .u8 vv, .int .i64 a, .int .i64 b, .int .i64 cc] 47)).alloc (.cells #[.int .i64 0, .int .i64 0, .slice none 0 0] anT)
  have q : Below w.heap.size w W := by rw [hW]; exact B0.trans ((below_one _ _).mono B0.size)
  rw [← hW] at h1
  go_enter Try.func24, Try.ntmps24
  have Q1 := (heap_alloc_new (w.alloc (.cells #[.int .u8 1, .int .u8 r, .int .u8 hh, .int .u8 vv, .int .i64 a, .int .i64 b, .int .i64 cc] 47)) (.cells #[.int .i64 0, .int .i64 0, .slice none 0 0] anT))
  have Q2 := ((below_one (w.alloc (.cells #[.int .u8 1, .int .u8 r, .int .u8 hh, .int .u8 vv, .int .i64 a, .int .i64 b, .int .i64 cc] 47)) (.cells #[.int .i64 0, .int .i64 0, .slice none 0 0] anT)).block w.heap.size (by rw [World.size_alloc]; omega)).trans Q0
  rw [World.size_alloc] at Q1
  rw [← hW] at Q1 Q2
  have lw : w.heap.size + 1 < W.heap.size := by rw [hW, World.size_alloc, World.size_alloc]; omega
  have lDw := h.hd.lt
  have l0 : w.heap.size < W.heap.size := by omega
  have BC := Lib.hid hb
  have b0 := cell_of Q2 0 _ rfl
  have b1 := cell_of Q2 1 _ rfl
  have b2 := cell_of Q2 2 _ rfl
  have b3 := cell_of Q2 3 _ rfl
  have b4 := cell_of Q2 4 _ rfl
  have b5 := cell_of Q2 5 _ rfl
  have b6 := cell_of Q2 6 _ rfl
  clear Q0 B0 hb
  go_upto_region 1 with (fail)
  rw [← hW]
  clear hW
  go_wp2_with fail
  refine (regs12_any _ ⟨1, r, hh, vv, a, b, cc⟩).mono ?_
  rintro z w2 ⟨rfl, k2⟩
  rw [BC.out]
  have h2 := h1.keep k2
  have Q12 := (k2.block _ lw).trans Q1
  have Q22 := (k2.block w.heap.size l0).trans Q2
  have B2 := q.trans (k2.mono q.size)
  have c0 := cell_of Q22 0 _ rfl
  have c1 := cell_of Q22 1 _ rfl
  have c2 := cell_of Q22 2 _ rfl
  have c3 := cell_of Q22 3 _ rfl
  have c4 := cell_of Q22 4 _ rfl
  have c5 := cell_of Q22 5 _ rfl
  have c6 := cell_of Q22 6 _ rfl
  have l2 : w.heap.size + 1 < w2.heap.size := Nat.lt_of_lt_of_le lw k2.size
  clear b0 b1 b2 b3 b4 b5 b6
  have nT := v.nT
  have ri : (r : Int) < 4 := by omega
  have r0 : (0 : Int) ≤ (r : Int) := by omega
  obtain ⟨u, hu⟩ : ∃ u, IntKind.u64.wrap a = u := ⟨_, rfl⟩
  have KK := Lib.hid (show doM X.FF m t ⟨1, r, hh, vv, a, b, cc⟩ = (⟨0, 0, []⟩, m.setReg t (r : Int) u) by rw [← hu]; unfold doM; rw [BC.out]; rfl)
  have cr := h2.reg t4 r4
  have fr := h2.hd.frozen
  have lX := h2.hd.lt
  obtain ⟨W4, hW4⟩ : ∃ W4 : World, W4 = (w2.setCell ⟨X.D, 23 + t * 4 + r, none⟩ (.int .u64 u)).drew := ⟨_, rfl⟩
  have h4 := (h2.putReg (t := t) (r := r) (by omega) (by omega) r4 u).drew
  rw [← hW4] at h4
  have k4 : Only [X.D] w2 W4 := by rw [hW4]; exact (Only.put w2 _ _ _ (by simp)).trans (Only.below (Below.refl _ _).drew)
  go_wp2_with fail
  go_region
  go_wp2_with fail
  rw [← hW4]
  clear hW4 cr fr
  refine (code_any _ _).mono ?_
  rintro z w3 ⟨rfl, k3⟩
  have dp : DidD X p w2 (m.setReg t (r : Int) u) w3 := DidD.put (h4.keep k3) (only_new k4 (Only.below (X := []) k3) (fun x hx => absurd hx List.not_mem_nil))
  have dl := dp.choose_spec
  have Q13 := (dl.2.1.keepT h2 ⟨_, Q12⟩ (by decide)).trans Q12
  have a0 := cell_of Q13 0 _ rfl
  have a1 := cell_of Q13 1 _ rfl
  have a2 := cell_of Q13 2 _ rfl
  have fz : ∀ o, w3.frozen? ⟨w.heap.size + 1, o, none⟩ = false := fun o => by simp [World.frozen?, Q13]
  have END := did_plain (c := 0) (n := 0) (mo := (m.setReg t (r : Int) u)) B2 h2 ⟨_, Q12⟩ (Nat.le_succ _) dp
  go_wp2
  refine bodyPost_ret (v := anD (0) (0)) (by simp [results, Try.results24, go_sem, a0, a1, a2]) rfl ?_
  rw [KK.out]
  exact END
set_option maxHeartbeats 4000000 in
theorem refdoX (h : Rm w X p m) (v : Iv Z k m) (hk : k ≤ 10000) (hn : Z.n = X.n) {t : Nat} (ht : t < Z.nt) {op r hh vv a b cc : Int} (h12 : 12 ≤ op) (hr : 0 ≤ r) (hh0 : 0 ≤ hh) (hv0 : 0 ≤ vv) (hb : badC ⟨op, r, hh, vv, a, b, cc⟩ = false) :
    Calls Try.prog 24 #[ptrX X, .int .i64 (t : Int), .agg #[.int .u8 op, .int .u8 r, .int .u8 hh, .int .u8 vv, .int .i64 a, .int .i64 b, .int .i64 cc]] w (DidE X p w (doM X.FF m t ⟨op, r, hh, vv, a, b, cc⟩)) := by
  have n8 := v.n8
  have nt4 := v.nt.2
  have t4 : t < 4 := by omega
  have ti : (t : Int) < 4 := by omega
  have t0 : (0 : Int) ≤ (t : Int) := by omega
  have n0 : op ≠ 0 := by omega
  have e0 : (op == 0) = false := by simpa using n0
  have n1 : op ≠ 1 := by omega
  have e1 : (op == 1) = false := by simpa using n1
  have n2 : op ≠ 2 := by omega
  have e2 : (op == 2) = false := by simpa using n2
  have n3 : op ≠ 3 := by omega
  have e3 : (op == 3) = false := by simpa using n3
  have n4 : op ≠ 4 := by omega
  have e4 : (op == 4) = false := by simpa using n4
  have n5 : op ≠ 5 := by omega
  have e5 : (op == 5) = false := by simpa using n5
  have n6 : op ≠ 6 := by omega
  have e6 : (op == 6) = false := by simpa using n6
  have n7 : op ≠ 7 := by omega
  have e7 : (op == 7) = false := by simpa using n7
  have n8_ : op ≠ 8 := by omega
  have e8 : (op == 8) = false := by simpa using n8_
  have n9 : op ≠ 9 := by omega
  have e9 : (op == 9) = false := by simpa using n9
  have n10 : op ≠ 10 := by omega
  have e10 : (op == 10) = false := by simpa using n10
  have n11 : op ≠ 11 := by omega
  have e11 : (op == 11) = false := by simpa using n11
  obtain ⟨W, hW⟩ : ∃ W : World, W = (w.alloc (.cells #[.int .u8 op, .int .u8 r, .int .u8 hh, .int .u8 vv, .int .i64 a, .int .i64 b, .int .i64 cc] 47)).alloc (.cells #[.int .i64 0, .int .i64 0, .slice none 0 0] anT) := ⟨_, rfl⟩
  have Q0 := heap_alloc_new w (.cells #[.int .u8 op, .int .u8 r, .int .u8 hh, .int .u8 vv, .int .i64 a, .int .i64 b, .int .i64 cc] 47)
  have B0 := below_one w (.cells #[.int .u8 op, .int .u8 r, .int .u8 hh, .int .u8 vv, .int .i64 a, .int .i64 b, .int .i64 cc] 47)
  have h1 := (h.alloc (.cells #[.int .u8 op, .int .u8 r, .int .u8 hh, .int .u8 vv, .int .i64 a, .int .i64 b, .int .i64 cc] 47)).alloc (.cells #[.int .i64 0, .int .i64 0, .slice none 0 0] anT)
  have q : Below w.heap.size w W := by rw [hW]; exact B0.trans ((below_one _ _).mono B0.size)
  rw [← hW] at h1
  go_enter Try.func24, Try.ntmps24
  have Q1 := (heap_alloc_new (w.alloc (.cells #[.int .u8 op, .int .u8 r, .int .u8 hh, .int .u8 vv, .int .i64 a, .int .i64 b, .int .i64 cc] 47)) (.cells #[.int .i64 0, .int .i64 0, .slice none 0 0] anT))
  have Q2 := ((below_one (w.alloc (.cells #[.int .u8 op, .int .u8 r, .int .u8 hh, .int .u8 vv, .int .i64 a, .int .i64 b, .int .i64 cc] 47)) (.cells #[.int .i64 0, .int .i64 0, .slice none 0 0] anT)).block w.heap.size (by rw [World.size_alloc]; omega)).trans Q0
  rw [World.size_alloc] at Q1
  rw [← hW] at Q1 Q2
  have lw : w.heap.size + 1 < W.heap.size := by rw [hW, World.size_alloc, World.size_alloc]; omega
  have lDw := h.hd.lt
  have l0 : w.heap.size < W.heap.size := by omega
  have BC := Lib.hid hb
  have b0 := cell_of Q2 0 _ rfl
  have b1 := cell_of Q2 1 _ rfl
  have b2 := cell_of Q2 2 _ rfl
  have b3 := cell_of Q2 3 _ rfl
  have b4 := cell_of Q2 4 _ rfl
  have b5 := cell_of Q2 5 _ rfl
  have b6 := cell_of Q2 6 _ rfl
  clear Q0 B0 hb
  go_upto_region 1 with (fail)
  rw [← hW]
  clear hW
  go_wp2_with fail
  refine (regs12_any _ ⟨op, r, hh, vv, a, b, cc⟩).mono ?_
  rintro z w2 ⟨rfl, k2⟩
  rw [BC.out]
  have h2 := h1.keep k2
  have Q12 := (k2.block _ lw).trans Q1
  have Q22 := (k2.block w.heap.size l0).trans Q2
  have B2 := q.trans (k2.mono q.size)
  have c0 := cell_of Q22 0 _ rfl
  have c1 := cell_of Q22 1 _ rfl
  have c2 := cell_of Q22 2 _ rfl
  have c3 := cell_of Q22 3 _ rfl
  have c4 := cell_of Q22 4 _ rfl
  have c5 := cell_of Q22 5 _ rfl
  have c6 := cell_of Q22 6 _ rfl
  have l2 : w.heap.size + 1 < w2.heap.size := Nat.lt_of_lt_of_le lw k2.size
  clear b0 b1 b2 b3 b4 b5 b6
  have KK := Lib.hid (show doM X.FF m t ⟨op, r, hh, vv, a, b, cc⟩ = (⟨1, 0, []⟩, m) by unfold doM; rw [BC.out]; simp [n0, n1, n2, n3, n4, n5, n6, n7, n8_, n9, n10, n11, no])
  clear n0 n1 n2 n3 n4 n5 n6 n7 n8_ n9 n10 n11
  go_wp2_with fail
  refine (code_any _ _).mono ?_
  rintro z w3 ⟨rfl, k3⟩
  have dp := DidD.calm (h2.keep k3) k3
  have dl := dp.choose_spec
  have Q13 := (dl.2.1.keepT h2 ⟨_, Q12⟩ (by decide)).trans Q12
  have a0 := cell_of Q13 0 _ rfl
  have a1 := cell_of Q13 1 _ rfl
  have a2 := cell_of Q13 2 _ rfl
  have fz : ∀ o, w3.frozen? ⟨w.heap.size + 1, o, none⟩ = false := fun o => by simp [World.frozen?, Q13]
  have END := did_plain (c := 1) (n := 0) (mo := m) B2 h2 ⟨_, Q12⟩ (Nat.le_succ _) dp
  go_wp2
  refine bodyPost_ret (v := anD (1) (0)) (by simp [results, Try.results24, go_sem, a0, a1, a2]) rfl ?_
  rw [KK.out]
  exact END
set_option maxHeartbeats 4000000 in
theorem refdoB (h : Rm w X p m) (v : Iv Z k m) (hk : k ≤ 10000) (hn : Z.n = X.n) {t : Nat} (ht : t < Z.nt) {op r hh vv a b cc : Int} (hr : 0 ≤ r) (hh0 : 0 ≤ hh) (hv0 : 0 ≤ vv) (hb : badC ⟨op, r, hh, vv, a, b, cc⟩ = true) :
    Calls Try.prog 24 #[ptrX X, .int .i64 (t : Int), .agg #[.int .u8 op, .int .u8 r, .int .u8 hh, .int .u8 vv, .int .i64 a, .int .i64 b, .int .i64 cc]] w (DidE X p w (doM X.FF m t ⟨op, r, hh, vv, a, b, cc⟩)) := by
  have n8 := v.n8
  have nt4 := v.nt.2
  have t4 : t < 4 := by omega
  have ti : (t : Int) < 4 := by omega
  have t0 : (0 : Int) ≤ (t : Int) := by omega
  obtain ⟨W, hW⟩ : ∃ W : World, W = (w.alloc (.cells #[.int .u8 op, .int .u8 r, .int .u8 hh, .int .u8 vv, .int .i64 a, .int .i64 b, .int .i64 cc] 47)).alloc (.cells #[.int .i64 0, .int .i64 0, .slice none 0 0] anT) := ⟨_, rfl⟩
  have Q0 := heap_alloc_new w (.cells #[.int .u8 op, .int .u8 r, .int .u8 hh, .int .u8 vv, .int .i64 a, .int .i64 b, .int .i64 cc] 47)
  have B0 := below_one w (.cells #[.int .u8 op, .int .u8 r, .int .u8 hh, .int .u8 vv, .int .i64 a, .int .i64 b, .int .i64 cc] 47)
  have h1 := (h.alloc (.cells #[.int .u8 op, .int .u8 r, .int .u8 hh, .int .u8 vv, .int .i64 a, .int .i64 b, .int .i64 cc] 47)).alloc (.cells #[.int .i64 0, .int .i64 0, .slice none 0 0] anT)
  have q : Below w.heap.size w W := by rw [hW]; exact B0.trans ((below_one _ _).mono B0.size)
  rw [← hW] at h1
  go_enter Try.func24, Try.ntmps24
  have Q1 := (heap_alloc_new (w.alloc (.cells #[.int .u8 op, .int .u8 r, .int .u8 hh, .int .u8 vv, .int .i64 a, .int .i64 b, .int .i64 cc] 47)) (.cells #[.int .i64 0, .int .i64 0, .slice none 0 0] anT))
  have Q2 := ((below_one (w.alloc (.cells #[.int .u8 op, .int .u8 r, .int .u8 hh, .int .u8 vv, .int .i64 a, .int .i64 b, .int .i64 cc] 47)) (.cells #[.int .i64 0, .int .i64 0, .slice none 0 0] anT)).block w.heap.size (by rw [World.size_alloc]; omega)).trans Q0
  rw [World.size_alloc] at Q1
  rw [← hW] at Q1 Q2
  have lw : w.heap.size + 1 < W.heap.size := by rw [hW, World.size_alloc, World.size_alloc]; omega
  have lDw := h.hd.lt
  have l0 : w.heap.size < W.heap.size := by omega
  have BC := Lib.hid hb
  have b0 := cell_of Q2 0 _ rfl
  have b1 := cell_of Q2 1 _ rfl
  have b2 := cell_of Q2 2 _ rfl
  have b3 := cell_of Q2 3 _ rfl
  have b4 := cell_of Q2 4 _ rfl
  have b5 := cell_of Q2 5 _ rfl
  have b6 := cell_of Q2 6 _ rfl
  clear Q0 B0 hb
  go_upto_region 1 with (fail)
  rw [← hW]
  clear hW
  go_wp2_with fail
  refine (regs12_any _ ⟨op, r, hh, vv, a, b, cc⟩).mono ?_
  rintro z w2 ⟨rfl, k2⟩
  rw [BC.out]
  have h2 := h1.keep k2
  have Q12 := (k2.block _ lw).trans Q1
  have Q22 := (k2.block w.heap.size l0).trans Q2
  have B2 := q.trans (k2.mono q.size)
  have c0 := cell_of Q22 0 _ rfl
  have c1 := cell_of Q22 1 _ rfl
  have c2 := cell_of Q22 2 _ rfl
  have c3 := cell_of Q22 3 _ rfl
  have c4 := cell_of Q22 4 _ rfl
  have c5 := cell_of Q22 5 _ rfl
  have c6 := cell_of Q22 6 _ rfl
  have l2 : w.heap.size + 1 < w2.heap.size := Nat.lt_of_lt_of_le lw k2.size
  clear b0 b1 b2 b3 b4 b5 b6
  have KK := Lib.hid (show doM X.FF m t ⟨op, r, hh, vv, a, b, cc⟩ = (⟨1, 0, []⟩, m) by unfold doM; rw [BC.out]; rfl)
  go_wp2_with fail
  refine (code_any _ _).mono ?_
  rintro z w3 ⟨rfl, k3⟩
  have dp := DidD.calm (h2.keep k3) k3
  have dl := dp.choose_spec
  have Q13 := (dl.2.1.keepT h2 ⟨_, Q12⟩ (by decide)).trans Q12
  have a0 := cell_of Q13 0 _ rfl
  have a1 := cell_of Q13 1 _ rfl
  have a2 := cell_of Q13 2 _ rfl
  have fz : ∀ o, w3.frozen? ⟨w.heap.size + 1, o, none⟩ = false := fun o => by simp [World.frozen?, Q13]
  have END := did_plain (c := 1) (n := 0) (mo := m) B2 h2 ⟨_, Q12⟩ (Nat.le_succ _) dp
  go_wp2
  refine bodyPost_ret (v := anD (1) (0)) (by simp [results, Try.results24, go_sem, a0, a1, a2]) rfl ?_
  rw [KK.out]
  exact END
end
end Go.Proofs.Ytbpmnjmegffllaa.Mod
