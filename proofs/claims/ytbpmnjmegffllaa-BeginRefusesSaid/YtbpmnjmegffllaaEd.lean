/-
  Contracts of the document's model: Do: create, destroy.
-/
import Derived.Test.YtbpmnjmegffllaaEa
import Derived.Deep.DeepCutAuto
namespace Go.Proofs.Ytbpmnjmegffllaa.Mod
open Go.ChangeShapes Go.WideShapes Go.ChangeAt Go.RowKit
open Slic Sco
set_option linter.unusedVariables false
set_option linter.unusedSimpArgs false
set_option maxRecDepth 8000
section
variable {w w' : World} {X : Dx} {p : Dp} {m m' : Mo} {Z : Fx} {k : Nat}
theorem Rm.create {I J : Int} (h : Rm w X p m) (v : Inv X.n X.A (8 * (X.N : Int)) I J m.F) (hN : X.N ≤ 8192) (z : Int) (z1 : -9223372036854775808 ≤ z) (z2 : z ≤ 9223372036854775807) :
    Calls Try.prog 43 #[ptrD X.P, .int .i64 z] w fun e w' => e = tellN (createV m.F z).v (createV m.F z).x ∧ ∃ Y', Rm w' X ⟨p.o, p.c, p.s, Y'⟩ ⟨(createV m.F z).F, m.O, m.A, m.T⟩ ∧ Only [X.P.gc, X.P.gx, X.P.gw] w w' := by
  obtain ⟨⟨R, L⟩, O, A, T⟩ := m
  obtain rfl : Gm.runs X.A p.Y X.N = L := h.rl.symm
  exact (refcreate_any h.rs v hN z z1 z2).mono fun e w' ⟨Y', a, b, c, d⟩ => ⟨a, Y', h.scopes d (fun b hb => by simpa using hb) b c, d⟩
theorem Rm.destroy {I J : Int} (h : Rm w X p m) (v : Inv X.n X.A (8 * (X.N : Int)) I J m.F) (hN : X.N ≤ 8192) (i : Int) :
    Calls Try.prog 44 #[ptrD X.P, .int .i64 i] w fun e w' => e = .returned (.int .i64 (destroyV m.F i).x) ∧ ∃ Y', Rm w' X ⟨p.o, p.c, p.s, Y'⟩ ⟨(destroyV m.F i).F, m.O, m.A, m.T⟩ ∧ Only [X.P.gc, X.P.gx, X.P.gw] w w' := by
  obtain ⟨⟨R, L⟩, O, A, T⟩ := m
  obtain rfl : Gm.runs X.A p.Y X.N = L := h.rl.symm
  exact (refdestroy_any h.rs v hN i).mono fun e w' ⟨Y', a, b, c, d⟩ => ⟨a, Y', h.scopes d (fun b hb => by simpa using hb) b c, d⟩
set_option maxHeartbeats 4000000 in
theorem refdo2 {a : Int} (h : Rm w X p m) (v : Iv Z k m) (hk : k ≤ 10000) (zA : Z.A = X.A) (zS : Z.S = 8 * (X.N : Int)) (zN : X.N ≤ 8192) (za1 : -9223372036854775808 ≤ a) (za2 : a ≤ 9223372036854775807) (hn : Z.n = X.n) {t : Nat} (ht : t < Z.nt) {r hh vv b cc : Int} (hr : 0 ≤ r) (hh0 : 0 ≤ hh) (hv0 : 0 ≤ vv) (hb : badC ⟨2, r, hh, vv, a, b, cc⟩ = false) :
    Calls Try.prog 24 #[ptrX X, .int .i64 (t : Int), .agg #[.int .u8 2, .int .u8 r, .int .u8 hh, .int .u8 vv, .int .i64 a, .int .i64 b, .int .i64 cc]] w (DidE X p w (doM X.FF m t ⟨2, r, hh, vv, a, b, cc⟩)) := by
  have n8 := v.n8
  have nt4 := v.nt.2
  have t4 : t < 4 := by omega
  have ti : (t : Int) < 4 := by omega
  have t0 : (0 : Int) ≤ (t : Int) := by omega
  have VF : Inv X.n X.A (8 * (X.N : Int)) Z.I Z.J m.F := by rw [← hn, ← zA, ← zS]; exact v.f
  obtain ⟨W, hW⟩ : ∃ W : World, W = (w.alloc (.cells #[.int .u8 2, .int .u8 r, .int .u8 hh, .int .u8 vv, .int .i64 a, .int .i64 b, .int .i64 cc] 47)).alloc (.cells #[.int .i64 0, .int .i64 0, .slice none 0 0] anT) := ⟨_, rfl⟩
  have Q0 := heap_alloc_new w (.cells #[.int .u8 2, .int .u8 r, .int .u8 hh, .int .u8 vv, .int .i64 a, .int .i64 b, .int .i64 cc] 47)
  have B0 := below_one w (.cells #[.int .u8 2, .int .u8 r, .int .u8 hh, .int .u8 vv, .int .i64 a, .int .i64 b, .int .i64 cc] 47)
  have h1 := (h.alloc (.cells #[.int .u8 2, .int .u8 r, .int .u8 hh, .int .u8 vv, .int .i64 a, .int .i64 b, .int .i64 cc] 47)).alloc (.cells #[.int .i64 0, .int .i64 0, .slice none 0 0] anT)
  have q : Below w.heap.size w W := by rw [hW]; exact B0.trans ((below_one _ _).mono B0.size)
  rw [← hW] at h1
  go_enter Try.func24, Try.ntmps24
  have Q1 := (heap_alloc_new (w.alloc (.cells #[.int .u8 2, .int .u8 r, .int .u8 hh, .int .u8 vv, .int .i64 a, .int .i64 b, .int .i64 cc] 47)) (.cells #[.int .i64 0, .int .i64 0, .slice none 0 0] anT))
  have Q2 := ((below_one (w.alloc (.cells #[.int .u8 2, .int .u8 r, .int .u8 hh, .int .u8 vv, .int .i64 a, .int .i64 b, .int .i64 cc] 47)) (.cells #[.int .i64 0, .int .i64 0, .slice none 0 0] anT)).block w.heap.size (by rw [World.size_alloc]; omega)).trans Q0
  rw [World.size_alloc] at Q1
  rw [← hW] at Q1 Q2
  have lw : w.heap.size + 1 < W.heap.size := by rw [hW, World.size_alloc, World.size_alloc]; omega
  have lDw := h.hd.lt
  have l0 : w.heap.size < W.heap.size := by omega
  have BC := Lib.hid hb
  have b0 := cell_of Q2 0 _ rfl
  have b1 := cell_of Q2 1 _ rfl
  have b2 := cell_of Q2 2 _ rfl
  have b3 := cell_of Q2 3 _ rfl
  have b4 := cell_of Q2 4 _ rfl
  have b5 := cell_of Q2 5 _ rfl
  have b6 := cell_of Q2 6 _ rfl
  clear Q0 B0 hb
  go_upto_region 1 with (fail)
  rw [← hW]
  clear hW
  go_wp2_with fail
  refine (regs12_any _ ⟨2, r, hh, vv, a, b, cc⟩).mono ?_
  rintro z w2 ⟨rfl, k2⟩
  rw [BC.out]
  have h2 := h1.keep k2
  have Q12 := (k2.block _ lw).trans Q1
  have Q22 := (k2.block w.heap.size l0).trans Q2
  have B2 := q.trans (k2.mono q.size)
  have c0 := cell_of Q22 0 _ rfl
  have c1 := cell_of Q22 1 _ rfl
  have c2 := cell_of Q22 2 _ rfl
  have c3 := cell_of Q22 3 _ rfl
  have c4 := cell_of Q22 4 _ rfl
  have c5 := cell_of Q22 5 _ rfl
  have c6 := cell_of Q22 6 _ rfl
  have l2 : w.heap.size + 1 < w2.heap.size := Nat.lt_of_lt_of_le lw k2.size
  clear b0 b1 b2 b3 b4 b5 b6
  have c5_ := h2.c5
  have lX := h2.hd.lt
  have CT := fun w9 (h9 : Rm w9 X p m) => h9.create VF zN a za1 za2
  obtain ⟨R, hR⟩ : ∃ R, createV m.F a = R := ⟨_, rfl⟩
  have KK := Lib.hid (show doM X.FF m t ⟨2, r, hh, vv, a, b, cc⟩ = (⟨R.x, R.v, []⟩, ⟨R.F, m.O, m.A, m.T⟩) by rw [← hR]; unfold doM; rw [BC.out]; rfl)
  simp only [hR] at CT
  clear hR VF
  go_wp2_with fail
  have n4_ : w.heap.size ∉ [X.P.gc, X.P.gx, X.P.gw] := fun hx => by
    simp at hx
    rcases hx with e | e | e
    · exact (isT.of Q22).ne h2.rs.tc (by decide) e
    · exact (isT.of Q22).ne h2.rs.tx (by decide) e
    · exact (isT.of Q22).ne h2.rs.tw (by decide) e
  go_region_held3 (fun W' => W'.cell? ⟨X.D, 5, none⟩ = some (ptrD X.P) ∧ W'.cell? ⟨w.heap.size, 4, none⟩ = some (.int .i64 a))
    (first | exact ⟨c5_, c4⟩ | exact KD)
    ((go_at_call 43; refine (CT _ (by first | exact h2 | exact h2.drew | exact h2.drew.drew)).mono ?_; rintro z w3 ⟨rfl, Y', h3, k3⟩; have n4 : w.heap.size ∉ [X.P.gc, X.P.gx, X.P.gw] := n4_; have KD := (show w3.cell? ⟨X.D, 5, none⟩ = some (ptrD X.P) ∧ w3.cell? ⟨w.heap.size, 4, none⟩ = some (.int .i64 a) from ⟨h3.c5, (World.cell?_of_block (a := ⟨w.heap.size, 4, none⟩) (k3.block w.heap.size (by show w.heap.size < w2.heap.size; omega) n4)).trans c4⟩)))
  have dp : DidD X p w2 ⟨R.F, m.O, m.A, m.T⟩ w3 := ⟨_, h3, ⟨[X.P.gc, X.P.gx, X.P.gw], fun b hb => by simp at hb; rcases hb with e | e | e; exact .inr (.inl e); exact .inr (.inr (.inl e)); exact .inr (.inr (.inr (.inl e))), (Only.below (X := [X.P.gc, X.P.gx, X.P.gw]) (Below.refl _ w2).drew).trans k3⟩, fun b hb => .inl hb⟩
  have dl := dp.choose_spec
  have Q13 := (dl.2.1.keepT h2 ⟨_, Q12⟩ (by decide)).trans Q12
  have a0 := cell_of Q13 0 _ rfl
  have a1 := cell_of Q13 1 _ rfl
  have a2 := cell_of Q13 2 _ rfl
  have fz : ∀ o, w3.frozen? ⟨w.heap.size + 1, o, none⟩ = false := fun o => by simp [World.frozen?, Q13]
  have END := did_plain (c := R.x) (n := R.v) (mo := ⟨R.F, m.O, m.A, m.T⟩) B2 h2 ⟨_, Q12⟩ (Nat.le_succ _) dp
  go_wp2
  refine bodyPost_ret (v := anD (R.x) (R.v)) (by simp [results, Try.results24, go_sem, a0, a1, a2]) rfl ?_
  rw [KK.out]
  exact END
set_option maxHeartbeats 4000000 in
theorem refdo3 {a : Int} (h : Rm w X p m) (v : Iv Z k m) (hk : k ≤ 10000) (zA : Z.A = X.A) (zS : Z.S = 8 * (X.N : Int)) (zN : X.N ≤ 8192) (za1 : -9223372036854775808 ≤ a) (za2 : a ≤ 9223372036854775807) (hn : Z.n = X.n) {t : Nat} (ht : t < Z.nt) {r hh vv b cc : Int} (hr : 0 ≤ r) (hh0 : 0 ≤ hh) (hv0 : 0 ≤ vv) (hb : badC ⟨3, r, hh, vv, a, b, cc⟩ = false) :
    Calls Try.prog 24 #[ptrX X, .int .i64 (t : Int), .agg #[.int .u8 3, .int .u8 r, .int .u8 hh, .int .u8 vv, .int .i64 a, .int .i64 b, .int .i64 cc]] w (DidE X p w (doM X.FF m t ⟨3, r, hh, vv, a, b, cc⟩)) := by
  have n8 := v.n8
  have nt4 := v.nt.2
  have t4 : t < 4 := by omega
  have ti : (t : Int) < 4 := by omega
  have t0 : (0 : Int) ≤ (t : Int) := by omega
  have VF : Inv X.n X.A (8 * (X.N : Int)) Z.I Z.J m.F := by rw [← hn, ← zA, ← zS]; exact v.f
  obtain ⟨W, hW⟩ : ∃ W : World, W = (w.alloc (.cells #[.int .u8 3, .int .u8 r, .int .u8 hh, .int .u8 vv, .int .i64 a, .int .i64 b, .int .i64 cc] 47)).alloc (.cells #[.int .i64 0, .int .i64 0, .slice none 0 0] anT) := ⟨_, rfl⟩
  have Q0 := heap_alloc_new w (.cells #[.int .u8 3, .int .u8 r, .int .u8 hh, .int .u8 vv, .int .i64 a, .int .i64 b, .int .i64 cc] 47)
  have B0 := below_one w (.cells #[.int .u8 3, .int .u8 r, .int .u8 hh, .int .u8 vv, .int .i64 a, .int .i64 b, .int .i64 cc] 47)
  have h1 := (h.alloc (.cells #[.int .u8 3, .int .u8 r, .int .u8 hh, .int .u8 vv, .int .i64 a, .int .i64 b, .int .i64 cc] 47)).alloc (.cells #[.int .i64 0, .int .i64 0, .slice none 0 0] anT)
  have q : Below w.heap.size w W := by rw [hW]; exact B0.trans ((below_one _ _).mono B0.size)
  rw [← hW] at h1
  go_enter Try.func24, Try.ntmps24
  have Q1 := (heap_alloc_new (w.alloc (.cells #[.int .u8 3, .int .u8 r, .int .u8 hh, .int .u8 vv, .int .i64 a, .int .i64 b, .int .i64 cc] 47)) (.cells #[.int .i64 0, .int .i64 0, .slice none 0 0] anT))
  have Q2 := ((below_one (w.alloc (.cells #[.int .u8 3, .int .u8 r, .int .u8 hh, .int .u8 vv, .int .i64 a, .int .i64 b, .int .i64 cc] 47)) (.cells #[.int .i64 0, .int .i64 0, .slice none 0 0] anT)).block w.heap.size (by rw [World.size_alloc]; omega)).trans Q0
  rw [World.size_alloc] at Q1
  rw [← hW] at Q1 Q2
  have lw : w.heap.size + 1 < W.heap.size := by rw [hW, World.size_alloc, World.size_alloc]; omega
  have lDw := h.hd.lt
  have l0 : w.heap.size < W.heap.size := by omega
  have BC := Lib.hid hb
  have b0 := cell_of Q2 0 _ rfl
  have b1 := cell_of Q2 1 _ rfl
  have b2 := cell_of Q2 2 _ rfl
  have b3 := cell_of Q2 3 _ rfl
  have b4 := cell_of Q2 4 _ rfl
  have b5 := cell_of Q2 5 _ rfl
  have b6 := cell_of Q2 6 _ rfl
  clear Q0 B0 hb
  go_upto_region 1 with (fail)
  rw [← hW]
  clear hW
  go_wp2_with fail
  refine (regs12_any _ ⟨3, r, hh, vv, a, b, cc⟩).mono ?_
  rintro z w2 ⟨rfl, k2⟩
  rw [BC.out]
  have h2 := h1.keep k2
  have Q12 := (k2.block _ lw).trans Q1
  have Q22 := (k2.block w.heap.size l0).trans Q2
  have B2 := q.trans (k2.mono q.size)
  have c0 := cell_of Q22 0 _ rfl
  have c1 := cell_of Q22 1 _ rfl
  have c2 := cell_of Q22 2 _ rfl
  have c3 := cell_of Q22 3 _ rfl
  have c4 := cell_of Q22 4 _ rfl
  have c5 := cell_of Q22 5 _ rfl
  have c6 := cell_of Q22 6 _ rfl
  have l2 : w.heap.size + 1 < w2.heap.size := Nat.lt_of_lt_of_le lw k2.size
  clear b0 b1 b2 b3 b4 b5 b6
  have c5_ := h2.c5
  have lX := h2.hd.lt
  have CT := fun w9 (h9 : Rm w9 X p m) => h9.destroy VF zN a
  obtain ⟨R, hR⟩ : ∃ R, destroyV m.F a = R := ⟨_, rfl⟩
  have KK := Lib.hid (show doM X.FF m t ⟨3, r, hh, vv, a, b, cc⟩ = (⟨R.x, 0, []⟩, ⟨R.F, m.O, m.A, m.T⟩) by rw [← hR]; unfold doM; rw [BC.out]; rfl)
  simp only [hR] at CT
  clear hR VF
  go_wp2_with fail
  have n4_ : w.heap.size ∉ [X.P.gc, X.P.gx, X.P.gw] := fun hx => by
    simp at hx
    rcases hx with e | e | e
    · exact (isT.of Q22).ne h2.rs.tc (by decide) e
    · exact (isT.of Q22).ne h2.rs.tx (by decide) e
    · exact (isT.of Q22).ne h2.rs.tw (by decide) e
  have nX : X.D ≠ w.heap.size + 1 := by omega
  have n1_ : w.heap.size + 1 ∉ [X.P.gc, X.P.gx, X.P.gw] := fun hx => by
    simp at hx
    rcases hx with e | e | e
    · exact (isT.of Q12).ne h2.rs.tc (by decide) e
    · exact (isT.of Q12).ne h2.rs.tx (by decide) e
    · exact (isT.of Q12).ne h2.rs.tw (by decide) e
  go_region_held3 (fun W' => W'.cell? ⟨X.D, 5, none⟩ = some (ptrD X.P) ∧ W'.cell? ⟨w.heap.size, 4, none⟩ = some (.int .i64 a))
    (first | exact ⟨c5_, c4⟩ | exact KD4 | exact KD | (refine ⟨?_, ?_⟩ <;> simp [go_sem, KD4.1, KD4.2, nX]))
    (first | ((go_at_call 44; refine (CT _ (by first | exact h2 | exact h2.drew | exact h2.drew.drew)).mono ?_; rintro z w3 ⟨rfl, Y', h3, k3⟩; have n4 : w.heap.size ∉ [X.P.gc, X.P.gx, X.P.gw] := n4_; have KD := (show w3.cell? ⟨X.D, 5, none⟩ = some (ptrD X.P) ∧ w3.cell? ⟨w.heap.size, 4, none⟩ = some (.int .i64 a) from ⟨h3.c5, (World.cell?_of_block (a := ⟨w.heap.size, 4, none⟩) (k3.block w.heap.size (by show w.heap.size < w2.heap.size; omega) n4)).trans c4⟩))) | ((go_at_call 42; refine (code_any _ _).mono ?_; rintro z w4 ⟨rfl, k4⟩; have h4 := h3.keep k4; have k34 : Only [X.P.gc, X.P.gx, X.P.gw] w2 w4 := (only_new ((Only.below (X := [X.P.gc, X.P.gx, X.P.gw]) (Below.refl _ w2).drew).trans k3) (Only.below (X := []) k4) (fun x hx => absurd hx List.not_mem_nil)); have Q14 := (k34.block (w.heap.size + 1) l2 n1_).trans Q12; have a0 := cell_of Q14 0 _ rfl; have a1 := cell_of Q14 1 _ rfl; have a2 := cell_of Q14 2 _ rfl; have fz : ∀ o, w4.frozen? ⟨w.heap.size + 1, o, none⟩ = false := (fun o => by simp [World.frozen?, Q14]); have KD4 := (show w4.cell? ⟨X.D, 5, none⟩ = some (ptrD X.P) ∧ w4.cell? ⟨w.heap.size, 4, none⟩ = some (.int .i64 a) from ⟨h4.c5, (World.cell?_of_block (a := ⟨w.heap.size, 4, none⟩) (k34.block w.heap.size (by show w.heap.size < w2.heap.size; omega) n4_)).trans c4⟩))))
  have dp : DidD X p w2 ⟨R.F, m.O, m.A, m.T⟩ w4 := ⟨_, h4, ⟨[X.P.gc, X.P.gx, X.P.gw], fun b hb => by simp at hb; rcases hb with e | e | e; exact .inr (.inl e); exact .inr (.inr (.inl e)); exact .inr (.inr (.inr (.inl e))), k34⟩, fun b hb => .inl hb⟩
  have END := did_plain (c := R.x) (n := 0) (mo := ⟨R.F, m.O, m.A, m.T⟩) B2 h2 ⟨_, Q12⟩ (Nat.le_succ _) dp
  go_wp2
  refine bodyPost_ret (v := anD (R.x) 0) (by simp [results, Try.results24, go_sem, a0, a1, a2]) rfl ?_
  rw [KK.out]
  exact END
end
end Go.Proofs.Ytbpmnjmegffllaa.Mod
