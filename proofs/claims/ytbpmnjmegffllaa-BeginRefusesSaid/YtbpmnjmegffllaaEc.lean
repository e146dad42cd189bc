/-
  Contracts of the document's model: Do: exit.
-/
import Derived.Test.YtbpmnjmegffllaaEa
import Derived.Deep.DeepCutAuto
namespace Go.Proofs.Ytbpmnjmegffllaa.Mod
open Go.ChangeShapes Go.WideShapes Go.ChangeAt Go.RowKit
open Slic Sco
set_option linter.unusedVariables false
set_option linter.unusedSimpArgs false
set_option maxRecDepth 8000
section
variable {w w' : World} {X : Dx} {p : Dp} {m m' : Mo} {Z : Fx} {k : Nat}
set_option maxHeartbeats 4000000 in
theorem refdo5 (h : Rm w X p m) (v : Iv Z k m) (hk : k ≤ 10000) (ff : Fok X.FF) (hn : Z.n = X.n) {t : Nat} (ht : t < Z.nt) {r hh vv a b cc : Int} (hr : 0 ≤ r) (hh0 : 0 ≤ hh) (hv0 : 0 ≤ vv) (hb : badC ⟨5, r, hh, vv, a, b, cc⟩ = false) :
    Calls Try.prog 24 #[ptrX X, .int .i64 (t : Int), .agg #[.int .u8 5, .int .u8 r, .int .u8 hh, .int .u8 vv, .int .i64 a, .int .i64 b, .int .i64 cc]] w (DidE X p w (doM X.FF m t ⟨5, r, hh, vv, a, b, cc⟩)) := by
  have n8 := v.n8
  have nt4 := v.nt.2
  have t4 : t < 4 := by omega
  have ti : (t : Int) < 4 := by omega
  have t0 : (0 : Int) ≤ (t : Int) := by omega
  obtain ⟨W, hW⟩ : ∃ W : World, W = (w.alloc (.cells #[.int .u8 5, .int .u8 r, .int .u8 hh, .int .u8 vv, .int .i64 a, .int .i64 b, .int .i64 cc] 47)).alloc (.cells #[.int .i64 0, .int .i64 0, .slice none 0 0] anT) := ⟨_, rfl⟩
  have Q0 := heap_alloc_new w (.cells #[.int .u8 5, .int .u8 r, .int .u8 hh, .int .u8 vv, .int .i64 a, .int .i64 b, .int .i64 cc] 47)
  have B0 := below_one w (.cells #[.int .u8 5, .int .u8 r, .int .u8 hh, .int .u8 vv, .int .i64 a, .int .i64 b, .int .i64 cc] 47)
  have h1 := (h.alloc (.cells #[.int .u8 5, .int .u8 r, .int .u8 hh, .int .u8 vv, .int .i64 a, .int .i64 b, .int .i64 cc] 47)).alloc (.cells #[.int .i64 0, .int .i64 0, .slice none 0 0] anT)
  have q : Below w.heap.size w W := by rw [hW]; exact B0.trans ((below_one _ _).mono B0.size)
  rw [← hW] at h1
  go_enter Try.func24, Try.ntmps24
  have Q1 := (heap_alloc_new (w.alloc (.cells #[.int .u8 5, .int .u8 r, .int .u8 hh, .int .u8 vv, .int .i64 a, .int .i64 b, .int .i64 cc] 47)) (.cells #[.int .i64 0, .int .i64 0, .slice none 0 0] anT))
  have Q2 := ((below_one (w.alloc (.cells #[.int .u8 5, .int .u8 r, .int .u8 hh, .int .u8 vv, .int .i64 a, .int .i64 b, .int .i64 cc] 47)) (.cells #[.int .i64 0, .int .i64 0, .slice none 0 0] anT)).block w.heap.size (by rw [World.size_alloc]; omega)).trans Q0
  rw [World.size_alloc] at Q1
  rw [← hW] at Q1 Q2
  have lw : w.heap.size + 1 < W.heap.size := by rw [hW, World.size_alloc, World.size_alloc]; omega
  have lDw := h.hd.lt
  have l0 : w.heap.size < W.heap.size := by omega
  have BC := Lib.hid hb
  have b0 := cell_of Q2 0 _ rfl
  have b1 := cell_of Q2 1 _ rfl
  have b2 := cell_of Q2 2 _ rfl
  have b3 := cell_of Q2 3 _ rfl
  have b4 := cell_of Q2 4 _ rfl
  have b5 := cell_of Q2 5 _ rfl
  have b6 := cell_of Q2 6 _ rfl
  clear Q0 B0 hb
  go_upto_region 1 with (fail)
  rw [← hW]
  clear hW
  go_wp2_with fail
  refine (regs12_any _ ⟨5, r, hh, vv, a, b, cc⟩).mono ?_
  rintro z w2 ⟨rfl, k2⟩
  rw [BC.out]
  have h2 := h1.keep k2
  have Q12 := (k2.block _ lw).trans Q1
  have Q22 := (k2.block w.heap.size l0).trans Q2
  have B2 := q.trans (k2.mono q.size)
  have c0 := cell_of Q22 0 _ rfl
  have c1 := cell_of Q22 1 _ rfl
  have c2 := cell_of Q22 2 _ rfl
  have c3 := cell_of Q22 3 _ rfl
  have c4 := cell_of Q22 4 _ rfl
  have c5 := cell_of Q22 5 _ rfl
  have c6 := cell_of Q22 6 _ rfl
  have l2 : w.heap.size + 1 < w2.heap.size := Nat.lt_of_lt_of_le lw k2.size
  clear b0 b1 b2 b3 b4 b5 b6
  have hl6 := v.l6 ht
  have nT := v.nT
  have cE := h2.entC t4
  have oE := (ent_own.2 (h2.en t t4)).sr
  obtain ⟨⟨l1, l2_⟩, hlv⟩ : ∃ e, Chain.lastV (m.ents t) = e := ⟨_, rfl⟩
  obtain ⟨E, hE⟩ : ∃ e, Chain.popE (m.ents t) = e := ⟨_, rfl⟩
  have LV := Lib.hid hlv
  have PE := Lib.hid hE
  have DM : doM X.FF m t ⟨5, r, hh, vv, a, b, cc⟩ = exitV X.FF m t := by unfold doM; rw [BC.out]; rfl
  clear hlv hE
  go_wp2_with fail
  refine (Chain.refpop_any _ (sl3 (p.c t)) (m.ents t) oE (by omega)).mono ?_
  rintro e w4 ⟨y, rfl, O4, k4⟩
  obtain ⟨yt, rfl⟩ := own_tri (ent_own.1 O4)
  rw [LV.out, PE.out]
  have h5 := (h2.keep k4).alloc (.cells #[.int .i64 l1, .bool l2_] 106)
  have kE_ := below_one w4 (.cells #[.int .i64 l1, .bool l2_] 106)
  have Qe := heap_alloc_new w4 (.cells #[.int .i64 l1, .bool l2_] 106)
  have e1 := cell_of Qe 1 _ rfl
  have O5 := ((ent_own.1 O4).zero (Nat.zero_le _)).below kE_
  have k5 := k4.trans (kE_.mono k4.size)
  obtain ⟨W5, hW5⟩ : ∃ W5 : World, W5 = w4.alloc (.cells #[.int .i64 l1, .bool l2_] 106) := ⟨_, rfl⟩
  rw [← hW5] at h5 kE_ Qe O5 k5 e1
  have Q15 := (k5.block _ l2).trans Q12
  have B5 := B2.trans (k5.mono B2.size)
  go_upto_region 20 with (fail)
  rw [← hW5]
  clear hW5 cE oE O4 k4 kE_
  by_cases hE0 : E = 0
  rotate_left
  · have KK := Lib.hid (show doM X.FF m t ⟨5, r, hh, vv, a, b, cc⟩ = (⟨E, 0, []⟩, m) by rw [DM]; unfold exitV; rw [PE.out, if_pos hE0]; rfl)
    have z1 : (E == 0) = false := by simpa using hE0
    clear hE0 DM
    as_aux_lemma =>
      go_wp2_with fail
      refine (code_any _ _).mono ?_
      rintro z w3 ⟨rfl, k3⟩
      have dp := DidD.calm (h5.keep k3) k3
      have dl := dp.choose_spec
      have Q13 := (dl.2.1.keepT h5 ⟨_, Q15⟩ (by decide)).trans Q15
      have a0 := cell_of Q13 0 _ rfl
      have a1 := cell_of Q13 1 _ rfl
      have a2 := cell_of Q13 2 _ rfl
      have fz : ∀ o, w3.frozen? ⟨w.heap.size + 1, o, none⟩ = false := fun o => by simp [World.frozen?, Q13]
      have END := did_plain (c := E) (n := 0) (mo := m) B5 h5 ⟨_, Q15⟩ (Nat.le_succ _) dp
      go_wp2
      refine bodyPost_ret (v := anD (E) (0)) (by simp [results, Try.results24, go_sem, a0, a1, a2]) rfl ?_
      rw [KK.out]
      exact END
  subst hE0
  cases l2_ with
  | false =>
    have KK := Lib.hid (show doM X.FF m t ⟨5, r, hh, vv, a, b, cc⟩ = (⟨0, 0, []⟩, m.setEnt t (m.ents t).dropLast) by rw [DM]; unfold exitV; rw [PE.out, if_neg (by decide), LV.out, if_pos rfl]; rfl)
    have cr := h5.entC t4
    have fr := h5.hd.frozen
    obtain ⟨W6, hW6⟩ : ∃ W6 : World, W6 = W5.setCell ⟨X.D, 39 + t, none⟩ (sl3 yt) := ⟨_, rfl⟩
    have h6 := h5.putC (t := t) (by omega) (by omega) yt O5
    rw [← hW6] at h6
    have k6 : Only [X.D] W5 W6 := by rw [hW6]; exact Only.put W5 _ _ _ (by simp)
    clear DM
    as_aux_lemma =>
      go_wp2_with fail
      rw [← hW6]
      clear hW6 cr fr
      refine (code_any _ _).mono ?_
      rintro z w3 ⟨rfl, k3⟩
      have dp : DidD X p W5 (m.setEnt t (m.ents t).dropLast) w3 := ⟨_, h6.keep k3, ⟨[X.D], fun b hb => .inl (List.mem_singleton.1 hb), only_new k6 (Only.below (X := []) k3) (fun x hx => absurd hx List.not_mem_nil)⟩, fun b hb => .inl hb⟩
      have dl := dp.choose_spec
      have Q13 := (dl.2.1.keepT h5 ⟨_, Q15⟩ (by decide)).trans Q15
      have a0 := cell_of Q13 0 _ rfl
      have a1 := cell_of Q13 1 _ rfl
      have a2 := cell_of Q13 2 _ rfl
      have fz : ∀ o, w3.frozen? ⟨w.heap.size + 1, o, none⟩ = false := fun o => by simp [World.frozen?, Q13]
      have END := did_plain (c := 0) (n := 0) (mo := (m.setEnt t (m.ents t).dropLast)) B5 h5 ⟨_, Q15⟩ (Nat.le_succ _) dp
      go_wp2
      refine bodyPost_ret (v := anD (0) (0)) (by simp [results, Try.results24, go_sem, a0, a1, a2]) rfl ?_
      rw [KK.out]
      exact END
  | true =>
    have EX := refexit_any h5 v hk ff hn ht PE.out (by rw [LV.out])
    obtain ⟨r5, hr_⟩ : ∃ r, exitV X.FF m t = r := ⟨_, rfl⟩
    rw [hr_] at EX
    have KK := Lib.hid (show doM X.FF m t ⟨5, r, hh, vv, a, b, cc⟩ = r5 by rw [DM, hr_])
    clear DM hr_
    as_aux_lemma =>
      go_wp2_with fail
      refine EX.mono ?_
      rintro z w3 ⟨sd, rfl, S3, s3, dp⟩
      have dl := dp.choose_spec
      have Q13 := (dl.2.1.keepT h5 ⟨_, Q15⟩ (by decide)).trans Q15
      have a0 := cell_of Q13 0 _ rfl
      have a1 := cell_of Q13 1 _ rfl
      have a2 := cell_of Q13 2 _ rfl
      have fz : ∀ o, w3.frozen? ⟨w.heap.size + 1, o, none⟩ = false := fun o => by simp [World.frozen?, Q13]
      have END := did_end (r := r5) B5 h5 ⟨_, Q15⟩ (Nat.le_succ _) S3 s3 dp
      go_wp2
      refine bodyPost_ret (v := .agg #[.int .i64 r5.1.c, .int .i64 r5.1.n, sl3 sd]) (by simp [results, Try.results24, go_sem, a0, a1, a2]) rfl ?_
      rw [KK.out]
      exact END
end
end Go.Proofs.Ytbpmnjmegffllaa.Mod
