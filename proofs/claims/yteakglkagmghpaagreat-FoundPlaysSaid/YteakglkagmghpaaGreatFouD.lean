/-
  Package found: a scope is made, a scope is unmade.
-/
import Derived.Test.YteakglkagmghpaaGreatFouC
namespace Go.Proofs.YteakglkagmghpaaGreat.Fou
open Go.ChangeShapes Go.WideShapes Go.ChangeAt Go.RowKit
open Sco Amem Gm
set_option linter.unusedVariables false
set_option linter.unusedSimpArgs false
set_option maxRecDepth 8000
attribute [local go_sem ↓] Go.wp_at_zero Go.wp_at_succ
variable {P : Pn} {f : Nat → Int} {F : Fo} {G : Nat} {w w' : World}
/-- The words of a scope's block, put. -/
def putX (f : Nat → Int) (k : Nat) (x : Cx) : Nat → Int := setF (setF (setF f (8 * k) (Ctl.packV x.s x.c x.p x.e)) (8 * k + 1) x.a) (8 * k + 2) x.z
def createW (f : Nat → Int) (F : Fo) (z : Int) : Nat → Int := match F.R[F.R.findIdx fr]? with
  | none => f
  | some x => if Gr.carveB (upz z) F.L = true then setF (setF (putX f (F.R.findIdx fr) (made x (carveA (upz z) F.L) (upz z))) (8 * F.R.findIdx fr + 3) 0) (8 * F.R.findIdx fr + 4) 0 else f
def destroyW (f : Nat → Int) (F : Fo) (i : Int) : Nat → Int := match Sco.look F.R i with
  | none => f
  | some x => if x.s = 1 then putX f i.toNat (gone x) else f
theorem wf_put {R : List Cx} (h : Wf f R) (k : Nat) (y : Cx) : Wf (putX f k y) (R.set k y) := by
  intro i x hx
  unfold putX
  rcases get_set hx with ⟨rfl, rfl, _⟩ | ⟨hi, hx⟩
  · refine ⟨?_, ?_, ?_⟩
    · rw [setF_other _ _ _ _ (by omega), setF_other _ _ _ _ (by omega), setF_same]
    · rw [setF_other _ _ _ _ (by omega), setF_same]
    · rw [setF_same]
  · obtain ⟨h1, h2, h3⟩ := h i x hx
    refine ⟨?_, ?_, ?_⟩
    · rw [setF_other _ _ _ _ (by omega), setF_other _ _ _ _ (by omega), setF_other _ _ _ _ (by omega), h1]
    · rw [setF_other _ _ _ _ (by omega), setF_other _ _ _ _ (by omega), setF_other _ _ _ _ (by omega), h2]
    · rw [setF_other _ _ _ _ (by omega), setF_other _ _ _ _ (by omega), setF_other _ _ _ _ (by omega), h3]
theorem wf_set {R : List Cx} (h : Wf f R) (j : Nat) (v : Int) (hj : 3 ≤ j % 8) : Wf (setF f j v) R := by
  intro i x hx
  obtain ⟨h1, h2, h3⟩ := h i x hx
  exact ⟨by rw [setF_other _ _ _ _ (by omega), h1], by rw [setF_other _ _ _ _ (by omega), h2], by rw [setF_other _ _ _ _ (by omega), h3]⟩
theorem Fd.go {X : List Nat} (h : Fd w P G f F) (k : Only X w w') (hB : P.B ∉ X) (hg : P.g ∉ X) : P.ar w' f :=
  ⟨h.ar.head.of_block (k.block _ h.ar.head.lt hB), h.ar.body.of_block (k.block _ h.ar.body.lt hg), h.ar.fit, h.ar.len⟩
theorem fd_lt (h : Fd w P G f F) : ∀ x ∈ [P.g, G], x < w.heap.size := fun x hx => by
  rcases List.mem_cons.1 hx with rfl | hx
  · exact h.ar.body.lt
  · rw [List.mem_singleton.1 hx]
    exact h.gr.lt
theorem only_g (k : Only [P.g] w w') : Only [P.g, G] w w' := k.mono fun x hx => by rw [List.mem_singleton.1 hx]; simp

theorem typ_go {X : List Nat} {b : Nat} {T : TypeId} (h : isT w b T) (k : Only X w w') (hx : b ∉ X) : isT w' b T := by
  obtain ⟨c, h⟩ := h
  exact ⟨c, (k.block b (Array.getElem?_eq_some_iff.1 h).1 hx).trans h⟩
theorem typ_new (w : World) (cs : Array Value) (T : TypeId) : isT (w.alloc (.cells cs T)) w.heap.size T := ⟨cs, heap_alloc_new w _⟩
/-- A local block is written into. -/
theorem gr_local {b : Nat} {T : TypeId} {A S : Int} {L : List E} {K : Nat} (h : Gr.Gr w Gr.y0 G K A S L) (tb : isT w b T) (e1 : (T == 121) = false) (e2 : (T == 119) = false) (k : Only [b] w w') : Gr.Gr w' Gr.y0 G K A S L := by
  obtain ⟨v, a, _⟩ := id h
  have ne : b ≠ G := tb.ne (isT.row a) e1
  refine h.keep0 (row := some b) ⟨k.os, k.tape, k.output, k.size, fun i hi hx => k.block i hi (fun e => hx (by rw [List.mem_singleton.1 e]))⟩ (fun e => ne (Option.some.inj e)) fun v g _ hg _ t e => ?_
  injection e with e
  subst e
  obtain ⟨cs, fz, e3⟩ := t _ hg
  obtain ⟨c, hc⟩ := tb
  rw [e3] at hc
  injection hc with hc
  injection hc with _ ht
  subst ht
  simp at e2
theorem ar_local {b : Nat} {T : TypeId} (h : P.ar w f) (tb : isT w b T) (e1 : (T == 188) = false) (e2 : (T == 5) = false) (k : Only [b] w w') : P.ar w' f := by
  have n1 : b ≠ P.B := tb.ne (isT.row h.head) e1
  have n2 : b ≠ P.g := tb.ne (isT.row h.body) e2
  exact ⟨h.head.of_block (k.block _ h.head.lt (by simpa using fun e => n1 e.symm)), h.body.of_block (k.block _ h.body.lt (by simpa using fun e => n2 e.symm)), h.fit, h.len⟩

/-- The bytes are written: the ground stays, its row being of another type. -/
theorem gr_keep {A S : Int} {L : List E} {K : Nat} (g : Gr.Gr w Gr.y0 G K A S L) (ha : P.ar w f) (k : Only [P.g] w w') : Gr.Gr w' Gr.y0 G K A S L := gr_local g (isT.row ha.body) (by decide) (by decide) k
set_option maxHeartbeats 2000000 in
theorem create_any (w : World) (R : Pr P) (h : Fd w P G f F) (z : Int) (z1 : 1 ≤ z) (z2 : z ≤ 8192) :
    Calls Tryz.prog 77 #[P.blk, .pointer (some ⟨G, 0, none⟩), .int .i64 z] w fun e w' => e = .returned (.tuple #[.int .i64 (createV F z).v, .int .i64 (createV F z).x]) ∧ Fd w' P G (createW f F z) (createV F z).F ∧ Only [P.g, G] w w' := by
  have S0 := (Lx.start w [P.g, G] (fd_lt h)).new (blkL P) 174
  have h0 := h.keep (Below.refl _ _ |>.alloc (Nat.le_refl _) (.cells (blkL P).toArray 174))
  obtain ⟨b1, b2, b3, b4, b5, b6, b7, b8, b9⟩ := R.b
  obtain ⟨n1, n2⟩ := h.ne
  have hz : ¬ (z < 1 ∨ 8192 < z) := by omega
  obtain ⟨u1, u2, u3, u4, u5⟩ := upz_all hz
  have uV : Num.upV z = upz z := Num.upV_ok z (by omega) (by omega)
  have INV := Lib.hid (h.iv.create z)
  have ok := h.iv.ok
  have A0 := S0.get 0 rfl
  have c0 := A0.cell 0 _ rfl
  have c1 := A0.cell 1 _ rfl
  have c2 := A0.cell 2 _ rfl
  have c3 := A0.cell 3 _ rfl
  have c4 := A0.cell 4 _ rfl
  clear A0
  go_enter Tryz.func77, Tryz.ntmps77
  go_wp2_with fail
  refine (least_any _ R h0).mono ?_
  rintro e w1 ⟨hl, k1⟩
  have h1 := h0.keep k1
  rcases hl with ⟨x, hx, rfl⟩ | ⟨hx, rfl⟩
  · have S1 := (S0.call k1).new [.int .i64 x.s, .int .i64 x.c, .int .i64 x.p, .int .i64 x.e] 64
    have h2 := h1.keep (Below.refl _ _ |>.alloc (Nat.le_refl _) (.cells [.int .i64 x.s, .int .i64 x.c, .int .i64 x.p, .int .i64 x.e].toArray 64))
    have K2 : P.K < (w1.alloc (.cells [.int .i64 x.s, .int .i64 x.c, .int .i64 x.p, .int .i64 x.e].toArray 64)).heap.size := h2.kl
    have hk : F.R.findIdx fr < P.n := by
      have := (List.getElem?_eq_some_iff.1 hx).1
      rw [h.iv.len] at this
      exact this
    have hs0 := fr_at hx
    have hk1 := h.iv.fr_pos
    have hr := right_made (a := carveA (upz z) F.L) (z := upz z) (h.iv.right _ _ hx) hs0
    have EC := Lib.hid (show createV F z = if Gr.carveB (upz z) F.L = true then ⟨(F.R.findIdx fr : Nat), 0, false, ⟨F.R.set (F.R.findIdx fr) (made x (carveA (upz z) F.L) (upz z)), carveL (upz z) F.L⟩⟩ else ⟨0, 14, false, F⟩ by unfold createV; rw [if_neg hz, hx])
    have EW := Lib.hid (show createW f F z = if Gr.carveB (upz z) F.L = true then setF (setF (putX f (F.R.findIdx fr) (made x (carveA (upz z) F.L) (upz z))) (8 * F.R.findIdx fr + 3) 0) (8 * F.R.findIdx fr + 4) 0 else f by unfold createW; rw [hx])
    have WF := Lib.hid (wf_set (wf_set (wf_put h.wf (F.R.findIdx fr) (made x (carveA (upz z) F.L) (upz z))) (8 * F.R.findIdx fr + 3) 0 (by omega)) (8 * F.R.findIdx fr + 4) 0 (by omega))
    have hiv2 := h.iv
    clear hx hs0
    generalize F.R.findIdx fr = k at *
    cases hb : Gr.carveB (upz z) F.L with
    | false =>
      have HB := Lib.hid hb
      have HV := Lib.hid (show Gr.carveV (upz z) F.L = 0 by unfold Gr.carveV; rw [if_neg (by rw [hb]; decide)])
      have HF := Lib.hid (show Gr.carveF (upz z) F.L = F.L by unfold Gr.carveF; rw [if_neg (by rw [hb]; decide)])
      have E := Lib.hid (show createV F z = ⟨0, 14, false, F⟩ by rw [EC.out, if_neg (by rw [hb]; decide)])
      have W := Lib.hid (show createW f F z = f by rw [EW.out, if_neg (by rw [hb]; decide)])
      clear hb WF
      go_wp2_with (first
        | (go_at_call 126; refine (Num.up_any z _ (by omega) (by omega)).mono ?_; rintro e w3 ⟨rfl, rfl⟩; rw [uV])
        | fail)
      refine (Gr.carve_any _ Gr.y0 G P.K P.A P.j F.L (upz z) h2.gr K2 ok (by omega) (by omega)).mono ?_
      rintro e w4 ⟨rfl, g4, k4⟩
      rw [HB.out, HV.out]
      rw [HF.out] at g4
      have S4 := S1.grown k4 (by simp)
      go_wp2
      go_ret2
      refine ⟨by rw [E.out]; rfl, ?_, S4.only⟩
      rw [E.out, W.out]
      exact ⟨h2.go (Only.grown (X := [G]) k4 (by simp)) (by simpa using fun e => n1 e.symm) (by simpa using fun e => n2 e.symm), g4, h2.wf, h2.iv, Nat.lt_of_lt_of_le h2.kl k4.size⟩
    | true =>
      have HB := Lib.hid hb
      have HV := Lib.hid (show Gr.carveV (upz z) F.L = carveA (upz z) F.L by unfold Gr.carveV; rw [if_pos hb])
      have HF := Lib.hid (show Gr.carveF (upz z) F.L = carveL (upz z) F.L by unfold Gr.carveF; rw [if_pos hb])
      have E := Lib.hid (show createV F z = ⟨(k : Nat), 0, false, ⟨F.R.set k (made x (carveA (upz z) F.L) (upz z)), carveL (upz z) F.L⟩⟩ by rw [EC.out, if_pos hb])
      have W := Lib.hid (show createW f F z = setF (setF (putX f k (made x (carveA (upz z) F.L) (upz z))) (8 * k + 3) 0) (8 * k + 4) 0 by rw [EW.out, if_pos hb])
      have WF2 := Lib.hid WF
      have CA := INV.out.ext k (made x (carveA (upz z) F.L) (upz z)) (by rw [E.out]; exact set_get (by rw [h.iv.len]; exact hk)) hk1
      obtain ⟨ca0, ca1⟩ : 0 ≤ carveA (upz z) F.L ∧ carveA (upz z) F.L ≤ 65536 := by
        rcases CA with ⟨e, _⟩ | ⟨_, _, _, _, l1, l2⟩
        · exact absurd e (by simp [made])
        · dsimp only [made] at l1 l2
          unfold Pn.A at l1 l2
          omega
      clear hb WF CA
      go_wp2_with (first
        | (go_at_call 126; refine (Num.up_any z _ (by omega) (by omega)).mono ?_; rintro e w3 ⟨rfl, rfl⟩; rw [uV])
        | fail)
      refine (Gr.carve_any _ Gr.y0 G P.K P.A P.j F.L (upz z) h2.gr K2 ok (by omega) (by omega)).mono ?_
      rintro e w4 ⟨rfl, g4, k4⟩
      rw [HB.out, HV.out]
      rw [HF.out] at g4
      have h4 := h2.go (Only.grown (X := [G]) k4 (by simp)) (by simpa using fun e => n1 e.symm) (by simpa using fun e => n2 e.symm)
      have S4 := S1.grown k4 (by simp)
      have A4 := S4.get 0 rfl
      have d0 := A4.cell 0 _ rfl
      have d1 := A4.cell 1 _ rfl
      have d2 := A4.cell 2 _ rfl
      have d3 := A4.cell 3 _ rfl
      have fz := A4.fz 0
      have S5 := S4.put 0 0 rfl (.int .i64 1) (by simp)
      have T2 : isT (w1.alloc (.cells [.int .i64 x.s, .int .i64 x.c, .int .i64 x.p, .int .i64 x.e].toArray 64)) w1.heap.size 64 := typ_new _ _ _
      have T4 := typ_go T2 (Only.grown (X := [G]) k4 (by simp)) (by have := (isT.ne T2 (isT.row h2.gr.choose_spec.1) (by decide)); simpa using this)
      have q5 : Only [w1.heap.size] w4 (w4.setCell ⟨w1.heap.size, 0, none⟩ (.int .i64 1)) := Only.put _ _ _ _ (by simp)
      have h5 := ar_local h4 T4 (by decide) (by decide) q5
      have g5 := gr_local g4 T4 (by decide) (by decide) q5
      have C5 := S5.get 0 rfl
      have d0' := C5.cell 0 _ rfl
      have d1' := C5.cell 1 _ rfl
      have d2' := C5.cell 2 _ rfl
      have d3' := C5.cell 3 _ rfl
      have B5 := S5.get 1 rfl
      have b0' := B5.cell 0 _ rfl
      have b1' := B5.cell 1 _ rfl
      have b2' := B5.cell 2 _ rfl
      have b3' := B5.cell 3 _ rfl
      have b4' := B5.cell 4 _ rfl
      simp only [List.set_cons_zero] at S5
      clear C5 B5 c0 c1 c2 c3 c4 A4
      go_wp2_with fail
      clear d0 d1 d2 d3
      generalize w4.setCell ⟨w1.heap.size, 0, none⟩ (.int .i64 1) = W5 at *
      refine (putctl_ok _ R h5 k hk _ _ _ _ hr).mono ?_
      rintro e w6 ⟨rfl, h6, k6⟩
      have S6 := S5.go (only_g k6)
      have g6 := gr_keep g5 h5 k6
      have B6 := S6.get 1 rfl
      clear b0' b1' b2' b3' b4' d0' d1' d2' d3'
      have c0 := B6.cell 0 _ rfl
      have c1 := B6.cell 1 _ rfl
      have c2 := B6.cell 2 _ rfl
      have c3 := B6.cell 3 _ rfl
      have c4 := B6.cell 4 _ rfl
      clear B6
      go_wp2_with fail
      refine (putext_ok _ R h6 k hk _ _ ca0 ca1 (by omega) (by omega)).mono ?_
      rintro e w7 ⟨rfl, h7, k7⟩
      have S7 := S6.go (only_g k7)
      have g7 := gr_keep g6 h6 k7
      have B7 := S7.get 1 rfl
      clear c0 c1 c2 c3 c4
      have c0 := B7.cell 0 _ rfl
      have c1 := B7.cell 1 _ rfl
      have c2 := B7.cell 2 _ rfl
      have c3 := B7.cell 3 _ rfl
      have c4 := B7.cell 4 _ rfl
      clear B7
      go_wp2_with fail
      refine (put_ok _ R h7 k 3 hk (by omega) _ rfl 0 (by omega) (by omega)).mono ?_
      rintro e w8 ⟨rfl, h8, k8⟩
      have S8 := S7.go (only_g k8)
      have g8 := gr_keep g7 h7 k8
      have B8 := S8.get 1 rfl
      clear c0 c1 c2 c3 c4
      have c0 := B8.cell 0 _ rfl
      have c1 := B8.cell 1 _ rfl
      have c2 := B8.cell 2 _ rfl
      have c3 := B8.cell 3 _ rfl
      have c4 := B8.cell 4 _ rfl
      clear B8
      go_wp2_with fail
      refine (put_ok _ R h8 k 4 hk (by omega) _ rfl 0 (by omega) (by omega)).mono ?_
      rintro e w9 ⟨rfl, h9, k9⟩
      have S9 := S8.go (only_g k9)
      have g9 := gr_keep g8 h8 k9
      go_wp2
      go_ret2
      refine ⟨by rw [E.out]; rfl, ?_, S9.only⟩
      have I := INV.out
      rw [E.out] at I ⊢
      rw [W.out]
      exact ⟨h9, g9, WF2.out, I, Nat.lt_of_lt_of_le h.kl S9.only.size⟩
  · have E := Lib.hid (show createV F z = ⟨0, 13, false, F⟩ by unfold createV; rw [if_neg hz, hx])
    have W := Lib.hid (show createW f F z = f by unfold createW; rw [hx])
    have S1 := (S0.call k1).alloc (.cells [.int .i64 0, .int .i64 0, .int .i64 0, .int .i64 0].toArray 64)
    have h2 := h1.keep (Below.refl _ _ |>.alloc (Nat.le_refl _) (.cells [.int .i64 0, .int .i64 0, .int .i64 0, .int .i64 0].toArray 64))
    clear hx
    go_wp2
    go_ret2
    refine ⟨by rw [E.out]; rfl, ?_, S1.only⟩
    rw [E.out, W.out]
    exact h2

set_option maxHeartbeats 2000000 in
theorem destroy_any (w : World) (R : Pr P) (h : Fd w P G f F) (s : Nat) (s1 : 1 ≤ s) :
    Calls Tryz.prog 79 #[P.blk, .pointer (some ⟨G, 0, none⟩), .int .i64 (s : Int)] w fun e w' => e = .returned (.int .i64 (destroyV F s).x) ∧ Fd w' P G (destroyW f F s) (destroyV F s).F ∧ Only [P.g, G] w w' := by
  have S0 := (Lx.start w [P.g, G] (fd_lt h)).new (blkL P) 174
  have h0 := h.keep (Below.refl _ _ |>.alloc (Nat.le_refl _) (.cells (blkL P).toArray 174))
  obtain ⟨b1, b2, b3, b4, b5, b6, b7, b8, b9⟩ := R.b
  obtain ⟨n1, n2⟩ := h.ne
  have INV := Lib.hid (h.iv.destroy (s : Int))
  have ok := h.iv.ok
  have A0 := S0.get 0 rfl
  have c0 := A0.cell 0 _ rfl
  have c1 := A0.cell 1 _ rfl
  have c2 := A0.cell 2 _ rfl
  have c3 := A0.cell 3 _ rfl
  have c4 := A0.cell 4 _ rfl
  clear A0
  have LK : Sco.look F.R (s : Int) = F.R[s]? := by unfold Sco.look; rw [if_pos (by omega), Int.toNat_natCast]
  by_cases hs : s < P.n
  · obtain ⟨x, hx⟩ : ∃ x, F.R[s]? = some x := ⟨_, List.getElem?_eq_getElem (by rw [h.iv.len]; exact hs)⟩
    have HS := Lib.hid (h.see hx)
    have EC := Lib.hid (show destroyV F s = if x.s = 0 then ⟨0, 11, false, F⟩ else if x.s = 1 then ⟨0, 0, false, ⟨F.R.set s (gone x), giveL x.a (x.a + x.z) F.L⟩⟩ else ⟨0, 12, false, F⟩ by unfold destroyV; rw [LK, hx]; rfl)
    have EW := Lib.hid (show destroyW f F s = if x.s = 1 then putX f s (gone x) else f by unfold destroyW; rw [LK, hx]; rfl)
    have hri := h.iv.right _ _ hx
    have hrj := rightI hri
    clear LK
    go_enter Tryz.func79, Tryz.ntmps79
    go_wp2_with fail
    refine (ctl_ok _ R h0.ar s hs).mono ?_
    rintro e w1 ⟨rfl, k1⟩
    rw [HS.out]
    have h1 := h0.keep k1
    have S1 := (S0.call k1).new [.int .i64 x.s, .int .i64 x.c, .int .i64 x.p, .int .i64 x.e] 64
    have h2 := h1.keep (Below.refl _ _ |>.alloc (Nat.le_refl _) (.cells [.int .i64 x.s, .int .i64 x.c, .int .i64 x.p, .int .i64 x.e].toArray 64))
    have T2 : isT (w1.alloc (.cells [.int .i64 x.s, .int .i64 x.c, .int .i64 x.p, .int .i64 x.e].toArray 64)) w1.heap.size 64 := typ_new _ _ _
    have C1 := S1.get 0 rfl
    have d0 := C1.cell 0 _ rfl
    have d1 := C1.cell 1 _ rfl
    have d2 := C1.cell 2 _ rfl
    have d3 := C1.cell 3 _ rfl
    have B1 := S1.get 1 rfl
    have e0 := B1.cell 0 _ rfl
    have e1 := B1.cell 1 _ rfl
    have e2 := B1.cell 2 _ rfl
    have e3 := B1.cell 3 _ rfl
    have e4 := B1.cell 4 _ rfl
    clear C1 B1 c0 c1 c2 c3 c4
    by_cases g0 : x.s = 0
    · have E := Lib.hid (show destroyV F s = ⟨0, 11, false, F⟩ by rw [EC.out, if_pos g0])
      have W := Lib.hid (show destroyW f F s = f by rw [EW.out, if_neg (by omega)])
      have q0 : (x.s == 0) = true := by rw [g0]; rfl
      clear g0 hrj
      go_wp2
      go_ret
      refine ⟨by rw [E.out]; rfl, ?_, S1.only⟩
      rw [E.out, W.out]
      exact h2
    · have q0 : (x.s == 0) = false := by simpa using g0
      by_cases g1 : x.s = 1
      · have E := Lib.hid (show destroyV F s = ⟨0, 0, false, ⟨F.R.set s (gone x), giveL x.a (x.a + x.z) F.L⟩⟩ by rw [EC.out, if_neg g0, if_pos g1])
        have W := Lib.hid (show destroyW f F s = putX f s (gone x) by rw [EW.out, if_pos g1])
        have WF := Lib.hid (wf_put h.wf s (gone x))
        have q1 : (x.s != 1) = false := by rw [g1]; rfl
        obtain ⟨wa, wz⟩ := (h.wf s x hx).2
        have HA := Lib.hid wa
        have HZ := Lib.hid wz
        obtain ⟨p1, p2, p3, p4, p5, p6⟩ := h.iv.back hx s1 g0
        have o1 := ok.a0
        have o2 := ok.a1
        have o3 := ok.s0
        have o4 := ok.s1
        have pa : P.A + P.j ≤ 65536 := by unfold Pn.A; omega
        have GB : Gr.giveB P.A P.j F.L x.a x.z = true := by
          unfold Gr.giveB Gr.sizeB Gr.hasB
          rw [decide_eq_true (by omega), decide_eq_true (by omega), decide_eq_true (by omega), p6]
          rfl
        have GE := Lib.hid (show Gr.giveE P.A P.j F.L x.a x.z = 0 by unfold Gr.giveE; rw [if_pos GB])
        have GF := Lib.hid (show Gr.giveF P.A P.j F.L x.a x.z = giveL x.a (x.a + x.z) F.L by unfold Gr.giveF; rw [if_pos GB])
        have hrg : Ctl.rightB 0 x.c x.p ((x.e + 1) % 16777216) = true := right_gone hri g1
        obtain ⟨y4, y5⟩ : 0 ≤ x.e ∧ x.e ≤ 16777215 := by omega
        have hm : (x.e + 1).tmod 16777216 = (x.e + 1) % 16777216 := Int.tmod_eq_emod_of_nonneg (by omega)
        have wa' : f (8 * s + 1) ≤ 65536 := by omega
        have wz' : f (8 * s + 2) ≤ 65536 := by omega
        clear g0 g1 hrj GB hri hx wa wz p6
        go_wp2_with fail
        refine (ext_ok _ R h2.ar s hs wa' wz').mono ?_
        rintro e w3 ⟨rfl, k3⟩
        rw [HA.out, HZ.out]
        have h3 := h2.keep k3
        have T3 := typ_go (X := []) T2 (Only.below k3) (by simp)
        have S3 := (S1.call k3).new [.int .i64 x.a, .int .i64 x.z] 119
        have h4 := h3.keep (Below.refl _ _ |>.alloc (Nat.le_refl _) (.cells [.int .i64 x.a, .int .i64 x.z].toArray 119))
        have T4 := typ_go (X := []) T3 (Only.below (Below.refl _ _ |>.alloc (Nat.le_refl _) (.cells [.int .i64 x.a, .int .i64 x.z].toArray 119))) (by simp)
        have X3 := S3.get 0 rfl
        have x0 := X3.cell 0 _ rfl
        have x1 := X3.cell 1 _ rfl
        have K4 := h4.kl
        clear X3 d0 d1 d2 d3 e0 e1 e2 e3 e4
        go_wp2_with fail
        refine (Gr.give_any _ Gr.y0 G P.K P.A P.j F.L x.a x.z h4.gr K4 ok (by omega) (by omega) (by omega) (by omega)).mono ?_
        rintro e w5 ⟨rfl, g5, k5⟩
        rw [GE.out]
        rw [GF.out] at g5
        have h5 := h4.go (Only.grown (X := [G]) k5 (by simp)) (by simpa using fun e => n1 e.symm) (by simpa using fun e => n2 e.symm)
        have S5 := S3.grown k5 (by simp)
        have T5 := typ_go T4 (Only.grown (X := [G]) k5 (by simp)) (by have := (isT.ne T4 (isT.row h4.gr.choose_spec.1) (by decide)); simpa using this)
        have C5 := S5.get 1 rfl
        have d0 := C5.cell 0 _ rfl
        have d1 := C5.cell 1 _ rfl
        have d2 := C5.cell 2 _ rfl
        have d3 := C5.cell 3 _ rfl
        have f0 := C5.fz 0
        have f3 := C5.fz 3
        have S6 := (S5.put 1 0 rfl (.int .i64 0) (by simp)).put 1 3 rfl (.int .i64 ((x.e + 1) % 16777216)) (by simp)
        simp only [List.set_cons_succ, List.set_cons_zero] at S6
        have q6 : Only [w1.heap.size] w5 ((w5.setCell ⟨w1.heap.size, 0, none⟩ (.int .i64 0)).setCell ⟨w1.heap.size, 3, none⟩ (.int .i64 ((x.e + 1) % 16777216))) := (Only.put _ _ _ _ (by simp)).trans (Only.put _ _ _ _ (by simp))
        have h6 := ar_local h5 T5 (by decide) (by decide) q6
        have g6 := gr_local g5 T5 (by decide) (by decide) q6
        clear C5 x0 x1
        have C6 := S6.get 1 rfl
        have d0' := C6.cell 0 _ rfl
        have d1' := C6.cell 1 _ rfl
        have d2' := C6.cell 2 _ rfl
        have d3' := C6.cell 3 _ rfl
        have B6 := S6.get 2 rfl
        have b0' := B6.cell 0 _ rfl
        have b1' := B6.cell 1 _ rfl
        have b2' := B6.cell 2 _ rfl
        have b3' := B6.cell 3 _ rfl
        have b4' := B6.cell 4 _ rfl
        clear C6 B6
        go_wp2_with fail
        clear d0 d1 d2 d3
        generalize (w5.setCell ⟨w1.heap.size, 0, none⟩ (.int .i64 0)).setCell ⟨w1.heap.size, 3, none⟩ (.int .i64 ((x.e + 1) % 16777216)) = W6 at *
        refine (putctl_ok _ R h6 s hs _ _ _ _ hrg).mono ?_
        rintro e w7 ⟨rfl, h7, k7⟩
        have S7 := S6.go (only_g k7)
        have g7 := gr_keep g6 h6 k7
        clear b0' b1' b2' b3' b4' d0' d1' d2' d3'
        have B7 := S7.get 2 rfl
        have c0 := B7.cell 0 _ rfl
        have c1 := B7.cell 1 _ rfl
        have c2 := B7.cell 2 _ rfl
        have c3 := B7.cell 3 _ rfl
        have c4 := B7.cell 4 _ rfl
        clear B7
        go_wp2_with fail
        refine (putext_ok _ R h7 s hs 0 0 (by omega) (by omega) (by omega) (by omega)).mono ?_
        rintro e w8 ⟨rfl, h8, k8⟩
        have S8 := S7.go (only_g k8)
        have g8 := gr_keep g7 h7 k8
        go_wp2
        go_ret
        refine ⟨by rw [E.out]; rfl, ?_, S8.only⟩
        have I := INV.out
        rw [E.out] at I ⊢
        rw [W.out]
        exact ⟨h8, g8, WF.out, I, Nat.lt_of_lt_of_le h.kl S8.only.size⟩
      · have E := Lib.hid (show destroyV F s = ⟨0, 12, false, F⟩ by rw [EC.out, if_neg g0, if_neg g1])
        have W := Lib.hid (show destroyW f F s = f by rw [EW.out, if_neg g1])
        have q1 : (x.s != 1) = true := by simpa using g1
        clear g0 g1 hrj
        go_wp2
        go_ret
        refine ⟨by rw [E.out]; rfl, ?_, S1.only⟩
        rw [E.out, W.out]
        exact h2
  · have LN : F.R[s]? = none := List.getElem?_eq_none (by rw [h.iv.len]; omega)
    have E := Lib.hid (show destroyV F s = ⟨0, 11, false, F⟩ by unfold destroyV; rw [LK, LN])
    have W := Lib.hid (show destroyW f F s = f by unfold destroyW; rw [LK, LN])
    clear LK LN
    go_enter Tryz.func79, Tryz.ntmps79
    go_wp2_with fail
    refine (ctl_no _ R h0.ar s (.inr (by omega))).mono ?_
    rintro e w1 ⟨rfl, k1⟩
    have h1 := h0.keep k1
    have S1 := (S0.call k1).alloc (.cells [.int .i64 0, .int .i64 0, .int .i64 0, .int .i64 0].toArray 64)
    have h2 := h1.keep (Below.refl _ _ |>.alloc (Nat.le_refl _) (.cells [.int .i64 0, .int .i64 0, .int .i64 0, .int .i64 0].toArray 64))
    go_wp2
    go_ret
    refine ⟨by rw [E.out]; rfl, ?_, S1.only⟩
    rw [E.out, W.out]
    exact h2
end Go.Proofs.YteakglkagmghpaaGreat.Fou
