/-
  Contracts of the document's model: alloc.
-/
import Derived.Test.YtbpmnjmegffllaaGreatDw
import Derived.Deep.DeepCutAuto
namespace Go.Proofs.YtbpmnjmegffllaaGreat.Mod
open Go.ChangeShapes Go.WideShapes Go.ChangeAt Go.RowKit
open Slic Sco
set_option linter.unusedVariables false
set_option linter.unusedSimpArgs false
set_option maxRecDepth 8000
section
variable {w w' : World} {X : Dx} {p : Dp} {m m' : Mo} {Z : Fx} {k : Nat}
theorem step_own3 {α : Type} {K : Kd α} {ops : Array Oper} {o : Oper} {a : Act} {w : World} {J : Act → World → Prop} {Q : Exit → Act → World → Prop} {F : Prop}
    (hg : o.guard = none) (s x : Operand) (hop : o.op = Op.call { callee := Callee.builtin Builtin.append, args := #[s, x], argTypes := #[K.X, K.X] }) (hty : o.type = K.X)
    {v y : Value} {L M : List α} {base : Nat} (hs : a.eval s = v) (hx : a.eval x = y) (h : Slic.Own K w base v L) (hy : Sr K w y M) (hl : L.length + M.length ≤ 1000000) (hb : base ≤ w.heap.size)
    (hK : ∀ v' w', Slic.Own K w' base v' (L ++ M) → w.grownBy w' v.ownBlock → (v'.ownBlock = v.ownBlock ∨ v'.ownBlock = some w.heap.size) → J (a.put o.dst v') w') :
    if Region.wanted o (yielded ops a.tmps) = true then Oper.wp Tryz.prog o a w J Q else F := by
  have hw : Region.wanted o (yielded ops a.tmps) = true := by simp [Region.wanted, hg]
  rw [if_pos hw]
  obtain ⟨v', w', hrun, r1, r2, r3⟩ := app_own w h hy hl hb
  unfold Oper.wp
  simp [execOp, hop, resolve, invoke, builtin, hs, hx, hty, hrun, Result.andThen]
  exact hK v' w' r1 r2 r3
theorem Rm.push (h : Rm w X p m) {w1 : World} (g : w.grownBy w1 (Mod.ob p.o)) {y ts : Tri} {o : Ob} (hy : Slic.Own kO w1 0 (sl3 y) ((m.O ++ [o]).zip (p.s ++ [ts]))) (hs : Slic.Own Fina.kU w 0 (sl3 ts) o.sl) (ap : ∀ t ∈ p.s, Mod.ob t = none ∨ Mod.ob t ≠ Mod.ob ts) : Rm (w1.setCell ⟨X.D, 6, none⟩ (sl3 y)) X ⟨y, p.c, p.s ++ [ts], p.Y⟩ ⟨m.F, m.O ++ [o], m.A, m.T⟩ := by
  have q1 : Only (Mod.ob p.o).toList w w1 := ⟨g.os, g.tape, g.output, g.size, fun i hi hn => g.block i hi (by
    intro e
    rw [← e] at hn
    simp at hn)⟩
  have tb : ∀ b ∈ (Mod.ob p.o).toList, isT w b 107 := fun b hb => by
    have e : Mod.ob p.o = some b := by simpa using hb
    exact own_isT h.ob e
  have q : Only ((Mod.ob p.o).toList ++ [X.D]) w (w1.setCell ⟨X.D, 6, none⟩ (sl3 y)) := only_new (L := (Mod.ob p.o).toList ++ [X.D]) (M := [X.D]) ⟨q1.os, q1.tape, q1.output, q1.size, fun i hi hn => q1.block i hi fun hh => hn (List.mem_append.2 (.inl hh))⟩ (Only.put _ _ _ _ (by simp)) (fun x hx => .inl (List.mem_append.2 (.inr hx)))
  have tD := h.tD
  have nt : ∀ T, (107 == T) = false → (94 == T) = false → ∀ x ∈ (Mod.ob p.o).toList ++ [X.D], noT w x T := fun T e1 e2 x hx => by
    rcases List.mem_append.1 hx with hx | hx
    · exact (tb x hx).no e1
    · rw [List.mem_singleton.1 hx]
      exact tD.no e2
  have nb : ∀ {b : Nat} {T : TypeId}, isT w b T → (107 == T) = false → (94 == T) = false → b ∉ (Mod.ob p.o).toList ++ [X.D] := fun hb e1 e2 hx => (nt _ e1 e2 _ hx).ne hb rfl
  have nD : X.D ∉ (Mod.ob p.o).toList := fun hx => ((tb _ hx).no (by decide : (107 == 94) = false)).ne tD rfl
  refine ⟨?_, ?_, h.rl, ?_, by simp [h.ln], fun i o' t' h1 h2 => ?_, ?_, fun t ht => own_types (h.en t ht) q (nt _ (by decide) (by decide)), h.fi.types q (nt _ (by decide) (by decide)) (nt _ (by decide) (by decide))⟩
  · have hd1 := (h.hd.of_block (q1.block _ h.hd.lt nD)).set 6 (sl3 y)
    refine hd1.congr fun i hi => ?_
    by_cases e : i = 6
    · subst e
      rfl
    · rw [if_neg e]
      unfold dcell
      rw [if_neg e, if_neg e]
      rfl
  · exact h.rs.only q (nb h.rs.tD (by decide) (by decide)) (nb h.rs.tc (by decide) (by decide)) (nb h.rs.tx (by decide) (by decide)) (nb h.rs.tC (by decide) (by decide)) (nb h.rs.tw (by decide) (by decide))
  · refine own_off hy (Only.put (X := [X.D]) _ _ _ _ (by simp)) fun x hx e => ?_
    rw [List.mem_singleton.1 hx] at e
    have t1 := own_isT hy e
    have t2 : isT w1 X.D 94 := by
      obtain ⟨c, hc⟩ := tD
      exact ⟨c, (q1.block _ h.hd.lt nD).trans hc⟩
    exact (t1.ne t2 (by decide)) rfl
  · by_cases e : i < m.O.length
    · rw [List.getElem?_append_left e] at h1
      rw [List.getElem?_append_left (by rw [h.ln]; exact e)] at h2
      exact own_types (h.sl i o' t' h1 h2) q (nt _ (by decide) (by decide))
    · rw [List.getElem?_append_right (by omega)] at h1
      rw [List.getElem?_append_right (by rw [h.ln]; omega)] at h2
      have e0 : i - m.O.length = 0 := by
        have := (List.getElem?_eq_some_iff.1 h1).1
        simp at this
        omega
      rw [e0] at h1
      rw [h.ln, e0] at h2
      injection h1 with h1
      injection h2 with h2
      subst h1 h2
      exact own_types hs q (nt _ (by decide) (by decide))
  · rw [List.pairwise_append]
    refine ⟨h.ap, List.pairwise_singleton _ _, fun x hx z hz => ?_⟩
    rw [List.mem_singleton.1 hz]
    exact ap x hx
theorem push_only {w1 : World} {v : Value} (g : w.grownBy w1 (Mod.ob p.o)) : Only ((Mod.ob p.o).toList ++ [X.D]) w (w1.setCell ⟨X.D, 6, none⟩ v) :=
  only_new (L := (Mod.ob p.o).toList ++ [X.D]) (M := [X.D]) ⟨g.os, g.tape, g.output, g.size, fun i hi hn => g.block i hi (fun e => hn (List.mem_append.2 (.inl (by rw [← e]; simp))))⟩ (Only.put _ _ _ _ (by simp)) (fun x hx => .inl (List.mem_append.2 (.inr hx)))
def PushX (W2 : World) (X : Dx) (p : Dp) (m : Mo) (o : Ob) (ts : Tri) (wx : World) : Prop := ∃ yt : Tri, Rm wx X ⟨yt, p.c, p.s ++ [ts], p.Y⟩ ⟨m.F, m.O ++ [o], m.A, m.T⟩ ∧ Only ((Mod.ob p.o).toList ++ [X.D]) W2 wx ∧ ∀ b, Mod.ob yt = some b → Mod.ob p.o = some b ∨ W2.heap.size ≤ b
theorem mk_row (n : Nat) (hn : n ≤ 1000) (W : World) : (Instr.makeSlice 63 (.int .i64 (n : Int)) (.int .i64 (n : Int))).run Tryz.prog W = .ok (.slice (some ⟨W.heap.size, 0, none⟩) n n) (W.alloc (.cells (madeCells #[.int .u64 0] n) 36)) := by
  obtain ⟨i0, hi, hz0, hz1, hz2⟩ := info_parts Fina.kU.info
  exact run_make_row 63 36 i0 (.int .u64 0) Fina.kU.under hi hz0 hz1 rfl .i64 .i64 n (by rw [hz2]; show 8 * n ≤ _; omega) (by omega) W
theorem one_ob (W : World) (s a t : Int) (ts : Tri) (n : Nat) (hn : n = W.heap.size) (o : Ob) (hs : o.s = s) (ha : o.a = a) (ht : o.tag = t) (hd : o.d = false) : Sr kO (W.alloc (.cells #[.int .i64 s, .int .i64 a, .int .i64 t, sl3 ts, .bool false] 107)) (.slice (some ⟨n, 0, none⟩) 1 1) [(o, ts)] := by
  subst hn hs ha ht
  have h : Slic.Own kO (W.alloc (.cells #[.int .i64 o.s, .int .i64 o.a, .int .i64 o.tag, sl3 ts, .bool false] 107)) 0 (.slice (some ⟨W.heap.size, 0, none⟩) 1 1) [(o, ts)] := Own.lit W 0 (Nat.zero_le _) [(o, ts)] #[.int .i64 o.s, .int .i64 o.a, .int .i64 o.tag, sl3 ts, .bool false] (by simp [Kd.flat, kO, hd]) (by simp [maxLen]) 1 rfl
  exact h.sr
set_option maxHeartbeats 8000000 in
theorem refalloc_any (h : Rm w X p m) (v : Iv Z k m) (hk : k ≤ 10000) (hn : Z.n = X.n) {t : Nat} (ht : t < Z.nt) {op hh vv a b cc : Int} {r : Nat} (hr4 : r < 4) :
    Calls Tryz.prog 72 #[ptrX X, .int .i64 (t : Int), .agg #[.int .u8 op, .int .u8 (r : Int), .int .u8 hh, .int .u8 vv, .int .i64 a, .int .i64 b, .int .i64 cc]] w fun z w' =>
      z = .returned (anD ((allocV m t ⟨op, r, hh, vv, a, b, cc⟩).1.c) ((allocV m t ⟨op, r, hh, vv, a, b, cc⟩).1.n)) ∧ DidD X p w (allocV m t ⟨op, r, hh, vv, a, b, cc⟩).2 w' := by
  have n8 := v.n8
  have nt4 := v.nt.2
  have t4 : t < 4 := by omega
  have ti : (t : Int) < 4 := by omega
  have t0 : (0 : Int) ≤ (t : Int) := by omega
  have hA := v.nA
  obtain ⟨W, hW⟩ : ∃ W : World, W = (w.alloc (.cells #[.int .u8 op, .int .u8 (r : Int), .int .u8 hh, .int .u8 vv, .int .i64 a, .int .i64 b, .int .i64 cc] 35)).alloc (.cells #[.int .i64 0, .int .i64 0, .slice none 0 0] anT) := ⟨_, rfl⟩
  have Q0 := heap_alloc_new w (.cells #[.int .u8 op, .int .u8 (r : Int), .int .u8 hh, .int .u8 vv, .int .i64 a, .int .i64 b, .int .i64 cc] 35)
  have B0 := below_one w (.cells #[.int .u8 op, .int .u8 (r : Int), .int .u8 hh, .int .u8 vv, .int .i64 a, .int .i64 b, .int .i64 cc] 35)
  have h1 := (h.alloc (.cells #[.int .u8 op, .int .u8 (r : Int), .int .u8 hh, .int .u8 vv, .int .i64 a, .int .i64 b, .int .i64 cc] 35)).alloc (.cells #[.int .i64 0, .int .i64 0, .slice none 0 0] anT)
  have q : Below w.heap.size w W := by rw [hW]; exact B0.trans ((below_one _ _).mono B0.size)
  rw [← hW] at h1
  go_enter Tryz.func72, Tryz.ntmps72
  have Q1 := (heap_alloc_new (w.alloc (.cells #[.int .u8 op, .int .u8 (r : Int), .int .u8 hh, .int .u8 vv, .int .i64 a, .int .i64 b, .int .i64 cc] 35)) (.cells #[.int .i64 0, .int .i64 0, .slice none 0 0] anT))
  have Q2 := ((below_one (w.alloc (.cells #[.int .u8 op, .int .u8 (r : Int), .int .u8 hh, .int .u8 vv, .int .i64 a, .int .i64 b, .int .i64 cc] 35)) (.cells #[.int .i64 0, .int .i64 0, .slice none 0 0] anT)).block w.heap.size (by rw [World.size_alloc]; omega)).trans Q0
  rw [World.size_alloc] at Q1
  rw [← hW] at Q1 Q2
  have lw : w.heap.size + 1 < W.heap.size := by rw [hW, World.size_alloc, World.size_alloc]; omega
  have c1 := cell_of Q2 1 _ rfl
  have c4 := cell_of Q2 4 _ rfl
  have c5 := cell_of Q2 5 _ rfl
  have c6 := cell_of Q2 6 _ rfl
  have lDw := h.hd.lt
  have l0 : w.heap.size < W.heap.size := by omega
  clear Q0 B0
  go_wp2_with fail
  rw [← hW]
  clear hW
  by_cases he : Heads.mayB a b = true
  rotate_left
  · have WE := Lib.hid (show Heads.wordsV a b = ⟨0, 1⟩ from if_neg he)
    have KK := Lib.hid (show allocV m t ⟨op, r, hh, vv, a, b, cc⟩ = (no 1, m) by
      unfold allocV
      rw [if_pos (by dsimp only; rw [WE.out]; exact .inl (by decide))])
    clear he
    as_aux_lemma =>
      refine (Heads.refwords_any a b _).mono ?_
      rintro e wq ⟨rfl, rfl⟩
      rw [WE.out]
      go_wp2_with fail
      refine (code_any _ _).mono ?_
      rintro z w7 ⟨rfl, q7⟩
      have h7 := h1.keep q7
      have Q6 := (q7.block (w.heap.size + 1) lw).trans Q1
      have a0 := cell_of Q6 0 _ rfl
      have a1 := cell_of Q6 1 _ rfl
      have a2 := cell_of Q6 2 _ rfl
      have fz : ∀ o, w7.frozen? ⟨w.heap.size + 1, o, none⟩ = false := fun o => by simp [World.frozen?, Q6]
      have h8 := h7.ans ⟨_, Q6⟩ (.int .i64 (1)) (.int .i64 0) (.slice none 0 0)
      have B8 := (q).trans (q7.mono (q).size)
      go_wp2
      refine bodyPost_ret (v := anD (1) 0) (by simp [results, Tryz.results72, go_sem, a0, a1, a2]) rfl ?_
      rw [KK.out]
      exact ⟨rfl, DidD.calm h8 (((B8.setCell (p := ⟨w.heap.size + 1, 0, none⟩) (by show w.heap.size ≤ w.heap.size + 1; omega) _).setCell (p := ⟨w.heap.size + 1, 1, none⟩) (by show w.heap.size ≤ w.heap.size + 1; omega) _).setCell (p := ⟨w.heap.size + 1, 2, none⟩) (by show w.heap.size ≤ w.heap.size + 1; omega) _)⟩
  have WE := Lib.hid (show Heads.wordsV a b = ⟨2 + a + (b + 7) / 8, 0⟩ from if_pos he)
  obtain ⟨a0, a6, b1, b2⟩ := of_decide_eq_true he
  obtain ⟨wn, hwn⟩ : ∃ wn, 2 + a + (b + 7) / 8 = wn := ⟨_, rfl⟩
  have wn0 : 2 ≤ wn ∧ wn ≤ 100 := by omega
  rw [hwn] at WE
  clear hwn he
  by_cases hc : 0 ≤ cc ∧ cc ≤ 7
  rotate_left
  · have KK := Lib.hid (show allocV m t ⟨op, r, hh, vv, a, b, cc⟩ = (no 1, m) by
      unfold allocV
      rw [if_pos (.inr hc)])
    by_cases hc0 : cc < 0
    · have z1 : decide (cc < 0) = true := decide_eq_true hc0
      clear hc
      as_aux_lemma =>
        refine (Heads.refwords_any a b _).mono ?_
        rintro e wq ⟨rfl, rfl⟩
        rw [WE.out]
        go_wp2_with fail
        refine (code_any _ _).mono ?_
        rintro z w7 ⟨rfl, q7⟩
        have h7 := h1.keep q7
        have Q6 := (q7.block (w.heap.size + 1) lw).trans Q1
        have a0 := cell_of Q6 0 _ rfl
        have a1 := cell_of Q6 1 _ rfl
        have a2 := cell_of Q6 2 _ rfl
        have fz : ∀ o, w7.frozen? ⟨w.heap.size + 1, o, none⟩ = false := fun o => by simp [World.frozen?, Q6]
        have h8 := h7.ans ⟨_, Q6⟩ (.int .i64 (1)) (.int .i64 0) (.slice none 0 0)
        have B8 := (q).trans (q7.mono (q).size)
        go_wp2
        refine bodyPost_ret (v := anD (1) 0) (by simp [results, Tryz.results72, go_sem, a0, a1, a2]) rfl ?_
        rw [KK.out]
        exact ⟨rfl, DidD.calm h8 (((B8.setCell (p := ⟨w.heap.size + 1, 0, none⟩) (by show w.heap.size ≤ w.heap.size + 1; omega) _).setCell (p := ⟨w.heap.size + 1, 1, none⟩) (by show w.heap.size ≤ w.heap.size + 1; omega) _).setCell (p := ⟨w.heap.size + 1, 2, none⟩) (by show w.heap.size ≤ w.heap.size + 1; omega) _)⟩
    · have z1 : decide (cc < 0) = false := decide_eq_false hc0
      have z3 : 8 ≤ cc := by omega
      have z2 : decide (8 ≤ cc) = true := decide_eq_true z3
      clear hc
      as_aux_lemma =>
        refine (Heads.refwords_any a b _).mono ?_
        rintro e wq ⟨rfl, rfl⟩
        rw [WE.out]
        go_wp2_with fail
        refine (code_any _ _).mono ?_
        rintro z w7 ⟨rfl, q7⟩
        have h7 := h1.keep q7
        have Q6 := (q7.block (w.heap.size + 1) lw).trans Q1
        have a0 := cell_of Q6 0 _ rfl
        have a1 := cell_of Q6 1 _ rfl
        have a2 := cell_of Q6 2 _ rfl
        have fz : ∀ o, w7.frozen? ⟨w.heap.size + 1, o, none⟩ = false := fun o => by simp [World.frozen?, Q6]
        have h8 := h7.ans ⟨_, Q6⟩ (.int .i64 (1)) (.int .i64 0) (.slice none 0 0)
        have B8 := (q).trans (q7.mono (q).size)
        go_wp2
        refine bodyPost_ret (v := anD (1) 0) (by simp [results, Tryz.results72, go_sem, a0, a1, a2]) rfl ?_
        rw [KK.out]
        exact ⟨rfl, DidD.calm h8 (((B8.setCell (p := ⟨w.heap.size + 1, 0, none⟩) (by show w.heap.size ≤ w.heap.size + 1; omega) _).setCell (p := ⟨w.heap.size + 1, 1, none⟩) (by show w.heap.size ≤ w.heap.size + 1; omega) _).setCell (p := ⟨w.heap.size + 1, 2, none⟩) (by show w.heap.size ≤ w.heap.size + 1; omega) _)⟩
  obtain ⟨x, ar, s0, sn, hx, ha, hst⟩ := v.area ht
  obtain ⟨m1, m2, m3, m4, m5, m6, m7, m8⟩ := v.live hx hst
  obtain ⟨g1, u1, u2, u3, u4⟩ := v.are _ x ar hx ha
  have ea : m.ar (Chain.areaV (m.ents t)) = ar := ar_of ha
  obtain ⟨si, hsd⟩ : ∃ s, Chain.areaV (m.ents t) = s := ⟨_, rfl⟩
  have SE := Lib.hid hsd
  rw [hsd] at s0 sn hx ha ea m8
  obtain ⟨s, rfl⟩ : ∃ s : Nat, si = (s : Int) := ⟨si.toNat, by omega⟩
  rw [Int.toNat_natCast] at hx ha m8
  have y1 : decide (cc < 0) = false := decide_eq_false (by omega)
  have y2 : decide (8 ≤ cc) = false := decide_eq_false (by omega)
  have cE := h1.entC t4
  have oE := (ent_own.2 (h1.en t t4)).sr
  have s8 : s < 8 := by omega
  have cu := h1.byte s8
  rw [ea] at cu
  obtain ⟨⟨xa, xz⟩, _⟩ := h1.rs.atX hx
  have c5_ := h1.c5
  have cX := h1.rs.c1
  have si8 : (s : Int) < 8 := by omega
  have sin : (s : Int) < (X.n : Int) := by omega
  have s00 : (0 : Int) ≤ (s : Int) := by omega
  have AV : allocV m t ⟨op, r, hh, vv, a, b, cc⟩ = if roomX m s (wn * 8) ≠ 0 then (no (roomX m s (wn * 8)), m) else give (putOb m (newOb m s ⟨op, r, hh, vv, a, b, cc⟩) (wn * 8)) t r (newOb m s ⟨op, r, hh, vv, a, b, cc⟩).h := by
    unfold allocV
    rw [if_neg (by dsimp only; rw [WE.out]; simp; exact hc), SE.out]
    dsimp only
    rw [WE.out]
  have rx : roomX m s (wn * 8) = if ar.u + wn * 8 > x.z then 17 else 0 := by
    unfold roomX
    rw [seeX_of (by omega) (by rw [Int.toNat_natCast]; exact hx), ea]
  have w1 : IntKind.i64.wrap (8 * wn) = 8 * wn := IntWalk.i64_in _ (by omega)
  have w2_ : IntKind.i64.wrap (ar.u + 8 * wn) = ar.u + 8 * wn := IntWalk.i64_in _ (by omega)
  refine (Heads.refwords_any a b _).mono ?_
  rintro e wq ⟨rfl, rfl⟩
  rw [WE.out]
  go_wp2_with fail
  refine (Chain.refarea_any _ (sl3 (p.c t)) (m.ents t) oE).mono ?_
  rintro e wq ⟨rfl, rfl⟩
  rw [SE.out]
  by_cases hr : x.z < ar.u + 8 * wn
  · have KK := Lib.hid (show allocV m t ⟨op, r, hh, vv, a, b, cc⟩ = (no 17, m) by
      rw [AV, show roomX m s (wn * 8) = 17 by rw [rx, if_pos (by omega)], if_pos (by decide)])
    have z1 : decide (x.z < ar.u + 8 * wn) = true := decide_eq_true hr
    clear AV rx hr
    as_aux_lemma =>
      go_wp2_with fail
      go_quiet (fail)
      go_wp2_with fail
      refine (code_any _ _).mono ?_
      rintro z w7 ⟨rfl, q7⟩
      have h7 := (h1.keep (Held.below_drewN (Below.refl _ _) _)).keep q7
      have Q6 := (q7.block (w.heap.size + 1) lw).trans Q1
      have a0 := cell_of Q6 0 _ rfl
      have a1 := cell_of Q6 1 _ rfl
      have a2 := cell_of Q6 2 _ rfl
      have fz : ∀ o, w7.frozen? ⟨w.heap.size + 1, o, none⟩ = false := fun o => by simp [World.frozen?, Q6]
      have h8 := h7.ans ⟨_, Q6⟩ (.int .i64 (17)) (.int .i64 0) (.slice none 0 0)
      have B8 := (Held.below_drewN q _).trans (q7.mono (Held.below_drewN q _).size)
      go_wp2
      refine bodyPost_ret (v := anD (17) 0) (by simp [results, Tryz.results72, go_sem, a0, a1, a2]) rfl ?_
      rw [KK.out]
      exact ⟨rfl, DidD.calm h8 (((B8.setCell (p := ⟨w.heap.size + 1, 0, none⟩) (by show w.heap.size ≤ w.heap.size + 1; omega) _).setCell (p := ⟨w.heap.size + 1, 1, none⟩) (by show w.heap.size ≤ w.heap.size + 1; omega) _).setCell (p := ⟨w.heap.size + 1, 2, none⟩) (by show w.heap.size ≤ w.heap.size + 1; omega) _)⟩
  have RX : roomX m s (wn * 8) = 0 := by rw [rx, if_neg (by omega)]
  have y3 : decide (x.z < ar.u + 8 * wn) = false := decide_eq_false hr
  have y4 : ¬ x.z < ar.u + 8 * wn := hr
  go_wp2_with fail
  go_quiet (fail)
  clear y3 y4
  obtain ⟨n1, hn1⟩ : ∃ n1, n1 = nq := ⟨_, rfl⟩
  subst hn1
  have w3_ : IntKind.i64.wrap (x.a + ar.u) = x.a + ar.u := IntWalk.i64_in _ (by omega)
  go_wp2_with fail
  go_quiet (fail)
  have K2 : Below W.heap.size W ((W.drewN n1).drewN nq) := Held.below_drewN (Held.below_drewN (Below.refl _ _) _) _
  have h2 := h1.keep K2
  generalize (W.drewN n1).drewN nq = W2 at *
  clear c1 c4 c5 c6 cE oE cu xa xz c5_ cX h1 w1 w2_ w3_ y1 y2 rx
  have Q3 := (K2.block _ lw).trans Q1
  have Q4 := (K2.block w.heap.size l0).trans Q2
  have B2 := q.trans (K2.mono q.size)
  have l2 : w.heap.size + 1 < W2.heap.size := Nat.lt_of_lt_of_le lw K2.size
  clear Q1 Q2 K2 lw l0 q
  obtain ⟨n, rfl⟩ : ∃ n : Nat, a = (n : Int) := ⟨a.toNat, by omega⟩
  have mk := mk_row n (by omega)
  obtain ⟨o, ho⟩ : ∃ o : Ob, o = ⟨(s : Int), x.e, x.a + ar.u, List.replicate n 0, cc, false⟩ := ⟨_, rfl⟩
  have EN : newOb m s ⟨op, r, hh, vv, (n : Int), b, cc⟩ = o := by
    rw [ho]
    unfold newOb roomA
    rw [seeC_of (by omega) (by rw [Int.toNat_natCast]; exact hx), seeX_of (by omega) (by rw [Int.toNat_natCast]; exact hx), ea]
    rfl
  have RB : Refs.rightB s x.e (x.a + ar.u) = true := decide_eq_true (by omega)
  obtain ⟨hd, hhd⟩ : ∃ hd, hd = Refs.handle s x.e (x.a + ar.u) := ⟨_, rfl⟩
  obtain ⟨at_, hat⟩ : ∃ z, x.a + ar.u = z := ⟨_, rfl⟩
  have PK := Lib.hid (show Refs.packV s x.e at_ = ⟨hd, 0⟩ by rw [← hat, Refs.pack_yes RB, hhd])
  obtain ⟨gw, hgw⟩ : ∃ gw, IntKind.i64.wrap hd = gw := ⟨_, rfl⟩
  have KK := Lib.hid (show allocV m t ⟨op, r, hh, vv, (n : Int), b, cc⟩ = (⟨0, gw, []⟩, (putOb m o (wn * 8)).setReg t (r : Int) hd) by
    rw [AV, RX, if_neg (by decide), EN, show o.h = hd by rw [ho, hhd]; rfl]
    unfold give
    rw [hgw])
  have o1 : o.s = (s : Int) := by rw [ho]
  have o2 : o.a = at_ := by rw [ho, ← hat]
  have o3 : o.tag = cc := by rw [ho]
  have o4 : o.d = false := by rw [ho]
  have o5 : o.sl = List.replicate n 0 := by rw [ho]
  have hf : m.F.R[s]? = some x := hx
  have OM : m.O.length ≤ 10000 := Nat.le_trans v.cnt hk
  have ZL : (m.O.zip p.s).length ≤ 10000 := by rw [List.length_zip]; omega
  have c6 := h2.c6
  have fr2 := h2.hd.frozen
  have d4 := cell_of Q4 4 _ rfl
  have d6 := cell_of Q4 6 _ rfl
  obtain ⟨UA, hUA⟩ : ∃ U, U = (W2.alloc (.cells (madeCells #[.int .u64 0] n) 36)).alloc (.cells #[.int .i64 (s : Int), .int .i64 at_, .int .i64 cc, sl3 (some ⟨W2.heap.size, 0, none⟩, n, n), .bool false] 107) := ⟨_, rfl⟩
  have BA : Below W2.heap.size W2 UA := by rw [hUA]; exact (below_one _ _).trans ((below_one _ _).mono (by rw [World.size_alloc]; omega))
  have so := ((made_own W2 n (by omega)).below (below_one _ (.cells #[.int .i64 (s : Int), .int .i64 at_, .int .i64 cc, sl3 (some ⟨W2.heap.size, 0, none⟩, n, n), .bool false] 107)))
  have sr := one_ob (W2.alloc (.cells (madeCells #[.int .u64 0] n) 36)) (s : Int) at_ cc (some ⟨W2.heap.size, 0, none⟩, n, n) (W2.heap.size + 1) (by rw [World.size_alloc]) o o1 o2 o3 o4
  rw [← hUA] at so sr
  rw [← o5] at so
  have hU := (h2.keep BA).drew
  have soD := so.below (Below.refl _ _).drew
  have srD := sr.drew
  have nD : some X.D ≠ Mod.ob p.o := fun e => (own_isT hU.ob e.symm).ne hU.tD (by decide) rfl
  have n1_ : some (w.heap.size + 1) ≠ Mod.ob p.o := fun e => (own_isT h2.ob e.symm).ne ⟨_, Q3⟩ (by decide) rfl
  have n0_ : some w.heap.size ≠ Mod.ob p.o := fun e => (own_isT h2.ob e.symm).ne ⟨_, Q4⟩ (by decide) rfl
  have ap : ∀ t' ∈ p.s, Mod.ob t' = none ∨ Mod.ob t' ≠ Mod.ob (some ⟨W2.heap.size, 0, none⟩, n, n) := fun t' ht' => by
    right
    intro e
    have e : Mod.ob t' = some W2.heap.size := e
    obtain ⟨i, hi⟩ := List.getElem?_of_mem ht'
    have li : i < m.O.length := by rw [← h2.ln]; exact (List.getElem?_eq_some_iff.1 hi).1
    have := (h2.sl i _ t' (List.getElem?_eq_getElem li) hi).lt _ e
    omega
  have OU := hU.ob
  have LU : UA.heap.size = W2.heap.size + 2 := by rw [hUA, World.size_alloc, World.size_alloc]
  have cD := hU.c6
  have fD := fun o => hU.hd.frozen o
  have k6a := (below_one W2 (.cells (madeCells #[.int .u64 0] n) 36)).cell (p := ⟨w.heap.size, 6, none⟩) (by show w.heap.size < W2.heap.size; omega)
  have k6b := (below_one W2 (.cells (madeCells #[.int .u64 0] n) 36)).cell (p := ⟨X.D, 6, none⟩) h2.hd.lt
  have k6c := BA.cell (p := ⟨X.D, 6, none⟩) h2.hd.lt
  rw [d6] at k6a
  rw [c6] at k6b k6c
  rw [hUA] at k6c
  rw [hat]
  clear hhd hat ho EN RX AV RB
  go_upto_region 8 with (fail)
  go_cut [97] (fun s wx => PushX W2 X p m o (some ⟨W2.heap.size, 0, none⟩, n, n) wx)
  case first =>
    go_region_law
      ((rw [← hUA]; refine step_own3 (K := kO) (by rfl) (.tmp 85) (.tmp 94) (by rfl) (by rfl) (by rfl) (by rfl) OU srD (by simp only [List.length_cons, List.length_nil]; omega) (Nat.zero_le _) ?_; intro v' w' hown hgrow hB; obtain ⟨yt, hyt⟩ : ∃ yt : Tri, v' = sl3 yt := (by obtain ⟨A', c', e, _⟩ := hown.sr.form; exact ⟨(A', _, c'), e⟩); subst hyt; have cs : w'.cell? ⟨X.D, 6, none⟩ = some (sl3 p.o) := (cell_only hgrow hU.hd.lt nD 6).trans cD; have fs := fun o => (frozen_only hgrow hU.hd.lt nD o).trans (fD o)))
    all_goals
      go_wp2_with fail
      go_meet
      refine ⟨yt, hU.push hgrow (y := yt) (o := o) (ts := (some ⟨W2.heap.size, 0, none⟩, n, n)) (by rw [List.zip_append h2.ln.symm]; exact hown) soD ap, only_new (Only.below (BA.trans (Below.refl _ _).drew)) (push_only (X := X) (v := sl3 yt) hgrow) (fun x hx => .inl hx), fun b e => ?_⟩
      rcases hB with e2 | e2
      · exact .inl (e2.symm.trans e)
      · right
        have : some UA.heap.size = some b := e2.symm.trans e
        injection this with this
        omega
  case rest =>
    obtain ⟨yt, h5, k5, hB'⟩ := hcut
    clear mk c6 fr2 d4 d6 cD fD k6a k6b k6c OU srD soD so sr hU ap nD ZL BA hUA LU
    have l2' : X.D < W2.heap.size := h2.hd.lt
    have nm1 : w.heap.size + 1 ∉ (Mod.ob p.o).toList ++ [X.D] := fun hx => by
      rcases List.mem_append.1 hx with hx | hx
      · exact n1_ (Option.mem_toList.1 hx).symm
      · have := List.mem_singleton.1 hx; omega
    have nm0 : w.heap.size ∉ (Mod.ob p.o).toList ++ [X.D] := fun hx => by
      rcases List.mem_append.1 hx with hx | hx
      · exact n0_ (Option.mem_toList.1 hx).symm
      · have := List.mem_singleton.1 hx; omega
    generalize wc = W5 at *
    have Q5 := (k5.block _ l2 nm1).trans Q3
    have R5 := (k5.block w.heap.size (by omega) nm0).trans Q4
    have l5 : w.heap.size + 1 < W5.heap.size := Nat.lt_of_lt_of_le l2 k5.size
    have a5 : Only ((Mod.ob p.o).toList ++ [X.D]) w W5 := only_new (Only.below B2) k5 (fun x hx => .inl hx)
    have lB := B2.size
    have c5 := h5.byte s8
    rw [show (⟨m.F, m.O ++ [o], m.A, m.T⟩ : Mo).ar (s : Int) = ar from ea] at c5
    have f5 := h5.hd.frozen
    have u5 := h5.putUse (s := s) (show s < m.A.length by omega) (show m.A.length ≤ 8 by omega) (ar.u + 8 * wn)
    rw [show (⟨m.F, m.O ++ [o], m.A, m.T⟩ : Mo).ar (s : Int) = ar from ea] at u5
    obtain ⟨W6, hW6⟩ : ∃ W6 : World, W6 = (W5.setCell ⟨X.D, 15 + s, none⟩ (.int .i64 (ar.u + 8 * wn))).drew := ⟨_, rfl⟩
    have h6 := u5.drew
    rw [← hW6] at h6
    have lX5 := h5.hd.lt
    have k6 : Only [X.D] W5 W6 := by rw [hW6]; exact (Only.put W5 _ _ _ (by simp)).trans (Only.below (Below.refl _ _).drew)
    have Q6 := (k6.block (w.heap.size + 1) l5 (by simp; omega)).trans Q5
    have R6 := (k6.block w.heap.size (by omega) (by simp; omega)).trans R5
    have l6 : w.heap.size + 1 < W6.heap.size := Nat.lt_of_lt_of_le l5 k6.size
    have a6 : Only ((Mod.ob p.o).toList ++ [X.D]) w W6 := only_new a5 k6 (fun x hx => .inl (List.mem_append.2 (.inr hx)))
    obtain ⟨⟨_, _, _, x3⟩, _⟩ := h6.rs.atC hf
    have e5 := h6.c5
    have e0 := h6.rs.c0
    have w1 : IntKind.i64.wrap (8 * wn) = 8 * wn := IntWalk.i64_in _ (by omega)
    have w2_ : IntKind.i64.wrap (ar.u + 8 * wn) = ar.u + 8 * wn := IntWalk.i64_in _ (by omega)
    rw [hW6] at e5 e0 x3
    go_wp2_with fail
    go_region
    clear w1 w2_ c5 f5
    go_wp2_with fail
    rw [← hW6]
    rw [← hW6] at e5 e0 x3
    clear hW6
    refine (Refs.refpack_any _ _ _ _).mono ?_
    rintro z w7 ⟨rfl, q7⟩
    rw [PK.out]
    have h7 := h6.keep q7
    have Q7 := (q7.block (w.heap.size + 1) l6).trans Q6
    have R7 := (q7.block w.heap.size (by omega)).trans R6
    have l7 : w.heap.size + 1 < w7.heap.size := Nat.lt_of_lt_of_le l6 q7.size
    have a7 : Only ((Mod.ob p.o).toList ++ [X.D]) w w7 := only_new a6 (Only.below (X := []) q7) (fun x hx => absurd hx List.not_mem_nil)
    have ri : (r : Int) < 4 := by omega
    have r0 : (0 : Int) ≤ (r : Int) := by omega
    have cr := h7.reg t4 hr4
    have fr := h7.hd.frozen
    have d1 := cell_of R7 1 _ rfl
    have nT := v.nT
    obtain ⟨W8, hW8⟩ : ∃ W8 : World, W8 = (w7.setCell ⟨X.D, 23 + t * 4 + r, none⟩ (.int .u64 hd)).drew := ⟨_, rfl⟩
    have h8 := (h7.putReg (t := t) (r := r) (show t < m.T.length by omega) (show m.T.length ≤ 4 by omega) hr4 hd).drew
    rw [← hW8] at h8
    have k8 : Only [X.D] w7 W8 := by rw [hW8]; exact (Only.put w7 _ _ _ (by simp)).trans (Only.below (Below.refl _ _).drew)
    have Q8 := (k8.block (w.heap.size + 1) l7 (by simp; omega)).trans Q7
    have a8 : Only ((Mod.ob p.o).toList ++ [X.D]) w W8 := only_new a7 k8 (fun x hx => .inl (List.mem_append.2 (.inr hx)))
    have a0_ := cell_of Q8 0 _ rfl
    have a1_ := cell_of Q8 1 _ rfl
    have a2_ := cell_of Q8 2 _ rfl
    have fz : ∀ o, W8.frozen? ⟨w.heap.size + 1, o, none⟩ = false := fun o => by simp [World.frozen?, Q8]
    have h9 := h8.ans ⟨_, Q8⟩ (.int .i64 0) (.int .i64 gw) (.slice none 0 0)
    have o9 : Only [w.heap.size + 1] W8 (((W8.setCell ⟨w.heap.size + 1, 0, none⟩ (.int .i64 0)).setCell ⟨w.heap.size + 1, 1, none⟩ (.int .i64 gw)).setCell ⟨w.heap.size + 1, 2, none⟩ (.slice none 0 0)) := ((Only.put W8 _ _ _ (by simp)).trans (Only.put _ _ _ _ (by simp))).trans (Only.put _ _ _ _ (by simp))
    have a9 := only_new a8 o9 (fun x hx => by rw [List.mem_singleton.1 hx]; exact .inr (by omega))
    have EP : putOb m o (wn * 8) = ⟨m.F, m.O ++ [o], m.A.set s ⟨ar.g, ar.u + 8 * wn⟩, m.T⟩ := by
      unfold putOb
      rw [o1, ea, Int.toNat_natCast, Int.mul_comm]
    clear x3 e5 e0
    go_wp2_with fail
    go_region
    rw [← hW8]
    clear hW8
    go_wp2
    refine bodyPost_ret (v := anD 0 gw) (by simp [results, Tryz.results72, go_sem, a0_, a1_, a2_]) rfl ?_
    rw [KK.out, EP]
    refine ⟨rfl, _, h9, ⟨_, fun b hb => ?_, a9⟩, fun b hb => ?_⟩
    · rcases List.mem_append.1 hb with hb | hb
      · exact .inr (.inr (.inr (.inr (.inl (Option.mem_toList.1 hb)))))
      · exact .inl (List.mem_singleton.1 hb)
    · rcases hb with e | e | e | e | e | ⟨t', ht', e⟩
      · exact .inl (.inl e)
      · exact .inl (.inr (.inl e))
      · exact .inl (.inr (.inr (.inl e)))
      · exact .inl (.inr (.inr (.inr (.inl e))))
      · rcases hB' b e with e2 | e2
        · exact .inl (.inr (.inr (.inr (.inr (.inl e2)))))
        · exact .inr (Nat.le_trans lB e2)
      · rcases List.mem_append.1 ht' with ht' | ht'
        · exact .inl (.inr (.inr (.inr (.inr (.inr ⟨t', ht', e⟩)))))
        · rw [List.mem_singleton.1 ht'] at e
          right
          have e : some W2.heap.size = some b := e
          injection e with e
          omega
end
end Go.Proofs.YtbpmnjmegffllaaGreat.Mod
