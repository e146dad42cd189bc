/-
  Contracts of the document's model: gate.
-/
import Derived.Test.YtbpmnjmegffllaaGreatDs
namespace Go.Proofs.YtbpmnjmegffllaaGreat.Mod
open Go.ChangeShapes Go.WideShapes Go.ChangeAt Go.RowKit
open Slic Sco
set_option linter.unusedVariables false
set_option linter.unusedSimpArgs false
set_option maxRecDepth 8000
section
variable {w w' : World} {X : Dx} {p : Dp} {m m' : Mo} {Z : Fx} {k : Nat}
def Dly (X : Dx) (p : Dp) (w w' : World) : Prop := ∃ L : List Nat, (∀ b ∈ L, dw X p b) ∧ Only L w w'
theorem Dly.below (k : Below w.heap.size w w') : Dly X p w w' := ⟨[], fun b hb => absurd hb List.not_mem_nil, Only.below k⟩
theorem Dly.one {b : Nat} (hb : dw X p b) (k : Only [b] w w') : Dly X p w w' := ⟨[b], fun x hx => by rw [List.mem_singleton.1 hx]; exact hb, k⟩
def DidD (X : Dx) (p : Dp) (w : World) (m' : Mo) (w' : World) : Prop := ∃ p', Rm w' X p' m' ∧ Dly X p w w' ∧ ∀ b, dw X p' b → dw X p b ∨ w.heap.size ≤ b
theorem DidD.calm (h : Rm w' X p m) (k : Below w.heap.size w w') : DidD X p w m w' := ⟨p, h, Dly.below k, fun b hb => .inl hb⟩
theorem DidD.put (h : Rm w' X p m') (k : Only [X.D] w w') : DidD X p w m' w' := ⟨p, h, Dly.one (.inl rfl) k, fun b hb => .inl hb⟩
def dT : List TypeId := [94, 100, 59, 113, 133, 4, 107, 36, 147, 152, 154]
theorem Rm.local {b : Nat} {T : TypeId} (h : Rm w X p m) (tb : isT w b T) (hT : dT.contains T = false) (q : Only [b] w w') : Rm w' X p m := by
  have ne : ∀ t ∈ dT, (T == t) = false := fun t ht => by
    rw [beq_eq_false_iff_ne]
    rintro rfl
    rw [List.contains_iff_mem.2 ht] at hT
    cases hT
  have nt : ∀ t ∈ dT, ∀ x ∈ [b], noT w x t := fun t ht x hx => by rw [List.mem_singleton.1 hx]; exact tb.no (ne t ht)
  have nb : ∀ {g : Nat} {t : TypeId}, isT w g t → t ∈ dT → g ∉ [b] := fun hg ht hm => by
    rw [List.mem_singleton.1 hm] at hg
    exact (tb.ne hg (ne _ ht)) rfl
  refine ⟨h.hd.of_block (q.block _ h.hd.lt (nb h.tD (by simp [dT]))), ?_, h.rl, own_types h.ob q (nt _ (by simp [dT, kO])), h.ln, fun i o t h1 h2 => own_types (h.sl i o t h1 h2) q (nt _ (by simp [dT, Fina.kU])), h.ap, fun t ht => own_types (h.en t ht) q (nt _ (by simp [dT, kE])), h.fi.types q (nt _ (by simp [dT, Fina.kR])) (nt _ (by simp [dT, Fina.kF]))⟩
  exact h.rs.only q (nb h.rs.tD (by simp [dT])) (nb h.rs.tc (by simp [dT])) (nb h.rs.tx (by simp [dT])) (nb h.rs.tC (by simp [dT])) (nb h.rs.tw (by simp [dT]))
theorem Rm.ans {b : Nat} (h : Rm w X p m) (tb : isT w b anT) (a c d : Value) : Rm (((w.setCell ⟨b, 0, none⟩ a).setCell ⟨b, 1, none⟩ c).setCell ⟨b, 2, none⟩ d) X p m :=
  h.local tb (by decide) (((Only.put w _ _ _ (by simp)).trans (Only.put _ _ _ _ (by simp))).trans (Only.put _ _ _ _ (by simp)))
theorem only_new {L M : List Nat} {a b c : World} (q : Only L a b) (r : Only M b c) (hM : ∀ x ∈ M, x ∈ L ∨ a.heap.size ≤ x) : Only L a c :=
  ⟨r.os.trans q.os, r.tape.trans q.tape, r.output.trans q.output, Nat.le_trans q.size r.size, fun i hi hn => (r.block i (Nat.lt_of_lt_of_le hi q.size) (fun e => by rcases hM i e with e | e; exact hn e; omega)).trans (q.block i hi hn)⟩
def gaD (m : Mo) (t : Nat) (c : Ca) : Re2 := if c.op = 10 then lookV m t c else gateV m t c
set_option maxHeartbeats 4000000 in
theorem refgate_any (h : Rm w X p m) (v : Iv Z k m) (hk : k ≤ 10000) (hn : Z.n = X.n) {t : Nat} (ht : t < Z.nt) {op h' b cc : Int} {r vv s : Nat} (hs1 : 1 ≤ s) (hsn : s < X.n) (hop : (op = 10 ∧ r < 4) ∨ (op = 11 ∧ vv < 4)) :
    Calls Tryz.prog 74 #[ptrX X, .int .i64 (t : Int), .agg #[.int .u8 op, .int .u8 (r : Int), .int .u8 h', .int .u8 (vv : Int), .int .i64 (s : Int), .int .i64 b, .int .i64 cc]] w fun z w' =>
      z = .returned (anD ((gaD m t ⟨op, r, h', vv, s, b, cc⟩).1.c) ((gaD m t ⟨op, r, h', vv, s, b, cc⟩).1.n)) ∧ DidD X p w (gaD m t ⟨op, r, h', vv, s, b, cc⟩).2 w' := by
  replace hop := Lib.hid hop
  have n8 := v.n8
  have nt4 := v.nt.2
  have t4 : t < 4 := by omega
  have ti : (t : Int) < 4 := by omega
  have t0 : (0 : Int) ≤ (t : Int) := by omega
  have s8 : s < 8 := by omega
  have si : (s : Int) < 8 := by omega
  have s0 : (0 : Int) ≤ (s : Int) := by omega
  have hA := v.nA
  have hsA : s < m.A.length := by omega
  have rx : reachX m (m.ents t) (s : Int) = if Chain.reachV (m.ents t) (s : Int) = false then 20 else 0 := by
    unfold reachX
    rw [if_neg (by rw [show scopeB m (s : Int) = true from decide_eq_true (by omega)]; decide)]
  obtain ⟨W, hW⟩ : ∃ W : World, W = (w.alloc (.cells #[.int .u8 op, .int .u8 (r : Int), .int .u8 h', .int .u8 (vv : Int), .int .i64 (s : Int), .int .i64 b, .int .i64 cc] 35)).alloc (.cells #[.int .i64 0, .int .i64 0, .slice none 0 0] anT) := ⟨_, rfl⟩
  have Q0 := heap_alloc_new w (.cells #[.int .u8 op, .int .u8 (r : Int), .int .u8 h', .int .u8 (vv : Int), .int .i64 (s : Int), .int .i64 b, .int .i64 cc] 35)
  have B0 := below_one w (.cells #[.int .u8 op, .int .u8 (r : Int), .int .u8 h', .int .u8 (vv : Int), .int .i64 (s : Int), .int .i64 b, .int .i64 cc] 35)
  have h1 := (h.alloc (.cells #[.int .u8 op, .int .u8 (r : Int), .int .u8 h', .int .u8 (vv : Int), .int .i64 (s : Int), .int .i64 b, .int .i64 cc] 35)).alloc (.cells #[.int .i64 0, .int .i64 0, .slice none 0 0] anT)
  have q : Below w.heap.size w W := by rw [hW]; exact B0.trans ((below_one _ _).mono B0.size)
  rw [← hW] at h1
  go_enter Tryz.func74, Tryz.ntmps74
  have Q1 := (heap_alloc_new (w.alloc (.cells #[.int .u8 op, .int .u8 (r : Int), .int .u8 h', .int .u8 (vv : Int), .int .i64 (s : Int), .int .i64 b, .int .i64 cc] 35)) (.cells #[.int .i64 0, .int .i64 0, .slice none 0 0] anT))
  have Q2 := ((below_one (w.alloc (.cells #[.int .u8 op, .int .u8 (r : Int), .int .u8 h', .int .u8 (vv : Int), .int .i64 (s : Int), .int .i64 b, .int .i64 cc] 35)) (.cells #[.int .i64 0, .int .i64 0, .slice none 0 0] anT)).block w.heap.size (by rw [World.size_alloc]; omega)).trans Q0
  rw [World.size_alloc] at Q1
  rw [← hW] at Q1 Q2
  have lw : w.heap.size + 1 < W.heap.size := by rw [hW, World.size_alloc, World.size_alloc]; omega
  have c0 := cell_of Q2 0 _ rfl
  have c1 := cell_of Q2 1 _ rfl
  have c3 := cell_of Q2 3 _ rfl
  have c4 := cell_of Q2 4 _ rfl
  have cE := h1.entC t4
  have oE := (ent_own.2 (h1.en t t4)).sr
  have oD := oE.drew
  have ret : ∀ {x y x' y' : Int}, x = x' → y = y' → Ending.returned (anD x y) = Ending.returned (anD x' y') := fun e e' => by rw [e, e']
  clear Q0 B0
  go_wp2_with fail
  rw [← hW]
  clear hW
  cases hre : Chain.reachV (m.ents t) (s : Int) with
  | false =>
    have RE := Lib.hid hre
    have KK := Lib.hid (show (gaD m t ⟨op, r, h', vv, s, b, cc⟩) = (no 20, m) by
      have e : reachX m (m.ents t) (s : Int) = 20 := by rw [rx, if_pos hre]
      unfold gaD lookV gateV
      dsimp only
      rw [e]
      split <;> rfl)
    clear hre rx
    as_aux_lemma =>
      go_region_held3 (fun W' => W'.cell? ⟨X.D, 39 + t, none⟩ = some (sl3 (p.c t)) ∧ W'.cell? ⟨w.heap.size, 4, none⟩ = some (.int .i64 (s : Int)))
        (exact ⟨cE, c4⟩)
        ((go_at_call 117; refine (Chain.refreach_any _ (sl3 (p.c t)) (m.ents t) (s : Int) (by first | exact oE | exact oD | exact oD.drew)).mono ?_; rintro e wq ⟨rfl, rfl⟩; rw [RE.out]))
      go_wp2_with fail
      refine (code_any _ _).mono ?_
      rintro z w2 ⟨rfl, q2⟩
      have h2 := h1.drew.keep q2
      have K2 : Below W.heap.size W w2 := (Below.refl W.heap.size W).drew.trans q2
      have Q3 := (K2.block _ lw).trans Q1
      have a0 := cell_of Q3 0 _ rfl
      have a1 := cell_of Q3 1 _ rfl
      have a2 := cell_of Q3 2 _ rfl
      have fz : ∀ o, w2.frozen? ⟨w.heap.size + 1, o, none⟩ = false := fun o => by simp [World.frozen?, Q3]
      have h3 := h2.ans ⟨_, Q3⟩ (.int .i64 20) (.int .i64 0) (.slice none 0 0)
      have B3 := q.trans (K2.mono q.size)
      go_wp2
      refine bodyPost_ret (v := anD 20 0) (by simp [results, Tryz.results74, go_sem, a0, a1, a2]) rfl ?_
      rw [KK.out]
      exact ⟨rfl, DidD.calm h3 (((B3.setCell (p := ⟨w.heap.size + 1, 0, none⟩) (by show w.heap.size ≤ w.heap.size + 1; omega) _).setCell (p := ⟨w.heap.size + 1, 1, none⟩) (by show w.heap.size ≤ w.heap.size + 1; omega) _).setCell (p := ⟨w.heap.size + 1, 2, none⟩) (by show w.heap.size ≤ w.heap.size + 1; omega) _)⟩
  | true =>
    have RE := Lib.hid hre
    have rx0 : reachX m (m.ents t) (s : Int) = 0 := by rw [rx, if_neg (by rw [hre]; decide)]
    clear rx
    rcases hop.out with ⟨rfl, hr4⟩ | ⟨rfl, hv4⟩
    · obtain ⟨g, hg⟩ : ∃ g, (m.ar (s : Int)).g = g := ⟨_, rfl⟩
      obtain ⟨gw, hgw⟩ : ∃ gw, IntKind.i64.wrap g = gw := ⟨_, rfl⟩
      have KK := Lib.hid (show gaD m t ⟨10, r, h', vv, s, b, cc⟩ = (⟨0, gw, []⟩, m.setReg t (r : Int) g) by
        unfold gaD lookV
        dsimp only
        rw [rx0, if_pos rfl, if_neg (by decide), hg, ← hgw]
        rfl)
      have ri : (r : Int) < 4 := by omega
      have r0 : (0 : Int) ≤ (r : Int) := by omega
      have cg := h1.gate s8
      rw [hg] at cg
      have cr := h1.reg t4 hr4
      have fr := h1.hd.frozen
      have nT := v.nT
      obtain ⟨W2, hW2⟩ : ∃ W2 : World, W2 = (W.setCell ⟨X.D, 23 + t * 4 + r, none⟩ (.int .u64 g)).drew.drew := ⟨_, rfl⟩
      have h2 := (h1.putReg (t := t) (r := r) (by omega) (by omega) hr4 g).drew.drew
      rw [← hW2] at h2
      have k2 : Only [X.D] W W2 := by rw [hW2]; exact (Only.put W _ _ _ (by simp)).trans (Only.below ((Below.refl _ _).drew.drew))
      have lD := h.hd.lt
      have Q3 := (k2.block (w.heap.size + 1) lw (by simp; omega)).trans Q1
      have Q4 := (k2.block w.heap.size (by omega) (by simp; omega)).trans Q2
      have a0 := cell_of Q3 0 _ rfl
      have a1 := cell_of Q3 1 _ rfl
      have a2 := cell_of Q3 2 _ rfl
      have fz : ∀ o, W2.frozen? ⟨w.heap.size + 1, o, none⟩ = false := fun o => by simp [World.frozen?, Q3]
      have d4 := cell_of Q4 4 _ rfl
      have d0 := cell_of Q4 0 _ rfl
      have h3 := (h2.ans ⟨_, Q3⟩ (.int .i64 0) (.int .i64 gw) (.slice none 0 0)).drew
      have cg2 := h2.gate s8
      have ag : (m.setReg t (r : Int) g).ar (s : Int) = m.ar (s : Int) := rfl
      rw [ag, hg] at cg2
      clear hre rx0 hg ag
      as_aux_lemma =>
        go_region_held3 (fun W' => W'.cell? ⟨X.D, 39 + t, none⟩ = some (sl3 (p.c t)) ∧ W'.cell? ⟨w.heap.size, 4, none⟩ = some (.int .i64 (s : Int)))
          (exact ⟨cE, c4⟩)
          ((go_at_call 117; refine (Chain.refreach_any _ (sl3 (p.c t)) (m.ents t) (s : Int) (by first | exact oE | exact oD | exact oD.drew)).mono ?_; rintro e wq ⟨rfl, rfl⟩; rw [RE.out]))
        go_wp2_with fail
        go_region
        go_wp2_with fail
        rw [← hW2]
        clear hW2
        go_region
        go_wp2
        refine bodyPost_ret (v := anD 0 gw) (by simp [results, Tryz.results74, go_sem, a0, a1, a2]) rfl ?_
        rw [KK.out]
        have o3 : Only [w.heap.size + 1] W2 (((W2.setCell ⟨w.heap.size + 1, 0, none⟩ (.int .i64 0)).setCell ⟨w.heap.size + 1, 1, none⟩ (.int .i64 gw)).setCell ⟨w.heap.size + 1, 2, none⟩ (.slice none 0 0)).drew := (((Only.put W2 _ _ _ (by simp)).trans (Only.put _ _ _ _ (by simp))).trans (Only.put _ _ _ _ (by simp))).trans (Only.below (Below.refl _ _).drew)
        exact ⟨rfl, DidD.put h3 (only_new (only_new (Only.below q) k2 (fun x hx => .inl hx)) o3 (fun x hx => by rw [List.mem_singleton.1 hx]; exact .inr (by omega)))⟩
    · obtain ⟨x, hx0⟩ : ∃ x, x = (m.th t).r vv := ⟨_, rfl⟩
      have hx : wf64 x := by rw [hx0]; exact v.wreg ht (vv : Int)
      have cr := h1.reg t4 hv4
      rw [← hx0] at cr
      have er : m.reg t (vv : Int) = x := by rw [hx0]; rfl
      have vi : (vv : Int) < 4 := by omega
      have v0 : (0 : Int) ≤ (vv : Int) := by omega
      have GV : gaD m t ⟨11, r, h', vv, s, b, cc⟩ = if m.fits (m.ents t) x (s : Int) ≠ 0 then (no (m.fits (m.ents t) x (s : Int)), m) else (no 0, ⟨m.F, m.O, m.A.set (s : Int).toNat ⟨x, (m.ar (s : Int)).u⟩, m.T⟩) := by
        unfold gaD gateV
        dsimp only
        rw [rx0, if_neg (by decide), if_neg (by decide), er]
      by_cases hf : m.fits (m.ents t) x (s : Int) = 0
      · have KK := Lib.hid (show gaD m t ⟨11, r, h', vv, s, b, cc⟩ = (no 0, ⟨m.F, m.O, m.A.set s ⟨x, (m.ar (s : Int)).u⟩, m.T⟩) by rw [GV, if_neg (by rw [hf]; decide), Int.toNat_natCast])
        have FX := Lib.hid hf
        have nA8 : m.A.length ≤ 8 := by omega
        have lD := h.hd.lt
        clear GV hf hre rx0 er hx0
        as_aux_lemma =>
          go_region_held3 (fun W' => W'.cell? ⟨X.D, 39 + t, none⟩ = some (sl3 (p.c t)) ∧ W'.cell? ⟨w.heap.size, 4, none⟩ = some (.int .i64 (s : Int)))
            (exact ⟨cE, c4⟩)
            ((go_at_call 117; refine (Chain.refreach_any _ (sl3 (p.c t)) (m.ents t) (s : Int) (by first | exact oE | exact oD | exact oD.drew)).mono ?_; rintro e wq ⟨rfl, rfl⟩; rw [RE.out]))
          go_wp2_with fail
          go_region
          go_wp2_with fail
          refine (refvalue_any h1.drew.drew v hk hn t4 hx (s : Int)).mono ?_
          rintro z w5 ⟨rfl, h5, q5⟩
          rw [FX.out]
          have K5 : Below W.heap.size W w5 := (Below.refl W.heap.size W).drew.drew.trans q5
          have Q3 := (K5.block _ lw).trans Q1
          have Q4 := (K5.block w.heap.size (by omega)).trans Q2
          have B5 := q.trans (K5.mono q.size)
          have d4 := cell_of Q4 4 _ rfl
          have cg := h5.gate s8
          have fr := h5.hd.frozen
          obtain ⟨W6, hW6⟩ : ∃ W6 : World, W6 = (w5.setCell ⟨X.D, 7 + s, none⟩ (.int .u64 x)).drew := ⟨_, rfl⟩
          have h6 := (h5.putGate hsA nA8 x).drew
          rw [← hW6] at h6
          have k6 : Only [X.D] w5 W6 := by rw [hW6]; exact (Only.put w5 _ _ _ (by simp)).trans (Only.below (Below.refl _ _).drew)
          have l5 : w.heap.size + 1 < w5.heap.size := Nat.lt_of_lt_of_le lw K5.size
          have Q5 := (k6.block (w.heap.size + 1) l5 (by simp; omega)).trans Q3
          generalize (m.ar (s : Int)).g = g0 at cg
          go_wp2_with fail
          go_region
          go_wp2_with fail
          rw [← hW6]
          clear hW6
          refine (code_any _ _).mono ?_
          rintro z w7 ⟨rfl, q7⟩
          have h7 := h6.keep q7
          have Q6 := (q7.block (w.heap.size + 1) (Nat.lt_of_lt_of_le l5 k6.size)).trans Q5
          have a0 := cell_of Q6 0 _ rfl
          have a1 := cell_of Q6 1 _ rfl
          have a2 := cell_of Q6 2 _ rfl
          have fz : ∀ o, w7.frozen? ⟨w.heap.size + 1, o, none⟩ = false := fun o => by simp [World.frozen?, Q6]
          have h8 := h7.ans ⟨_, Q6⟩ (.int .i64 0) (.int .i64 0) (.slice none 0 0)
          have o8 : Only [w.heap.size + 1] w7 (((w7.setCell ⟨w.heap.size + 1, 0, none⟩ (.int .i64 0)).setCell ⟨w.heap.size + 1, 1, none⟩ (.int .i64 0)).setCell ⟨w.heap.size + 1, 2, none⟩ (.slice none 0 0)) := ((Only.put w7 _ _ _ (by simp)).trans (Only.put _ _ _ _ (by simp))).trans (Only.put _ _ _ _ (by simp))
          go_wp2
          refine bodyPost_ret (v := anD 0 0) (by simp [results, Tryz.results74, go_sem, a0, a1, a2]) rfl ?_
          rw [KK.out]
          exact ⟨rfl, DidD.put h8 (only_new (only_new (only_new (Only.below B5) k6 (fun x hx => .inl hx)) (Only.below (X := [X.D]) q7) (fun x hx => .inl hx)) o8 (fun x hx => by rw [List.mem_singleton.1 hx]; exact .inr (by omega)))⟩
      · obtain ⟨F, hF⟩ : ∃ F, m.fits (m.ents t) x (s : Int) = F := ⟨_, rfl⟩
        have KK := Lib.hid (show gaD m t ⟨11, r, h', vv, s, b, cc⟩ = (no F, m) by rw [GV, if_pos hf, hF])
        have z1 : (F == 0) = false := by rw [← hF]; simpa using hf
        have FX := Lib.hid hF
        clear GV hf hre rx0 er hx0 hF
        as_aux_lemma =>
          go_region_held3 (fun W' => W'.cell? ⟨X.D, 39 + t, none⟩ = some (sl3 (p.c t)) ∧ W'.cell? ⟨w.heap.size, 4, none⟩ = some (.int .i64 (s : Int)))
            (exact ⟨cE, c4⟩)
            ((go_at_call 117; refine (Chain.refreach_any _ (sl3 (p.c t)) (m.ents t) (s : Int) (by first | exact oE | exact oD | exact oD.drew)).mono ?_; rintro e wq ⟨rfl, rfl⟩; rw [RE.out]))
          go_wp2_with fail
          go_region
          go_wp2_with fail
          refine (refvalue_any h1.drew.drew v hk hn t4 hx (s : Int)).mono ?_
          rintro z w5 ⟨rfl, h5, q5⟩
          rw [FX.out]
          have K5 : Below W.heap.size W w5 := (Below.refl W.heap.size W).drew.drew.trans q5
          have Q3 := (K5.block _ lw).trans Q1
          have Q4 := (K5.block w.heap.size (by omega)).trans Q2
          have B5 := q.trans (K5.mono q.size)
          have d4 := cell_of Q4 4 _ rfl
          go_wp2_with fail
          refine (code_any _ _).mono ?_
          rintro z w7 ⟨rfl, q7⟩
          have h7 := h5.keep q7
          have Q6 := (q7.block (w.heap.size + 1) (Nat.lt_of_lt_of_le lw K5.size)).trans Q3
          have a0 := cell_of Q6 0 _ rfl
          have a1 := cell_of Q6 1 _ rfl
          have a2 := cell_of Q6 2 _ rfl
          have fz : ∀ o, w7.frozen? ⟨w.heap.size + 1, o, none⟩ = false := fun o => by simp [World.frozen?, Q6]
          have h8 := h7.ans ⟨_, Q6⟩ (.int .i64 F) (.int .i64 0) (.slice none 0 0)
          have B8 := B5.trans (q7.mono B5.size)
          go_wp2
          refine bodyPost_ret (v := anD F 0) (by simp [results, Tryz.results74, go_sem, a0, a1, a2]) rfl ?_
          rw [KK.out]
          exact ⟨rfl, DidD.calm h8 (((B8.setCell (p := ⟨w.heap.size + 1, 0, none⟩) (by show w.heap.size ≤ w.heap.size + 1; omega) _).setCell (p := ⟨w.heap.size + 1, 1, none⟩) (by show w.heap.size ≤ w.heap.size + 1; omega) _).setCell (p := ⟨w.heap.size + 1, 2, none⟩) (by show w.heap.size ≤ w.heap.size + 1; omega) _)⟩
end
end Go.Proofs.YtbpmnjmegffllaaGreat.Mod
