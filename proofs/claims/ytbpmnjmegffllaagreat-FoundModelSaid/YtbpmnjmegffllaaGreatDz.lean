/-
  Contracts of the document's model: exit.
-/
import Derived.Test.YtbpmnjmegffllaaGreatDy
import Derived.Test.YtbpmnjmegffllaaGreatFinr
import Derived.Deep.DeepCutAuto
namespace Go.Proofs.YtbpmnjmegffllaaGreat.Mod
open Go.ChangeShapes Go.WideShapes Go.ChangeAt Go.RowKit
open Slic Sco
set_option linter.unusedVariables false
set_option linter.unusedSimpArgs false
set_option maxRecDepth 8000
section
variable {w w' : World} {X : Dx} {p : Dp} {m m' : Mo} {Z : Fx} {k : Nat}
def DidE (X : Dx) (p : Dp) (w : World) (r : Re2) (z : Ending) (w' : World) : Prop := ∃ sd : Tri, z = .returned (.agg #[.int .i64 r.1.c, .int .i64 r.1.n, sl3 sd]) ∧ Slic.Own Fina.kI w' 0 (sl3 sd) r.1.said ∧ (∀ b, Mod.ob sd = some b → w.heap.size ≤ b) ∧ DidD X p w r.2 w'
theorem DidE.plain {c : Int} {m' : Mo} {z : Ending} (e : z = .returned (anD c 0)) (d : DidD X p w m' w') : DidE X p w (no c, m') z w' := ⟨(none, 0, 0), e, Slic.Own.nil _ _, (fun b h => by cases h), d⟩
theorem exit_head (FF : List (List Fina.O)) {t n : Nat} (hp : Chain.popE (m.ents t) = 0) (hl : Chain.lastV (m.ents t) = ((n : Int), true)) (hx : (turnV m.F (n : Int) leF).x = 0) : exitV FF m t = if (turnV m.F (n : Int) leF).d = false then (no 0, Mo.setEnt ⟨(turnV m.F (n : Int) leF).F, m.O, m.A, m.T⟩ t (m.ents t).dropLast) else lastV FF m (turnV m.F (n : Int) leF).F t (n : Int) := by
  unfold exitV
  rw [hl, if_neg (by rw [hp]; decide), if_neg (by simp), if_neg (by rw [hx]; decide)]
structure ExA (w : World) (X : Dx) (p : Dp) (m : Mo) (s : Int) (yt : Tri) (L' : List Chain.E) (b4 b9 : Nat) (k : Nat) (wr : World) (p' : Dp) (sd : Tri) : Prop where
  rm : Rm wr X p' ⟨m.F, mid X.FF s m.O k, m.A, m.T⟩
  pc : p'.c = p.c
  po : p'.o = p.o
  ps : ∀ t' ∈ p'.s, t' ∈ p.s ∨ ∀ b, Mod.ob t' = some b → w.heap.size ≤ b
  en : Slic.Own kE wr 0 (sl3 yt) L'
  q4 : wr.heap[b4]? = some (.cells #[.int .i64 0, .int .i64 0, .slice none 0 0] anT (0, 0))
  q9 : wr.heap[b9]? = some (.cells #[.int .i64 0, .int .i64 ((fnV X.FF s (m.O.drop k)).n : Int), sl3 sd] anT (0, 0))
  sa : Slic.Own Fina.kI wr 0 (sl3 sd) (fnV X.FF s (m.O.drop k)).said
  sb : ∀ b, Mod.ob sd = some b → w.heap.size ≤ b
  on : Only (Mod.ob p.o).toList w wr
theorem heap_lt {b : Nat} {o : Obj} (h : w.heap[b]? = some o) : b < w.heap.size := by
  rcases Nat.lt_or_ge b w.heap.size with c | c
  · exact c
  · rw [Array.getElem?_eq_none c] at h
    cases h
section
variable {w0 : World} {s0 : Int} {yt sd : Tri} {L' : List Chain.E} {b4 b9 : Nat} {p' : Dp}
theorem ExA.keep (a : ExA w0 X p m s0 yt L' b4 b9 k w p' sd) (q : Below w.heap.size w w') : ExA w0 X p m s0 yt L' b4 b9 k w' p' sd :=
  ⟨a.rm.keep q, a.pc, a.po, a.ps, a.en.below q, (q.block _ (heap_lt a.q4)).trans a.q4, (q.block _ (heap_lt a.q9)).trans a.q9, a.sa.below q, a.sb, only_new a.on (Only.below (X := []) q) (fun x hx => absurd hx List.not_mem_nil)⟩
theorem ExA.skip {j : Nat} (a : ExA w0 X p m s0 yt L' b4 b9 (j + 1) w p' sd) (hj : j < m.O.length) (e : todo X.FF s0 m.O[j] = false) : ExA w0 X p m s0 yt L' b4 b9 j w p' sd := by
  obtain ⟨a1, a2, a3, a4, a5, a6, a7, a8, a9, a10⟩ := a
  rw [mid_same hj e] at a1
  rw [← fn_no hj e] at a7 a8
  exact ⟨a1, a2, a3, a4, a5, a6, a7, a8, a9, a10⟩
end
theorem grown_only {v : Tri} (g : w.grownBy w' (Mod.ob v)) : Only (Mod.ob v).toList w w' := ⟨g.os, g.tape, g.output, g.size, fun i hi hn => g.block i hi (fun e => hn (by rw [← e]; simp))⟩
theorem Rm.grownI {sd : Tri} {L : List Int} (h : Rm w X p m) (o : Slic.Own Fina.kI w 0 (sl3 sd) L) (g : w.grownBy w' (Mod.ob sd)) : Rm w' X p m := by
  cases e : Mod.ob sd with
  | none => exact h.keep (below_grown (e ▸ g))
  | some b =>
    have k := grown_only g
    rw [e] at k
    exact h.local (own_isT o e) (by decide) k
theorem zip_back {α β : Type} : ∀ L : List (α × β), (L.map (·.1)).zip (L.map (·.2)) = L
  | [] => rfl
  | x :: L => by rw [List.map_cons, List.map_cons, List.zip_cons_cons, zip_back L]
theorem zip_keep {P : Ob → Bool} : ∀ (O : List Ob) (S : List Tri), O.length = S.length → ((O.zip S).filter (fun x => P x.1)).map (·.1) = O.filter P
  | [], _, _ => by simp
  | o :: O, [], e => by simp at e
  | o :: O, t :: S, e => by
    have ih := zip_keep (P := P) O S (by simpa using e)
    rw [List.zip_cons_cons, List.filter_cons, List.filter_cons]
    by_cases c : P o = true
    · rw [if_pos c, if_pos c, List.map_cons, ih]
    · rw [if_neg c, if_neg c, ih]
theorem one_obD (W : World) (o : Ob) (ts : Tri) (n : Nat) (hn : n = W.heap.size) : Sr kO (W.alloc (.cells #[.int .i64 o.s, .int .i64 o.a, .int .i64 o.tag, sl3 ts, .bool o.d] 107)) (.slice (some ⟨n, 0, none⟩) 1 1) [(o, ts)] := by
  subst hn
  have h : Slic.Own kO (W.alloc (.cells #[.int .i64 o.s, .int .i64 o.a, .int .i64 o.tag, sl3 ts, .bool o.d] 107)) 0 (.slice (some ⟨W.heap.size, 0, none⟩) 1 1) [(o, ts)] := Own.lit W 0 (Nat.zero_le _) [(o, ts)] #[.int .i64 o.s, .int .i64 o.a, .int .i64 o.tag, sl3 ts, .bool o.d] (by simp [Kd.flat, kO]) (by simp [maxLen]) 1 rfl
  exact h.sr
theorem take_keep {α : Type} {P : α → Bool} {L : List α} {i : Nat} {x : α} (h : L[i]? = some x) : (L.take (i + 1)).filter P = (L.take i).filter P ++ (if P x = true then [x] else []) := by
  obtain ⟨hl, e⟩ := List.getElem?_eq_some_iff.1 h
  rw [List.take_succ_eq_append_getElem hl, List.filter_append, e, List.filter_cons]
  rfl
theorem Rm.left (h : Rm w X p m) {y : Tri} {P : Ob × Tri → Bool} (hy : Slic.Own kO w 0 (sl3 y) ((m.O.zip p.s).filter P)) : Rm (w.setCell ⟨X.D, 6, none⟩ (sl3 y)) X ⟨y, p.c, ((m.O.zip p.s).filter P).map (·.2), p.Y⟩ ⟨m.F, ((m.O.zip p.s).filter P).map (·.1), m.A, m.T⟩ := by
  have q : Only [X.D] w (w.setCell ⟨X.D, 6, none⟩ (sl3 y)) := Only.put _ _ _ _ (by simp)
  have tD := h.tD
  have nt : ∀ T, (94 == T) = false → ∀ x ∈ [X.D], noT w x T := fun T hT x hx => by rw [List.mem_singleton.1 hx]; exact tD.no hT
  have nb : ∀ {b : Nat} {T : TypeId}, isT w b T → (94 == T) = false → b ∉ [X.D] := fun hb e1 hx => (nt _ e1 _ hx).ne hb rfl
  refine ⟨?_, h.rs.only q (nb h.rs.tD (by decide)) (nb h.rs.tc (by decide)) (nb h.rs.tx (by decide)) (nb h.rs.tC (by decide)) (nb h.rs.tw (by decide)), h.rl, ?_, by simp, fun i o' t' h1 h2 => ?_, ?_, fun t ht => own_types (h.en t ht) q (nt _ (by decide)), h.fi.types q (nt _ (by decide)) (nt _ (by decide))⟩
  · refine (h.hd.set 6 (sl3 y)).congr fun i hi => ?_
    by_cases e : i = 6
    · subst e
      rfl
    · rw [if_neg e]
      unfold dcell
      rw [if_neg e, if_neg e]
      rfl
  · show Slic.Own kO _ 0 (sl3 y) ((((m.O.zip p.s).filter P).map (·.1)).zip (((m.O.zip p.s).filter P).map (·.2)))
    rw [zip_back]
    exact own_types hy q (nt _ (by decide))
  · have h1 : (((m.O.zip p.s).filter P).map (·.1))[i]? = some o' := h1
    have h2 : (((m.O.zip p.s).filter P).map (·.2))[i]? = some t' := h2
    rw [List.getElem?_map] at h1 h2
    obtain ⟨z, hz, e1⟩ := Option.map_eq_some_iff.1 h1
    rw [hz] at h2
    injection h2 with e2
    have hm := (List.mem_filter.1 (List.mem_of_getElem? hz)).1
    obtain ⟨j, hj⟩ := List.getElem?_of_mem hm
    obtain ⟨j1, j2⟩ := List.getElem?_zip_eq_some.1 hj
    rw [← e1, ← e2]
    exact own_types (h.sl j _ _ j1 j2) q (nt _ (by decide))
  · have sub : (((m.O.zip p.s).filter P).map (·.2)).Sublist ((m.O.zip p.s).map (·.2)) := List.filter_sublist.map _
    rw [List.map_snd_zip (Nat.le_of_eq h.ln)] at sub
    exact h.ap.sublist sub
theorem ExA.step {w0 W5 W6 w7 : World} {s0 : Int} {yt sd sd7 ts : Tri} {L' : List Chain.E} {b4 b9 g : Nat} {p' : Dp} {j : Nat} {R : Fina.R} (E5 : ExA w0 X p m s0 yt L' b4 b9 (j + 1) W5 p' sd) (hg : Mod.ob p.o = some g) (tg : isT W5 g 107) (k6 : Only [g] W5 W6)
    (h6 : Rm W6 X ⟨p'.o, p'.c, p'.s.set j ts, p'.Y⟩ ⟨m.F, mid X.FF s0 m.O j, m.A, m.T⟩) (hts : ∀ b, Mod.ob ts = some b → w0.heap.size ≤ b) (FY : fnV X.FF s0 (m.O.drop j) = ⟨(fnV X.FF s0 (m.O.drop (j + 1))).n + 1, (fnV X.FF s0 (m.O.drop (j + 1))).said ++ R.said, (fnV X.FF s0 (m.O.drop (j + 1))).held || R.held⟩)
    (O7 : Slic.Own Fina.kI w7 0 (sl3 sd7) ((fnV X.FF s0 (m.O.drop (j + 1))).said ++ R.said)) (g7 : W6.grownBy w7 (Mod.ob sd)) (r7 : Mod.ob sd7 = Mod.ob sd ∨ Mod.ob sd7 = some W6.heap.size) (h9 : w0.heap.size ≤ b9) (h49 : b4 ≠ b9) :
    ExA w0 X p m s0 yt L' b4 b9 j ((w7.setCell ⟨b9, 2, none⟩ (sl3 sd7)).setCell ⟨b9, 1, none⟩ (.int .i64 (((fnV X.FF s0 (m.O.drop (j + 1))).n : Int) + 1))) ⟨p'.o, p'.c, p'.s.set j ts, p'.Y⟩ sd7 := by
  have nt6 : ∀ T, (107 == T) = false → ∀ x ∈ [g], noT W5 x T := fun T hT x hx => by rw [List.mem_singleton.1 hx]; exact tg.no hT
  have n9 : b9 ≠ g := (isT.of E5.q9).ne tg (by decide)
  have n4 : b4 ≠ g := (isT.of E5.q4).ne tg (by decide)
  have en6 := own_types E5.en k6 (nt6 _ (by decide))
  have sa6 := own_types E5.sa k6 (nt6 _ (by decide))
  have q46 := (k6.block _ (heap_lt E5.q4) (by simp; exact n4)).trans E5.q4
  have q96 := (k6.block _ (heap_lt E5.q9) (by simp; exact n9)).trans E5.q9
  have k7 := grown_only g7
  have n9d : some b9 ≠ Mod.ob sd := fun e => ((isT.of q96).ne (own_isT sa6 e.symm) (by decide)) rfl
  have n4d : some b4 ≠ Mod.ob sd := fun e => ((isT.of q46).ne (own_isT sa6 e.symm) (by decide)) rfl
  have q97 := (g7.block _ (heap_lt q96) n9d).trans q96
  have q47 := (g7.block _ (heap_lt q46) n4d).trans q46
  have h7 := h6.grownI sa6 g7
  have en7 := own_types en6 k7 (fun x hx => by
    have e : Mod.ob sd = some x := by simpa using hx
    exact (own_isT sa6 e).no (by decide))
  have k8 : Only [b9] w7 ((w7.setCell ⟨b9, 2, none⟩ (sl3 sd7)).setCell ⟨b9, 1, none⟩ (.int .i64 (((fnV X.FF s0 (m.O.drop (j + 1))).n : Int) + 1))) := (Only.put w7 _ _ _ (by simp)).trans (Only.put _ _ _ _ (by simp))
  have hsz : w0.heap.size ≤ W5.heap.size := E5.on.size
  refine ⟨h7.local (isT.of q97) (by decide) k8, E5.pc, E5.po, fun t' ht' => ?_, own_types en7 k8 (fun x hx => by rw [List.mem_singleton.1 hx]; exact (isT.of q97).no (by decide)), (k8.block _ (heap_lt q47) (by simp; exact h49)).trans q47, ?_, ?_, fun b e => ?_, ?_⟩
  · rcases List.mem_or_eq_of_mem_set ht' with e | e
    · exact E5.ps t' e
    · rw [e]
      exact .inr hts
  · rw [FY]
    have e1 := heap_setCell_same w7 b9 2 _ _ (sl3 sd7) q97
    have e2 := heap_setCell_same _ b9 1 _ _ (.int .i64 (((fnV X.FF s0 (m.O.drop (j + 1))).n : Int) + 1)) e1
    exact e2
  · rw [FY]
    exact own_local O7 q97 (by decide) k8
  · rcases r7 with e2 | e2
    · exact E5.sb b (e2.symm.trans e)
    · have : some W6.heap.size = some b := e2.symm.trans e
      injection this with this
      have := k6.size
      omega
  · have a6 : Only (Mod.ob p.o).toList w0 W6 := only_new E5.on k6 (fun x hx => .inl (by rw [List.mem_singleton.1 hx, hg]; simp))
    have a7 : Only (Mod.ob p.o).toList w0 w7 := only_new a6 k7 (fun x hx => .inr (E5.sb x (by simpa using hx)))
    exact only_new a7 k8 (fun x hx => by rw [List.mem_singleton.1 hx]; exact .inr h9)
set_option maxHeartbeats 8000000 in
theorem refexit_any (h : Rm w X p m) (v : Iv Z k m) (hk : k ≤ 10000) (ff : Fok X.FF) (hn : Z.n = X.n) {t : Nat} (ht : t < Z.nt) (hp : Chain.popE (m.ents t) = 0) (hc : (Chain.lastV (m.ents t)).2 = true) :
    Calls Tryz.prog 71 #[ptrX X, .int .i64 (t : Int)] w (DidE X p w (exitV X.FF m t)) := by
  obtain ⟨s, x, hl, h1, hsn, hx, hs2, hr⟩ := exit_facts v ht hp hc
  have n8 := v.n8
  have nt4 := v.nt.2
  have t4 : t < 4 := by omega
  have ti : (t : Int) < 4 := by omega
  have t0 : (0 : Int) ≤ (t : Int) := by omega
  have hA := v.nA
  have nT := v.nT
  have hl6 := v.l6 ht
  have s0 : (0 : Int) ≤ (s : Int) := by omega
  have sn : (s : Int) < (X.n : Int) := by omega
  have P0 := Lib.hid hp
  have L1 := Lib.hid (show (Chain.lastV (m.ents t)).1 = (s : Int) by rw [hl])
  have L2 := Lib.hid hc
  obtain ⟨W, hW⟩ : ∃ W : World, W = w.alloc (.cells #[.int .i64 0, .int .i64 0, .slice none 0 0] anT) := ⟨_, rfl⟩
  have Q1 := heap_alloc_new w (.cells #[.int .i64 0, .int .i64 0, .slice none 0 0] anT)
  have q := below_one w (.cells #[.int .i64 0, .int .i64 0, .slice none 0 0] anT)
  have h1_ := h.alloc (.cells #[.int .i64 0, .int .i64 0, .slice none 0 0] anT)
  have lW : W.heap.size = w.heap.size + 1 := by rw [hW, World.size_alloc]
  rw [← hW] at Q1 q h1_
  have cE := h1_.entC t4
  have oE := (ent_own.2 (h1_.en t t4)).sr
  have lDw := h.hd.lt
  rw [hW] at cE
  go_enter Tryz.func71, Tryz.ntmps71
  go_wp2_with fail
  rw [← hW]
  clear hW
  refine (Chain.refpop_any _ (sl3 (p.c t)) (m.ents t) oE (by omega)).mono ?_
  rintro e w1 ⟨y, rfl, O1, k1⟩
  obtain ⟨yt, rfl⟩ := own_tri (ent_own.1 O1)
  rw [P0.out, L1.out, L2.out]
  obtain ⟨W2, hW2⟩ : ∃ W2 : World, W2 = w1.alloc (.cells #[.int .i64 (s : Int), .bool true] 147) := ⟨_, rfl⟩
  have B2 : Below W.heap.size W W2 := by rw [hW2]; exact k1.trans ((below_one w1 _).mono k1.size)
  have Qe := heap_alloc_new w1 (.cells #[.int .i64 (s : Int), .bool true] 147)
  have O2 : Slic.Own kE W2 0 (sl3 yt) (m.ents t).dropLast := by rw [hW2]; exact ((ent_own.1 O1).zero (Nat.zero_le _)).below (below_one w1 _)
  have l1 : w1.heap.size < W2.heap.size := by rw [hW2, World.size_alloc]; omega
  have l1' := k1.size
  rw [← hW2] at Qe
  have h2 := h1_.keep B2
  have Q2 := (B2.block w.heap.size (by omega)).trans Q1
  have e0 := cell_of Qe 0 _ rfl
  have c5 := h2.c5
  have cS := h2.rs.c0
  obtain ⟨⟨_, xc, _, _⟩, _⟩ := h2.rs.atC hx
  have lB := q.trans (B2.mono q.size)
  clear cE oE h1_ Q1 O1
  go_upto_region 3 with (fail)
  rw [← hW2]
  clear hW2
  by_cases hc1 : 1 < x.c
  · obtain ⟨lx, ld⟩ := leave_more h1 hx hs2 hr hc1
    have KK := Lib.hid (show exitV X.FF m t = (no 0, Mo.setEnt ⟨(turnV m.F (s : Int) leF).F, m.O, m.A, m.T⟩ t (m.ents t).dropLast) by rw [exit_head _ hp hl lx, if_pos ld])
    have z1 : decide (1 < x.c) = true := decide_eq_true hc1
    have LV := h2.leave (s : Int)
    have n0 : X.P.gc ≠ w.heap.size := h2.rs.tc.ne ⟨_, Q2⟩ (by decide)
    generalize turnV m.F (s : Int) leF = G at *
    clear hp hc hl hx hs2 hr lx ld
    as_aux_lemma =>
      go_wp2_with fail
      refine LV.mono ?_
      rintro z w3 ⟨rfl, h3, k3⟩
      have Q3 := (k3.block w.heap.size (by omega) (by simp; exact fun e => n0 e.symm)).trans Q2
      have O3 := own_types O2 k3 (fun x hx => by rw [List.mem_singleton.1 hx]; exact h2.rs.tc.no (by decide))
      have l3 : w.heap.size < w3.heap.size := Nat.lt_of_lt_of_le (by omega) k3.size
      have a3 : Only [X.P.gc, X.D] w w3 := only_new (Only.below lB) k3 (fun x hx => .inl (by rw [List.mem_singleton.1 hx]; simp))
      obtain ⟨W4, hW4⟩ : ∃ W4 : World, W4 = w3.setCell ⟨X.D, 39 + t, none⟩ (sl3 yt) := ⟨_, rfl⟩
      have h4 := h3.putC (t := t) (show t < m.T.length by omega) (show m.T.length ≤ 4 by omega) yt O3
      rw [← hW4] at h4
      have k4 : Only [X.D] w3 W4 := by rw [hW4]; exact Only.put w3 _ _ _ (by simp)
      have Q4 := (k4.block w.heap.size l3 (by simp; omega)).trans Q3
      have l4 : w.heap.size < W4.heap.size := Nat.lt_of_lt_of_le l3 k4.size
      have a4 : Only [X.P.gc, X.D] w W4 := only_new a3 k4 (fun x hx => .inl (by rw [List.mem_singleton.1 hx]; simp))
      have cr := h3.entC t4
      have fr := h3.hd.frozen
      go_wp2_with fail
      rw [← hW4]
      clear hW4 cr fr
      refine (code_any _ _).mono ?_
      rintro z w9 ⟨rfl, q9⟩
      have h9 := h4.keep q9
      have Q9 := (q9.block w.heap.size l4).trans Q4
      have a0 := cell_of Q9 0 _ rfl
      have a1 := cell_of Q9 1 _ rfl
      have a2 := cell_of Q9 2 _ rfl
      have fz : ∀ o, w9.frozen? ⟨w.heap.size, o, none⟩ = false := fun o => by simp [World.frozen?, Q9]
      have h8 := h9.ans ⟨_, Q9⟩ (.int .i64 0) (.int .i64 0) (.slice none 0 0)
      have o8 : Only [w.heap.size] w9 (((w9.setCell ⟨w.heap.size, 0, none⟩ (.int .i64 0)).setCell ⟨w.heap.size, 1, none⟩ (.int .i64 0)).setCell ⟨w.heap.size, 2, none⟩ (.slice none 0 0)) := ((Only.put w9 _ _ _ (by simp)).trans (Only.put _ _ _ _ (by simp))).trans (Only.put _ _ _ _ (by simp))
      go_wp2
      refine bodyPost_ret (v := anD 0 0) (by simp [results, Tryz.results71, go_sem, a0, a1, a2]) rfl ?_
      rw [KK.out]
      exact DidE.plain rfl ⟨⟨p.o, fun j => if j = t then yt else p.c j, p.s, p.Y⟩, h8, ⟨[X.P.gc, X.D], fun b hb => by rcases List.mem_cons.1 hb with e | e; exact .inr (.inl e); exact .inl (List.mem_singleton.1 e), only_new (only_new a4 (Only.below (X := [X.P.gc, X.D]) q9) (fun x hx => .inl hx)) o8 (fun x hx => by rw [List.mem_singleton.1 hx]; exact .inr (Nat.le_refl _))⟩, fun b hb => .inl hb⟩
  obtain ⟨lx, ld, lh⟩ := leave_last h1 hx hs2 hr hc1
  have z1 : decide (1 < x.c) = false := decide_eq_false hc1
  have z2 : ¬ 1 < x.c := hc1
  go_upto_region 7 with (fail)
  obtain ⟨W3, hW3⟩ : ∃ W3 : World, W3 = W2.alloc (.cells #[.int .i64 0, .int .i64 0, .slice none 0 0] anT) := ⟨_, rfl⟩
  have B3 := below_one W2 (.cells #[.int .i64 0, .int .i64 0, .slice none 0 0] anT)
  have Q9 := heap_alloc_new W2 (.cells #[.int .i64 0, .int .i64 0, .slice none 0 0] anT)
  rw [← hW3] at B3 Q9
  have OM : m.O.length ≤ 10000 := Nat.le_trans v.cnt hk
  have st : ExA w X p m (s : Int) yt (m.ents t).dropLast w.heap.size W2.heap.size m.O.length W3 p (none, 0, 0) := by
    have e1 : fnV X.FF (s : Int) (m.O.drop m.O.length) = ⟨0, [], false⟩ := by rw [List.drop_length]; exact fn_nil
    refine ⟨?_, rfl, rfl, fun t' ht' => .inl ht', O2.below B3, (B3.block _ (by omega)).trans Q2, ?_, ?_, (fun b e => by cases e), Only.below (lB.trans (B3.mono lB.size))⟩
    · rw [mid_all]
      exact h2.keep B3
    · rw [e1]
      exact Q9
    · rw [e1]
      exact Slic.Own.nil _ _
  have H0 : (fnV X.FF (s : Int) (m.O.drop m.O.length)).held = false := by rw [List.drop_length]; rfl
  have l9 : w.heap.size < W2.heap.size := by omega
  have lD9 : X.D < W2.heap.size := by omega
  obtain ⟨Ao, co, eo⟩ := h2.len
  have c6 := h2.c6
  rw [eo] at c6
  have c6' := (B3.cell (p := ⟨X.D, 6, none⟩) lD9).trans c6
  obtain ⟨N, hN⟩ : ∃ N, N = m.O.length := ⟨_, rfl⟩
  rw [← hN] at c6 c6'
  have OM' : N ≤ 10000 := by omega
  have ST := Lib.hid st
  have HN := Lib.hid hN
  have HH := Lib.hid H0
  clear st H0 eo hN B3 Q9 O2 c5 cS xc e0 Q2 Qe B2 k1
  rw [hW3] at c6'
  go_upto_region 10 with (fail)
  rw [← hW3]
  have kX := h2.hd.lt
  obtain ⟨w9_, hw9_⟩ : ∃ n, n = W2.heap.size := ⟨_, rfl⟩
  rw [← hw9_] at ST lD9 l9 ⊢
  have hN10 : (N : Int) - 1 ≤ 10000 := by omega
  clear hW3 c6 c6' z2 z1 h2 hw9_
  go_loopw [10, 11] (fun hh i wr => ∃ (k : Nat) (z : Int) (p' : Dp) (sd : Tri), k ≤ m.O.length ∧ z + 1 = (k : Int) ∧ i = .int .i64 z ∧ hh = .bool (fnV X.FF (s : Int) (m.O.drop k)).held ∧ ExA w X p m (s : Int) yt (m.ents t).dropLast w.heap.size w9_ k wr p' sd) (fun _ i _ => (intOf i + 1).toNat)
  case atStart => exact ⟨m.O.length, (N : Int) - 1, p, (none, 0, 0), Nat.le_refl _, by rw [HN.out]; omega, rfl, by rw [HH.out], ST.out⟩
  case round =>
    obtain ⟨k', z, p', sd, hk', hz, rfl, rfl, EA⟩ := hrel
    by_cases hz0 : 0 ≤ z
    · obtain ⟨j, rfl⟩ : ∃ j : Nat, z = (j : Int) := ⟨z.toNat, by omega⟩
      obtain rfl : k' = j + 1 := by omega
      have hj : j < m.O.length := by omega
      have jN : (j : Int) < (N : Int) := by have := HN.out; omega
      have j0 : (0 : Int) ≤ (j : Int) := by omega
      have z1 : decide ((0 : Int) ≤ (j : Int)) = true := decide_eq_true j0
      have wj : IntKind.i64.wrap ((j : Int) - 1) = (j : Int) - 1 := IntWalk.i64_in _ (by omega)
      have mg := mid_get (FF := X.FF) (s := (s : Int)) hj
      obtain ⟨g, c, ⟨tA, tn, tc⟩, ep, hp', lg, o0, o1, o2, o3, o4, fg⟩ := EA.rm.objAt mg
      dsimp only at ep
      rw [mid_len, ← HN.out] at ep
      have c6 := EA.rm.c6
      rw [ep] at c6
      replace c6 : wr.cell? ⟨X.D, 6, none⟩ = some (.slice (some ⟨g, 0, none⟩) N c) := c6
      replace o3 : wr.cell? ⟨g, j * 5 + 3, none⟩ = some (.slice tA tn tc) := o3
      have so := EA.rm.sl j m.O[j] _ mg hp'
      have EP := Lib.hid ep
      have HP := Lib.hid hp'
      obtain ⟨o, ho⟩ : ∃ o, m.O[j] = o := ⟨_, rfl⟩
      have HO := Lib.hid ho
      rw [ho] at o0 o1 o2 o4 so mg
      have MG := Lib.hid mg
      have TD := Lib.hid (show todo X.FF (s : Int) o = (decide (o.s = (s : Int)) && (!o.d && decide ((ops X.FF o).length ≠ 0))) from rfl)
      obtain ⟨Wa, hWa⟩ : ∃ Wa : World, Wa = wr.alloc (.cells #[.int .i64 o.s, .int .i64 o.a, .int .i64 o.tag, .slice tA tn tc, .bool o.d] 107) := ⟨_, rfl⟩
      have qa := below_one wr (.cells #[.int .i64 o.s, .int .i64 o.a, .int .i64 o.tag, .slice tA tn tc, .bool o.d] 107)
      have Qa := heap_alloc_new wr (.cells #[.int .i64 o.s, .int .i64 o.a, .int .i64 o.tag, .slice tA tn tc, .bool o.d] 107)
      rw [← hWa] at qa Qa
      have EAa := EA.keep qa
      have b0 := cell_of Qa 0 _ rfl
      have b2 := cell_of Qa 2 _ rfl
      have b3 := cell_of Qa 3 _ rfl
      have b4 := cell_of Qa 4 _ rfl
      have c4 := EAa.rm.c4
      have RW := EAa.rm.fi.rows
      have soa := so.below qa
      obtain ⟨Lp, hLp⟩ : ∃ L, Fina.ofV X.FF o.tag = L := ⟨_, rfl⟩
      have OF := Lib.hid hLp
      clear ep hp' ho mg hLp
      go_upto_region 13 with (fail)
      rw [← hWa]
      clear hWa
      go_wp2_with fail
      go_region_held3 (fun W' => W'.cell? ⟨X.D, 4, none⟩ = some X.f ∧ W'.cell? ⟨wr.heap.size, 2, none⟩ = some (.int .i64 o.tag))
        (first | exact ⟨c4, b2⟩)
        ((go_at_call 121; refine (Fina.refof_any _ X.f X.FF o.tag (by first | exact RW | exact RW.drew)).mono ?_; rintro e wq ⟨vo, rfl, SO, rfl⟩; rw [OF.out] at SO; obtain ⟨Av, cv, rfl, _, _⟩ := SO.form))
      have EAb := EAa.keep (Below.refl _ Wa).drew
      have sob := soa.below (Below.refl _ Wa).drew
      have OFo := OF.out
      have LPl : Lp.length ≤ 8 := by rw [← OFo]; exact (ops_ok ff o).2.2
      clear EAa soa RW c4
      by_cases e1 : o.s = (s : Int)
      rotate_left
      · have TF : todo X.FF (s : Int) m.O[j] = false := by rw [HO.out, TD.out, decide_eq_false e1]; rfl
        have zz : (o.s != (s : Int)) = true := by simpa using e1
        have ER := EAb.skip hj TF
        have HR := Lib.hid (show Value.bool (fnV X.FF (s : Int) (m.O.drop (j + 1))).held = .bool (fnV X.FF (s : Int) (m.O.drop j)).held by rw [fn_no hj TF])
        clear e1 EAb
        as_aux_lemma =>
          go_wp2
          go_roundw
          case rel => exact ⟨j, (j : Int) - 1, p', sd, by omega, by omega, rfl, HR.out, ER⟩
          case measure => first | (simp [intOf]; done) | (simp [intOf]; omega)
      have zz : (o.s != (s : Int)) = false := by simpa using e1
      cases hd : o.d with
      | true =>
        have TF : todo X.FF (s : Int) m.O[j] = false := by rw [HO.out, TD.out, hd]; simp
        have ER := EAb.skip hj TF
        have HR := Lib.hid (show Value.bool (fnV X.FF (s : Int) (m.O.drop (j + 1))).held = .bool (fnV X.FF (s : Int) (m.O.drop j)).held by rw [fn_no hj TF])
        rw [hd] at b4
        clear e1 EAb
        as_aux_lemma =>
          go_wp2
          go_roundw
          case rel => exact ⟨j, (j : Int) - 1, p', sd, by omega, by omega, rfl, HR.out, ER⟩
          case measure => first | (simp [intOf]; done) | (simp [intOf]; omega)
      | false =>
      rw [hd] at b4
      by_cases hL : Lp.length = 0
      · have TF : todo X.FF (s : Int) m.O[j] = false := by
          rw [HO.out, TD.out, hd]
          unfold ops
          rw [OFo, hL]
          simp
        have ER := EAb.skip hj TF
        have HR := Lib.hid (show Value.bool (fnV X.FF (s : Int) (m.O.drop (j + 1))).held = .bool (fnV X.FF (s : Int) (m.O.drop j)).held by rw [fn_no hj TF])
        clear e1 EAb
        as_aux_lemma =>
          go_wp2
          go_roundw
          case rel => exact ⟨j, (j : Int) - 1, p', sd, by omega, by omega, rfl, HR.out, ER⟩
          case measure => first | (simp [intOf]; done) | (simp [intOf]; omega)
      have TT : todo X.FF (s : Int) m.O[j] = true := by
        rw [HO.out, TD.out, hd, decide_eq_true e1]
        unfold ops
        rw [OFo]
        simpa using hL
      have hL0 : 0 < Lp.length := by omega
      have zL : (Lp.length == 0) = false := by simpa using hL
      have zL2 : (((Lp.length : Nat) : Int) == 0) = false := by rw [beq_eq_false_iff_ne]; omega
      have LO : Fina.okO Lp ∧ Fina.okL Lp := by rw [← OFo]; exact ⟨(ops_ok ff o).1, (ops_ok ff o).2.1⟩
      have FY := fn_yes hj TT
      rw [HO.out, show ops X.FF o = Lp from OFo] at FY
      have F1 : fin1 X.FF (s : Int) o = ⟨o.s, o.e, o.a, (Fina.walk Lp 0 o.sl).S, o.tag, true⟩ := by
        unfold fin1
        rw [HO.out] at TT
        rw [if_pos TT, show ops X.FF o = Lp from OFo]
      have MS := mid_step (FF := X.FF) (s := (s : Int)) hj
      rw [HO.out, F1] at MS
      have FY_ := Lib.hid FY
      have MS_ := Lib.hid MS
      have nle := todo_le (FF := X.FF) (s := (s : Int)) (m.O.drop (j + 1))
      rw [List.length_drop] at nle
      have slen : o.sl.length ≤ 100000 := by
        have := v.sl m.O[j] (List.getElem_mem hj)
        rw [HO.out] at this
        have q6 := v.obj m.O[j] (List.getElem_mem hj)
        rw [HO.out] at q6
        obtain ⟨_, _, _, _, _, _, _, _, _, q6, _⟩ := q6
        omega
      obtain ⟨R, hR⟩ : ∃ R, Fina.walk Lp 0 o.sl = R := ⟨_, rfl⟩
      have HR := Lib.hid hR
      have tn6 : Sr Fina.kU Wa.drew (.slice tA tn tc) o.sl := sob.sr
      clear FY MS F1 TT hL OFo e1 hR
      go_wp2_with fail
      refine (Fina.refrun_any _ _ (.slice tA tn tc) Lp o.sl SO (by omega) tn6 slen LO.1 LO.2).mono ?_
      rintro z w5 ⟨vs, vd, rfl, S5, D5, q5⟩
      obtain ⟨ts, rfl⟩ := own_tri S5
      obtain ⟨td, rfl⟩ := own_tri D5
      rw [HR.out] at S5 D5
      rw [HR.out]
      have K5 : Below wr.heap.size wr w5 := qa.trans (((Below.refl _ Wa).drew.trans q5).mono qa.size)
      have E5 := EAb.keep q5
      have c6' : w5.cell? ⟨X.D, 6, none⟩ = some (.slice (some ⟨g, 0, none⟩) N c) := by
        have := E5.rm.c6
        rw [EP.out] at this
        exact this
      have o3' := (K5.cell (p := ⟨g, j * 5 + 3, none⟩) lg).trans o3
      have o4' := (K5.cell (p := ⟨g, j * 5 + 4, none⟩) lg).trans o4
      have fg' : ∀ o, w5.frozen? ⟨g, o, none⟩ = false := fun o => (K5.frozen (p := ⟨g, o, none⟩) lg).trans (fg o)
      have ap : ∀ t' ∈ p'.s, Mod.ob t' = none ∨ Mod.ob t' ≠ Mod.ob ts := fun t' ht' => by
        by_cases e : Mod.ob t' = none
        · exact .inl e
        · right
          intro e2
          obtain ⟨i, hi⟩ := List.getElem?_of_mem ht'
          have li : i < (mid X.FF (s : Int) m.O (j + 1)).length := by
            have := (List.getElem?_eq_some_iff.1 hi).1
            have l : p'.s.length = (mid X.FF (s : Int) m.O (j + 1)).length := EA.rm.ln
            omega
          cases e3 : Mod.ob t' with
          | none => exact e e3
          | some b =>
            have y1 := (EA.rm.sl i _ t' (List.getElem?_eq_getElem li) hi).lt b e3
            have y2 := S5.lt b (e2.symm.trans e3)
            have y3 := qa.size
            have y4 : Wa.drew.heap.size = Wa.heap.size := rfl
            omega
      have h6 := E5.rm.finOb (i := j) (o := o) (g := g) (c := c) MG.out HP.out (by rw [EP.out]; show _ = (_, (mid X.FF (s : Int) m.O (j + 1)).length, _); rw [mid_len, HN.out]) (S5.zero (Nat.zero_le _)) ap
      have MS' := MS_.out
      rw [HR.out] at MS'
      rw [show (⟨m.F, mid X.FF (s : Int) m.O (j + 1), m.A, m.T⟩ : Mo).O = mid X.FF (s : Int) m.O (j + 1) from rfl, MS'] at h6
      have nD : X.D ≠ g := E5.rm.tD.ne (own_isT E5.rm.ob (by rw [EP.out]; rfl)) (by decide)
      have tg : isT w5 g 107 := own_isT E5.rm.ob (by rw [EP.out]; rfl)
      have n9 : w9_ ≠ g := (isT.of E5.q9).ne tg (by decide)
      have n4 : w.heap.size ≠ g := (isT.of E5.q4).ne tg (by decide)
      obtain ⟨W6, hW6⟩ : ∃ W6 : World, W6 = (w5.setCell ⟨g, j * 5 + 3, none⟩ (sl3 ts)).setCell ⟨g, j * 5 + 4, none⟩ (.bool true) := ⟨_, rfl⟩
      have k6 : Only [g] w5 W6 := by rw [hW6]; exact (Only.put w5 _ _ _ (by simp)).trans (Only.put _ _ _ _ (by simp))
      rw [← hW6] at h6
      have nt6 : ∀ T, (107 == T) = false → ∀ x ∈ [g], noT w5 x T := fun T hT x hx => by rw [List.mem_singleton.1 hx]; exact tg.no hT
      have en6 := own_types E5.en k6 (nt6 _ (by decide))
      have sa6 := own_types E5.sa k6 (nt6 _ (by decide))
      have td6 := own_types D5 k6 (nt6 _ (by decide))
      have q46 := (k6.block _ (heap_lt E5.q4) (by simp; exact n4)).trans E5.q4
      have q96 := (k6.block _ (heap_lt E5.q9) (by simp; exact n9)).trans E5.q9
      have j5 : (j : Int) < (N : Int) := jN
      go_upto_region 18 with (fail)
      rw [← hW6]
      clear hW6
      have H9 := (isT.of q96)
      obtain ⟨fq, hfn⟩ : ∃ z, fnV X.FF (s : Int) (m.O.drop (j + 1)) = z := ⟨_, rfl⟩
      rw [hfn] at q96 sa6 nle
      have FQ := Lib.hid hfn
      have wn : IntKind.i64.wrap ((fq.n : Int) + 1) = (fq.n : Int) + 1 := IntWalk.i64_in _ (by omega)
      have SL : fq.said.length + R.said.length ≤ 1000000 := by
        have w1 : fq.said.length ≤ 8 * (m.O.drop (j + 1)).length := by rw [← hfn]; exact said_le ff _
        have w2 := (Fina.walk_len Lp 0 o.sl)
        rw [HR.out] at w2
        rw [List.length_drop] at w1
        omega
      have n9d : some w9_ ≠ Mod.ob sd := fun e => (H9.ne (own_isT sa6 e.symm) (by decide)) rfl
      have c90 := cell_of q96 2 _ rfl
      have c91 := cell_of q96 1 _ rfl
      rw [hfn]
      obtain ⟨hh0, hhh⟩ : ∃ z, fq.held = z := ⟨_, rfl⟩
      rw [hhh]
      have HHH := Lib.hid hhh
      clear hfn hhh
      have hg0 : Mod.ob p.o = some g := by rw [← EA.po, EP.out]; rfl
      have hts : ∀ b, Mod.ob ts = some b → w.heap.size ≤ b := fun b e => by
        have y1 := (S5.lt b e).1
        have y2 := qa.size
        have y3 := EA.on.size
        have y4 : Wa.drew.heap.size = Wa.heap.size := rfl
        omega
      have FZ := FY_.out
      rw [HR.out] at FZ
      have STEP := fun sd7 w7 O7 g7 r7 => ExA.step (sd7 := sd7) (w7 := w7) E5 hg0 tg k6 h6 hts FZ O7 g7 r7 (Nat.le_of_lt l9) (Nat.ne_of_lt l9)
      rw [FQ.out] at STEP FZ
      have STEP_ := Lib.hid STEP
      have FZ_ := Lib.hid FZ
      clear STEP FZ
      rcases hh0 with _ | _
      · have HE := Lib.hid (show Value.bool R.held = .bool (fnV X.FF (s : Int) (m.O.drop j)).held by
          rw [FZ_.out]
          show _ = Value.bool (fq.held || R.held)
          rw [HHH.out]
          rfl)
        clear HHH
        as_aux_lemma =>
          go_wp2_with (at_builtin; refine wpList_app3 (K := Fina.kI) (v := sl3 sd) (y := sl3 td) rfl (.tmp 121) (.tmp 122) rfl rfl rfl rfl sa6 td6.sr SL (Nat.zero_le _) ?_; intro v7 w7 O7 g7 r7; obtain ⟨sd7, rfl⟩ := own_tri O7; have q97 := (g7.block _ (heap_lt q96) n9d).trans q96; have d90 := cell_of q97 2 _ rfl; have d91 := cell_of q97 1 _ rfl; have f9 : ∀ o, w7.frozen? ⟨w9_, o, none⟩ = false := (fun o => by simp [World.frozen?, q97]))
          go_roundw
          case rel => exact ⟨j, (j : Int) - 1, _, sd7, by omega, by omega, rfl, HE.out, STEP_.out sd7 w7 O7 g7 r7⟩
          case measure => first | (simp [intOf]; done) | (simp [intOf]; omega)
      · have HE := Lib.hid (show Value.bool true = .bool (fnV X.FF (s : Int) (m.O.drop j)).held by
          rw [FZ_.out]
          show _ = Value.bool (fq.held || R.held)
          rw [HHH.out]
          rfl)
        clear HHH
        as_aux_lemma =>
          go_wp2_with (at_builtin; refine wpList_app3 (K := Fina.kI) (v := sl3 sd) (y := sl3 td) rfl (.tmp 121) (.tmp 122) rfl rfl rfl rfl sa6 td6.sr SL (Nat.zero_le _) ?_; intro v7 w7 O7 g7 r7; obtain ⟨sd7, rfl⟩ := own_tri O7; have q97 := (g7.block _ (heap_lt q96) n9d).trans q96; have d90 := cell_of q97 2 _ rfl; have d91 := cell_of q97 1 _ rfl; have f9 : ∀ o, w7.frozen? ⟨w9_, o, none⟩ = false := (fun o => by simp [World.frozen?, q97]))
          go_roundw
          case rel => exact ⟨j, (j : Int) - 1, _, sd7, by omega, by omega, rfl, HE.out, STEP_.out sd7 w7 O7 g7 r7⟩
          case measure => first | (simp [intOf]; done) | (simp [intOf]; omega)
    · have hk0 : k' = 0 := by omega
      subst hk0
      have z1 : decide ((0 : Int) ≤ z) = false := decide_eq_false hz0
      have q4 := EA.q4
      have q9 := EA.q9
      have RM := EA.rm
      rw [mid_zero] at RM
      have a0 := cell_of q4 0 _ rfl
      have a1 := cell_of q4 1 _ rfl
      have a2 := cell_of q4 2 _ rfl
      have f4 : ∀ o, wr.frozen? ⟨w.heap.size, o, none⟩ = false := fun o => by simp [World.frozen?, q4]
      have f9 : ∀ o, wr.frozen? ⟨w9_, o, none⟩ = false := fun o => by simp [World.frozen?, q9]
      have HDW : ∀ b, dw X p' b → dw X p b ∨ w.heap.size ≤ b := fun b hb => by
        rcases hb with e | e | e | e | e | ⟨t', ht', e⟩
        · exact .inl (.inl e)
        · exact .inl (.inr (.inl e))
        · exact .inl (.inr (.inr (.inl e)))
        · exact .inl (.inr (.inr (.inr (.inl e))))
        · rw [EA.po] at e
          exact .inl (.inr (.inr (.inr (.inr (.inl e)))))
        · rcases EA.ps t' ht' with c | c
          · exact .inl (.inr (.inr (.inr (.inr (.inr ⟨t', c, e⟩)))))
          · exact .inr (c b e)
      have EX := exit_head X.FF hp hl lx
      rw [if_neg (by rw [ld]; decide)] at EX
      obtain ⟨fq, hfq⟩ : ∃ f, fnV X.FF (s : Int) m.O = f := ⟨_, rfl⟩
      have sa := EA.sa
      rw [List.drop_zero, hfq] at q9 sa
      rw [List.drop_zero, hfq]
      have c90 := cell_of q9 0 _ rfl
      have c91 := cell_of q9 1 _ rfl
      have c92 := cell_of q9 2 _ rfl
      have n49 : w.heap.size ≠ w9_ := Nat.ne_of_lt l9
      have n94 : w9_ ≠ w.heap.size := fun e => n49 e.symm
      obtain ⟨hh0, hhh⟩ : ∃ z, fq.held = z := ⟨_, rfl⟩
      rw [hhh]
      cases hh0 with
      | true =>
        have KK := Lib.hid (show exitV X.FF m t = (⟨25, (fq.n : Int), fq.said⟩, ⟨m.F, m.O.map (fin1 X.FF (s : Int)), m.A, m.T⟩) by
          rw [EX]
          unfold lastV
          rw [if_pos (show finHeld X.FF (s : Int) m.O = true by rw [show finHeld X.FF (s : Int) m.O = (fnV X.FF (s : Int) m.O).held from rfl, hfq, hhh]), lh]
          rw [show ((todoL X.FF (s : Int) m.O).length : Int) = ((fnV X.FF (s : Int) m.O).n : Int) from rfl, show finSaid X.FF (s : Int) m.O = (fnV X.FF (s : Int) m.O).said from rfl, hfq])
        have k1 : Only [w9_] wr (wr.setCell ⟨w9_, 0, none⟩ (.int .i64 25)) := Only.put _ _ _ _ (by simp)
        have q4' := (k1.block _ (heap_lt q4) (by simp; exact n49)).trans q4
        have r1 := (RM.local (isT.of q9) (by decide) k1).ans ⟨_, q4'⟩ (.int .i64 25) (.int .i64 (fq.n : Int)) (sl3 sd)
        have sa1 := own_local sa q9 (by decide) k1
        have sa2 := own_local sa1 q4' (by decide) (put3 (.int .i64 25) (.int .i64 (fq.n : Int)) (sl3 sd))
        have ON := only_new (only_new EA.on k1 (fun x hx => by rw [List.mem_singleton.1 hx]; exact .inr (Nat.le_of_lt l9))) (put3 (.int .i64 25) (.int .i64 (fq.n : Int)) (sl3 sd)) (fun x hx => by rw [List.mem_singleton.1 hx]; exact .inr (Nat.le_refl _))
        have SB := EA.sb
        clear EX EA hhh hfq lh lx ld RM sa sa1 q9 q4 hp hl
        as_aux_lemma =>
          go_wp2
          refine bodyPost_ret (v := .agg #[.int .i64 25, .int .i64 (fq.n : Int), sl3 sd]) (by simp [results, Tryz.results71, go_sem, a0, a1, a2]) rfl ?_
          rw [KK.out]
          exact ⟨sd, rfl, sa2, SB, p', r1, ⟨_, fun b hb => .inr (.inr (.inr (.inr (.inl (Option.mem_toList.1 hb))))), ON⟩, HDW⟩
      | false =>
        obtain ⟨F2, hF2⟩ : ∃ F, (turnV (turnV m.F (s : Int) leF).F (s : Int) opF).F = F := ⟨_, rfl⟩
        have KK := Lib.hid (show exitV X.FF m t = (⟨0, (fq.n : Int), fq.said⟩, Mo.setEnt ⟨F2, m.O.filter (fun o => !decide (o.s = (s : Int))), m.A.set s ar0, m.T⟩ t (m.ents t).dropLast) by
          rw [EX]
          unfold lastV
          rw [if_neg (show ¬ finHeld X.FF (s : Int) m.O = true by rw [show finHeld X.FF (s : Int) m.O = (fnV X.FF (s : Int) m.O).held from rfl, hfq, hhh]; decide), hF2, Int.toNat_natCast]
          rw [show ((todoL X.FF (s : Int) m.O).length : Int) = ((fnV X.FF (s : Int) m.O).n : Int) from rfl, show finSaid X.FF (s : Int) m.O = (fnV X.FF (s : Int) m.O).said from rfl, hfq])
        have LF := left_fin (FF := X.FF) (s := (s : Int)) m.O
        obtain ⟨OO, hOO⟩ : ∃ OO, m.O.map (fin1 X.FF (s : Int)) = OO := ⟨_, rfl⟩
        rw [hOO] at RM LF
        have hOl : OO.length = N := by rw [← hOO, List.length_map, HN.out]
        have SB := EA.sb
        have LFH := Lib.hid LF
        have HF2 := Lib.hid hF2
        have HLX := Lib.hid lx
        have en := EA.en
        have Von := EA.on
        have hpl : p'.s.length = OO.length := RM.ln
        have HPS := EA.ps
        have HPC := Lib.hid EA.pc
        clear EX EA hhh hfq lh lx ld hp hl LF hOO hF2 a0 a1 a2 f4 f9 c90 c91 c92
        generalize wr = V at *
        obtain ⟨Wb, hWb⟩ : ∃ Wb : World, Wb = V.alloc (.cells #[] 107) := ⟨_, rfl⟩
        have kb := below_one V (.cells #[] 107)
        have o0 : Slic.Own kO (V.alloc (.cells #[] 107)) V.heap.size (.slice (some ⟨V.heap.size, 0, none⟩) 0 0) [] := Slic.Own.empty V V.heap.size (Nat.le_refl _)
        rw [← hWb] at kb o0
        have OMl : OO.length ≤ 10000 := by omega
        go_upto_region 26 with (fail)
        rw [← hWb]
        clear hWb
        go_loopw [18, 19] (fun lv iv w2 => ∃ (i : Nat) (y : Tri), i ≤ OO.length ∧ iv = .int .i64 i ∧ lv = sl3 y ∧ Slic.Own kO w2 V.heap.size (sl3 y) (((OO.zip p'.s).take i).filter (fun x => !decide (x.1.s = (s : Int)))) ∧ Below V.heap.size V w2) (fun _ iv _ => OO.length - (intOf iv).toNat)
        case atStart => exact ⟨0, (some ⟨V.heap.size, 0, none⟩, 0, 0), Nat.zero_le _, rfl, rfl, o0, kb⟩
        case round =>
          obtain ⟨i, y, hi, rfl, rfl, OY, k2⟩ := hrel
          have rm := RM.keep k2
          obtain ⟨Ao, co, eo⟩ := rm.len
          have c6 := rm.c6
          rw [eo] at c6
          replace c6 : wr.cell? ⟨X.D, 6, none⟩ = some (.slice Ao OO.length co) := c6
          have zl : (OO.zip p'.s).length = OO.length := by rw [List.length_zip]; omega
          by_cases hlt : i < OO.length
          · obtain ⟨o, ho⟩ : ∃ o, OO[i]? = some o := ⟨_, List.getElem?_eq_getElem hlt⟩
            obtain ⟨g, c, ⟨tA, tn, tc⟩, ep, hp', lg, o0, o1, o2, o3, o4, fg⟩ := rm.objAt ho
            replace o3 : wr.cell? ⟨g, i * 5 + 3, none⟩ = some (.slice tA tn tc) := o3
            have e7 : Value.slice Ao OO.length co = .slice (some ⟨g, 0, none⟩) OO.length c := by rw [← eo]; show sl3 p'.o = _; rw [ep]
            rw [e7] at c6
            have hz : (OO.zip p'.s)[i]? = some (o, (tA, tn, tc)) := by rw [List.getElem?_zip_eq_some]; exact ⟨ho, hp'⟩
            have TK := take_keep (P := fun x : Ob × Tri => !decide (x.1.s = (s : Int))) hz
            have i1 : (i : Int) < (OO.length : Int) := by omega
            have i0 : (0 : Int) ≤ (i : Int) := by omega
            have z1 : decide ((i : Int) < (OO.length : Int)) = true := decide_eq_true i1
            have wi : IntKind.i64.wrap ((i : Int) + 1) = (i : Int) + 1 := IntWalk.i64_in _ (by omega)
            by_cases es : o.s = (s : Int)
            · have zz : (o.s != (s : Int)) = false := by simpa using es
              rw [if_neg (by dsimp only; rw [decide_eq_true es]; decide), List.append_nil] at TK
              rw [← TK] at OY
              have OYH := Lib.hid OY
              clear es eo e7 ep TK OY hz
              as_aux_lemma =>
                go_wp2
                go_roundw
                case rel => exact ⟨i + 1, y, by omega, by go_num, rfl, OYH.out, k2⟩
                case measure => simp [intOf]; omega
            · have zz : (o.s != (s : Int)) = true := by simpa using es
              rw [if_pos (by dsimp only; rw [decide_eq_false es]; rfl)] at TK
              have k3 := below_one wr (.cells #[.int .i64 o.s, .int .i64 o.a, .int .i64 o.tag, .slice tA tn tc, .bool o.d] 107)
              have OY3 := OY.below k3
              have SR3 := one_obD wr o (tA, tn, tc) wr.heap.size rfl
              have YL : (((OO.zip p'.s).take i).filter (fun x => !decide (x.1.s = (s : Int)))).length + 1 ≤ 1000000 := by
                have := List.length_filter_le (fun x : Ob × Tri => !decide (x.1.s = (s : Int))) ((OO.zip p'.s).take i)
                rw [List.length_take] at this
                omega
              have TKH := Lib.hid TK
              have k23 := k2.trans (k3.mono k2.size)
              clear es eo e7 ep TK hz zl hpl hOl
              go_upto_region 29 with (fail)
              go_wp2_with (at_builtin; refine wpList_app3 (K := kO) (v := sl3 y) (y := .slice (some ⟨wr.heap.size, 0, none⟩) 1 1) rfl (.tmp 156) (.tmp 164) rfl rfl rfl rfl OY3 SR3 (by have := YL; simp only [List.length_cons, List.length_nil]; omega) (by rw [World.size_alloc]; have := k2.size; omega) ?_; intro v7 w7 O7 g7 r7; obtain ⟨y7, rfl⟩ := own_tri O7)
              go_roundw
              case rel => exact ⟨i + 1, y7, by omega, by go_num, rfl, by rw [TKH.out]; exact O7, grown_own (base := V.heap.size) k23 OY3 g7 (Nat.le_refl _) (by rw [World.size_alloc]; have := k2.size; omega)⟩
              case measure => simp [intOf]; omega
          · have z1 : decide ((i : Int) < (OO.length : Int)) = false := decide_eq_false (by omega)
            have z2 : ¬ (i : Int) < (OO.length : Int) := by omega
            have OZ : Slic.Own kO wr 0 (sl3 y) ((OO.zip p'.s).filter (fun x => !decide (x.1.s = (s : Int)))) := by
              rw [List.take_of_length_le (by omega)] at OY
              exact OY.zero (Nat.zero_le _)
            have hpl' := hpl.symm
            have q42 := (k2.block _ (heap_lt q4)).trans q4
            have q92 := (k2.block _ (heap_lt q9)).trans q9
            have sa2 := sa.below k2
            have en2 := en.below k2
            have on2 : Only ((Mod.ob p.o).toList ++ [X.P.gc, X.D]) w wr := only_new ⟨Von.os, Von.tape, Von.output, Von.size, fun i hi hn => Von.block i hi fun hh => hn (List.mem_append.2 (.inl hh))⟩ (Only.below (X := []) k2) (fun x hx => absurd hx List.not_mem_nil)
            have s8 : s < 8 := by omega
            have si8 : (s : Int) < 8 := by omega
            have hA_ := rm.left OZ
            rw [zip_keep (P := fun o : Ob => !decide (o.s = (s : Int))) OO p'.s hpl', LFH.out] at hA_
            have hB_ := hA_.putGate (s := s) (show s < m.A.length by omega) (show m.A.length ≤ 8 by omega) 0
            have hC_ := hB_.putUse (s := s) (show s < (m.A.set s _).length by rw [List.length_set]; omega) (show (m.A.set s _).length ≤ 8 by rw [List.length_set]; omega) 0
            have EA0 : (((⟨m.F, m.O.filter (fun o => !decide (o.s = (s : Int))), m.A.set s ⟨0, ((⟨m.F, m.O.filter (fun o => !decide (o.s = (s : Int))), m.A, m.T⟩ : Mo).ar (s : Int)).u⟩, m.T⟩ : Mo).ar (s : Int)).g) = 0 := by
              show ((m.A.set s _).getD (s : Int).toNat ar0).g = 0
              rw [Int.toNat_natCast, ar_set (by omega), if_pos rfl]
            rw [EA0] at hC_
            have AE : (m.A.set s ⟨0, ((⟨m.F, m.O.filter (fun o => !decide (o.s = (s : Int))), m.A, m.T⟩ : Mo).ar (s : Int)).u⟩).set s ⟨0, 0⟩ = m.A.set s ar0 := by rw [List.set_set]; rfl
            dsimp only at hC_
            rw [AE] at hC_
            have cg := rm.gate s8
            have cu := rm.byte s8
            have fr := rm.hd.frozen
            obtain ⟨W32, hW32⟩ : ∃ W32 : World, W32 = ((wr.setCell ⟨X.D, 6, none⟩ (sl3 y)).setCell ⟨X.D, 7 + s, none⟩ (.int .u64 0)).setCell ⟨X.D, 15 + s, none⟩ (.int .i64 0) := ⟨_, rfl⟩
            rw [← hW32] at hC_
            have k32 : Only [X.D] wr W32 := by rw [hW32]; exact ((Only.put wr _ _ _ (by simp)).trans (Only.put _ _ _ _ (by simp))).trans (Only.put _ _ _ _ (by simp))
            have tD := rm.tD
            have q43 := (k32.block _ (heap_lt q42) (by simp; exact (isT.of q42).ne tD (by decide))).trans q42
            have q93 := (k32.block _ (heap_lt q92) (by simp; exact (isT.of q92).ne tD (by decide))).trans q92
            have sa3 := own_types sa2 k32 (fun x hx => by rw [List.mem_singleton.1 hx]; exact tD.no (by decide))
            have en3 := own_types en2 k32 (fun x hx => by rw [List.mem_singleton.1 hx]; exact tD.no (by decide))
            have on3 : Only ((Mod.ob p.o).toList ++ [X.P.gc, X.D]) w W32 := only_new on2 k32 (fun x hx => .inl (by rw [List.mem_singleton.1 hx]; simp))
            have c5 := hC_.c5
            have LV := hC_.leave (s : Int)
            go_upto_region 33 with (fail)
            rw [← hW32]
            clear hW32 cg cu fr
            go_wp2_with fail
            refine LV.mono ?_
            rintro z4 w33 ⟨rfl, h33, k33⟩
            have tc := hC_.rs.tc
            have q44 := (k33.block _ (heap_lt q43) (by simp; exact (isT.of q43).ne tc (by decide))).trans q43
            have q94 := (k33.block _ (heap_lt q93) (by simp; exact (isT.of q93).ne tc (by decide))).trans q93
            have sa4 := own_types sa3 k33 (fun x hx => by rw [List.mem_singleton.1 hx]; exact tc.no (by decide))
            have en4 := own_types en3 k33 (fun x hx => by rw [List.mem_singleton.1 hx]; exact tc.no (by decide))
            have on4 : Only ((Mod.ob p.o).toList ++ [X.P.gc, X.D]) w w33 := only_new on3 k33 (fun x hx => .inl (by rw [List.mem_singleton.1 hx]; simp))
            have c5b := h33.c5
            have OPN := h33.opens (s : Int)
            dsimp only at OPN
            rw [HF2.out] at OPN
            clear c5
            go_wp2_with fail
            refine OPN.mono ?_
            rintro z5 w34 ⟨rfl, h34, k34⟩
            have tc4 := h33.rs.tc
            have q45 := (k34.block _ (heap_lt q44) (by simp; exact (isT.of q44).ne tc4 (by decide))).trans q44
            have q95 := (k34.block _ (heap_lt q94) (by simp; exact (isT.of q94).ne tc4 (by decide))).trans q94
            have sa5 := own_types sa4 k34 (fun x hx => by rw [List.mem_singleton.1 hx]; exact tc4.no (by decide))
            have en5 := own_types en4 k34 (fun x hx => by rw [List.mem_singleton.1 hx]; exact tc4.no (by decide))
            have on5 : Only ((Mod.ob p.o).toList ++ [X.P.gc, X.D]) w w34 := only_new on4 k34 (fun x hx => .inl (by rw [List.mem_singleton.1 hx]; simp))
            have cr := h34.entC t4
            have fr := h34.hd.frozen
            obtain ⟨W35, hW35⟩ : ∃ W35 : World, W35 = w34.setCell ⟨X.D, 39 + t, none⟩ (sl3 yt) := ⟨_, rfl⟩
            have h35 := h34.putC (t := t) (show t < m.T.length by omega) (show m.T.length ≤ 4 by omega) yt en5
            rw [← hW35] at h35
            have k35 : Only [X.D] w34 W35 := by rw [hW35]; exact Only.put w34 _ _ _ (by simp)
            have tD4 := h34.tD
            have q46 := (k35.block _ (heap_lt q45) (by simp; exact (isT.of q45).ne tD4 (by decide))).trans q45
            have q96 := (k35.block _ (heap_lt q95) (by simp; exact (isT.of q95).ne tD4 (by decide))).trans q95
            have sa6 := own_types sa5 k35 (fun x hx => by rw [List.mem_singleton.1 hx]; exact tD4.no (by decide))
            have on6 : Only ((Mod.ob p.o).toList ++ [X.P.gc, X.D]) w W35 := only_new on5 k35 (fun x hx => .inl (by rw [List.mem_singleton.1 hx]; simp))
            have a0 := cell_of q46 0 _ rfl
            have a1 := cell_of q46 1 _ rfl
            have a2 := cell_of q46 2 _ rfl
            have b0 := cell_of q96 0 _ rfl
            have b1 := cell_of q96 1 _ rfl
            have b2 := cell_of q96 2 _ rfl
            have fz : ∀ o, W35.frozen? ⟨w.heap.size, o, none⟩ = false := fun o => by simp [World.frozen?, q46]
            have h36 := h35.ans ⟨_, q46⟩ (.int .i64 0) (.int .i64 (fq.n : Int)) (sl3 sd)
            have sa7 := own_local sa6 q46 (by decide) (put3 (.int .i64 0) (.int .i64 (fq.n : Int)) (sl3 sd))
            have on7 := only_new on6 (put3 (.int .i64 0) (.int .i64 (fq.n : Int)) (sl3 sd)) (fun x hx => by rw [List.mem_singleton.1 hx]; exact .inr (Nat.le_refl _))
            have HD2 : ∀ b, dw X ⟨y, fun j => if j = t then yt else p'.c j, ((OO.zip p'.s).filter (fun x => !decide (x.1.s = (s : Int)))).map (·.2), p'.Y⟩ b → dw X p b ∨ w.heap.size ≤ b := fun b hb => by
              rcases hb with e | e | e | e | e | ⟨t', ht', e⟩
              · exact .inl (.inl e)
              · exact .inl (.inr (.inl e))
              · exact .inl (.inr (.inr (.inl e)))
              · exact .inl (.inr (.inr (.inr (.inl e))))
              · right
                have v1 := (OY.lt b e).1
                have v2 := Von.size
                omega
              · obtain ⟨zz, hz1, rfl⟩ := List.mem_map.1 ht'
                have hz2 := (List.mem_filter.1 hz1).1
                have hz3 : zz.2 ∈ p'.s := (List.of_mem_zip (a := zz.1) (b := zz.2) hz2).2
                rcases HPS zz.2 hz3 with c | c
                · exact .inl (.inr (.inr (.inr (.inr (.inr ⟨zz.2, c, e⟩)))))
                · exact .inr (c b e)
            have NWD : w9_ ≠ X.D := (isT.of q96).ne h35.tD (by decide)
            go_upto_region 36 with (fail)
            rw [← hW35]
            clear hW35 cr fr
            go_wp2
            refine bodyPost_ret (v := .agg #[.int .i64 0, .int .i64 (fq.n : Int), sl3 sd]) (by simp [results, Tryz.results71, go_sem, a0, a1, a2]) rfl ?_
            rw [KK.out]
            exact ⟨sd, rfl, sa7, SB, _, h36, ⟨_, fun b hb => by
              rcases List.mem_append.1 hb with hb | hb
              · exact .inr (.inr (.inr (.inr (.inl (Option.mem_toList.1 hb)))))
              · rcases List.mem_cons.1 hb with e | e
                · exact .inr (.inl e)
                · exact .inl (List.mem_singleton.1 e), on7⟩, HD2⟩
end
end Go.Proofs.YtbpmnjmegffllaaGreat.Mod
