/-
  Contracts of package model: room, alloc.
-/
import Derived.Test.YtneggppfffekdaaGreatCoE
namespace Go.Proofs.YtneggppfffekdaaGreat.Mod
open Go.ChangeShapes Go.WideShapes Go.ChangeAt Go.RowKit
open Slic Sco
set_option linter.unusedVariables false
set_option linter.unusedSimpArgs false
set_option maxRecDepth 8000
attribute [local go_sem ↓] Go.wp_at_zero Go.wp_at_succ
section
variable {w0 w w' : World} {Z : Fx} {m : Mo} {bx : Bx} {k : Nat}
theorem ar_of {i : Int} {a : Ar} (h : m.A[i.toNat]? = some a) : m.ar i = a := by
  unfold Mo.ar
  rw [List.getD_eq_getElem?_getD, h]
  rfl
theorem seeC_of {R : List Cx} {i : Int} {x : Cx} (h0 : 0 ≤ i) (h : R[i.toNat]? = some x) : seeC R i = ⟨x.s, x.c, x.p, x.e, 0⟩ := by
  unfold seeC
  rw [if_pos h0, h]
theorem seeX_of {R : List Cx} {i : Int} {x : Cx} (h0 : 0 ≤ i) (h : R[i.toNat]? = some x) : seeX R i = (x.a, x.z, 0) := by
  unfold seeX
  rw [if_pos h0, h]
/-- Where an object of so many bytes would stand: its Ref. -/
def roomR (m : Mo) (i z : Int) : Int × Int × Int := if roomX m i z = 0 then (i, (seeC m.F.R i).e, roomA m i) else (0, 0, 0)
set_option maxHeartbeats 2000000 in
theorem room_any (h : Mw w0 w Z m bx) (n8 : Z.n ≤ 8) (i z : Int) (h0 : 0 ≤ i) (hi : i < (Z.n : Int)) {x : Cx} (hx : m.F.R[i.toNat]? = some x) (u1 : 0 ≤ (m.ar i).u) (u2 : (m.ar i).u ≤ 100000) (z1 : 0 ≤ z) (z2 : z ≤ 100000) (a1 : 0 ≤ x.a) (a2 : x.a ≤ 100000) :
    Calls Tryz.prog 128 #[ptr Z.B, .int .i64 i, .int .i64 z] w fun e w' => e = .returned (.tuple #[.agg #[.int .i64 (roomR m i z).1, .int .i64 (roomR m i z).2.1, .int .i64 (roomR m i z).2.2], .int .i64 (roomX m i z)]) ∧ Below w.heap.size w w' := by
  obtain ⟨H, h⟩ := h
  have h1 := h.new #[.int .i64 0, .int .i64 0, .int .i64 0] 95
  have SC := Lib.hid (seeC_of h0 hx)
  have SX := Lib.hid (seeX_of h0 hx)
  have wu : IntKind.i64.wrap ((m.ar i).u + z) = (m.ar i).u + z := IntWalk.i64_in _ (by omega)
  have wa : IntKind.i64.wrap (x.a + (m.ar i).u) = x.a + (m.ar i).u := IntWalk.i64_in _ (by omega)
  by_cases hr : (m.ar i).u + z > x.z
  · have HV := Lib.hid (show roomX m i z = 17 by unfold roomX; rw [SX.out]; exact if_pos hr)
    have HR := Lib.hid (show roomR m i z = (0, 0, 0) by unfold roomR; rw [HV.out]; rfl)
    have dz : decide (x.z < (m.ar i).u + z) = true := decide_eq_true hr
    go_enter Tryz.func128, Tryz.ntmps128
    go_wp2_with fail
    refine (ctl_any (h1.mw.sc) n8 i).mono ?_
    rintro e w2 ⟨rfl, k2⟩
    delta tellR
    rw [SC.out]
    have h2 := h1.call k2
    have n2 := h2.new #[.int .i64 x.s, .int .i64 x.c, .int .i64 x.p, .int .i64 x.e] 64
    have b2 := (below_one w (.cells #[.int .i64 0, .int .i64 0, .int .i64 0] 95)).trans (k2.mono (by simp))
    go_wp2_with fail
    refine (ext_any (n2.mw.sc) n8 i).mono ?_
    rintro e w3 ⟨rfl, k3⟩
    delta tellX
    rw [SX.out]
    have h3 := n2.call k3
    have n3 := h3.new #[.int .i64 x.a, .int .i64 x.z] 109
    have b3 := (b2.alloc b2.size _).trans (k3.mono (by have := b2.size; simp; omega))
    obtain ⟨_, _, mc, _⟩ := n3.mw.cells
    obtain ⟨⟨_, uc⟩, _, _⟩ := n3.mw.are h0 hi
    obtain ⟨xc, _⟩ := n3.mw.cell 0 rfl
    have xc0 := xc 0 _ rfl
    have xc1 := xc 1 _ rfl
    obtain ⟨ec, _⟩ := n3.mw.cell 1 rfl
    have ec3 := ec 3 _ rfl
    obtain ⟨rc, rf⟩ := n3.mw.cell 2 rfl
    have rc0 := rc 0 _ rfl
    have rc1 := rc 1 _ rfl
    have rc2 := rc 2 _ rfl
    have rf0 := rf 0
    have rf1 := rf 1
    have rf2 := rf 2
    clear xc ec rc rf
    have b4 := b3.alloc b3.size (.cells #[.int .i64 x.a, .int .i64 x.z] 109)
    go_wp2
    refine bodyPost_ret (v := .tuple #[.agg #[.int .i64 0, .int .i64 0, .int .i64 0], .int .i64 17]) (by simp [results, Tryz.results128, go_sem, rc0, rc1, rc2]) rfl ⟨by rw [HV.out, HR.out], ?_⟩
    exact ((b4.setCell (Nat.le_refl _) _).setCell (Nat.le_refl _) _).setCell (Nat.le_refl _) _
  · have HV := Lib.hid (show roomX m i z = 0 by unfold roomX; rw [SX.out]; exact if_neg hr)
    have HR := Lib.hid (show roomR m i z = (i, x.e, x.a + (m.ar i).u) by unfold roomR roomA; rw [HV.out, SX.out, SC.out]; rfl)
    have dz : decide (x.z < (m.ar i).u + z) = false := decide_eq_false hr
    go_enter Tryz.func128, Tryz.ntmps128
    go_wp2_with fail
    refine (ctl_any (h1.mw.sc) n8 i).mono ?_
    rintro e w2 ⟨rfl, k2⟩
    delta tellR
    rw [SC.out]
    have h2 := h1.call k2
    have n2 := h2.new #[.int .i64 x.s, .int .i64 x.c, .int .i64 x.p, .int .i64 x.e] 64
    have b2 := (below_one w (.cells #[.int .i64 0, .int .i64 0, .int .i64 0] 95)).trans (k2.mono (by simp))
    go_wp2_with fail
    refine (ext_any (n2.mw.sc) n8 i).mono ?_
    rintro e w3 ⟨rfl, k3⟩
    delta tellX
    rw [SX.out]
    have h3 := n2.call k3
    have n3 := h3.new #[.int .i64 x.a, .int .i64 x.z] 109
    have b3 := (b2.alloc b2.size _).trans (k3.mono (by have := b2.size; simp; omega))
    obtain ⟨_, _, mc, _⟩ := n3.mw.cells
    obtain ⟨⟨_, uc⟩, _, _⟩ := n3.mw.are h0 hi
    obtain ⟨xc, _⟩ := n3.mw.cell 0 rfl
    have xc0 := xc 0 _ rfl
    have xc1 := xc 1 _ rfl
    obtain ⟨ec, _⟩ := n3.mw.cell 1 rfl
    have ec3 := ec 3 _ rfl
    obtain ⟨rc, rf⟩ := n3.mw.cell 2 rfl
    have rc0 := rc 0 _ rfl
    have rc1 := rc 1 _ rfl
    have rc2 := rc 2 _ rfl
    have rf0 := rf 0
    have rf1 := rf 1
    have rf2 := rf 2
    clear xc ec rc rf
    have b4 := b3.alloc b3.size (.cells #[.int .i64 x.a, .int .i64 x.z] 109)
    go_wp2
    refine bodyPost_ret (v := .tuple #[.agg #[.int .i64 i, .int .i64 x.e, .int .i64 (x.a + (m.ar i).u)], .int .i64 0]) (by simp [results, Tryz.results128, go_sem, rc0, rc1, rc2]) rfl ⟨by rw [HV.out, HR.out], ?_⟩
    exact ((b4.setCell (Nat.le_refl _) _).setCell (Nat.le_refl _) _).setCell (Nat.le_refl _) _
theorem Mh.dcells {H : Hp} {G : Gs} (h : Mh w0 w Z H G bx) {t : Nat} {c : Ca} {b : Nat} (i : Nat) (e : bx[i]? = some (b, .cells (doA Z t c) doT (0, 0))) :
    w.cell? ⟨b, 0, none⟩ = some (.pointer (some ⟨Z.B, 0, none⟩)) ∧ w.cell? ⟨b, 1, none⟩ = some (.pointer (some ⟨Z.bt, t * 5, none⟩)) ∧ w.cell? ⟨b, 2, none⟩ = some (.int .u8 c.op) ∧ w.cell? ⟨b, 3, none⟩ = some (.int .u8 c.r) ∧ w.cell? ⟨b, 4, none⟩ = some (.int .u8 c.h) ∧
    w.cell? ⟨b, 5, none⟩ = some (.int .u8 c.v) ∧ w.cell? ⟨b, 6, none⟩ = some (.int .i64 c.a) ∧ w.cell? ⟨b, 7, none⟩ = some (.int .i64 c.b) ∧ w.cell? ⟨b, 8, none⟩ = some (.int .i64 c.c) := by
  have A := h.at i e
  exact ⟨cell_of A 0 _ rfl, cell_of A 1 _ rfl, cell_of A 2 _ rfl, cell_of A 3 _ rfl, cell_of A 4 _ rfl, cell_of A 5 _ rfl, cell_of A 6 _ rfl, cell_of A 7 _ rfl, cell_of A 8 _ rfl⟩
/-- An area's cells, and its row of handles. -/
theorem Mh.acells {H : Hp} {G : Gs} (h : Mh w0 w Z H G bx) {s : Nat} {a : Ar} (ha : G.A[s]? = some a) : ∃ y : Tri, H.am[s]? = some y ∧ w.cell? ⟨Z.ba, s * 3, none⟩ = some (.int .u64 a.g) ∧ w.cell? ⟨Z.ba, s * 3 + 1, none⟩ = some (.int .i64 a.u) ∧ w.cell? ⟨Z.ba, s * 3 + 2, none⟩ = some (sl3 y) ∧ (∀ o, w.frozen? ⟨Z.ba, o, none⟩ = false) ∧ Own Fina.kU w 0 (sl3 y) (G.hh s) := by
  obtain ⟨y, hy⟩ := get_zip ha (by rw [h.md.aml, h.md.nA])
  obtain ⟨c, f⟩ := own_at h.md.ars s (zip_get ha hy)
  exact ⟨y, hy, c 0 _ rfl, c 1 _ rfl, c 2 _ rfl, f, h.md.hnd s y hy⟩
theorem Mh.ba_only {H : Hp} {G : Gs} (h : Mh w0 w Z H G bx) {s : Nat} {y : Tri} (hy : H.am[s]? = some y) {w1 : World} (k : w.grownBy w1 (ob y)) (o : Nat) : w1.cell? ⟨Z.ba, o, none⟩ = w.cell? ⟨Z.ba, o, none⟩ ∧ w1.frozen? ⟨Z.ba, o, none⟩ = w.frozen? ⟨Z.ba, o, none⟩ := by
  have ne : some Z.ba ≠ ob y := fun e => (h.md.ta.no (show (138 == 50) = false by decide)).ne (own_isT (h.md.hnd s y hy) e.symm) rfl
  exact ⟨cell_only k h.md.ta.lt ne o, frozen_only k h.md.ta.lt ne o⟩
theorem set_at {α : Type} {A : List α} {i : Nat} {a b : α} (h : A[i]? = some a) : (A.set i b)[i]? = some b := by
  rw [List.getElem?_set, if_pos rfl, if_pos (List.getElem?_eq_some_iff.1 h).1]
theorem blk_none : ∀ (O : List Ob) (M : List (Nat × Tri)) (x : Int), (∀ o ∈ O, o.h ≠ x) → blk O M x = none
  | [], M, x, _ => by cases M <;> rfl
  | o :: O, [], x, _ => rfl
  | o :: O, p :: M, x, h => by
    unfold blk
    rw [if_neg (h o (List.mem_cons_self ..)), blk_none O M x fun q hq => h q (List.mem_cons_of_mem _ hq)]
theorem flat_zero (n : Nat) : Fina.kU.flat (List.replicate n (0 : Int)) = List.replicate n (.int .u64 0) := by
  induction n with
  | zero => rfl
  | succ n ih =>
    rw [List.replicate_succ, List.replicate_succ, ← ih]
    rfl
/-- A row of words that is made. -/
theorem made_own (W : World) (n : Nat) (hn : n ≤ 1000) : Own Fina.kU (W.alloc (.cells (madeCells #[.int .u64 0] n) 50)) 0 (sl3 (some ⟨W.heap.size, 0, none⟩, n, n)) (List.replicate n 0) :=
  Own.lit W 0 (Nat.zero_le _) _ _ (by rw [toList_madeCells_one]; exact (flat_zero n).symm) (by rw [List.length_replicate]; unfold maxLen; omega) n (by rw [List.length_replicate])
theorem blk_app : ∀ (O : List Ob) (M : List (Nat × Tri)) (o : Ob) (p : Nat × Tri) (x : Int), M.length = O.length → (∀ q ∈ O, q.h ≠ o.h) → blk (O ++ [o]) (M ++ [p]) x = if x = o.h then some p.1 else blk O M x
  | [], [], o, p, x, _, _ => by
    show (if o.h = x then some p.1 else none) = if x = o.h then some p.1 else none
    by_cases e : o.h = x
    · rw [if_pos e, if_pos e.symm]
    · rw [if_neg e, if_neg (fun q => e q.symm)]
  | [], q :: M, o, p, x, h, _ => by simp at h
  | q :: O, [], o, p, x, h, _ => by simp at h
  | q :: O, r :: M, o, p, x, h, hd => by
    have ih := blk_app O M o p x (by simpa using h) (fun q hq => hd q (List.mem_cons_of_mem _ hq))
    show (if q.h = x then some r.1 else blk (O ++ [o]) (M ++ [p]) x) = if x = o.h then some p.1 else if q.h = x then some r.1 else blk O M x
    rw [ih]
    by_cases e : q.h = x
    · rw [if_pos e, if_pos e, if_neg (fun c => hd q (List.mem_cons_self ..) (e.trans c))]
    · rw [if_neg e, if_neg e]
theorem hs_app (s : Nat) (O : List Ob) (o : Ob) : hs s (O ++ [o]) = if o.s = (s : Int) then hs s O ++ [o.h] else hs s O := by
  unfold hs
  rw [List.filter_append, List.map_append]
  by_cases e : o.s = (s : Int)
  · rw [if_pos e]
    simp [e]
  · rw [if_neg e]
    simp [e]
/-- append, and which block its row has. -/
theorem wpList_app3 {α : Type} {K : Kd α} {w : World} {ops : Array Oper} {rest : List Oper} {o : Oper} {a : Act} {Q : Exit → Act → World → Prop} (hgd : o.guard = none) (s x : Operand)
    (ho : o.op = .call { callee := .builtin .append, args := #[s, x], argTypes := #[K.X, K.X] }) (hty : o.type = K.X) {v y : Value} {L M : List α} {base : Nat}
    (hs : a.eval s = v) (hx : a.eval x = y) (h : Own K w base v L) (hy : Sr K w y M) (hl : L.length + M.length ≤ 1000000) (hb : base ≤ w.heap.size)
    (hK : ∀ v' w', Own K w' base v' (L ++ M) → w.grownBy w' v.ownBlock → (v'.ownBlock = v.ownBlock ∨ v'.ownBlock = some w.heap.size) → wpList Tryz.prog ops Q rest (a.put o.dst v') w') : wpList Tryz.prog ops Q (o :: rest) a w := by
  obtain ⟨v', w', hrun, r1, r2, r3⟩ := app_own w h hy hl hb
  refine wpList_plain hgd fun J hJ => ?_
  unfold Oper.wp
  simp [execOp, ho, resolve, invoke, builtin, hs, hx, hty, hrun, Result.andThen]
  exact hJ _ _ (hK v' w' r1 r2 r3)
theorem Mh.newob {H : Hp} {G : Gs} (h : Mh w0 w Z H G bx) (k : Below w.heap.size w w') (o : Ob) (b : Nat) (x : Tri) (hb : w.heap.size ≤ b) (ho : w'.heap[b]? = some (.cells (obV o x).toArray 142 (0, 0))) (hx : Own Fina.kU w' 0 (sl3 x) o.sl) (hq : ∀ q, ob x = some q → w.heap.size ≤ q) :
    Mh w0 w' Z ⟨H.tm, H.am, H.om ++ [(b, x)]⟩ ⟨G.F, G.A, G.T, G.O ++ [o], G.f, G.hh, G.c⟩ bx := by
  refine h.step (X := []) (Only.below k) (fun x hx => absurd hx List.not_mem_nil) (h.md.newob k o b x hb ho hx hq) fun c hc => ?_
  rcases hc with e | e | e | e | e | e | ⟨p, hp, e⟩
  · exact .inl (.inl e)
  · exact .inl (.inr (.inl e))
  · exact .inl (.inr (.inr (.inl e)))
  · exact .inl (.inr (.inr (.inr (.inl e))))
  · exact .inl (.inr (.inr (.inr (.inr (.inl e)))))
  · exact .inl (.inr (.inr (.inr (.inr (.inr (.inl e))))))
  · rcases List.mem_append.1 hp with hp | hp
    · exact .inl (.inr (.inr (.inr (.inr (.inr (.inr ⟨p, hp, e⟩))))))
    · obtain rfl := List.mem_singleton.1 hp
      rcases e with e | e
      · subst e
        exact .inr hb
      · exact .inr (hq c e)
theorem gs_put {o : Ob} (h0 : 0 ≤ o.s) (z : Int) (om : List (Nat × Tri)) (p : Nat × Tri) (hl : om.length = m.O.length) (hd : ∀ q ∈ m.O, q.h ≠ o.h) :
    (putOb m o z).gs (om ++ [p]) = ⟨m.F, m.A.set o.s.toNat ⟨(m.ar o.s).g, (m.ar o.s).u + z⟩, m.T, m.O ++ [o], fun x => if x = o.h then some p.1 else blk m.O om x, fun i => if i = o.s.toNat then hs o.s.toNat m.O ++ [o.h] else hs i m.O, m.O.length + 1⟩ := by
  unfold Mo.gs putOb
  simp only [Gs.mk.injEq, true_and]
  refine ⟨?_, ?_, by simp⟩
  · funext x
    exact blk_app m.O om o p x hl hd
  · funext i
    rw [hs_app]
    by_cases e : i = o.s.toNat
    · subst e
      rw [if_pos rfl, if_pos (by omega)]
    · rw [if_neg e, if_neg (by omega)]
theorem Mh.mapped {H : Hp} {G : Gs} (h : Mh w0 w Z H G bx) {c : Nat} {f : Int → Option Nat} (k : w.grownBy w' (some Z.bm)) (s : Mp w' Z.bm c f) : Mh w0 w' Z H ⟨G.F, G.A, G.T, G.O, f, G.hh, c⟩ bx :=
  h.step (X := [Z.bm]) (Only.grown k (List.mem_singleton.2 rfl)) (fun x hx => .inr (.inr (.inr (.inr (.inl (List.mem_singleton.1 hx)))))) (h.md.mapped (Only.grown k (List.mem_singleton.2 rfl)) s) fun b hb => .inl hb
theorem Mh.are {H : Hp} {G : Gs} (h : Mh w0 w Z H G bx) (s : Nat) {a : Ar} (ha : G.A[s]? = some a) (j : Nat) (hj : j < 2) (b : Ar) (v : Value) (hv : ∀ x : Tri, kA.enc (b, x) = (kA.enc (a, x)).set j v) : Mh w0 (w.setCell ⟨Z.ba, s * 3 + j, none⟩ v) Z H ⟨G.F, G.A.set s b, G.T, G.O, G.f, G.hh, G.c⟩ bx :=
  h.step (Only.put w Z.ba _ _ (List.mem_singleton.2 rfl)) (fun x hx => .inr (.inr (.inr (.inl (List.mem_singleton.1 hx))))) (h.md.are s ha j hj b v hv) fun b hb => .inl hb
theorem Mh.hand {H : Hp} {G : Gs} (h : Mh w0 w Z H G bx) (s : Nat) {a : Ar} (ha : G.A[s]? = some a) {y x : Tri} (hy : H.am[s]? = some y) {w1 : World} {L : List Int} (k : w.grownBy w1 (ob y)) (hL : Own Fina.kU w1 0 (sl3 x) L) (hx : ob x = ob y ∨ ob x = some w.heap.size) :
    Mh w0 (w1.setCell ⟨Z.ba, s * 3 + 2, none⟩ (sl3 x)) Z ⟨H.tm, H.am.set s x, H.om⟩ ⟨G.F, G.A, G.T, G.O, G.f, fun i => if i = s then L else G.hh i, G.c⟩ bx := by
  have O1 : Only (ob y).toList w w1 := ⟨k.os, k.tape, k.output, k.size, fun i hi hx => k.block i hi fun e => hx (by simp [← e])⟩
  have O2 : Only (Z.ba :: (ob y).toList) w (w1.setCell ⟨Z.ba, s * 3 + 2, none⟩ (sl3 x)) := (O1.mono fun _ h => List.mem_cons_of_mem _ h).trans (Only.put w1 _ _ _ (by simp))
  refine h.step O2 (fun b hb => ?_) (h.md.hand s ha hy k hL hx) fun b hb => ?_
  · rcases List.mem_cons.1 hb with rfl | hb
    · exact .inr (.inr (.inr (.inl rfl)))
    · exact wr_am hy (by simpa using hb)
  · rcases hb with e | e | e | e | e | ⟨u, hu, e⟩ | e
    · exact .inl (.inl e)
    · exact .inl (.inr (.inl e))
    · exact .inl (.inr (.inr (.inl e)))
    · exact .inl (.inr (.inr (.inr (.inl e))))
    · exact .inl (.inr (.inr (.inr (.inr (.inl e)))))
    · obtain ⟨i, hi⟩ := List.mem_iff_getElem?.1 hu
      rcases get_setL hi with ⟨rfl, rfl, _⟩ | ⟨_, hi⟩
      · rcases hx with q | q
        · exact .inl (wr_am hy (q ▸ e))
        · rw [q] at e
          injection e with e
          exact .inr (by omega)
      · exact .inl (wr_am (H := H) hi e)
    · exact .inl (.inr (.inr (.inr (.inr (.inr (.inr e))))))
end
end Go.Proofs.YtneggppfffekdaaGreat.Mod
