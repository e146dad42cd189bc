/-
  Contract of package model: finalize.
-/
import Derived.Test.YtneggppfffekdaaGreatBack
import Derived.Test.YtneggppfffekdaaGreatFinH
import Derived.Maps.OwnIn
import Derived.Stop.RegionWithIn
import Derived.Sort.CutIn
namespace Go.Proofs.YtneggppfffekdaaGreat.Mod
open Go.ChangeShapes Go.WideShapes Go.ChangeAt Go.RowKit Go.Shelf
open Slic Sco
set_option linter.unusedVariables false
set_option linter.unusedSimpArgs false
set_option maxRecDepth 8000
attribute [local go_sem] Oper.semAt_some

def Fok (FF : List (List Fina.O)) : Prop := ∀ L ∈ FF, Fina.okO L ∧ Fina.okL L ∧ L.length ≤ 8
theorem fok_right {FF : List (List Fina.O)} (h : Fina.rightB FF = true) : Fok FF := by
  intro L hL
  unfold Fina.rightB at h
  rw [Bool.and_eq_true] at h
  have h2 := List.all_eq_true.1 h.2 L hL
  unfold Fina.progB at h2
  rw [Bool.and_eq_true] at h2
  have hl : L.length ≤ 8 := of_decide_eq_true h2.1
  have h1 : ∀ o ∈ L, Fina.oneP o := fun o ho => of_decide_eq_true (List.all_eq_true.1 h2.2 o ho)
  refine ⟨fun o ho => ?_, fun o ho e => ?_, hl⟩
  · have := h1 o ho
    unfold Fina.oneP at this
    omega
  · have := h1 o ho
    unfold Fina.oneP at this
    omega
theorem Fok.of {FF : List (List Fina.O)} (h : Fok FF) (n : Int) : Fina.okO (Fina.ofV FF n) ∧ Fina.okL (Fina.ofV FF n) ∧ (Fina.ofV FF n).length ≤ 8 := by
  unfold Fina.ofV
  split
  · rename_i c
    unfold Fina.inB at c
    have c := of_decide_eq_true c
    have hl : n.toNat < FF.length := by omega
    rw [List.getD_eq_getElem?_getD, List.getElem?_eq_getElem hl]
    exact h _ (List.getElem_mem hl)
  · exact ⟨fun o ho => (by cases ho), fun o ho => (by cases ho), Nat.zero_le _⟩
theorem blk_set : ∀ (O : List Ob) (M : List (Nat × Tri)) (i : Nat) (p : Nat × Tri) (x : Tri) (y : Int), M[i]? = some p → blk O (M.set i (p.1, x)) y = blk O M y
  | [], M, i, p, x, y, _ => by
    cases h : M.set i (p.1, x) <;> cases M <;> rfl
  | o :: O, [], i, p, x, y, h => by simp at h
  | o :: O, q :: M, 0, p, x, y, h => by
    injection h with h
    subst h
    rfl
  | o :: O, q :: M, i + 1, p, x, y, h => by
    show (if o.h = y then some q.1 else blk O (M.set i (p.1, x)) y) = if o.h = y then some q.1 else blk O M y
    rw [blk_set O M i p x y h]
/-- What the calls that take a scope's objects ask of a model: this is so between them, too. -/
structure Lv (Z : Fx) (k : Nat) (m : Mo) : Prop where
  n8 : Z.n ≤ 8
  lenR : m.F.R.length = Z.n
  nA : m.A.length = Z.n
  cnt : m.O.length ≤ k
  hne : m.O.Pairwise fun o p => o.h ≠ p.h
  rt : Rt m
  sl6 : ∀ o ∈ m.O, o.sl.length ≤ 6
theorem Lv.scope {Z : Fx} {k : Nat} {m : Mo} (v : Lv Z k m) {i : Nat} (hi : i < Z.n) : ∃ (x : Cx) (a : Ar), m.F.R[i]? = some x ∧ m.A[i]? = some a := by
  have h1 := v.lenR
  have h2 := v.nA
  exact ⟨m.F.R[i], m.A[i], List.getElem?_eq_getElem (by omega), List.getElem?_eq_getElem (by omega)⟩
theorem Iv.lv {Z : Fx} {k : Nat} {m : Mo} (v : Iv Z k m) : Lv Z k m := ⟨v.n8, v.f.len, v.nA, v.cnt, v.hne, v.rt, fun o ho => by
  obtain ⟨_, x, a, _, _, _, _, _, _, hh, _⟩ := v.obj o ho
  exact hh⟩
section
variable {w0 w w' : World} {Z : Fx} {m : Mo} {bx : Bx} {k : Nat}
/-- An answer whose row is one's own. -/
def DidO (w0 : World) (Z : Fx) (bx : Bx) (r : Re2) (e : Ending) (w' : World) : Prop := ∃ x : Tri, e = .returned (anV r.1.c r.1.n (sl3 x)) ∧ Slic.Own Fina.kI w' 0 (sl3 x) r.1.said ∧ Mw w0 w' Z r.2 bx
theorem DidO.did {w0 w' : World} {Z : Fx} {bx : Bx} {r : Re2} {e : Ending} (h : DidO w0 Z bx r e w') : Did w0 Z bx r e w' := by
  obtain ⟨x, a, b, c⟩ := h
  exact ⟨_, a, b.sr, c⟩
/-- What finalize tells, and leaves. -/
def finV (FF : List (List Fina.O)) (s : Int) (m : Mo) : Re2 := (⟨if finHeld FF s m.O = true then 25 else 0, ((todoL FF s m.O).length : Int), finSaid FF s m.O⟩, ⟨m.F, m.O.map (fin1 FF s), m.A, m.T⟩)
/-- What is done to blocks that are neither the model's nor told of. -/
theorem Mw.else {X : List Nat} (h : Mw w0 w Z m bx) (k : Only X w w') (hX : ∀ x ∈ X, (∀ t ∈ [118, 157, 123, 138, 50, 142], noT w x t) ∧ (∀ t ∈ rdT, noT w x t) ∧ x ≠ Z.bm ∧ w0.heap.size ≤ x ∧ ∀ y ∈ bx, y.1 ≠ x) : Mw w0 w' Z m bx := by
  obtain ⟨H, h⟩ := h
  have nw : ∀ x ∈ X, ¬ wr Z H x := fun x hx hw => by
    obtain ⟨a, _, c, _⟩ := hX x hx
    rcases h.md.wrT hw with e | ⟨t, ht, hi⟩
    · exact c e
    · exact (a t ht).ne hi rfl
  exact ⟨H, h.md.off k nw (fun x hx => (hX x hx).2.1), k.below_of h.below h.below.size (fun x hx => (hX x hx).2.2.2.1), h.own, fun y hy => ⟨(k.block y.1 (h.ltb hy) fun e => (hX _ e).2.2.2.2 y hy rfl).trans (h.box y hy).1, (h.box y hy).2⟩, h.nd⟩
/-- An object is finalized. -/
theorem Mh.finOb {H : Hp} (h : Mh w0 w Z H (m.gs H.om) bx) (hd : m.O.Pairwise fun o p => o.h ≠ p.h) {i : Nat} {o : Ob} {p : Nat × Tri} (ho : m.O[i]? = some o) (hp : H.om[i]? = some p) (FF : List (List Fina.O)) (hs' : (finO FF o).s = o.s) {w1 : World} (k : Below w.heap.size w w1) (x : Tri) (hx : Slic.Own Fina.kU w1 w.heap.size (sl3 x) (finO FF o).sl) :
    Mw w0 ((w1.setCell ⟨p.1, 3, none⟩ (sl3 x)).setCell ⟨p.1, 5, none⟩ (.bool true)) Z ⟨m.F, m.O.map (fun q => if q.h = o.h then finO FF q else q), m.A, m.T⟩ bx ∧ Only [p.1] w ((w1.setCell ⟨p.1, 3, none⟩ (sl3 x)).setCell ⟨p.1, 5, none⟩ (.bool true)) := by
  have h1 := h.call k
  have ob0 := h1.md.obj i o p ho hp
  have K1 : Only [p.1] w1 ((w1.setCell ⟨p.1, 3, none⟩ (sl3 x)).setCell ⟨p.1, 5, none⟩ (.bool true)) := (Only.put w1 p.1 3 _ (List.mem_singleton.2 rfl)).trans (Only.put _ p.1 5 _ (List.mem_singleton.2 rfl))
  have hb : ((w1.setCell ⟨p.1, 3, none⟩ (sl3 x)).setCell ⟨p.1, 5, none⟩ (.bool true)).heap[p.1]? = some (.cells (obV (finO FF o) x).toArray 142 (0, 0)) := by
    have e1 := heap_setCell_same w1 p.1 3 _ _ (sl3 x) ob0
    have e2 := heap_setCell_same _ p.1 5 _ _ (.bool true) e1
    exact e2
  have hq : ∀ q, ob x = some q → ob p.2 = some q ∨ ¬ wr Z H q := fun q e => .inr fun hw => by
    have := h.md.wr_lt hw
    have := (World.ownsRow.lt hx q e).1
    omega
  have ne : ∀ b ∈ [p.1], (sl3 x).ownBlock ≠ some b := fun b hb e => by
    rw [List.mem_singleton.1 hb] at e
    have := (World.ownsRow.lt hx _ e).1
    have := h.md.wr_lt (wr_om hp)
    omega
  have d := h1.md.objs ho hp K1 (fun b hb => .inl (List.mem_singleton.1 hb)) (finO FF o) x hb (own_off (hx.zero (Nat.zero_le _)) K1 ne) hq
  have e2 : m.O.map (fun q => if q.h = o.h then finO FF q else q) = m.O.set i (finO FF o) := by
    rw [map_one hd ho (g := fun q => if q.h = o.h then finO FF q else q) (fun q hq => if_neg hq)]
    simp only [if_true]
  have gh : ∀ q : Ob, (if q.h = o.h then finO FF q else q).h = q.h := fun q => by split <;> rfl
  have gs' : ∀ q : Ob, (if q.h = o.h then finO FF q else q).s = q.s := fun q => by split <;> rfl
  have e3 : (⟨m.F, m.O.map (fun q => if q.h = o.h then finO FF q else q), m.A, m.T⟩ : Mo).gs (H.om.set i (p.1, x)) = ⟨m.F, m.A, m.T, m.O.set i (finO FF o), blk m.O H.om, fun s => hs s m.O, m.O.length⟩ := by
    unfold Mo.gs
    simp only [Gs.mk.injEq, true_and]
    refine ⟨e2, ?_, ?_, List.length_map _⟩
    · funext y
      rw [blk_map gh m.O _ y]
      exact blk_set m.O H.om i p x y hp
    · funext s
      exact hs_map gh gs' s m.O
  refine ⟨⟨⟨H.tm, H.am, H.om.set i (p.1, x)⟩, ?_⟩, (Only.below k).trans K1⟩
  show Mh w0 _ Z _ ((⟨m.F, m.O.map (fun q => if q.h = o.h then finO FF q else q), m.A, m.T⟩ : Mo).gs (H.om.set i (p.1, x))) bx
  rw [e3]
  refine h.step ((Only.below k).trans K1) (fun y hy => by rw [List.mem_singleton.1 hy]; exact wr_om hp) d fun b hb => ?_
  rcases hb with e | e | e | e | e | e | ⟨q, hq', e⟩
  · exact .inl (.inl e)
  · exact .inl (.inr (.inl e))
  · exact .inl (.inr (.inr (.inl e)))
  · exact .inl (.inr (.inr (.inr (.inl e))))
  · exact .inl (.inr (.inr (.inr (.inr (.inl e)))))
  · exact .inl (.inr (.inr (.inr (.inr (.inr (.inl e))))))
  · obtain ⟨j, hj⟩ := List.mem_iff_getElem?.1 hq'
    rcases get_setL hj with ⟨_, rfl, _⟩ | ⟨_, hj⟩
    · rcases e with e | e
      · subst e
        exact .inl (show wr Z H p.1 from wr_om hp)
      · exact .inr (World.ownsRow.lt hx _ e).1
    · rcases e with e | e
      · subst e
        exact .inl (wr_om (H := H) hj)
      · exact .inl (wr_sl (H := H) hj e)
theorem wf_handle {s e a : Int} (h : Refs.rightB s e a = true) : wf64 (Refs.handle s e a) := by
  obtain ⟨c1, c2, c3, c4, c5, c6, c7⟩ := Refs.rbounds h
  unfold wf64 Refs.handle
  omega
/-- append, in a round. -/
theorem wpListIn_app {α : Type} {K : Kd α} {F : Fence} {n : Nat} {w : World} {ops : Array Oper} {rest : List Oper} {o : Oper} {a : Act} {Q : Exit → Act → World → Prop} (hgd : o.guard = none) (s x : Operand)
    (ho : o.op = .call { callee := .builtin .append, args := #[s, x], argTypes := #[K.X, K.X] }) (hty : o.type = K.X) {v y : Value} {L M : List α} {base : Nat}
    (hs : a.eval s = v) (hx : a.eval x = y) (h : Slic.Own K w base v L) (hy : Sr K w y M) (hl : L.length + M.length ≤ 1000000) (hb : base ≤ w.heap.size)
    (hK : ∀ v' w', Slic.Own K w' base v' (L ++ M) → w.grownBy w' v.ownBlock → (v'.ownBlock = v.ownBlock ∨ v'.ownBlock = some w.heap.size) → wpListIn F n Tryz.prog ops Q rest (a.put o.dst v') w') : wpListIn F n Tryz.prog ops Q (o :: rest) a w := by
  obtain ⟨v', w', hrun, r1, r2, r3⟩ := app_own w h hy hl hb
  refine wpListIn_plain hgd fun J hJ => ?_
  unfold Oper.wpIn
  refine ⟨?_, ?_⟩
  · simp [Oper.about, ho, resolve, Target.leads, Sem.run_pure]
  · rw [Oper.semAt_plain F _ _ (by rw [ho]; intro c hc'; cases hc')]
    simp [execOp, ho, resolve, invoke, builtin, hs, hx, hty, hrun, Result.andThen]
    exact hJ _ _ (hK v' w' r1 r2 r3)
theorem run_keeps (FF : List (List Fina.O)) (O : List Ob) : ∀ (P : List Int), (runH FF O P).O.map Ob.h = O.map Ob.h ∧ (runH FF O P).O.map (fun o => o.sl.length) = O.map (fun o => o.sl.length) ∧ (runH FF O P).n ≤ P.length := by
  intro P
  suffices H : ∀ (Q : List Int), (runH FF O Q.reverse).O.map Ob.h = O.map Ob.h ∧ (runH FF O Q.reverse).O.map (fun o => o.sl.length) = O.map (fun o => o.sl.length) ∧ (runH FF O Q.reverse).n ≤ Q.length by
    have := H P.reverse
    rwa [List.reverse_reverse, List.length_reverse] at this
  intro Q
  induction Q with
  | nil => exact ⟨rfl, rfl, Nat.le_refl _⟩
  | cons q Q ih =>
    rw [List.reverse_cons, run_snoc]
    obtain ⟨a, b, c, d⟩ := step_keeps (FF := FF) (A := runH FF O Q.reverse) (h := q)
    exact ⟨a.trans ih.1, c.trans ih.2.1, by simp only [List.length_cons]; omega⟩
theorem pair_of_map {O P : List Ob} (h : P.map Ob.h = O.map Ob.h) (hd : O.Pairwise fun o p => o.h ≠ p.h) : P.Pairwise fun o p => o.h ≠ p.h := by
  have h1 : (O.map Ob.h).Pairwise (fun a b => a ≠ b) := List.pairwise_map.2 hd
  rw [← h] at h1
  exact List.pairwise_map.1 h1
theorem find_of_map {O P : List Ob} (h : P.map Ob.h = O.map Ob.h) {x : Int} (hx : ∃ o ∈ O, o.h = x) : ∃ o, P.find? (fun o => o.h == x) = some o := by
  obtain ⟨o, ho, e⟩ := hx
  have : x ∈ P.map Ob.h := by rw [h]; exact List.mem_map.2 ⟨o, ho, e⟩
  obtain ⟨q, hq, e'⟩ := List.mem_map.1 this
  cases hf : P.find? (fun o => o.h == x) with
  | some r => exact ⟨r, rfl⟩
  | none =>
    have := List.find?_eq_none.1 hf q hq
    rw [e'] at this
    simp at this
theorem len_of_map {O P : List Ob} (h : P.map (fun o => o.sl.length) = O.map (fun o => o.sl.length)) {b : Nat} (hb : ∀ o ∈ O, o.sl.length ≤ b) : ∀ o ∈ P, o.sl.length ≤ b := fun o ho => by
  have : o.sl.length ∈ P.map (fun o => o.sl.length) := List.mem_map.2 ⟨o, ho, rfl⟩
  rw [h] at this
  obtain ⟨q, hq, e⟩ := List.mem_map.1 this
  rw [← e]
  exact hb q hq
/-- What a round leaves, from what it has changed. -/
theorem round_keeps {X : List Nat} {W W' : World} {bb : Nat} {y : Tri} {L : List Int} (k : Only X W W') (hX : ∀ x ∈ X, ∃ t, isT W x t ∧ (t == 48) = false ∧ (t == 50) = false) (hI : Iq W bb y L) : KeepsOthers W W' ∧ Kq bb y W W' := by
  refine ⟨⟨k.size, fun i o ho hc => (k.block i (Array.getElem?_eq_some_iff.1 ho).1 fun hx => ?_).trans ho⟩, k.size, k.block bb hI.lt fun hx => ?_, fun q e => k.block q (own_lt hI.row e) fun hx => ?_⟩
  · obtain ⟨t, ⟨cs, h⟩, _⟩ := hX i hx
    rw [ho] at h
    injection h with h
    subst h
    simp [Obj.isCells] at hc
  · obtain ⟨t, ht, h1, _⟩ := hX bb hx
    exact (ht.no h1).ne ⟨_, hI.box⟩ rfl
  · obtain ⟨t, ht, _, h2⟩ := hX q hx
    exact (ht.no h2).ne (own_isT hI.row e) rfl
/-- The words of the places that have come. -/
def bkH (L : List Int) (pre : List (Fin L.length)) : List Int := pre.map fun i => L[i.1]
theorem bkH_snoc (L : List Int) (pre : List (Fin L.length)) (x : Fin L.length) : bkH L (pre ++ [x]) = bkH L pre ++ [L[x.1]] := by
  unfold bkH
  rw [List.map_append]
  rfl
/-- Between two rounds: the model with the objects that were done, the answer's box with what was said. -/
def Iz (w0 w : World) (Z : Fx) (m : Mo) (bx : Bx) (y : Tri) (L : List Int) (pre : List (Fin L.length)) (W : World) : Prop :=
  ∃ vs : Value, Mw w0 W Z ⟨m.F, (runH Z.FF m.O (bkH L pre)).O, m.A, m.T⟩ ((w.heap.size + 3, .cells #[sl3 y] 48 (0, 0)) :: (w.heap.size + 2, .cells #[.int .i64 (runH Z.FF m.O (bkH L pre)).c, .int .i64 ((runH Z.FF m.O (bkH L pre)).n : Int), vs] anT (0, 0)) :: (w.heap.size + 1, .cells #[.int .i64 0, .int .i64 0, nil0] anT (0, 0)) :: (w.heap.size, .cells #[.pointer (some ⟨Z.B, 0, none⟩)] 29 (0, 0)) :: bx) ∧
    Slic.Own Fina.kI W (w.heap.size + 4) vs (runH Z.FF m.O (bkH L pre)).said ∧ (runH Z.FF m.O (bkH L pre)).said.length ≤ 8 * pre.length ∧ Iq W (w.heap.size + 3) y L
theorem keepQ {y : Tri} {W0 : World} (hw : W0.heap.size = w.heap.size + 4) (hq : ∀ q, ob y = some q → q < W0.heap.size) (W : World) (l : Nat) (o o' : Obj) (hl : W0.heap.size ≤ l) (h : W.heap[l]? = some o) (h1 : o.isCells = false) (h2 : o.isWalk = false) : Kq (w.heap.size + 3) y W (W.putObj l o') :=
  ⟨by simp, World.putObj_heap_other (by omega), fun q e => World.putObj_heap_other (by have := hq q e; omega)⟩
theorem nocells_no {W : World} {r : Nat} {o : Obj} (h : W.heap[r]? = some o) (hc : o.isCells = false) (t : TypeId) : noT W r t := fun cs fz e => by
  rw [h] at e
  injection e with e
  subst e
  simp [Obj.isCells] at hc
theorem iz_own {y : Tri} {L : List Int} {W0 : World} {H : Hp} (hw : W0.heap.size = w.heap.size + 4) (h : Mh w0 w Z H (m.gs H.om) bx) : OwnFrom W0.heap.size (fun pre W => Iz w0 w Z m bx y L pre W ∧ Below w.heap.size w w) := by
  rintro pre W W' row ⟨⟨vs, hW, hO, hl, hI⟩, hB⟩ hg hr
  have hX : Only row.toList W W' := ⟨hg.os, hg.tape, hg.output, hg.size, fun i hi hx => hg.block i hi fun e => hx (by simp [← e])⟩
  refine ⟨⟨vs, hW.else hX (fun x hx => ?_), ?_, hl, ⟨(hg.block _ hI.lt fun er => ?_).trans hI.box, own_keep hI.row fun b e => hg.block b (own_lt hI.row e) fun er => ?_⟩⟩, hB⟩
  · have hx : row = some x := by simpa using hx
    obtain ⟨r1, o, ho, hc⟩ := hr x hx
    have hs := h.below.size
    have hbm : Z.bm < w.heap.size := h.md.map.lt
    refine ⟨fun t _ => nocells_no ho hc t, fun t _ => nocells_no ho hc t, by omega, by omega, fun q hq e => ?_⟩
    simp only [List.mem_cons] at hq
    rcases hq with rfl | rfl | rfl | rfl | hq
    · simp at e; omega
    · simp at e; omega
    · simp at e; omega
    · simp at e; omega
    · have := h.ltb hq
      omega
  · refine own_keep hO fun b e => hg.block b (own_lt hO e) fun er => ?_
    obtain ⟨r1, o, ho, hc⟩ := hr b er.symm
    exact (nocells_no ho hc _).ne (own_isT hO e) rfl
  · obtain ⟨r1, o, ho, hc⟩ := hr _ er.symm
    omega
  · obtain ⟨r1, o, ho, hc⟩ := hr b er.symm
    exact (nocells_no ho hc _).ne (own_isT hI.row e) rfl
theorem bk_down (L : List Int) : ∀ (i : Nat) (h : i ≤ L.length), bkH L (downTo i h) = (L.take i).reverse
  | 0, _ => rfl
  | i + 1, h => by
    show L[i] :: bkH L (downTo i _) = _
    rw [bk_down L i, List.take_succ_eq_append_getElem h, List.reverse_append]
    rfl
theorem bk_all (L : List Int) : bkH L (allDown L.length) = L.reverse := by
  rw [allDown, bk_down, List.take_length]
theorem done_round {W V w2 w3 W' : World} {H2 : Hp} {G : Gs} {bx2 : Bx} {L : List Int} {pre : List (Fin L.length)} {i : Fin L.length} {xs x3 y : Tri} {P M : List Int} {q : Nat} {O2 : List Ob} {c : Int} {n : Nat} {cs : Array Value} (hW : Mh w0 W Z H2 G bx2) (hA : W.heap[w.heap.size + 2]? = some (.cells cs anT (0, 0))) (kV : Below W.heap.size W V) (KF : Only [q] V w2) (kX : Only (ob xs).toList w2 w3) (K : Only [w.heap.size + 2] w3 W') (tq : isT W q 142) (oS : Slic.Own Fina.kI W (w.heap.size + 4) (sl3 xs) P) (hI : Iq W (w.heap.size + 3) y L)
    (s : Mw w0 W' Z ⟨m.F, O2, m.A, m.T⟩ ((w.heap.size + 3, .cells #[sl3 y] 48 (0, 0)) :: (w.heap.size + 2, .cells #[.int .i64 c, .int .i64 (n : Int), sl3 x3] anT (0, 0)) :: (w.heap.size + 1, .cells #[.int .i64 0, .int .i64 0, nil0] anT (0, 0)) :: (w.heap.size, .cells #[.pointer (some ⟨Z.B, 0, none⟩)] 29 (0, 0)) :: bx))
    (O3 : Slic.Own Fina.kI w3 (w.heap.size + 4) (sl3 x3) M) (e1 : (runH Z.FF m.O (bkH L (pre ++ [i]))).O = O2) (e2 : (runH Z.FF m.O (bkH L (pre ++ [i]))).said = M) (e3 : (runH Z.FF m.O (bkH L (pre ++ [i]))).n = n) (e4 : (runH Z.FF m.O (bkH L (pre ++ [i]))).c = c) (hl : M.length ≤ 8 * (pre.length + 1)) (tA : isT w3 (w.heap.size + 2) anT) :
    KeepsOthers W W' ∧ Kq (w.heap.size + 3) y W W' ∧ Iz w0 w Z m bx y L (pre ++ [i]) W' ∧ Below w.heap.size w w := by
  have KA : Only (q :: (w.heap.size + 2) :: (ob xs).toList) W W' := by
    have k0 : Only (q :: (w.heap.size + 2) :: (ob xs).toList) W V := Only.below kV
    have k1 : Only (q :: (w.heap.size + 2) :: (ob xs).toList) V w2 := KF.mono (fun x hx => by rw [List.mem_singleton.1 hx]; exact List.mem_cons_self ..)
    have k2 : Only (q :: (w.heap.size + 2) :: (ob xs).toList) w2 w3 := kX.mono (fun x hx => List.mem_cons_of_mem _ (List.mem_cons_of_mem _ hx))
    have k3 : Only (q :: (w.heap.size + 2) :: (ob xs).toList) w3 W' := K.mono (fun x hx => by rw [List.mem_singleton.1 hx]; exact List.mem_cons_of_mem _ (List.mem_cons_self ..))
    exact ((k0.trans k1).trans k2).trans k3
  obtain ⟨r1, r2⟩ := round_keeps KA (fun x hx => by
    rcases List.mem_cons.1 hx with rfl | hx
    · exact ⟨_, tq, rfl, rfl⟩
    rcases List.mem_cons.1 hx with rfl | hx
    · exact ⟨_, isT.of hA, rfl, rfl⟩
    · have hx : ob xs = some x := by simpa using hx
      exact ⟨_, own_isT oS hx, rfl, rfl⟩) hI
  refine ⟨r1, r2, ⟨sl3 x3, ?_, ?_, ?_, hI.kept r2⟩, Below.refl _ _⟩
  · rw [e1, e3, e4]
    exact s
  · rw [e2]
    exact own_types O3 K (fun x hx => by rw [List.mem_singleton.1 hx]; exact tA.no rfl)
  · rw [e2, List.length_append]
    exact hl
theorem app_else {W w3 : World} {m' : Mo} {o3 o1 o0 : Obj} {a b c : Value} (hF : Mw w0 W Z m' ((w.heap.size + 3, o3) :: (w.heap.size + 2, .cells #[a, b, c] anT (0, 0)) :: (w.heap.size + 1, o1) :: (w.heap.size, o0) :: bx)) {xs x3 : Tri} {L M : List Int} (ha : Z.bm < w.heap.size) (hlt : w.heap.size + 4 ≤ W.heap.size) (hs : w0.heap.size ≤ w.heap.size) (hb : ∀ y ∈ bx, y.1 < w.heap.size) (o : Slic.Own Fina.kI W (w.heap.size + 4) (sl3 xs) L) (o' : Slic.Own Fina.kI w3 (w.heap.size + 4) (sl3 x3) M) (g : W.grownBy w3 (ob xs)) (r : ob x3 = ob xs ∨ ob x3 = some W.heap.size) :
    Mw w0 w3 Z m' ((w.heap.size + 3, o3) :: (w.heap.size + 2, .cells #[a, b, c] anT (0, 0)) :: (w.heap.size + 1, o1) :: (w.heap.size, o0) :: bx) ∧ w3.cell? ⟨w.heap.size + 2, 0, none⟩ = some a ∧ w3.cell? ⟨w.heap.size + 2, 1, none⟩ = some b ∧ w3.cell? ⟨w.heap.size + 2, 2, none⟩ = some c ∧ (∀ k, w3.frozen? ⟨w.heap.size + 2, k, none⟩ = false) ∧ Only (ob xs).toList W w3 := by
  have hX : Only (ob xs).toList W w3 := ⟨g.os, g.tape, g.output, g.size, fun i hi hx => g.block i hi fun e => hx (by simp [← e])⟩
  have h3 := hF.else hX (fun x hx => by
    have hx : ob xs = some x := by simpa using hx
    have hl := (World.ownsRow.lt o x hx).1
    have ht := own_isT o hx
    refine ⟨fun t htt => ht.no ?_, fun t htt => ht.no ?_, by omega, by omega, fun q hq e => ?_⟩
    · revert t
      decide
    · revert t
      decide
    · simp only [List.mem_cons] at hq
      rcases hq with rfl | rfl | rfl | rfl | hq
      · simp at e; omega
      · simp at e; omega
      · simp at e; omega
      · simp at e; omega
      · have := hb q hq
        omega)
  have hA := h3.at 1 rfl
  exact ⟨h3, cell_of hA 0 _ rfl, cell_of hA 1 _ rfl, cell_of hA 2 _ rfl, fz_of hA, hX⟩
set_option maxHeartbeats 4000000 in
theorem finalize_any (h : Mw w0 w Z m bx) (v : Lv Z k m) (hk : k ≤ 10000) (ff : Fok Z.FF) (s : Nat) (hs1 : s < Z.n) :
    Calls Tryz.prog 150 #[ptr Z.B, .int .i64 (s : Int)] w (DidO w0 Z bx (finV Z.FF s m)) := by
  obtain ⟨H, h⟩ := h
  obtain ⟨x, ar, hx, ha⟩ := v.scope hs1
  have h1 := h.new #[.pointer (some ⟨Z.B, 0, none⟩)] 29
  have h2 := h1.new #[.int .i64 0, .int .i64 0, nil0] anT
  have h3 := h2.new #[.int .i64 0, .int .i64 0, nil0] anT
  obtain ⟨y, hy, ac0, ac1, ac2, af, oy⟩ := h3.acells (s := s) (a := ar) ha
  obtain ⟨_, _, mc6, _⟩ := h3.md.cells
  have mb := cell_of (h3.at 2 rfl) 0 _ rfl
  refine (callsIn_wide (n := 3)).1 ?_
  refine callsIn_of_wp_marks Tryz.func150 rfl trivial ?_ rfl
  simp only [Tryz.ntmps150, List.size_toArray, List.length_cons, List.length_nil, Nat.reduceAdd, Nat.reduceSub, Array.replicate_succ, Array.replicate_zero, List.push_toArray, List.append_toArray, List.nil_append, List.cons_append]
  gi_wp2_with (refine ⟨trivial, ?_⟩; gi_at_call 175; refine (backward_in _ _ _ _ _).mono ?_; rintro e wq ⟨rfl, rfl⟩)
  have h4 := h3.new #[sl3 y] 48
  have b4 : Below w.heap.size w ((((w.alloc (.cells #[ptr Z.B] 29)).alloc (.cells #[.int .i64 0, .int .i64 0, nil0] anT)).alloc (.cells #[.int .i64 0, .int .i64 0, nil0] anT)).alloc (.cells #[sl3 y] 48)) := ((((Below.refl _ w).alloc (Nat.le_refl _) _).alloc (by simp) _).alloc (by simp; omega) _).alloc (by simp; omega) _
  have oy4 : Slic.Own Fina.kU _ 0 (sl3 y) (hs s m.O) := h4.md.hnd s y hy
  simp only [World.size_alloc] at h4
  have hsz : ((((w.alloc (.cells #[ptr Z.B] 29)).alloc (.cells #[.int .i64 0, .int .i64 0, nil0] anT)).alloc (.cells #[.int .i64 0, .int .i64 0, nil0] anT)).alloc (.cells #[sl3 y] 48)).heap.size = w.heap.size + 4 := by simp
  have hl0 : (hs s m.O).length ≤ k := by
    have := v.cnt
    have := List.length_filter_le (fun o : Ob => decide (o.s = (s : Int))) m.O
    unfold hs
    rw [List.length_map]
    omega
  have hwf : ∀ i : Fin (hs s m.O).length, wf64 (hs s m.O)[i.1] ∧ ∃ o ∈ m.O, o.h = (hs s m.O)[i.1] := fun i => by
    have hm := List.getElem_mem (l := hs s m.O) i.2
    unfold hs at hm
    obtain ⟨o, ho, e⟩ := List.mem_map.1 hm
    have ho := (List.mem_filter.1 ho).1
    refine ⟨?_, o, ho, e⟩
    have e' : o.h = (hs s m.O)[i.1] := e
    rw [← e']
    exact wf_handle (v.rt o ho)
  generalize ((((w.alloc (.cells #[ptr Z.B] 29)).alloc (.cells #[.int .i64 0, .int .i64 0, nil0] anT)).alloc (.cells #[.int .i64 0, .int .i64 0, nil0] anT)).alloc (.cells #[sl3 y] 48)) = W0 at *
  have hbm : Z.bm < w.heap.size := h.md.map.lt
  have hIq : Iq W0 (w.heap.size + 3) y (hs s m.O) := ⟨h4.at 0 rfl, oy4⟩
  obtain ⟨L, hL⟩ : ∃ L, hs s m.O = L := ⟨_, rfl⟩
  have HL := Lib.hid hL
  rw [hL] at hl0 hIq oy4
  have hwf : ∀ i : Fin L.length, wf64 L[i.1] ∧ ∃ o ∈ m.O, o.h = L[i.1] := by subst hL; exact hwf
  clear hL
  have hqy : ∀ q, ob y = some q → q < W0.heap.size := fun q e => own_lt oy4 e
  refine wpIn_rangeFunc_ownF rfl (by omega) (gf := 186) (lb := #[.pointer (some ⟨w.heap.size + 3, 0, none⟩)]) rfl trivial (enters_of Tryz.func186 (by kernel_rfl) rfl)
    (back_stops _ (by omega) (w.heap.size + 3) y L (by omega) W0 hIq) Kq.trans (keepQ hsz hqy) (Below.refl _ _) (fun _ => rfl)
    (fun pre W => Iz w0 w Z m bx y L pre W ∧ Below w.heap.size w w)
    (fun c pre W => False)
    (iz_own hsz h) (fun c s W W' row hs' => hs'.elim)
    ⟨⟨nil0, ⟨H, by simpa [runH, startH, bkH] using h4⟩, Slic.Own.nil _ _, by simp [runH, startH, bkH], hIq⟩, Below.refl _ _⟩
    (fun x => { tmps := #[.pointer (some ⟨Z.B, 0, none⟩), .int .i64 (s : Int), .pointer (some ⟨w.heap.size, 0, none⟩), undef, .pointer (some ⟨w.heap.size + 1, 0, none⟩), .pointer (some ⟨w.heap.size + 1 + 1, 0, none⟩), undef, .int .u64 L[x.1], undef, undef, undef, undef, undef, undef, .pointer (some ⟨Z.B, 0, none⟩), .pointer (some ⟨Z.B, 0, none⟩), .pointer (some ⟨Z.B, 6, none⟩), .slice (some ⟨Z.ba, 0, none⟩) Z.n Z.n, .int .i64 (s : Int), .pointer (some ⟨Z.ba, s * 3, none⟩), .pointer (some ⟨Z.ba, s * 3 + 2, none⟩), sl3 y,
      .func (.func 186) #[] #[.pointer (some ⟨w.heap.size + 1 + 1 + 1, 0, none⟩)], .int .i64 (x.1 : Int), .int .u64 L[x.1], undef, undef, undef, undef, undef, undef, undef, undef, undef, undef, undef, undef, undef, undef, undef, undef, undef, undef, undef, undef, undef, undef, undef, undef, undef, undef, undef, undef, undef, undef, undef, undef, undef, undef, undef, undef, undef, undef, undef, undef, undef, undef, undef, undef, undef, undef, undef, undef, undef, undef, undef, undef, undef, undef], defers := [] }) ?assign ?body ?done ?stop
  case assign =>
    intro l x W K hK
    dsimp only [bkV]
    gi_wp2
    exact hK
  case body =>
    rintro l pre i W ⟨⟨vs, hW, oS, hlen, hI⟩, _⟩ hlt
    obtain ⟨wfi, hex⟩ := hwf i
    obtain ⟨rk1, rk2, rk3⟩ := run_keeps Z.FF m.O (bkH L pre)
    have hsn : ∀ x, runH Z.FF m.O (bkH L (pre ++ [x])) = stepH Z.FF (runH Z.FF m.O (bkH L pre)) L[x.1] := fun x => by rw [bkH_snoc, run_snoc]
    have hsn := Lib.hid hsn
    generalize runH Z.FF m.O (bkH L pre) = R at hW oS hlen rk1 rk2 rk3 hsn
    have hd := pair_of_map rk1 v.hne
    obtain ⟨o, ho⟩ := find_of_map rk1 hex
    have hsl := len_of_map rk2 (b := 6) v.sl6
    have hoh : o.h = L[i.1] := by have := List.find?_some ho; simpa using this
    obtain ⟨H2, hW⟩ := hW
    obtain ⟨j, p, e1, e2, e3, e4, e5, e6⟩ := hW.objAt (m := ⟨m.F, R.O, m.A, m.T⟩) ho
    have hom : o ∈ R.O := List.mem_of_getElem? e1
    have lk := hW.map.look0 wfi
    rw [show blk (Mo.O ⟨m.F, R.O, m.A, m.T⟩) H2.om L[i.1] = some p.1 from e4] at lk
    have lk' : (Instr.lookup 116 (.map (some Z.bm)) (.int .u64 L[i.1]) false).run Tryz.prog W = .ok (.pointer (some ⟨p.1, 0, none⟩)) W := lk
    have mb : W.cell? ⟨w.heap.size, 0, none⟩ = some (.pointer (some ⟨Z.B, 0, none⟩)) := cell_of (hW.at 3 rfl) 0 _ rfl
    obtain ⟨mc4, _, _, mc7⟩ := hW.md.cells
    obtain ⟨_, oc3, oc4, oc5, of⟩ := obj_cells e5
    clear lk
    have FR := hW.md.fins.rows
    obtain ⟨l9, lk9, ll9⟩ := ff.of o.tag
    obtain ⟨L9, hL9⟩ : ∃ L9, Fina.ofV Z.FF o.tag = L9 := ⟨_, rfl⟩
    have H9 : Hid (ops Z.FF o = L9) := Lib.hid hL9
    rw [hL9] at l9 lk9 ll9
    gi_wp2
    gi_cut [9] from 14 (fun s9 wx => ∃ A9 n9, s9 = .slice A9 L9.length n9 ∧ Sr Fina.kF W s9 L9 ∧ wx = W.drew)
    case first =>
      gi_region_with ((refine ⟨trivial, ?_⟩; gi_at_call 176; refine (CallsIn.inRound l (callsIn_wide.2 (Fina.of_any W.drew _ Z.FF o.tag (FR.below (Below.refl _ _).drew)))).mono ?_; rintro e wq ⟨v9, rfl, S9, rfl⟩; rw [hL9] at S9; obtain ⟨A9, n9, rfl, q1, q2⟩ := S9.form))
      all_goals
        gi_wp2_with fail
        gi_meet
        exact ⟨_, _, rfl, S9.keep (Nat.le_refl _) (fun _ _ _ => rfl), rfl⟩
    case rest =>
      obtain ⟨A9, n9, rfl, S9, rfl⟩ := hcut
      have hV := hW.drew
      have kV : Below W.heap.size W W.drew := (Below.refl _ _).drew
      have S9 : Sr Fina.kF W.drew (.slice A9 L9.length n9) L9 := S9.drew
      have hIV := hI.kept (Kq.below kV hI.lt fun q e => own_lt hI.row e)
      have oSV := oS.below kV
      have e5 := hV.md.obj j o p e1 e2
      have e6 := hV.md.slo j o p e1 e2
      clear mb mc4 mc7 oc3 oc4 oc5 of lk'
      generalize W.drew = V at *
      obtain ⟨_, oc3, oc4, oc5, of⟩ := obj_cells e5
      have of3 := of 3
      have of5 := of 5
      have HA := hV.at 1 rfl
      by_cases hs : skipO Z.FF o = true
      · have hst : stepH Z.FF R L[i.1] = R := by
          unfold stepH
          rw [ho]
          exact if_pos hs
        have fin : KeepsOthers W V ∧ Kq (w.heap.size + 3) y W V ∧ Iz w0 w Z m bx y L (pre ++ [i]) V ∧ Below w.heap.size w w := by
          obtain ⟨r1, r2⟩ := round_keeps (X := []) (Only.below kV) (fun x hx => absurd hx List.not_mem_nil) hI
          refine ⟨r1, r2, ⟨vs, ?_, ?_, ?_, hIV⟩, Below.refl _ _⟩
          · rw [hsn.out i, hst]
            exact ⟨H2, hV⟩
          · rw [hsn.out i, hst]
            exact oSV
          · rw [hsn.out i, hst, List.length_append, List.length_singleton]
            omega
        unfold skipO at hs
        cases hdd : o.d with
        | true =>
          rw [hdd] at oc5
          gi_wp2
          exact fin
        | false =>
          have zl : ((L9.length : Int) == 0) = true := by
            rw [hdd] at hs
            have := of_decide_eq_true hs
            rw [H9.out] at this
            simpa using this
          rw [hdd] at oc5
          gi_wp2
          exact fin
      · have hs : skipO Z.FF o = false := by simpa using hs
        have hdd : o.d = false := by
          unfold skipO at hs
          rw [Bool.or_eq_false_iff] at hs
          exact hs.1
        have hz : L9.length ≠ 0 := by
          unfold skipO at hs
          rw [Bool.or_eq_false_iff] at hs
          have := of_decide_eq_false hs.2
          rwa [H9.out] at this
        have zl : ((L9.length : Int) == 0) = false := beq_eq_false_iff_ne.2 (by omega)
        obtain ⟨wl1, wl2, wl3⟩ := Fina.walk_len L9 0 o.sl
        have hst := Lib.hid (show stepH Z.FF R L[i.1] = ⟨R.O.map (fun q => if q.h = o.h then finO Z.FF q else q), R.said ++ (Fina.walk L9 0 o.sl).said, R.n + 1, if (Fina.walk L9 0 o.sl).held = true then 25 else R.c⟩ by
          unfold stepH
          rw [ho]
          show (if skipO Z.FF o = true then R else _) = _
          rw [if_neg (by rw [hs]; simp), H9.out, hoh])
        have hfs := Lib.hid (show (finO Z.FF o).sl = (Fina.walk L9 0 o.sl).S by show (Fina.walk (ops Z.FF o) 0 o.sl).S = _; rw [H9.out])
        have hol := hsl o hom
        obtain ⟨xs, rfl⟩ := own_tri oS
        have hpl : (bkH L pre).length = pre.length := by unfold bkH; rw [List.length_map]
        have hRn : R.n ≤ 10000 := by omega
        have wn : IntKind.i64.wrap ((R.n : Int) + 1) = (R.n : Int) + 1 := IntWalk.i64_in _ (by omega)
        have hsl8 : R.said.length + (Fina.walk L9 0 o.sl).said.length ≤ 1000000 := by omega
        have hlen' : (R.said ++ (Fina.walk L9 0 o.sl).said).length ≤ 8 * (pre.length + 1) := by rw [List.length_append]; omega
        rw [hdd] at oc5
        have hplt : p.1 < V.heap.size := (isT.of e5).lt
        have RT := Fina.run_any V _ _ L9 o.sl S9 (by omega) e6.sr (by omega) l9 lk9
        generalize Fina.walk L9 0 o.sl = r at *
        gi_wp2_with fail
        refine ⟨trivial, ?_⟩
        refine (CallsIn.inRound l (callsIn_wide.2 RT)).mono ?_
        rintro e w1 ⟨vs', vd, rfl, O1, D1, k1⟩
        obtain ⟨x1, rfl⟩ := own_tri O1
        obtain ⟨xd, rfl⟩ := own_tri D1
        obtain ⟨hF, KF⟩ := hV.finOb (m := ⟨m.F, R.O, m.A, m.T⟩) hd e1 e2 Z.FF rfl k1 x1 (by rw [hfs.out]; exact O1)
        have c3 : w1.cell? ⟨p.1, 3, none⟩ = some (sl3 p.2) := (k1.cell (p := ⟨p.1, 3, none⟩) hplt).trans oc3
        have c5 : w1.cell? ⟨p.1, 5, none⟩ = some (.bool false) := (k1.cell (p := ⟨p.1, 5, none⟩) hplt).trans oc5
        have f3 : w1.frozen? ⟨p.1, 3, none⟩ = false := (k1.frozen (p := ⟨p.1, 3, none⟩) hplt).trans of3
        have f5 : w1.frozen? ⟨p.1, 5, none⟩ = false := (k1.frozen (p := ⟨p.1, 5, none⟩) hplt).trans of5
        have D2 : Slic.Own Fina.kI ((w1.setCell ⟨p.1, 3, none⟩ (sl3 x1)).setCell ⟨p.1, 5, none⟩ (.bool true)) V.heap.size (sl3 xd) r.said := own_off D1 ((Only.put w1 p.1 3 _ (List.mem_singleton.2 rfl)).trans (Only.put _ p.1 5 _ (List.mem_singleton.2 rfl))) fun b hb e => by
          rw [List.mem_singleton.1 hb] at e
          have := (World.ownsRow.lt D1 _ e).1
          omega
        have oS2 := own_types oSV KF (fun x hx => by rw [List.mem_singleton.1 hx]; exact (isT.of e5).no (by decide))
        generalize hw2 : (w1.setCell ⟨p.1, 3, none⟩ (sl3 x1)).setCell ⟨p.1, 5, none⟩ (.bool true) = w2 at hF KF D2 oS2
        have HA2 := hF.at 1 rfl
        have a0 := cell_of HA2 0 _ rfl
        have a1 := cell_of HA2 1 _ rfl
        have a2 := cell_of HA2 2 _ rfl
        have hw2' := Lib.hid hw2
        subst hw2
        have hb4 : w.heap.size + 3 < ((w1.setCell ⟨p.1, 3, none⟩ (sl3 x1)).setCell ⟨p.1, 5, none⟩ (.bool true)).heap.size := (Array.getElem?_eq_some_iff.1 (hF.at 0 rfl)).1
        gi_wp2_with ((refine wpListIn_app (K := Fina.kI) (v := sl3 xs) (y := sl3 xd) rfl (.tmp 68) (.tmp 69) rfl rfl rfl rfl oS2 D2.sr hsl8 hb4 ?_); intro v3 w3 O3 g3 r3; obtain ⟨x3, rfl⟩ := own_tri O3; obtain ⟨hF3, z0, z1, z2, zf, kX⟩ := app_else hF (ha := hbm) (hlt := (show w.heap.size + 4 ≤ _ from hb4)) h.below.size (fun y hy => h.ltb hy) oS2 O3 g3 r3; have zf0 := zf 0; have zf1 := zf 1; have zf2 := zf 2)
        all_goals
          rename_i hh
          have s2 := hF3.put 1 rfl rfl 2 (sl3 x3)
          have s1 := s2.put 1 rfl rfl 1 (.int .i64 ((R.n : Int) + 1))
          have K2 : Only [w.heap.size + 2] w3 ((w3.setCell ⟨w.heap.size + 2, 2, none⟩ (sl3 x3)).setCell ⟨w.heap.size + 2, 1, none⟩ (.int .i64 ((R.n : Int) + 1))) := (Only.put w3 _ 2 _ (List.mem_singleton.2 rfl)).trans (Only.put _ _ 1 _ (List.mem_singleton.2 rfl))
        · have s0 := s1.put 1 rfl rfl 0 (.int .i64 25)
          have K3 := K2.trans (Only.put _ (w.heap.size + 2) 0 (.int .i64 25) (List.mem_singleton.2 rfl))
          rw [hh] at hst
          exact done_round hW (hW.at 1 rfl) kV KF kX K3 (isT.of (hW.md.obj j o p e1 e2)) oS hI s0 O3 (by rw [hsn.out i, hst.out]) (by rw [hsn.out i, hst.out]) (by rw [hsn.out i, hst.out]) (by rw [hsn.out i, hst.out]; rfl) hlen' (isT.of (hF3.at 1 rfl))
        · rw [hh] at hst
          exact done_round hW (hW.at 1 rfl) kV KF kX K2 (isT.of (hW.md.obj j o p e1 e2)) oS hI s1 O3 (by rw [hsn.out i, hst.out]) (by rw [hsn.out i, hst.out]) (by rw [hsn.out i, hst.out]) (by rw [hsn.out i, hst.out]; rfl) hlen' (isT.of (hF3.at 1 rfl))
  case done =>
    rintro D xs W hDs rfl ⟨⟨vs, hW, oS, hlen, hI⟩, _⟩ hD
    rw [bk_all, ← HL.out, run_scope v.hne s] at hW oS
    have hfV := Lib.hid (show finV Z.FF s m = (⟨if finHeld Z.FF s m.O = true then 25 else 0, ((todoL Z.FF s m.O).length : Int), finSaid Z.FF s m.O⟩, ⟨m.F, m.O.map (fin1 Z.FF s), m.A, m.T⟩) from rfl)
    dsimp only at hW oS
    generalize (if finHeld Z.FF s m.O = true then (25 : Int) else 0) = cc at hW hfV
    generalize finSaid Z.FF s m.O = sa at oS hfV
    generalize (todoL Z.FF s m.O).length = nn at hW hfV
    obtain ⟨xs, rfl⟩ := own_tri oS
    have wa := hW.at 1 rfl
    have a0 := cell_of wa 0 _ rfl
    have a1 := cell_of wa 1 _ rfl
    have a2 := cell_of wa 2 _ rfl
    have wb := hW.at 2 rfl
    have b0 := cell_of wb 0 _ rfl
    have b1 := cell_of wb 1 _ rfl
    have b2 := cell_of wb 2 _ rfl
    have fb0 := fz_of wb 0
    have fb1 := fz_of wb 1
    have fb2 := fz_of wb 2
    have s3 := ((hW.put 2 rfl rfl 0 (.int .i64 cc)).put 2 rfl rfl 1 (.int .i64 (nn : Int))).put 2 rfl rfl 2 (sl3 xs)
    have k3 : Only [w.heap.size + 1] W (((W.setCell ⟨w.heap.size + 1, 0, none⟩ (.int .i64 cc)).setCell ⟨w.heap.size + 1, 1, none⟩ (.int .i64 (nn : Int))).setCell ⟨w.heap.size + 1, 2, none⟩ (sl3 xs)) := ((Only.put W _ 0 _ (List.mem_singleton.2 rfl)).trans (Only.put _ _ 1 _ (List.mem_singleton.2 rfl))).trans (Only.put _ _ 2 _ (List.mem_singleton.2 rfl))
    have oS3 := own_types oS k3 (fun x hx => by rw [List.mem_singleton.1 hx]; exact (isT.of wb).no rfl)
    have hK' := (((KeepsOthers.setCell W ⟨w.heap.size + 1, 0, none⟩ (.int .i64 cc)).trans (KeepsOthers.setCell _ ⟨w.heap.size + 1, 1, none⟩ (.int .i64 (nn : Int)))).trans (KeepsOthers.setCell _ ⟨w.heap.size + 1, 2, none⟩ (sl3 xs))).same D _ hD rfl
    have kD : ∀ (V : World), Only [D] V (V.putObj D (.deferred none)) := fun V => ⟨rfl, rfl, rfl, by simp, fun i hi hx => World.putObj_heap_other (fun e => hx (by simp [e]))⟩
    have s4 := s3.else (kD _) (fun x hx => by
      rw [List.mem_singleton.1 hx]
      have h6 := h.below.size
      refine ⟨fun t _ => nocells_no hK' rfl t, fun t _ => nocells_no hK' rfl t, by omega, by omega, fun q hq e => ?_⟩
      simp only [List.set_cons_zero, List.set_cons_succ, List.mem_cons] at hq
      rcases hq with rfl | rfl | rfl | rfl | hq
      · simp at e; omega
      · simp at e; omega
      · simp at e; omega
      · simp at e; omega
      · have := h.ltb hq
        omega)
    have oS4 := own_types oS3 (kD _) (fun x hx => by rw [List.mem_singleton.1 hx]; exact nocells_no hK' rfl _)
    have ws := s4.at 2 rfl
    have c0' := cell_of ws 0 _ rfl
    have c1' := cell_of ws 1 _ rfl
    have c2' := cell_of ws 2 _ rfl
    gi_wp2
    refine ⟨by simp, .inl ⟨_, _, rfl, run_takeDeferred hK', ?_⟩⟩
    refine ⟨anV cc (nn : Int) (sl3 xs), ?_, ⟨xs, by rw [hfV.out], by rw [hfV.out]; exact oS4.zero (Nat.zero_le _), by rw [hfV.out]; exact s4.drop 4⟩⟩
    simp [results, Tryz.results150, go_sem, c0', c1', c2', anV]
  case stop =>
    rintro D c pre W hD hS hF
    exact hF.elim
end
end Go.Proofs.YtneggppfffekdaaGreat.Mod
