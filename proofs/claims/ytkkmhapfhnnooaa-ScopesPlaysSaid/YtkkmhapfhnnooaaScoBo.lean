/-
  The program's scopes and the document's side by side: what a walk carries, each call's contract over it.
-/
import Derived.Test.YtkkmhapfhnnooaaScoH
namespace Go.Proofs.Ytkkmhapfhnnooaa.Sco
open Go.ChangeShapes Go.WideShapes Go.ChangeAt Go.RowKit
open Slic Gm
set_option linter.unusedVariables false
set_option linter.unusedSimpArgs false
attribute [local go_sem ↓] Go.wp_at_zero Go.wp_at_succ

structure Bo (w0 w : World) (B g n N : Nat) (A I J : Int) (F G : Fo) (P : Pl) (Y : Nat → Bool) : Prop where
  sc : Sc w B g P.gx n A (8 * (N : Int)) F
  iF : Inv n A (8 * (N : Int)) I J F
  rs : Rs w P n A N G.R Y
  rl : G.L = runs A Y N
  iG : Inv n A (8 * (N : Int)) I J G
  hN : N ≤ 8192
  below : Below w0.heap.size w0 w
  fB : w0.heap.size ≤ B
  fg : w0.heap.size ≤ g
  fc : w0.heap.size ≤ P.gc
  fx : w0.heap.size ≤ P.gx
  fw : w0.heap.size ≤ P.gw
section
variable {w0 w w' : World} {B g n N : Nat} {A I J : Int} {F G F' : Fo} {P : Pl} {Y : Nat → Bool} {R' : List Cx} {Y' : Nat → Bool}
theorem Bo.call (h : Bo w0 w B g n N A I J F G P Y) (k : Below w.heap.size w w') : Bo w0 w' B g n N A I J F G P Y :=
  ⟨h.sc.below k, h.iF, h.rs.below k, h.rl, h.iG, h.hN, h.below.trans (k.mono h.below.size), h.fB, h.fg, h.fc, h.fx, h.fw⟩
theorem Bo.alloc (h : Bo w0 w B g n N A I J F G P Y) (o : Obj) : Bo w0 (w.alloc o) B g n N A I J F G P Y := h.call (below_one w o)
theorem Bo.drew (h : Bo w0 w B g n N A I J F G P Y) : Bo w0 w.drew B g n N A I J F G P Y := h.call (Below.refl _ _).drew
/-- The program's scopes have changed. -/
theorem Bo.prog (h : Bo w0 w B g n N A I J F G P Y) (s : Sc w' B g P.gx n A (8 * (N : Int)) F') (v : Inv n A (8 * (N : Int)) I J F') (k : Only [B, g] w w') : Bo w0 w' B g n N A I J F' G P Y := by
  have hB := h.sc.tB
  have hg := h.sc.tg
  have fr : ∀ {b : Nat} {t : TypeId}, isT w b t → (t == 77) = false → (t == 73) = false → b ∉ [B, g] := fun hb e1 e2 => by
    simp
    exact ⟨hb.ne hB e1, hb.ne hg e2⟩
  exact ⟨s, v, h.rs.only k (fr h.rs.tD (by decide) (by decide)) (fr h.rs.tc (by decide) (by decide)) (fr h.rs.tx (by decide) (by decide)) (fr h.rs.tC (by decide) (by decide)) (fr h.rs.tw (by decide) (by decide)), h.rl, h.iG, h.hN, k.below_of h.below h.below.size (fun x hx => by
    have h1 := h.fB
    have h2 := h.fg
    rcases List.mem_cons.1 hx with rfl | hx
    · exact h1
    · rw [List.mem_singleton.1 hx]; exact h2), h.fB, h.fg, h.fc, h.fx, h.fw⟩
/-- The document's scopes have changed. -/
theorem Bo.ref {G' : Fo} (h : Bo w0 w B g n N A I J F G P Y) (s : Rs w' P n A N G'.R Y') (e : G'.L = runs A Y' N) (v : Inv n A (8 * (N : Int)) I J G') (k : Only [P.gc, P.gx, P.gw] w w') : Bo w0 w' B g n N A I J F G' P Y' := by
  have fr : ∀ {b : Nat} {t : TypeId}, isT w b t → (t == 42) = false → (t == 46) = false → (t == 4) = false → b ∉ [P.gc, P.gx, P.gw] := fun hb e1 e2 e3 => by
    simp
    exact ⟨hb.ne h.rs.tc e1, hb.ne h.rs.tx e2, hb.ne h.rs.tw e3⟩
  refine ⟨h.sc.only k (fr h.sc.tB (by decide) (by decide) (by decide)) (fr h.sc.tg (by decide) (by decide) (by decide)) (fun x hx => ?_), h.iF, s, e, v, h.hN, k.below_of h.below h.below.size (fun x hx => ?_), h.fB, h.fg, h.fc, h.fx, h.fw⟩
  · rcases List.mem_cons.1 hx with rfl | hx
    · exact .inr ⟨_, h.rs.tc, by decide⟩
    · rcases List.mem_cons.1 hx with rfl | hx
      · exact .inl rfl
      · rw [List.mem_singleton.1 hx]
        exact .inr ⟨_, h.rs.tw, by decide⟩
  · have h1 := h.fc
    have h2 := h.fx
    have h3 := h.fw
    rcases List.mem_cons.1 hx with rfl | hx
    · exact h1
    · rcases List.mem_cons.1 hx with rfl | hx
      · exact h2
      · rw [List.mem_singleton.1 hx]; exact h3
/-- A local block of something done. -/
theorem Bo.box {vs : List Value} {b : Nat} (h : Bo w0 w B g n N A I J F G P Y) (hb : Bt w0 w b vs 34) (k : Only [B, g] w w') : Bt w0 w' b vs 34 := by
  have t : isT w b 34 := ⟨_, hb.hp⟩
  exact bt_only hb k (by simp; exact ⟨t.ne h.sc.tB (by decide), t.ne h.sc.tg (by decide)⟩)
theorem Bo.boxr {vs : List Value} {b : Nat} (h : Bo w0 w B g n N A I J F G P Y) (hb : Bt w0 w b vs 34) (k : Only [P.gc, P.gx, P.gw] w w') : Bt w0 w' b vs 34 := by
  have t : isT w b 34 := ⟨_, hb.hp⟩
  exact bt_only hb k (by simp; exact ⟨t.ne h.rs.tc (by decide), t.ne h.rs.tx (by decide), t.ne h.rs.tw (by decide)⟩)
theorem bo_ctl (h : Bo w0 w B g n N A I J F G P Y) (i : Int) :
    Calls Try.prog 26 #[ptr B, .int .i64 i] w fun e w' => e = tellR (seeC F.R i) ∧ Below w.heap.size w w' := ctl_any h.sc h.iF.n8 i
theorem bo_ext (h : Bo w0 w B g n N A I J F G P Y) (i : Int) :
    Calls Try.prog 28 #[ptr B, .int .i64 i] w fun e w' => e = tellX (seeX F.R i) ∧ Below w.heap.size w w' := ext_any h.sc h.iF.n8 i
theorem bo_free (h : Bo w0 w B g n N A I J F G P Y) :
    Calls Try.prog 31 #[ptr B] w (Gr.Told w.heap.size F.L w) := free_any h.sc h.iF.lenL
theorem bo_rctl (h : Bo w0 w B g n N A I J F G P Y) (i : Int) :
    Calls Try.prog 27 #[ptrD P, .int .i64 i] w fun e w' => e = tellR (seeC G.R i) ∧ Below w.heap.size w w' := refctl_any h.rs i
theorem bo_rext (h : Bo w0 w B g n N A I J F G P Y) (i : Int) :
    Calls Try.prog 29 #[ptrD P, .int .i64 i] w fun e w' => e = tellX (seeX G.R i) ∧ Below w.heap.size w w' := refext_any h.rs i
theorem bo_rfree (h : Bo w0 w B g n N A I J F G P Y) :
    Calls Try.prog 32 #[.pointer (some ⟨P.C, 0, none⟩)] w (Gr.Told w.heap.size G.L w) := by
  rw [h.rl]
  exact Ref.extents_any w P.C P.gw N A Y h.rs.rf h.iG.ok.a0 h.iG.ok.a1 h.hN
theorem bp_create (h : Bo w0 w B g n N A I J F G P Y) (z : Int) (z1 : -9223372036854775808 ≤ z) (z2 : z ≤ 9223372036854775807) :
    Calls Try.prog 14 #[ptr B, .int .i64 z] w fun e w' => e = tellN (createV F z).v (createV F z).x ∧ Bo w0 w' B g n N A I J (createV F z).F G P Y ∧ Only [B, g] w w' :=
  (create_any h.sc h.iF.n8 h.iF.ok h.rs.lx z z1 z2).mono fun e w' ⟨he, hs, ho⟩ => ⟨he, h.prog hs (h.iF.create z) ho, ho⟩
theorem bp_destroy (h : Bo w0 w B g n N A I J F G P Y) (i : Int) :
    Calls Try.prog 16 #[ptr B, .int .i64 i] w fun e w' => e = tellI (destroyV F i).x ∧ Bo w0 w' B g n N A I J (destroyV F i).F G P Y ∧ Only [B, g] w w' :=
  (destroy_any h.sc h.iF h.rs.lx i).mono fun e w' ⟨he, hs, ho⟩ => ⟨he, h.prog hs (h.iF.destroy i) ho, ho⟩
theorem br_create (h : Bo w0 w B g n N A I J F G P Y) (z : Int) (z1 : -9223372036854775808 ≤ z) (z2 : z ≤ 9223372036854775807) :
    Calls Try.prog 15 #[ptrD P, .int .i64 z] w fun e w' => e = tellN (createV G z).v (createV G z).x ∧ (∃ Y', Bo w0 w' B g n N A I J F (createV G z).F P Y') ∧ Only [P.gc, P.gx, P.gw] w w' := by
  obtain ⟨gR, gL⟩ := G
  have e : gL = runs A Y N := h.rl
  subst e
  exact (refcreate_any h.rs h.iG h.hN z z1 z2).mono fun e w' ⟨Y', he, hs, hl, ho⟩ => ⟨he, ⟨Y', h.ref hs hl (h.iG.create z) ho⟩, ho⟩
theorem br_destroy (h : Bo w0 w B g n N A I J F G P Y) (i : Int) :
    Calls Try.prog 17 #[ptrD P, .int .i64 i] w fun e w' => e = tellI (destroyV G i).x ∧ (∃ Y', Bo w0 w' B g n N A I J F (destroyV G i).F P Y') ∧ Only [P.gc, P.gx, P.gw] w w' := by
  obtain ⟨gR, gL⟩ := G
  have e : gL = runs A Y N := h.rl
  subst e
  exact (refdestroy_any h.rs h.iG h.hN i).mono fun e w' ⟨Y', he, hs, hl, ho⟩ => ⟨he, ⟨Y', h.ref hs hl (h.iG.destroy i) ho⟩, ho⟩
theorem turn_L (G : Fo) (i : Int) (f : Cx → Ctl.R) : (turnV G i f).F.L = G.L := by
  unfold turnV
  cases look G.R i with
  | none => rfl
  | some x =>
    by_cases h0 : (f x).x = 0
    · simp only [h0, if_true]
    · simp only [h0, if_false]
theorem bp_open (h : Bo w0 w B g n N A I J F G P Y) (i : Int) :
    Calls Try.prog 20 #[ptr B, .int .i64 i] w fun e w' => e = tellI (turnV F i opF).x ∧ Bo w0 w' B g n N A I J (turnV F i opF).F G P Y ∧ Only [B, g] w w' :=
  (open_any h.sc h.iF.n8 i).mono fun e w' ⟨he, hs, ho⟩ => ⟨he, h.prog hs (h.iF.turn i fine_op) (ho.mono (by simp)), ho.mono (by simp)⟩
theorem br_open (h : Bo w0 w B g n N A I J F G P Y) (i : Int) :
    Calls Try.prog 21 #[ptrD P, .int .i64 i] w fun e w' => e = tellI (turnV G i opF).x ∧ (∃ Y', Bo w0 w' B g n N A I J F (turnV G i opF).F P Y') ∧ Only [P.gc, P.gx, P.gw] w w' :=
  (refopen_any (L := G.L) h.rs i).mono fun e w' ⟨he, hs, ho⟩ => ⟨he, ⟨Y, h.ref hs ((turn_L G i _).trans h.rl) (h.iG.turn i fine_op) (ho.mono (by simp))⟩, ho.mono (by simp)⟩
theorem bp_hold (h : Bo w0 w B g n N A I J F G P Y) (i : Int) :
    Calls Try.prog 22 #[ptr B, .int .i64 i] w fun e w' => e = tellI (turnV F i hoF).x ∧ Bo w0 w' B g n N A I J (turnV F i hoF).F G P Y ∧ Only [B, g] w w' :=
  (hold_any h.sc h.iF.n8 i).mono fun e w' ⟨he, hs, ho⟩ => ⟨he, h.prog hs (h.iF.turn i fine_ho) (ho.mono (by simp)), ho.mono (by simp)⟩
theorem br_hold (h : Bo w0 w B g n N A I J F G P Y) (i : Int) :
    Calls Try.prog 23 #[ptrD P, .int .i64 i] w fun e w' => e = tellI (turnV G i hoF).x ∧ (∃ Y', Bo w0 w' B g n N A I J F (turnV G i hoF).F P Y') ∧ Only [P.gc, P.gx, P.gw] w w' :=
  (refhold_any (L := G.L) h.rs i).mono fun e w' ⟨he, hs, ho⟩ => ⟨he, ⟨Y, h.ref hs ((turn_L G i _).trans h.rl) (h.iG.turn i fine_ho) (ho.mono (by simp))⟩, ho.mono (by simp)⟩
theorem bp_enter (h : Bo w0 w B g n N A I J F G P Y) (i f : Int) :
    Calls Try.prog 24 #[ptr B, .int .i64 i, .int .i64 f] w fun e w' => e = tellI (turnV F i (enF f)).x ∧ Bo w0 w' B g n N A I J (turnV F i (enF f)).F G P Y ∧ Only [B, g] w w' :=
  (enter_any h.sc h.iF.n8 i f).mono fun e w' ⟨he, hs, ho⟩ => ⟨he, h.prog hs (h.iF.turn i (fine_en f)) (ho.mono (by simp)), ho.mono (by simp)⟩
theorem br_enter (h : Bo w0 w B g n N A I J F G P Y) (i f : Int) :
    Calls Try.prog 25 #[ptrD P, .int .i64 i, .int .i64 f] w fun e w' => e = tellI (turnV G i (enF f)).x ∧ (∃ Y', Bo w0 w' B g n N A I J F (turnV G i (enF f)).F P Y') ∧ Only [P.gc, P.gx, P.gw] w w' :=
  (refenter_any (L := G.L) h.rs i f).mono fun e w' ⟨he, hs, ho⟩ => ⟨he, ⟨Y, h.ref hs ((turn_L G i _).trans h.rl) (h.iG.turn i (fine_en f)) (ho.mono (by simp))⟩, ho.mono (by simp)⟩
theorem bp_leave (h : Bo w0 w B g n N A I J F G P Y) (i : Int) :
    Calls Try.prog 18 #[ptr B, .int .i64 i] w fun e w' => e = .returned (.tuple #[.bool (turnV F i leF).d, .int .i64 (turnV F i leF).x]) ∧ Bo w0 w' B g n N A I J (turnV F i leF).F G P Y ∧ Only [B, g] w w' :=
  (leave_any h.sc h.iF.n8 i).mono fun e w' ⟨he, hs, ho⟩ => ⟨he, h.prog hs (h.iF.turn i fine_le) (ho.mono (by simp)), ho.mono (by simp)⟩
theorem br_leave (h : Bo w0 w B g n N A I J F G P Y) (i : Int) :
    Calls Try.prog 19 #[ptrD P, .int .i64 i] w fun e w' => e = .returned (.tuple #[.bool (turnV G i leF).d, .int .i64 (turnV G i leF).x]) ∧ (∃ Y', Bo w0 w' B g n N A I J F (turnV G i leF).F P Y') ∧ Only [P.gc, P.gx, P.gw] w w' :=
  (refleave_any (L := G.L) h.rs i).mono fun e w' ⟨he, hs, ho⟩ => ⟨he, ⟨Y, h.ref hs ((turn_L G i _).trans h.rl) (h.iG.turn i fine_le) (ho.mono (by simp))⟩, ho.mono (by simp)⟩
/-- Local blocks. -/
structure Lo (w0 w : World) (bx : List (Nat × List Value × TypeId)) : Prop where
  sz : w0.heap.size ≤ w.heap.size
  box : ∀ x ∈ bx, Bt w0 w x.1 x.2.1 x.2.2
theorem Lo.call {bx : List (Nat × List Value × TypeId)} (h : Lo w0 w bx) (k : Below w.heap.size w w') : Lo w0 w' bx := ⟨Nat.le_trans h.sz k.size, fun x hx => (h.box x hx).below k⟩
theorem Lo.new {bx : List (Nat × List Value × TypeId)} (h : Lo w0 w bx) (vs : List Value) (t : TypeId) : Lo w0 (w.alloc (.cells vs.toArray t)) ((w.heap.size, vs, t) :: bx) := by
  have h' := h.call (below_one w (.cells vs.toArray t))
  refine ⟨h'.sz, fun x hx => ?_⟩
  rcases List.mem_cons.1 hx with rfl | hx
  · exact ⟨h.sz, heap_alloc_new w _⟩
  · exact h'.box x hx
theorem Lo.drew {bx : List (Nat × List Value × TypeId)} (h : Lo w0 w bx) : Lo w0 w.drew bx := h.call (Below.refl _ _).drew
theorem Lo.get4 {bx : List (Nat × List Value × TypeId)} (h : Lo w0 w bx) (i : Nat) {b : Nat} {t : TypeId} {v0 v1 v2 v3 : Value} (e : bx[i]? = some (b, [v0, v1, v2, v3], t)) :
    w.cell? ⟨b, 0, none⟩ = some v0 ∧ w.cell? ⟨b, 1, none⟩ = some v1 ∧ w.cell? ⟨b, 2, none⟩ = some v2 ∧ w.cell? ⟨b, 3, none⟩ = some v3 := by
  have A := h.box _ (List.mem_of_getElem? e)
  exact ⟨A.cell 0 _ rfl, A.cell 1 _ rfl, A.cell 2 _ rfl, A.cell 3 _ rfl⟩
theorem Lo.get3 {bx : List (Nat × List Value × TypeId)} (h : Lo w0 w bx) (i : Nat) {b : Nat} {t : TypeId} {v0 v1 v2 : Value} (e : bx[i]? = some (b, [v0, v1, v2], t)) :
    w.cell? ⟨b, 0, none⟩ = some v0 ∧ w.cell? ⟨b, 1, none⟩ = some v1 ∧ w.cell? ⟨b, 2, none⟩ = some v2 := by
  have A := h.box _ (List.mem_of_getElem? e)
  exact ⟨A.cell 0 _ rfl, A.cell 1 _ rfl, A.cell 2 _ rfl⟩
theorem Lo.get2 {bx : List (Nat × List Value × TypeId)} (h : Lo w0 w bx) (i : Nat) {b : Nat} {t : TypeId} {v0 v1 : Value} (e : bx[i]? = some (b, [v0, v1], t)) :
    w.cell? ⟨b, 0, none⟩ = some v0 ∧ w.cell? ⟨b, 1, none⟩ = some v1 := by
  have A := h.box _ (List.mem_of_getElem? e)
  exact ⟨A.cell 0 _ rfl, A.cell 1 _ rfl⟩
/-- Both, made. -/
theorem bo_new {bx : List (Nat × List Value × TypeId)} (n N : Nat) (t i : Int) (hr : Plan.rightB (n : Int) t i (8 * (N : Int)) = true) (h : So w0 w B g n (64 * (n : Int) + i) (8 * (N : Int)) (64 * (n : Int)) i (start n (64 * (n : Int) + i) (8 * (N : Int)) (64 * (n : Int)) i) bx) :
    Calls Try.prog 13 #[.agg #[.int .i64 (n : Int), .int .i64 t, .int .i64 i, .int .i64 (8 * (N : Int))]] w fun e w' => ∃ P Y, e = .returned (ptrD P) ∧ Bo w0 w' B g n N (64 * (n : Int) + i) (64 * (n : Int)) i (start n (64 * (n : Int) + i) (8 * (N : Int)) (64 * (n : Int)) i) (start n (64 * (n : Int) + i) (8 * (N : Int)) (64 * (n : Int)) i) P Y := by
  obtain ⟨r1, r2, r3, r4, r5, r6, r7, r8, r9, r10⟩ := Plan.rbounds hr
  refine (refnew_any w n N t i hr).mono fun e w' ⟨P, he, hs, hk, p1, p2, p3, p4, p5⟩ => ⟨P, _, he, ?_, h.inv, hs, start_runs n N _ _ _, h.inv, by omega, h.below.trans (hk.mono h.below.size), h.oB, h.og, ?_, ?_, ?_⟩
  · have hz := h.below.size
    have s := h.sc.below hk
    obtain ⟨v, hrow, hE, h1, h2, hT⟩ := h.sc.gr
    exact ⟨s.len, ⟨v, hrow.of_block (hk.block B h.sc.ltB), hE.below hk, h1, fun e => by have := hE.lt e; omega, hT.keep fun q hq => hk.block q (hE.lt hq)⟩, s.row⟩
  all_goals
    have := h.below.size
    omega
end
end Go.Proofs.Ytkkmhapfhnnooaa.Sco
