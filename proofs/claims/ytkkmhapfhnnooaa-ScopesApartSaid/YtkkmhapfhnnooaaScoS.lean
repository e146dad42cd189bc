/-
  What a law's walk carries: the scopes, all that is so of them, local blocks; each call's contract over it; the document's example; something done (does).
-/
import Derived.Test.YtkkmhapfhnnooaaScoG
namespace Go.Proofs.Ytkkmhapfhnnooaa.Sco
open Go.ChangeShapes Go.WideShapes Go.ChangeAt Go.RowKit
open Slic Gm
set_option linter.unusedVariables false
set_option linter.unusedSimpArgs false
attribute [local go_sem ↓] Go.wp_at_zero Go.wp_at_succ

/-- A block of one's own, with all that it holds. -/
structure Bt (w0 w : World) (b : Nat) (vs : List Value) (t : TypeId) : Prop where
  own : w0.heap.size ≤ b
  hp : w.heap[b]? = some (.cells vs.toArray t (0, 0))
theorem Bt.lt {w0 w : World} {b : Nat} {vs : List Value} {t : TypeId} (h : Bt w0 w b vs t) : b < w.heap.size := (Array.getElem?_eq_some_iff.1 h.hp).1
theorem Bt.cell {w0 w : World} {b : Nat} {vs : List Value} {t : TypeId} (h : Bt w0 w b vs t) (k : Nat) (v : Value) (e : vs[k]? = some v) : w.cell? ⟨b, k, none⟩ = some v := by simp [World.cell?, h.hp, e]
theorem Bt.fz {w0 w : World} {b : Nat} {vs : List Value} {t : TypeId} (h : Bt w0 w b vs t) (o : Nat) : w.frozen? ⟨b, o, none⟩ = false := by simp [World.frozen?, h.hp]
theorem Bt.keep {w0 w w' : World} {b : Nat} {vs : List Value} {t : TypeId} (h : Bt w0 w b vs t) (k : w'.heap[b]? = w.heap[b]?) : Bt w0 w' b vs t := ⟨h.own, k.trans h.hp⟩
theorem Bt.below {w0 w w' : World} {b : Nat} {vs : List Value} {t : TypeId} (h : Bt w0 w b vs t) (k : Below w.heap.size w w') : Bt w0 w' b vs t := h.keep (k.block b h.lt)
/-- The scopes, with local blocks beside them, above where the law began. -/
structure So (w0 w : World) (B g n : Nat) (A S I J : Int) (F : Fo) (bx : List (Nat × List Value × TypeId)) : Prop where
  sc : Sc w B g B n A S F
  inv : Inv n A S I J F
  below : Below w0.heap.size w0 w
  oB : w0.heap.size ≤ B
  og : w0.heap.size ≤ g
  box : ∀ x ∈ bx, Bt w0 w x.1 x.2.1 x.2.2 ∧ x.1 ≠ B ∧ x.1 ≠ g
theorem bt_only {w0 w w' : World} {b : Nat} {vs : List Value} {t : TypeId} {X : List Nat} (h : Bt w0 w b vs t) (k : Only X w w') (hb : b ∉ X) : Bt w0 w' b vs t := h.keep (k.block b h.lt hb)
section
variable {w0 w w' : World} {B g n : Nat} {A S I J : Int} {F F' : Fo} {bx : List (Nat × List Value × TypeId)}
theorem So.call (h : So w0 w B g n A S I J F bx) (k : Below w.heap.size w w') : So w0 w' B g n A S I J F bx :=
  ⟨h.sc.below k, h.inv, h.below.trans (k.mono h.below.size), h.oB, h.og, fun x hx => ⟨(h.box x hx).1.below k, (h.box x hx).2⟩⟩
theorem So.alloc (h : So w0 w B g n A S I J F bx) (o : Obj) : So w0 (w.alloc o) B g n A S I J F bx := h.call (below_one w o)
theorem So.drew (h : So w0 w B g n A S I J F bx) : So w0 w.drew B g n A S I J F bx := h.call (Below.refl _ _).drew
theorem So.new (h : So w0 w B g n A S I J F bx) (vs : List Value) (t : TypeId) : So w0 (w.alloc (.cells vs.toArray t)) B g n A S I J F ((w.heap.size, vs, t) :: bx) := by
  have h' := h.alloc (.cells vs.toArray t)
  refine ⟨h'.sc, h'.inv, h'.below, h'.oB, h'.og, fun x hx => ?_⟩
  rcases List.mem_cons.1 hx with rfl | hx
  · refine ⟨⟨h.below.size, heap_alloc_new w _⟩, fun e => ?_, fun e => ?_⟩
    · have := h.sc.ltB
      have e' : w.heap.size = B := e
      omega
    · have := h.sc.ltg
      have e' : w.heap.size = g := e
      omega
  · exact h'.box x hx
theorem So.step (h : So w0 w B g n A S I J F bx) (s : Sc w' B g B n A S F') (v : Inv n A S I J F') (k : Only [B, g] w w') : So w0 w' B g n A S I J F' bx :=
  ⟨s, v, k.below_of h.below h.below.size (fun x hx => by
      have hB := h.oB
      have hg := h.og
      rcases List.mem_cons.1 hx with rfl | hx
      · exact hB
      · rw [List.mem_singleton.1 hx]; exact hg), h.oB, h.og, fun x hx => ⟨bt_only (h.box x hx).1 k (by have := (h.box x hx).2; simp; exact this), (h.box x hx).2⟩⟩
theorem So.at (h : So w0 w B g n A S I J F bx) (i : Nat) {b : Nat} {vs : List Value} {t : TypeId} (e : bx[i]? = some (b, vs, t)) : Bt w0 w b vs t := (h.box _ (List.mem_of_getElem? e)).1
theorem So.drop (h : So w0 w B g n A S I J F bx) (k : Nat) : So w0 w B g n A S I J F (bx.drop k) := ⟨h.sc, h.inv, h.below, h.oB, h.og, fun x hx => h.box x (List.mem_of_mem_drop hx)⟩
theorem So.get4 (h : So w0 w B g n A S I J F bx) (i : Nat) {b : Nat} {t : TypeId} {v0 v1 v2 v3 : Value} (e : bx[i]? = some (b, [v0, v1, v2, v3], t)) :
    w.cell? ⟨b, 0, none⟩ = some v0 ∧ w.cell? ⟨b, 1, none⟩ = some v1 ∧ w.cell? ⟨b, 2, none⟩ = some v2 ∧ w.cell? ⟨b, 3, none⟩ = some v3 := by
  have A := h.at i e
  exact ⟨A.cell 0 _ rfl, A.cell 1 _ rfl, A.cell 2 _ rfl, A.cell 3 _ rfl⟩
theorem So.get3 (h : So w0 w B g n A S I J F bx) (i : Nat) {b : Nat} {t : TypeId} {v0 v1 v2 : Value} (e : bx[i]? = some (b, [v0, v1, v2], t)) :
    w.cell? ⟨b, 0, none⟩ = some v0 ∧ w.cell? ⟨b, 1, none⟩ = some v1 ∧ w.cell? ⟨b, 2, none⟩ = some v2 := by
  have A := h.at i e
  exact ⟨A.cell 0 _ rfl, A.cell 1 _ rfl, A.cell 2 _ rfl⟩
theorem So.get2 (h : So w0 w B g n A S I J F bx) (i : Nat) {b : Nat} {t : TypeId} {v0 v1 : Value} (e : bx[i]? = some (b, [v0, v1], t)) :
    w.cell? ⟨b, 0, none⟩ = some v0 ∧ w.cell? ⟨b, 1, none⟩ = some v1 := by
  have A := h.at i e
  exact ⟨A.cell 0 _ rfl, A.cell 1 _ rfl⟩

/-- A block that is made, and stored as a whole. -/
theorem So.whole (h : So w0 w B g n A S I J F bx) (old vs : Array Value) (t : TypeId) (hs : old.size = vs.size) : So w0 ((w.alloc (.cells old t)).setRow w.heap.size vs) B g n A S I J F ((w.heap.size, vs.toList, t) :: bx) := by
  have h' := h.alloc (.cells old t)
  have k : Below w.heap.size w ((w.alloc (.cells old t)).setRow w.heap.size vs) := ((Below.refl w.heap.size w).alloc (Nat.le_refl _) _).trans ⟨rfl, rfl, rfl, by simp [World.setRow], fun k hk => setRow_other _ _ k _ (by omega)⟩
  have h2 := h.call k
  refine ⟨h2.sc, h2.inv, h2.below, h2.oB, h2.og, fun x hx => ?_⟩
  rcases List.mem_cons.1 hx with rfl | hx
  · refine ⟨⟨h.below.size, ?_⟩, fun e => ?_, fun e => ?_⟩
    · have := setRow_heap (w.alloc (.cells old t)) w.heap.size old vs t _ (heap_alloc_new w _)
      simpa using this
    · have := h.sc.ltB
      have e' : w.heap.size = B := e
      omega
    · have := h.sc.ltg
      have e' : w.heap.size = g := e
      omega
  · exact h2.box x hx

abbrev tellI (x : Int) : Ending := .returned (.int .i64 x)
abbrev tellN (v x : Int) : Ending := .returned (.tuple #[.int .i64 v, .int .i64 x])
theorem so_create (h : So w0 w B g n A S I J F bx) (z : Int) (z1 : -9223372036854775808 ≤ z) (z2 : z ≤ 9223372036854775807) :
    Calls Try.prog 14 #[ptr B, .int .i64 z] w fun e w' => e = tellN (createV F z).v (createV F z).x ∧ So w0 w' B g n A S I J (createV F z).F bx :=
  (create_any h.sc h.inv.n8 h.inv.ok h.sc.ltB z z1 z2).mono fun e w' ⟨he, hs, ho⟩ => ⟨he, h.step hs (h.inv.create z) ho⟩
theorem so_destroy (h : So w0 w B g n A S I J F bx) (i : Int) :
    Calls Try.prog 16 #[ptr B, .int .i64 i] w fun e w' => e = tellI (destroyV F i).x ∧ So w0 w' B g n A S I J (destroyV F i).F bx :=
  (destroy_any h.sc h.inv h.sc.ltB i).mono fun e w' ⟨he, hs, ho⟩ => ⟨he, h.step hs (h.inv.destroy i) ho⟩
theorem so_open (h : So w0 w B g n A S I J F bx) (i : Int) :
    Calls Try.prog 20 #[ptr B, .int .i64 i] w fun e w' => e = tellI (turnV F i opF).x ∧ So w0 w' B g n A S I J (turnV F i opF).F bx :=
  (open_any h.sc h.inv.n8 i).mono fun e w' ⟨he, hs, ho⟩ => ⟨he, h.step hs (h.inv.turn i fine_op) (ho.mono (by simp))⟩
theorem so_hold (h : So w0 w B g n A S I J F bx) (i : Int) :
    Calls Try.prog 22 #[ptr B, .int .i64 i] w fun e w' => e = tellI (turnV F i hoF).x ∧ So w0 w' B g n A S I J (turnV F i hoF).F bx :=
  (hold_any h.sc h.inv.n8 i).mono fun e w' ⟨he, hs, ho⟩ => ⟨he, h.step hs (h.inv.turn i fine_ho) (ho.mono (by simp))⟩
theorem so_enter (h : So w0 w B g n A S I J F bx) (i f : Int) :
    Calls Try.prog 24 #[ptr B, .int .i64 i, .int .i64 f] w fun e w' => e = tellI (turnV F i (enF f)).x ∧ So w0 w' B g n A S I J (turnV F i (enF f)).F bx :=
  (enter_any h.sc h.inv.n8 i f).mono fun e w' ⟨he, hs, ho⟩ => ⟨he, h.step hs (h.inv.turn i (fine_en f)) (ho.mono (by simp))⟩
theorem so_leave (h : So w0 w B g n A S I J F bx) (i : Int) :
    Calls Try.prog 18 #[ptr B, .int .i64 i] w fun e w' => e = .returned (.tuple #[.bool (turnV F i leF).d, .int .i64 (turnV F i leF).x]) ∧ So w0 w' B g n A S I J (turnV F i leF).F bx :=
  (leave_any h.sc h.inv.n8 i).mono fun e w' ⟨he, hs, ho⟩ => ⟨he, h.step hs (h.inv.turn i fine_le) (ho.mono (by simp))⟩
theorem so_ctl (h : So w0 w B g n A S I J F bx) (i : Int) :
    Calls Try.prog 26 #[ptr B, .int .i64 i] w fun e w' => e = tellR (seeC F.R i) ∧ So w0 w' B g n A S I J F bx :=
  (ctl_any h.sc h.inv.n8 i).mono fun e w' ⟨he, hk⟩ => ⟨he, h.call hk⟩
theorem so_ext (h : So w0 w B g n A S I J F bx) (i : Int) :
    Calls Try.prog 28 #[ptr B, .int .i64 i] w fun e w' => e = tellX (seeX F.R i) ∧ So w0 w' B g n A S I J F bx :=
  (ext_any h.sc h.inv.n8 i).mono fun e w' ⟨he, hk⟩ => ⟨he, h.call hk⟩
theorem Inv.lenL (h : Inv n A S I J F) : F.L.length ≤ 200000 := by have := h.ok.len; omega
theorem so_free (h : So w0 w B g n A S I J F bx) :
    Calls Try.prog 31 #[ptr B] w fun e w' => ∃ V c, e = .returned (.slice V F.L.length c) ∧ Gr.Ex w' (.slice V F.L.length c) F.L ∧ (∀ q, (Value.slice V F.L.length c).ownBlock = some q → w.heap.size ≤ q) ∧ So w0 w' B g n A S I J F bx ∧ Below w.heap.size w w' :=
  (free_any h.sc h.inv.lenL).mono fun e w' ⟨V, c, he, hE, hn, hk⟩ => ⟨V, c, he, hE, hn, h.call hk, hk⟩
end
/-- New, at a plan that may be. -/
theorem so_new {w0 w : World} (hb : Below w0.heap.size w0 w) (s t i h : Int) (hr : Plan.rightB s t i h = true) (bx : List (Nat × List Value × TypeId)) (hx : ∀ x ∈ bx, Bt w0 w x.1 x.2.1 x.2.2) :
    Calls Try.prog 12 #[.agg #[.int .i64 s, .int .i64 t, .int .i64 i, .int .i64 h]] w fun e w' => ∃ B g, e = .returned (.tuple #[ptr B, .int .i64 0]) ∧ So w0 w' B g s.toNat (64 * s + i) h (64 * s) i (start s.toNat (64 * s + i) h (64 * s) i) bx ∧ Below w.heap.size w w' ∧ w.heap.size ≤ B ∧ w.heap.size ≤ g := by
  obtain ⟨r1, r2, r3, r4, r5, r6, r7, r8, r9, r10⟩ := Plan.rbounds hr
  refine (new_any w s t i h hr).mono fun e w' ⟨B, g, he, hs, hB, hg, hk⟩ => ⟨B, g, he, ⟨hs, start_inv (by omega) (by omega) (by omega) (by omega) r8 (by omega) (by omega) r10, hb.trans (hk.mono hb.size), Nat.le_trans hb.size hB, Nat.le_trans hb.size hg, fun x hx' => ⟨(hx x hx').below hk, ?_, ?_⟩⟩, hk, hB, hg⟩
  · have := (hx x hx').lt
    omega
  · have := (hx x hx').lt
    omega

set_option maxRecDepth 8000 in
set_option maxHeartbeats 4000000 in
theorem shown_any (w : World) : Calls Try.prog 10 #[] w fun e w' => e = .returned (.bool true) ∧ Below w.heap.size w w' := by
  have E1 := Lib.hid (show createV (start 2 128 64 128 0) 10 = ⟨1, 0, false, ⟨[⟨2, 1, -1, 0, 128, 0⟩, ⟨1, 0, -1, 0, 128, 16⟩], [(144, 48)]⟩⟩ by rfl)
  have E2 := Lib.hid (show createV ⟨[⟨2, 1, -1, 0, 128, 0⟩, ⟨1, 0, -1, 0, 128, 16⟩], [(144, 48)]⟩ 8 = ⟨0, 13, false, ⟨[⟨2, 1, -1, 0, 128, 0⟩, ⟨1, 0, -1, 0, 128, 16⟩], [(144, 48)]⟩⟩ by rfl)
  go_enter Try.func10, Try.ntmps10
  go_wp2_with fail
  refine (so_new (Below.refl _ _) 2 1 0 64 (by decide) [] (fun x hx => absurd hx List.not_mem_nil)).mono ?_
  rintro e w1 ⟨B, g, rfl, h1, k1, _⟩
  go_wp2_with fail
  refine (so_create h1 10 (by omega) (by omega)).mono ?_
  rintro e w2 ⟨rfl, h2⟩
  rw [show createV (start (2 : Int).toNat (64 * 2 + 0) 64 (64 * 2) 0) 10 = _ from E1.out] at h2 ⊢
  go_wp2_with fail
  refine (so_create h2 8 (by omega) (by omega)).mono ?_
  rintro e w3 ⟨rfl, h3⟩
  rw [E2.out] at h3 ⊢
  go_wp2_with fail
  refine (so_ext h3 1).mono ?_
  rintro e w4 ⟨rfl, h4⟩
  rw [show seeX [(⟨2, 1, -1, 0, 128, 0⟩ : Cx), ⟨1, 0, -1, 0, 128, 16⟩] 1 = (128, 16, 0) by rfl]
  go_wp2
  go_ret
  exact ⟨rfl, (h4.alloc _).below⟩
end Go.Proofs.Ytkkmhapfhnnooaa.Sco
