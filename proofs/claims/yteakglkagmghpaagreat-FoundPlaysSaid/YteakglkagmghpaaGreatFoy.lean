/-
  The document's arena, ground and plan in memory (penfoldref14): words of a scope's block, read and put.
-/
import Derived.Test.YteakglkagmghpaaGreatFouE
import Derived.Test.YteakglkagmghpaaGreatGror
import Derived.Deep.RegionHeld3
import Derived.Test.YteakglkagmghpaaGreatFouJ
import Derived.Test.YteakglkagmghpaaGreatFouK
import Derived.Test.YteakglkagmghpaaGreatBegL
namespace Go.Proofs.YteakglkagmghpaaGreat.Fou
open Go.ChangeShapes Go.WideShapes Go.ChangeAt Go.RowKit
open Sco Amem Gm
set_option linter.unusedVariables false
set_option linter.unusedSimpArgs false
set_option maxRecDepth 8000
attribute [local go_sem ↓] Go.wp_at_zero Go.wp_at_succ
variable {P : Pn} {f : Nat → Int} {F : Fo} {G : Nat} {w w' : World} {Y : Nat → Bool}
/-- Where the document's arena and ground lie. -/
structure Ql where
  D : Nat
  B : Nat
  g : Nat
  C : Nat
  gw : Nat
  M : Nat
  fv : Value
variable {Q : Ql}
def allC (Q : Ql) (P : Pn) : Nat → Value
  | 0 => .int .i64 (P.n : Int)
  | 1 => .int .i64 P.t
  | 2 => .int .i64 P.i
  | 3 => .int .i64 P.j
  | 4 => Q.fv
  | 5 => .pointer (some ⟨Q.B, 0, none⟩)
  | _ => .pointer (some ⟨Q.C, 0, none⟩)
/-- The document's plan, words and ground. -/
structure Al (w : World) (Q : Ql) (P : Pn) (f : Nat → Int) (Y : Nat → Bool) : Prop where
  hd : w.rowIs Q.D 99 7 (allC Q P)
  ar : Aref.Rf w Q.B Q.g P.N f
  gr : Ref.Rf w Q.C Q.gw P.A Q.M Y
abbrev ptrA (Q : Ql) : Value := .pointer (some ⟨Q.D, 0, none⟩)
theorem Al.c0 (h : Al w Q P f Y) : w.cell? ⟨Q.D, 0, none⟩ = some (.int .i64 (P.n : Int)) := h.hd.cell (i := 0) (by omega)
theorem Al.c5 (h : Al w Q P f Y) : w.cell? ⟨Q.D, 5, none⟩ = some (.pointer (some ⟨Q.B, 0, none⟩)) := h.hd.cell (i := 5) (by omega)
theorem Al.c6 (h : Al w Q P f Y) : w.cell? ⟨Q.D, 6, none⟩ = some (.pointer (some ⟨Q.C, 0, none⟩)) := h.hd.cell (i := 6) (by omega)
theorem Al.tD (h : Al w Q P f Y) : isT w Q.D 99 := isT.row h.hd
theorem Al.tB (h : Al w Q P f Y) : isT w Q.B 103 := isT.row h.ar.head
theorem Al.tg (h : Al w Q P f Y) : isT w Q.g 50 := isT.row h.ar.body
theorem Al.tC (h : Al w Q P f Y) : isT w Q.C 182 := isT.row h.gr.head
theorem Al.tw (h : Al w Q P f Y) : isT w Q.gw 4 := isT.row h.gr.body
theorem Al.only {X : List Nat} (h : Al w Q P f Y) (k : Only X w w') (h1 : Q.D ∉ X) (h2 : Q.B ∉ X) (h3 : Q.g ∉ X) (h4 : Q.C ∉ X) (h5 : Q.gw ∉ X) : Al w' Q P f Y :=
  ⟨h.hd.of_block (k.block _ h.hd.lt h1), ⟨h.ar.head.of_block (k.block _ h.ar.head.lt h2), h.ar.body.of_block (k.block _ h.ar.body.lt h3), h.ar.fit, h.ar.len⟩, ⟨h.gr.head.of_block (k.block _ h.gr.head.lt h4), h.gr.body.of_block (k.block _ h.gr.body.lt h5)⟩⟩
theorem Al.keep (h : Al w Q P f Y) (k : Below w.heap.size w w') : Al w' Q P f Y := h.only (X := []) (Only.below k) List.not_mem_nil List.not_mem_nil List.not_mem_nil List.not_mem_nil List.not_mem_nil
theorem Al.drew (h : Al w Q P f Y) : Al w.drew Q P f Y := h.keep (Below.refl _ _).drew
theorem Al.alloc (h : Al w Q P f Y) (o : Obj) : Al (w.alloc o) Q P f Y := h.keep ((Below.refl _ _).alloc (Nat.le_refl _) _)
theorem Al.words {f' : Nat → Int} (h : Al w Q P f Y) (a : Aref.Rf w' Q.B Q.g P.N f') (k : w.grownBy w' (some Q.g)) : Al w' Q P f' Y := by
  have n1 : some Q.D ≠ some Q.g := fun e => h.tD.ne h.tg (by decide) (Option.some.inj e)
  have n2 : some Q.C ≠ some Q.g := fun e => h.tC.ne h.tg (by decide) (Option.some.inj e)
  have n3 : some Q.gw ≠ some Q.g := fun e => h.tw.ne h.tg (by decide) (Option.some.inj e)
  exact ⟨h.hd.of_block (k.block _ h.hd.lt n1), a, h.gr.head.of_block (k.block _ h.gr.head.lt n2), h.gr.body.of_block (k.block _ h.gr.body.lt n3)⟩
theorem Al.ground {Y' : Nat → Bool} (h : Al w Q P f Y) (a : Ref.Rf w' Q.C Q.gw P.A Q.M Y') (k : w.grownBy w' (some Q.gw)) : Al w' Q P f Y' := by
  have n1 : some Q.D ≠ some Q.gw := fun e => h.tD.ne h.tw (by decide) (Option.some.inj e)
  have n2 : some Q.B ≠ some Q.gw := fun e => h.tB.ne h.tw (by decide) (Option.some.inj e)
  have n3 : some Q.g ≠ some Q.gw := fun e => h.tg.ne h.tw (by decide) (Option.some.inj e)
  exact ⟨h.hd.of_block (k.block _ h.hd.lt n1), ⟨h.ar.head.of_block (k.block _ h.ar.head.lt n2), h.ar.body.of_block (k.block _ h.ar.body.lt n3), h.ar.fit, h.ar.len⟩, a⟩
theorem al_lt (h : Al w Q P f Y) : ∀ x ∈ [Q.g, Q.gw], x < w.heap.size := fun x hx => by
  rcases List.mem_cons.1 hx with rfl | hx
  · exact h.ar.body.lt
  · rw [List.mem_singleton.1 hx]
    exact h.gr.body.lt
theorem only_gw (k : Only [Q.g] w w') : Only [Q.g, Q.gw] w w' := k.mono fun x hx => by rw [List.mem_singleton.1 hx]; simp

set_option maxHeartbeats 1000000 in
theorem get_ok (w : World) (R : Pr P) (h : Al w Q P f Y) (s q : Nat) (hs : s < P.n) (hq : q ≤ 4) (z : Int) (hz : z = (q : Int)) :
    Calls Tryz.prog 87 #[ptrA Q, .int .i64 z, .int .i64 (s : Int)] w fun e w' => e = .returned (.int .u64 (f (8 * s + q))) ∧ Below w.heap.size w w' := by
  subst hz
  obtain ⟨b1, b2, b3, _⟩ := R.b
  have c5 := h.c5
  have hd := h.drew
  have S0 := (Held.St.start w).drew
  go_enter Tryz.func87, Tryz.ntmps87
  go_wp2_with fail
  go_region_held3 (fun W' => W'.cell? ⟨Q.D, 5, none⟩ = some (.pointer (some ⟨Q.B, 0, none⟩)))
    (first | with_reducible exact c5 | with_reducible exact d1 | exact c5)
    (first
      | (go_at_call 123; refine (Plan.refat_any (q : Int) (s : Int) _ (by omega) (by omega) (by omega) (by omega)).mono ?_; rintro z w1 ⟨rfl, k1⟩; have h1 := hd.keep k1; have d1 := h1.c5; have S1 := S0.call k1)
      | (go_at_call 135; refine (Aref.word_ok _ Q.B Q.g P.N (8 * s + q) f _ h1.ar (by omega) (by omega)).mono ?_; rintro z w2 ⟨rfl, rfl⟩))
  all_goals
    go_wp2
    go_ret
    exact ⟨rfl, S1.below⟩
set_option maxHeartbeats 1000000 in
theorem aput_ok (w : World) (R : Pr P) (h : Al w Q P f Y) (s q : Nat) (hs : s < P.n) (hq : q ≤ 4) (z : Int) (hz : z = (q : Int)) (x : Int) (x0 : 0 ≤ x) (x1 : x ≤ 18446744073709551615) :
    Calls Tryz.prog 74 #[ptrA Q, .int .i64 z, .int .i64 (s : Int), .int .u64 x] w fun e w' => e = .returned (.tuple #[]) ∧ Al w' Q P (setF f (8 * s + q) x) Y ∧ Only [Q.g] w w' := by
  subst hz
  obtain ⟨b1, b2, b3, _⟩ := R.b
  have c5 := h.c5
  have hd := h.drew
  have o0 : Only [Q.g] w w.drew := Only.below (Below.refl _ _).drew
  go_enter Tryz.func74, Tryz.ntmps74
  go_wp2_with fail
  go_region_held3 (fun W' => W'.cell? ⟨Q.D, 5, none⟩ = some (.pointer (some ⟨Q.B, 0, none⟩)))
    (first | with_reducible exact c5 | with_reducible exact d1 | with_reducible exact d2 | exact c5)
    (first
      | (go_at_call 123; refine (Plan.refat_any (q : Int) (s : Int) _ (by omega) (by omega) (by omega) (by omega)).mono ?_; rintro z w1 ⟨rfl, k1⟩; have h1 := hd.keep k1; have d1 := h1.c5; have o1 := o0.trans (Only.below k1))
      | (go_at_call 122; refine (Aref.put_ok _ Q.B Q.g P.N (8 * s + q) f _ x h1.ar (by omega) (by omega) x0 x1).mono ?_; rintro z w2 ⟨rfl, a2, g2⟩; have h2 := h1.words a2 g2; have d2 := h2.c5; have o2 := o1.trans (Only.grown g2 (by simp))))
  all_goals
    go_wp2
    go_end0
    exact ⟨rfl, h2, o2⟩
set_option maxHeartbeats 1000000 in
theorem actl_ok (w : World) (R : Pr P) (h : Al w Q P f Y) (s : Nat) (hs : s < P.n) :
    Calls Tryz.prog 38 #[ptrA Q, .int .i64 (s : Int)] w fun e w' => e = .returned (.agg #[.int .i64 (Ctl.unV (f (8 * s))).s, .int .i64 (Ctl.unV (f (8 * s))).c, .int .i64 (Ctl.unV (f (8 * s))).p, .int .i64 (Ctl.unV (f (8 * s))).e]) ∧ Below w.heap.size w w' := by
  have S0 := (Held.St.start w).new [.int .i64 0, .int .i64 0, .int .i64 0, .int .i64 0] 64
  have h0 := h.alloc (.cells [.int .i64 0, .int .i64 0, .int .i64 0, .int .i64 0].toArray 64)
  have hf := h.ar.fit (8 * s)
  obtain ⟨p0, p1, p2, p3⟩ := (S0.get4 0 rfl).2
  go_enter Tryz.func38, Tryz.ntmps38
  go_wp2_with fail
  refine (get_ok _ R h0 s 0 hs (by omega) _ rfl).mono ?_
  rintro e w1 ⟨rfl, k1⟩
  have S1 := S0.call k1
  go_wp2_with fail
  refine (Ctl.refunpack_any _ _ hf.1 hf.2).mono ?_
  rintro e w2 ⟨rfl, k2⟩
  simp only [Nat.add_zero]
  have S2 := (S1.call k2).new [.int .i64 (Ctl.unV (f (8 * s))).s, .int .i64 (Ctl.unV (f (8 * s))).c, .int .i64 (Ctl.unV (f (8 * s))).p, .int .i64 (Ctl.unV (f (8 * s))).e] 64
  obtain ⟨_, r0, r1, r2, r3⟩ := S2.get4 0 rfl
  obtain ⟨_, q0, q1, q2, q3⟩ := S2.get4 1 rfl
  have fz := (S2.get 1 rfl).fz
  go_wp2
  refine bodyPost_ret (v := .agg #[.int .i64 (Ctl.unV (f (8 * s))).s, .int .i64 (Ctl.unV (f (8 * s))).c, .int .i64 (Ctl.unV (f (8 * s))).p, .int .i64 (Ctl.unV (f (8 * s))).e]) (by simp [results, Tryz.results38, go_sem, q0, q1, q2, q3]) rfl ?_
  exact ⟨rfl, ((((S2.below.setCell (S2.get 1 rfl).own _).setCell (S2.get 1 rfl).own _).setCell (S2.get 1 rfl).own _).setCell (S2.get 1 rfl).own _)⟩
set_option maxHeartbeats 1000000 in
theorem atell_ok (w : World) (R : Pr P) (h : Al w Q P f Y) (s : Nat) (hs : s < P.n) (a b c d : Int) (hr : Ctl.rightB a b c d = true) :
    Calls Tryz.prog 73 #[ptrA Q, .int .i64 (s : Int), .agg #[.int .i64 a, .int .i64 b, .int .i64 c, .int .i64 d]] w fun e w' => e = .returned (.tuple #[]) ∧ Al w' Q P (setF f (8 * s) (Ctl.packV a b c d)) Y ∧ Only [Q.g] w w' := by
  have S0 := (Held.St.start w).new [.int .i64 a, .int .i64 b, .int .i64 c, .int .i64 d] 64
  have h0 := h.alloc (.cells [.int .i64 a, .int .i64 b, .int .i64 c, .int .i64 d].toArray 64)
  obtain ⟨q0, q1⟩ := pack_bound hr
  obtain ⟨p0, p1, p2, p3⟩ := (S0.get4 0 rfl).2
  have o0 : Only [Q.g] w (w.alloc (.cells [.int .i64 a, .int .i64 b, .int .i64 c, .int .i64 d].toArray 64)) := Only.below ((Below.refl _ _).alloc (Nat.le_refl _) _)
  clear hr
  go_enter Tryz.func73, Tryz.ntmps73
  go_wp2_with fail
  refine (Ctl.refpack_any _ _ _ _ _).mono ?_
  rintro e w1 ⟨rfl, k1⟩
  have h1 := h0.keep k1
  go_wp2_with fail
  refine (aput_ok _ R h1 s 0 hs (by omega) _ rfl _ q0 q1).mono ?_
  rintro e w2 ⟨rfl, h2, o2⟩
  go_wp2
  go_end0
  exact ⟨rfl, h2, (o0.trans (Only.below k1)).trans o2⟩
end Go.Proofs.YteakglkagmghpaaGreat.Fou

/-
  The document's New of layer 14.
-/
namespace Go.Proofs.YteakglkagmghpaaGreat.Fou
open Go.ChangeShapes Go.WideShapes Go.ChangeAt Go.RowKit
open Sco Amem Gm
set_option linter.unusedVariables false
set_option linter.unusedSimpArgs false
set_option maxRecDepth 8000
attribute [local go_sem ↓] Go.wp_at_zero Go.wp_at_succ
variable {P : Pn} {f : Nat → Int} {F : Fo} {G : Nat} {w w' : World} {Y : Nat → Bool} {Q : Ql}
theorem pl6 {w0 W : World} {bE bP : Nat} {n t i j a z : Int} (S : Held.St w0 W [(bE, [.int .i64 a, .int .i64 z]), (bP, [.int .i64 n, .int .i64 t, .int .i64 i, .int .i64 j])]) :
    (W.cell? ⟨bP, 0, none⟩ = some (.int .i64 n) ∧ W.cell? ⟨bP, 1, none⟩ = some (.int .i64 t) ∧ W.cell? ⟨bP, 2, none⟩ = some (.int .i64 i) ∧ W.cell? ⟨bP, 3, none⟩ = some (.int .i64 j)) ∧ W.cell? ⟨bE, 0, none⟩ = some (.int .i64 a) ∧ W.cell? ⟨bE, 1, none⟩ = some (.int .i64 z) :=
  ⟨⟨(S.get 1 rfl).cell 0 _ rfl, (S.get 1 rfl).cell 1 _ rfl, (S.get 1 rfl).cell 2 _ rfl, (S.get 1 rfl).cell 3 _ rfl⟩, (S.get 0 rfl).cell 0 _ rfl, (S.get 0 rfl).cell 1 _ rfl⟩
/-- The document's struct, made. -/
theorem al_made {M : Nat} {C gw B g : Nat} (a : Aref.Rf w B g P.N f) (r : Ref.Rf w C gw P.A M Y) :
    Al (w.alloc (.cells #[.int .i64 (P.n : Int), .int .i64 P.t, .int .i64 P.i, .int .i64 P.j, .slice none 0 0, .pointer (some ⟨B, 0, none⟩), .pointer (some ⟨C, 0, none⟩)] 99)) ⟨w.heap.size, B, g, C, gw, M, .slice none 0 0⟩ P f Y := by
  have k : Below w.heap.size w (w.alloc (.cells #[.int .i64 (P.n : Int), .int .i64 P.t, .int .i64 P.i, .int .i64 P.j, .slice none 0 0, .pointer (some ⟨B, 0, none⟩), .pointer (some ⟨C, 0, none⟩)] 99)) := (Below.refl _ _).alloc (Nat.le_refl _) _
  refine ⟨World.rowIs_alloc w #[.int .i64 (P.n : Int), .int .i64 P.t, .int .i64 P.i, .int .i64 P.j, .slice none 0 0, .pointer (some ⟨B, 0, none⟩), .pointer (some ⟨C, 0, none⟩)] 99 (allC ⟨w.heap.size, B, g, C, gw, M, .slice none 0 0⟩ P) (fun i hi => ?_), a.below k a.head.lt a.body.lt, r.below k⟩
  have hi7 : i < 7 := hi
  match i, hi7 with
  | 0, _ => rfl
  | 1, _ => rfl
  | 2, _ => rfl
  | 3, _ => rfl
  | 4, _ => rfl
  | 5, _ => rfl
  | 6, _ => rfl
set_option maxHeartbeats 2000000 in
theorem anew_ok (w : World) (R : Pr P) (M : Nat) (hM : P.j = 8 * (M : Int)) :
    Calls Tryz.prog 29 #[P.plan, .slice none 0 0] w fun e w' => ∃ Q : Ql, e = .returned (ptrA Q) ∧ Q.M = M ∧ Al w' Q P (newW P.n P.i) (fun _ => true) ∧ Below w.heap.size w w' ∧ (∀ b ∈ [Q.D, Q.B, Q.g, Q.C, Q.gw], w.heap.size ≤ b) := by
  obtain ⟨b1, b2, b3, b4, b5, b6, b7, b8, b9⟩ := R.b
  have S0 := (Held.St.start w).new [.int .i64 (P.n : Int), .int .i64 P.t, .int .i64 P.i, .int .i64 P.j] 23
  obtain ⟨_, p0, p1, p2, p3⟩ := S0.get4 0 rfl
  have HR := Lib.hid R.hr
  have HN := Lib.hid R.hN
  have HMM := Lib.hid hM
  have hMl : M ≤ 8192 := by omega
  have hNl : P.N ≤ 8192 := by have := R.hN; omega
  have N4 : ∀ W, Calls Tryz.prog 72 #[.int .i64 (64 * (P.n : Int) + P.i), .int .i64 P.j] W fun e w' => e = .returned (.pointer (some ⟨W.heap.size + 1, 0, none⟩)) ∧ Ref.Rf w' (W.heap.size + 1) W.heap.size (64 * (P.n : Int) + P.i) M (fun _ => true) ∧ Below W.heap.size W w' ∧ W.heap.size + 2 ≤ w'.heap.size := fun W => by rw [hM]; exact Ref.new_any W _ M hMl
  clear hM
  go_enter Tryz.func29, Tryz.ntmps29
  go_wp2_with fail
  refine (Plan.refheap_any _ _ _ _ _ HR.out).mono ?_
  rintro z w1 ⟨rfl, k1⟩
  have S1 := (S0.call k1).new [.int .i64 (64 * (P.n : Int) + P.i), .int .i64 P.j] 119
  have T1 := pl6 S1
  have Sd := S1.drew
  have Td := pl6 Sd
  clear p0 p1 p2 p3
  go_wp2_with fail
  obtain ⟨⟨p0, p1, p2, p3⟩, x0, x1⟩ := T1
  go_region_held3 (fun W => (W.cell? ⟨w.heap.size, 0, none⟩ = some (.int .i64 (P.n : Int)) ∧ W.cell? ⟨w.heap.size, 1, none⟩ = some (.int .i64 P.t) ∧ W.cell? ⟨w.heap.size, 2, none⟩ = some (.int .i64 P.i) ∧ W.cell? ⟨w.heap.size, 3, none⟩ = some (.int .i64 P.j)) ∧ W.cell? ⟨w1.heap.size, 0, none⟩ = some (.int .i64 (64 * (P.n : Int) + P.i)) ∧ W.cell? ⟨w1.heap.size, 1, none⟩ = some (.int .i64 P.j))
    (first | with_reducible exact Td | with_reducible exact T2 | with_reducible exact T3 | with_reducible exact T4 | exact pl6 (S4.alloc _) | exact Td)
    (first
      | (go_at_call 71; refine (Plan.refsize_any _ _ _ _ _ HR.out).mono ?_; rintro z w2 ⟨rfl, k2⟩; rw [← HN.out]; have S2 := Sd.call k2; have T2 := pl6 S2)
      | (go_at_call 70; refine (Aref.new_any _ P.N hNl).mono ?_; rintro z w3 ⟨rfl, a3, k3, z3⟩; clear z3; have S3 := S2.call k3; have T3 := pl6 S3)
      | (go_at_call 72; refine (N4 _).mono ?_; rintro z w4 ⟨rfl, r4, k4, z4⟩; clear z4; have S4 := S3.call k4; have T4 := pl6 S4))
  all_goals
    have AM := al_made (P := P) (a3.below k4 a3.head.lt a3.body.lt) r4
    have lw1 := S0.below.size
    have lw2 := S1.below.size
    have lt1 := (S2.get 0 rfl).lt
    have lt0 := (S2.get 1 rfl).lt
    have lw3 := S2.below.size
    have lw4 := S3.below.size
    have lw5 := S4.below.size
    have SM := S4.alloc (.cells #[.int .i64 (P.n : Int), .int .i64 P.t, .int .i64 P.i, .int .i64 P.j, .slice none 0 0, .pointer (some ⟨w2.heap.size + 1, 0, none⟩), .pointer (some ⟨w3.heap.size + 1, 0, none⟩)] 99)
    clear Td T2 T3 T4 p0 p1 p2 p3 x0 x1
    go_wp2_with fail
    refine (atell_ok _ R AM 0 (by omega) 2 1 (-1) 0 (by decide)).mono ?_
    rintro z w6 ⟨rfl, h6, k6⟩
    have S6 := st_only SM k6 (fun x hx => by rw [List.mem_singleton.1 hx]; show w.heap.size ≤ w2.heap.size; omega) (fun y hy => by
      rcases List.mem_cons.1 hy with rfl | hy
      · exact fun e => by have : w1.heap.size = w2.heap.size := List.mem_singleton.1 e; omega
      · rw [List.mem_singleton.1 hy]
        exact fun e => by have : w.heap.size = w2.heap.size := List.mem_singleton.1 e; omega)
    obtain ⟨⟨p0, p1, p2, p3⟩, x0, x1⟩ := pl6 S6
    go_wp2_with fail
    refine (Plan.refimm_any _ _ _ _ _ HR.out).mono ?_
    rintro z w7 ⟨rfl, k7⟩
    have S7 := S6.call k7
    have h7 := h6.keep k7
    have wa : IntKind.u64.wrap (64 * (P.n : Int)) = 64 * (P.n : Int) := IntWalk.u64_in _ (by omega)
    have f26 : ∀ W, (Instr.field 119 (.agg #[.int .i64 (64 * (P.n : Int)), .int .i64 P.i]) 0).run Tryz.prog W = .ok (.int .i64 (64 * (P.n : Int))) W := fun W => by rfl
    have wi : IntKind.u64.wrap P.i = P.i := IntWalk.u64_in _ (by omega)
    clear p0 p1 p2 p3 x0 x1
    go_wp2_with fail
    refine (aput_ok _ R h7 0 1 (by omega) (by omega) _ rfl (64 * (P.n : Int)) (by omega) (by omega)).mono ?_
    rintro z w8 ⟨rfl, h8, k8⟩
    have S8 := st_only S7 k8 (fun x hx => by rw [List.mem_singleton.1 hx]; show w.heap.size ≤ w2.heap.size; omega) (fun y hy => by
      rcases List.mem_cons.1 hy with rfl | hy
      · exact fun e => by have : w1.heap.size = w2.heap.size := List.mem_singleton.1 e; omega
      · rw [List.mem_singleton.1 hy]
        exact fun e => by have : w.heap.size = w2.heap.size := List.mem_singleton.1 e; omega)
    obtain ⟨⟨p0, p1, p2, p3⟩, x0, x1⟩ := pl6 S8
    go_wp2_with fail
    refine (aput_ok _ R h8 0 2 (by omega) (by omega) _ rfl P.i (by omega) (by omega)).mono ?_
    rintro z w9 ⟨rfl, h9, k9⟩
    have S9 := st_only S8 k9 (fun x hx => by rw [List.mem_singleton.1 hx]; show w.heap.size ≤ w2.heap.size; omega) (fun y hy => by
      rcases List.mem_cons.1 hy with rfl | hy
      · exact fun e => by have : w1.heap.size = w2.heap.size := List.mem_singleton.1 e; omega
      · rw [List.mem_singleton.1 hy]
        exact fun e => by have : w.heap.size = w2.heap.size := List.mem_singleton.1 e; omega)
    go_wp2
    go_ret
    refine ⟨_, rfl, rfl, h9, S9.below, fun b hb => ?_⟩
    simp only [List.mem_cons, List.not_mem_nil, or_false] at hb
    rcases hb with rfl | rfl | rfl | rfl | rfl <;> omega
end Go.Proofs.YteakglkagmghpaaGreat.Fou

/-
  The document's calls of layer 14: a scope is made, a scope is unmade (penfoldref14's create and destroy, and Make of both).
-/
namespace Go.Proofs.YteakglkagmghpaaGreat.Fou
open Go.ChangeShapes Go.WideShapes Go.ChangeAt Go.RowKit
open Go.Proofs.YteakglkagmghpaaGreat.Mod Sco Amem Beg Gm
set_option linter.unusedVariables false
set_option linter.unusedSimpArgs false
set_option maxRecDepth 100000
attribute [local go_sem ↓] Go.wp_at_zero Go.wp_at_succ
variable {P : Pn} {f : Nat → Int} {F : Fo} {G : Nat} {w w' : World} {Y : Nat → Bool} {Q : Ql}
/-- A block that came later is written into. -/
theorem al_far {f' : Nat → Int} {Y' : Nat → Bool} {w0 : World} (h0 : Al w0 Q P f Y) (h : Al w Q P f' Y') {b : Nat} (hb : w0.heap.size ≤ b) (k : Only [b] w w') : Al w' Q P f' Y' := by
  have l1 := h0.hd.lt
  have l2 := h0.ar.head.lt
  have l3 := h0.ar.body.lt
  have l4 := h0.gr.head.lt
  have l5 := h0.gr.body.lt
  exact h.only k (fun e => by have := List.mem_singleton.1 e; omega) (fun e => by have := List.mem_singleton.1 e; omega) (fun e => by have := List.mem_singleton.1 e; omega) (fun e => by have := List.mem_singleton.1 e; omega) (fun e => by have := List.mem_singleton.1 e; omega)
/-- What the document's call tells, and leaves. -/
def MakeD (w : World) (Q : Ql) (P : Pn) (f : Nat → Int) (F : Fo) (c : Ca) (be : Be) (ar ha va code n : Int) (e : Ending) (w' : World) : Prop := ∃ ch li sa as_ Y', e = .returned (runV (ofT c be ar ha va code n ch li sa as_)) ∧
  Slic.Sr kE w' ch [] ∧ Slic.Sr Fina.kI w' li [] ∧ Slic.Sr Fina.kI w' sa [] ∧ Slic.Sr Fina.kI w' as_ [] ∧ Al w' Q P f Y' ∧ F.L = runs P.A Y' Q.M ∧ Only [Q.g, Q.gw] w w'
theorem wf_see {R : List Cx} (h : Wf f R) (v : ∀ (i : Nat) x, R[i]? = some x → Ctl.rightB x.s x.c x.p x.e = true) {i : Nat} {x : Cx} (hx : R[i]? = some x) : Ctl.unV (f (8 * i)) = ⟨x.s, x.c, x.p, x.e, 0⟩ := by
  rw [(h i x hx).1]
  exact un_pack (v i x hx)
set_option maxHeartbeats 4000000 in
theorem mkcreate_any (w : World) (R : Pr P) (h : Al w Q P f Y) (wf : Wf f F.R) (iv : P.Iv F) (hL : F.L = runs P.A Y Q.M) (hM : P.j = 8 * (Q.M : Int)) (r hh y a b c ar ha va cd : Int) (ch : Value) (a1 : 1 ≤ a) (a2 : a ≤ 8192) (hC : Slic.Sr kE w ch []) :
    Calls Tryz.prog 80 #[ptrA Q, runV (ofR ⟨2, r, hh, y, a, b, c⟩ ⟨cd, 1⟩ ar ha va ch)] w
      (MakeD w Q P (createW f F a) (createV F a).F ⟨2, r, hh, y, a, b, c⟩ ⟨cd, 1⟩ ar ha va (createV F a).x (createV F a).v) := by
  obtain ⟨FR, FL⟩ := F
  dsimp only at hL wf
  subst hL
  obtain ⟨b1, b2, b3, b4, b5, b6, b7, b8, b9⟩ := R.b
  have hz : ¬ (a < 1 ∨ 8192 < a) := by omega
  have e1 : IntKind.i64.wrap (a + 7) = a + 7 := IntWalk.i64_in _ (by omega)
  have e2 : Int.tdiv (a + 7) 8 = (a + 7) / 8 := Int.tdiv_eq_ediv_of_nonneg (by omega)
  have e3 : IntKind.i64.wrap ((a + 7) / 8 * 8) = upz a := by unfold upz; exact IntWalk.i64_in _ (by omega)
  have e4 : (a + 7) / 8 * 8 = upz a := rfl
  have HU := Lib.hid (upz_all hz)
  have INV := Lib.hid (iv.create a)
  have HC := Lib.hid (show createV ⟨FR, runs P.A Y Q.M⟩ a = (match FR[FR.findIdx fr]? with
    | none => ⟨0, 13, false, ⟨FR, runs P.A Y Q.M⟩⟩
    | some x => if Gr.carveB (upz a) (runs P.A Y Q.M) = true then ⟨(FR.findIdx fr : Nat), 0, false, ⟨FR.set (FR.findIdx fr) (made x (carveA (upz a) (runs P.A Y Q.M)) (upz a)), carveL (upz a) (runs P.A Y Q.M)⟩⟩ else ⟨0, 14, false, ⟨FR, runs P.A Y Q.M⟩⟩) by unfold createV; rw [if_neg hz]; rfl)
  have HW := Lib.hid (show createW f ⟨FR, runs P.A Y Q.M⟩ a = (match FR[FR.findIdx fr]? with
    | none => f
    | some x => if Gr.carveB (upz a) (runs P.A Y Q.M) = true then setF (setF (putX f (FR.findIdx fr) (made x (carveA (upz a) (runs P.A Y Q.M)) (upz a))) (8 * FR.findIdx fr + 3) 0) (8 * FR.findIdx fr + 4) 0 else f) by unfold createW; rfl)
  have HF := Lib.hid iv.fr_pos
  have hlen : FR.length = P.n := iv.len
  have HR := Lib.hid iv.right
  have a0 := iv.ok.a0
  have a65 : P.A ≤ 65536 := by unfold Pn.A; omega
  have a8 := Lib.hid iv.ok.a8
  have hMl : Q.M ≤ 8192 := by omega
  have EXT := Lib.hid iv.ext
  have HWF := Lib.hid wf
  have HIV := Lib.hid iv
  have upl : upz a ≤ 8192 := by have := HU.out; omega
  have up1 : 1 ≤ upz a := by have := HU.out; omega
  generalize hu : upz a = u at *
  clear hz wf iv hu
  have S0 := ((Lx.start w [Q.g, Q.gw] (al_lt h)).new (stQ 2 r hh y a b c ar ha va ch cd) 87).new zR 87
  simp only [World.size_alloc] at S0
  have h0 := (h.alloc (.cells (stQ 2 r hh y a b c ar ha va ch cd).toArray 87)).alloc (.cells zR.toArray 87)
  rw [stq_run]
  obtain ⟨A1, c1, rfl, _⟩ := hC.form
  dsimp only [List.length_nil] at *
  go_enter Tryz.func80, Tryz.ntmps80
  obtain ⟨W, hW⟩ : ∃ W : World, W = (w.alloc (.cells (stQ 2 r hh y a b c ar ha va (.slice A1 0 c1) cd).toArray 87)).alloc (.cells [.int .u8 0, .int .u8 0, .int .u8 0, .int .u8 0, .int .i64 0, .int .i64 0, .int .i64 0, .int .i64 0, .int .i64 0, .int .u64 0, .int .u64 0, .slice none 0 0, .int .u64 0, .int .u64 0, .int .i64 0, .int .i64 0, .slice none 0 0, .int .i64 0, .slice none 0 0, .int .i64 0, .bool false, .bool false, .bool false, .int .i64 0, .int .i64 0, .slice none 0 0].toArray 87) := ⟨_, rfl⟩
  rw [← hW] at S0 h0
  go_upto_region 1 with (fail)
  rw [show (w.alloc (.cells (stQ 2 r hh y a b c ar ha va (.slice A1 0 c1) cd).toArray 87)).alloc (.cells [.int .u8 0, .int .u8 0, .int .u8 0, .int .u8 0, .int .i64 0, .int .i64 0, .int .i64 0, .int .i64 0, .int .i64 0, .int .u64 0, .int .u64 0, .slice none 0 0, .int .u64 0, .int .u64 0, .int .i64 0, .int .i64 0, .slice none 0 0, .int .i64 0, .slice none 0 0, .int .i64 0, .bool false, .bool false, .bool false, .int .i64 0, .int .i64 0, .slice none 0 0].toArray 87) = W from hW.symm]
  clear hW
  have x4 := (S0.get 1 rfl).cell 4 _ rfl
  go_wp2_with fail
  go_loopw [5] (fun t wr => ∃ j : Nat, 1 ≤ j ∧ j ≤ P.n ∧ t = .int .i64 (j : Int) ∧ Below W.heap.size W wr ∧ Hid (∀ i (hi : i < FR.length), i < j → fr FR[i] = false)) (fun t _ => P.n - (intOf t).toNat)
  case atStart =>
    refine ⟨1, by omega, by omega, rfl, Below.refl _ _, Lib.hid (fun i hi h => ?_)⟩
    have e : 1 ≤ FR.findIdx fr := HF.out
    have := List.not_of_lt_findIdx (p := fr) (show i < FR.findIdx fr by omega)
    simpa using this
  case round =>
    obtain ⟨j, hj1, hj2, rfl, hB, hno⟩ := hrel
    have SJ := S0.call hB
    have hJ := h0.keep hB
    have c0 := hJ.c0
    clear S0 h0 x4
    by_cases hjn : j < P.n
    · obtain ⟨x, hx⟩ : ∃ x, FR[j]? = some x := ⟨_, List.getElem?_eq_getElem (by omega)⟩
      have HS := Lib.hid (wf_see HWF.out HR.out hx)
      go_wp2_with fail
      refine (actl_ok _ R hJ j hjn).mono ?_
      rintro e w1 ⟨rfl, k1⟩
      rw [HS.out]
      have S1 := (SJ.call k1).new [.int .i64 x.s, .int .i64 x.c, .int .i64 x.p, .int .i64 x.e] 64
      have h1 := (hJ.keep k1).alloc (.cells [.int .i64 x.s, .int .i64 x.c, .int .i64 x.p, .int .i64 x.e].toArray 64)
      have lw1 : w.heap.size ≤ w1.heap.size := (SJ.call k1).only.size
      have A1c := S1.get 0 rfl
      have d0 := A1c.cell 0 _ rfl
      have d1 := A1c.cell 1 _ rfl
      have d2 := A1c.cell 2 _ rfl
      have d3 := A1c.cell 3 _ rfl
      have fz := A1c.fz 0
      have x4 := (S1.get 2 rfl).cell 4 _ rfl
      have c6 := h1.c6
      clear A1c c0 hJ
      cases hp : fr x with
      | true =>
        have s0 : x.s = 0 := of_decide_eq_true hp
        have HI : Hid (FR.findIdx fr = j) := Lib.hid (find_at hno.out (by omega) (by have := (List.getElem?_eq_some_iff.1 hx).2; rw [this]; exact hp))
        have HV := Lib.hid (HC.out.trans (by rw [HI.out, hx]))
        have HVW := Lib.hid (HW.out.trans (by rw [HI.out, hx]))
        have HRM := Lib.hid (fun ca => right_made (a := ca) (z := u) (HR.out _ _ hx) s0)
        have q0 : (x.s != 0) = false := by rw [s0]; rfl
        have BK := Lib.hid (show j < FR.length by omega)
        clear HC HW hno hp hx s0
        go_wp2_with fail
        refine (Ref.carve_any _ Q.C Q.gw Q.M P.A Y u h1.gr a0 a65 a8.out hMl (by omega) (by omega)).mono ?_
        rintro e w2 ⟨rfl, rf2, k2⟩
        have h2 := h1.ground rf2 k2
        have S2 := S1.grown k2 (by simp)
        have CR := Lib.hid (Ref.carve_runs (A := P.A) (z := u) (n := Q.M) Y a0 a65 a8.out hMl)
        generalize hY : Ref.carveW P.A u Q.M Y = Y1 at *
        clear hY d0 d1 d2 d3 fz x4 c6
        cases hb : Gr.carveB u (runs P.A Y Q.M) with
        | false =>
          have HV0 := Lib.hid (show Gr.carveV u (runs P.A Y Q.M) = 0 by unfold Gr.carveV; rw [if_neg (by rw [hb]; decide)])
          have E := Lib.hid (show createV ⟨FR, runs P.A Y Q.M⟩ a = ⟨0, 14, false, ⟨FR, runs P.A Y Q.M⟩⟩ from HV.out.trans (by simp only [hb]; rfl))
          have W' := Lib.hid (show createW f ⟨FR, runs P.A Y Q.M⟩ a = f from HVW.out.trans (by simp only [hb]; rfl))
          have HL' := Lib.hid (show runs P.A Y Q.M = runs P.A Y1 Q.M by have := CR.out; unfold Gr.carveF at this; rw [if_neg (by rw [hb]; decide)] at this; exact this)
          have ST := S2.swap
          clear hb HV HVW S1 S2 HRM
          go_upto_region 9 with (fail)
          have RR := at_range (ST.get 2 rfl)
          go_wp2_with (refine wpList_load_mid rfl _ _ rfl w.heap.size 0 rfl (ofR ⟨2, r, hh, y, a, b, c⟩ ⟨cd, 1⟩ ar ha va (.slice A1 0 c1)).cells _ RR Tryz.underlying87 rfl info_run ?_)
          refine (reftellR_any (ofR ⟨2, r, hh, y, a, b, c⟩ ⟨cd, 1⟩ ar ha va (.slice A1 0 c1)) [] [] [] 14 0 _ (sr_nilK hC) (Slic.Sr.nil _) (Slic.Sr.nil _) rfl).mono ?_
          rintro z w3 ⟨ch2, li2, sa2, as2, rfl, O2, I2, T2, V2, k3⟩
          rw [tell_ofR]
          obtain ⟨B1, d1', rfl, _, _⟩ := O2.form
          obtain ⟨B2, d2', rfl, _, _⟩ := I2.form
          obtain ⟨B3, d3', rfl, _, _⟩ := T2.form
          obtain ⟨B4, d4', rfl, _, _⟩ := V2.form
          obtain ⟨CS, hCS⟩ : ∃ CS : List Value, (ofT ⟨2, r, hh, y, a, b, c⟩ ⟨cd, 1⟩ ar ha va 14 0 (.slice B1 0 d1') (.slice B2 0 d2') (.slice B3 0 d3') (.slice B4 0 d4')).cells = CS := ⟨_, rfl⟩
          have CE : runV (ofT ⟨2, r, hh, y, a, b, c⟩ ⟨cd, 1⟩ ar ha va 14 0 (.slice B1 0 d1') (.slice B2 0 d2') (.slice B3 0 d3') (.slice B4 0 d4')) = .agg CS.toArray := by rw [← hCS]; rfl
          dsimp only [List.length_nil] at *
          rw [CE]
          have L26 : CS.length = 26 := by rw [← hCS]; rfl
          have ONE : ∀ u ∈ CS, u.oneCell' = true := by rw [← hCS]; exact cells_one rfl rfl rfl rfl
          have SN := ST.call k3
          have h3 := h2.keep k3
          have AN := SN.get 0 rfl
          have TT : World.there w3 (w.heap.size + 1) 0 CS.toArray.size := by rw [show CS.toArray.size = 26 from L26]; exact at_there AN
          have IR : (Tryz.prog.info? 87).map (·.size) = some CS.toArray.size := by rw [show CS.toArray.size = 26 from L26]; exact info_run
          have SF := SN.fill CS L26
          have CE' := Lib.hid CE
          have RF := at_range (SF.get 0 rfl)
          have q3 := fill_only w3 (w.heap.size + 1) CS
          have hF := al_far h h3 (Nat.le_succ _) q3
          have HL := Lib.hid L26
          have HO := Lib.hid ONE
          clear CE hCS L26 ONE
          go_wp2_with (refine wpList_store_mid rfl _ _ _ rfl (w.heap.size + 1) 0 CS.toArray rfl rfl TT IR (all_oneCell_toArray HO.out) ?_)
          refine bodyPost_ret (v := .agg CS.toArray) (results_cell_mid rfl _ _ (w.heap.size + 1) CS _ rfl RF Tryz.underlying87 rfl (by rw [HL.out]; exact info_run)) rfl ?_
          refine ⟨_, _, _, _, Y1, by rw [E.out]; exact congrArg Ending.returned CE'.out.symm, sr_nilK O2, sr_nilK I2, sr_nilK T2, sr_nilK V2, ?_, ?_, SF.only⟩
          · rw [W'.out]
            exact hF
          · rw [E.out]
            exact HL'.out
        | true =>
          have HV1 := Lib.hid (show Gr.carveV u (runs P.A Y Q.M) = carveA u (runs P.A Y Q.M) by unfold Gr.carveV; rw [if_pos hb])
          have E := Lib.hid (show createV ⟨FR, runs P.A Y Q.M⟩ a = ⟨(j : Nat), 0, false, ⟨FR.set j (made x (carveA u (runs P.A Y Q.M)) u), carveL u (runs P.A Y Q.M)⟩⟩ from HV.out.trans (by simp only [hb, if_true]))
          have W' := Lib.hid (show createW f ⟨FR, runs P.A Y Q.M⟩ a = setF (setF (putX f j (made x (carveA u (runs P.A Y Q.M)) u)) (8 * j + 3) 0) (8 * j + 4) 0 from HVW.out.trans (by simp only [hb, if_true]))
          have HL' := Lib.hid (show carveL u (runs P.A Y Q.M) = runs P.A Y1 Q.M by have := CR.out; unfold Gr.carveF at this; rw [if_pos hb] at this; exact this)
          obtain ⟨ca0, ca1⟩ : 0 ≤ carveA u (runs P.A Y Q.M) ∧ carveA u (runs P.A Y Q.M) ≤ 65536 := by
            have I := INV.out
            rw [E.out] at I
            have X := I.ext j (made x (carveA u (runs P.A Y Q.M)) u) (set_get BK.out) hj1
            generalize carveA u (runs P.A Y Q.M) = cz at X ⊢
            have e9 : P.A = 64 * (P.n : Int) + P.i := rfl
            rcases X with ⟨e, _⟩ | ⟨_, _, _, _, l1, l2⟩
            · exact absurd e (by simp [made])
            · dsimp only [made] at l1 l2
              constructor <;> omega
          have hr := HRM.out (carveA u (runs P.A Y Q.M))
          rw [HV1.out]
          have wca : IntKind.u64.wrap (carveA u (runs P.A Y Q.M)) = carveA u (runs P.A Y Q.M) := IntWalk.u64_in _ (by omega)
          have wu : IntKind.u64.wrap u = u := IntWalk.u64_in _ (by omega)
          generalize hcA : carveA u (runs P.A Y Q.M) = ca at *
          have A2c := S2.get 0 rfl
          have d0 := A2c.cell 0 _ rfl
          have fz := A2c.fz 0
          have S3 := S2.put 0 0 rfl (.int .i64 1) (by simp)
          have q3' : Only [w1.heap.size] w2 (w2.setCell ⟨w1.heap.size, 0, none⟩ (.int .i64 1)) := Only.put _ _ _ _ (by simp)
          have h3' := al_far h h2 lw1 q3'
          simp only [List.set_cons_zero] at S3
          have A3c := S3.get 0 rfl
          have f0 := A3c.cell 0 _ rfl
          have f1 := A3c.cell 1 _ rfl
          have f2 := A3c.cell 2 _ rfl
          have f3 := A3c.cell 3 _ rfl
          clear hb HV HVW S1 S2 HRM hcA A2c A3c HV1
          go_upto_region 10 with (fail)
          go_upto_region 11 with (fail)
          clear d0
          generalize w2.setCell ⟨w1.heap.size, 0, none⟩ (.int .i64 1) = W5 at *
          go_wp2_with fail
          refine (atell_ok _ R h3' j hjn _ _ _ _ hr).mono ?_
          rintro e w6 ⟨rfl, h6, k6⟩
          have S6 := S3.go (only_gw k6)
          go_wp2_with fail
          refine (aput_ok _ R h6 j 1 hjn (by omega) _ rfl ca ca0 (by omega)).mono ?_
          rintro e w7 ⟨rfl, h7, k7⟩
          have S7 := S6.go (only_gw k7)
          go_wp2_with fail
          refine (aput_ok _ R h7 j 2 hjn (by omega) _ rfl u (by omega) (by omega)).mono ?_
          rintro e w8 ⟨rfl, h8, k8⟩
          have S8 := S7.go (only_gw k8)
          go_wp2_with fail
          refine (aput_ok _ R h8 j 3 hjn (by omega) _ rfl 0 (by omega) (by omega)).mono ?_
          rintro e w9 ⟨rfl, h9, k9⟩
          have S9 := S8.go (only_gw k9)
          go_wp2_with fail
          refine (aput_ok _ R h9 j 4 hjn (by omega) _ rfl 0 (by omega) (by omega)).mono ?_
          rintro e w10 ⟨rfl, h10, k10⟩
          have ST := (S9.go (only_gw k10)).swap
          clear f0 f1 f2 f3 S3 S6 S7 S8 S9 h3' h6 h7 h8 h9
          go_upto_region 16 with (fail)
          have RR := at_range (ST.get 2 rfl)
          go_wp2_with (refine wpList_load_mid rfl _ _ rfl w.heap.size 0 rfl (ofR ⟨2, r, hh, y, a, b, c⟩ ⟨cd, 1⟩ ar ha va (.slice A1 0 c1)).cells _ RR Tryz.underlying87 rfl info_run ?_)
          refine (reftellR_any (ofR ⟨2, r, hh, y, a, b, c⟩ ⟨cd, 1⟩ ar ha va (.slice A1 0 c1)) [] [] [] 0 (j : Int) _ (sr_nilK hC) (Slic.Sr.nil _) (Slic.Sr.nil _) rfl).mono ?_
          rintro z w3 ⟨ch2, li2, sa2, as2, rfl, O2, I2, T2, V2, k3⟩
          rw [tell_ofR]
          obtain ⟨B1, d1', rfl, _, _⟩ := O2.form
          obtain ⟨B2, d2', rfl, _, _⟩ := I2.form
          obtain ⟨B3, d3', rfl, _, _⟩ := T2.form
          obtain ⟨B4, d4', rfl, _, _⟩ := V2.form
          obtain ⟨CS, hCS⟩ : ∃ CS : List Value, (ofT ⟨2, r, hh, y, a, b, c⟩ ⟨cd, 1⟩ ar ha va 0 (j : Int) (.slice B1 0 d1') (.slice B2 0 d2') (.slice B3 0 d3') (.slice B4 0 d4')).cells = CS := ⟨_, rfl⟩
          have CE : runV (ofT ⟨2, r, hh, y, a, b, c⟩ ⟨cd, 1⟩ ar ha va 0 (j : Int) (.slice B1 0 d1') (.slice B2 0 d2') (.slice B3 0 d3') (.slice B4 0 d4')) = .agg CS.toArray := by rw [← hCS]; rfl
          dsimp only [List.length_nil] at *
          rw [CE]
          have L26 : CS.length = 26 := by rw [← hCS]; rfl
          have ONE : ∀ u ∈ CS, u.oneCell' = true := by rw [← hCS]; exact cells_one rfl rfl rfl rfl
          have SN := ST.call k3
          have h3 := h10.keep k3
          have AN := SN.get 0 rfl
          have TT : World.there w3 (w.heap.size + 1) 0 CS.toArray.size := by rw [show CS.toArray.size = 26 from L26]; exact at_there AN
          have IR : (Tryz.prog.info? 87).map (·.size) = some CS.toArray.size := by rw [show CS.toArray.size = 26 from L26]; exact info_run
          have SF := SN.fill CS L26
          have CE' := Lib.hid CE
          have RF := at_range (SF.get 0 rfl)
          have q3 := fill_only w3 (w.heap.size + 1) CS
          have hF := al_far h h3 (Nat.le_succ _) q3
          have HL := Lib.hid L26
          have HO := Lib.hid ONE
          clear CE hCS L26 ONE
          go_wp2_with (refine wpList_store_mid rfl _ _ _ rfl (w.heap.size + 1) 0 CS.toArray rfl rfl TT IR (all_oneCell_toArray HO.out) ?_)
          refine bodyPost_ret (v := .agg CS.toArray) (results_cell_mid rfl _ _ (w.heap.size + 1) CS _ rfl RF Tryz.underlying87 rfl (by rw [HL.out]; exact info_run)) rfl ?_
          refine ⟨_, _, _, _, Y1, by rw [E.out]; exact congrArg Ending.returned CE'.out.symm, sr_nilK O2, sr_nilK I2, sr_nilK T2, sr_nilK V2, ?_, ?_, SF.only⟩
          · rw [W'.out]
            exact hF
          · rw [E.out]
            exact HL'.out
      | false =>
        have q0 : (x.s != 0) = true := by
          have : ¬ x.s = 0 := of_decide_eq_false hp
          simpa using this
        have HN : Hid (∀ i (hi : i < FR.length), i < j + 1 → fr FR[i] = false) := Lib.hid (fun i hi hl => by
          by_cases e : i = j
          · subst e
            have := (List.getElem?_eq_some_iff.1 hx).2
            rw [this]
            exact hp
          · exact hno.out i hi (by omega))
        have BN : Below W.heap.size W (w1.alloc (.cells #[.int .i64 x.s, .int .i64 x.c, .int .i64 x.p, .int .i64 x.e] 64)) := (hB.trans (k1.mono hB.size)).alloc (Nat.le_trans hB.size k1.size) _
        clear hno hp hx S1 h1 SJ
        go_wp2_with fail
        go_roundw
        case rel => exact ⟨j + 1, by omega, by omega, by go_num, BN, HN⟩
        case measure => simp [intOf]; omega
    · obtain rfl : P.n = j := by omega
      have E := Lib.hid (show createV ⟨FR, runs P.A Y Q.M⟩ a = ⟨0, 13, false, ⟨FR, runs P.A Y Q.M⟩⟩ from HC.out.trans (by
        have e : FR.findIdx fr = FR.length := Sco.find_none (fun i hi _ => hno.out i hi (by omega))
        rw [e, List.getElem?_eq_none (Nat.le_refl _)]))
      have W' := Lib.hid (show createW f ⟨FR, runs P.A Y Q.M⟩ a = f from HW.out.trans (by
        have e : FR.findIdx fr = FR.length := Sco.find_none (fun i hi _ => hno.out i hi (by omega))
        rw [e, List.getElem?_eq_none (Nat.le_refl _)]))
      clear hjn HC HW hno
      go_upto_region 17 with (fail)
      have RR := at_range (SJ.get 1 rfl)
      go_wp2_with (refine wpList_load_mid rfl _ _ rfl w.heap.size 0 rfl (ofR ⟨2, r, hh, y, a, b, c⟩ ⟨cd, 1⟩ ar ha va (.slice A1 0 c1)).cells _ RR Tryz.underlying87 rfl info_run ?_)
      refine (reftellR_any (ofR ⟨2, r, hh, y, a, b, c⟩ ⟨cd, 1⟩ ar ha va (.slice A1 0 c1)) [] [] [] 13 0 _ (sr_nilK hC) (Slic.Sr.nil _) (Slic.Sr.nil _) rfl).mono ?_
      rintro z w3 ⟨ch2, li2, sa2, as2, rfl, O2, I2, T2, V2, k3⟩
      rw [tell_ofR]
      obtain ⟨B1, d1', rfl, _, _⟩ := O2.form
      obtain ⟨B2, d2', rfl, _, _⟩ := I2.form
      obtain ⟨B3, d3', rfl, _, _⟩ := T2.form
      obtain ⟨B4, d4', rfl, _, _⟩ := V2.form
      obtain ⟨CS, hCS⟩ : ∃ CS : List Value, (ofT ⟨2, r, hh, y, a, b, c⟩ ⟨cd, 1⟩ ar ha va 13 0 (.slice B1 0 d1') (.slice B2 0 d2') (.slice B3 0 d3') (.slice B4 0 d4')).cells = CS := ⟨_, rfl⟩
      have CE : runV (ofT ⟨2, r, hh, y, a, b, c⟩ ⟨cd, 1⟩ ar ha va 13 0 (.slice B1 0 d1') (.slice B2 0 d2') (.slice B3 0 d3') (.slice B4 0 d4')) = .agg CS.toArray := by rw [← hCS]; rfl
      dsimp only [List.length_nil] at *
      rw [CE]
      have L26 : CS.length = 26 := by rw [← hCS]; rfl
      have ONE : ∀ u ∈ CS, u.oneCell' = true := by rw [← hCS]; exact cells_one rfl rfl rfl rfl
      have SN := SJ.call k3
      have h3 := hJ.keep k3
      have AN := SN.get 0 rfl
      have TT : World.there w3 (w.heap.size + 1) 0 CS.toArray.size := by rw [show CS.toArray.size = 26 from L26]; exact at_there AN
      have IR : (Tryz.prog.info? 87).map (·.size) = some CS.toArray.size := by rw [show CS.toArray.size = 26 from L26]; exact info_run
      have SF := SN.fill CS L26
      have CE' := Lib.hid CE
      have RF := at_range (SF.get 0 rfl)
      have q3 := fill_only w3 (w.heap.size + 1) CS
      have hF := al_far h h3 (Nat.le_succ _) q3
      have HL := Lib.hid L26
      have HO := Lib.hid ONE
      clear CE hCS L26 ONE
      go_wp2_with (refine wpList_store_mid rfl _ _ _ rfl (w.heap.size + 1) 0 CS.toArray rfl rfl TT IR (all_oneCell_toArray HO.out) ?_)
      refine bodyPost_ret (v := .agg CS.toArray) (results_cell_mid rfl _ _ (w.heap.size + 1) CS _ rfl RF Tryz.underlying87 rfl (by rw [HL.out]; exact info_run)) rfl ?_
      refine ⟨_, _, _, _, Y, by rw [E.out]; exact congrArg Ending.returned CE'.out.symm, sr_nilK O2, sr_nilK I2, sr_nilK T2, sr_nilK V2, ?_, ?_, SF.only⟩
      · rw [W'.out]
        exact hF
      · rw [E.out]
set_option maxHeartbeats 4000000 in
theorem mkdestroy_any (w : World) (R : Pr P) (h : Al w Q P f Y) (wf : Wf f F.R) (iv : P.Iv F) (hL : F.L = runs P.A Y Q.M) (hM : P.j = 8 * (Q.M : Int)) (r hh y b c ar ha va cd : Int) (s : Nat) (ch : Value) (s1 : 1 ≤ s) (hs : s < P.n) (hC : Slic.Sr kE w ch []) :
    Calls Tryz.prog 81 #[ptrA Q, runV (ofR ⟨3, r, hh, y, (s : Int), b, c⟩ ⟨cd, 1⟩ ar ha va ch)] w
      (MakeD w Q P (destroyW f F s) (destroyV F s).F ⟨3, r, hh, y, (s : Int), b, c⟩ ⟨cd, 1⟩ ar ha va (destroyV F s).x 0) := by
  obtain ⟨FR, FL⟩ := F
  dsimp only at hL wf
  subst hL
  obtain ⟨b1, b2, b3, b4, b5, b6, b7, b8, b9⟩ := R.b
  obtain ⟨x, hx⟩ : ∃ x, FR[s]? = some x := ⟨_, List.getElem?_eq_getElem (by have : FR.length = P.n := iv.len; omega)⟩
  have LK : Sco.look FR (s : Int) = FR[s]? := by unfold Sco.look; rw [if_pos (by omega), Int.toNat_natCast]
  have EC := Lib.hid (show destroyV ⟨FR, runs P.A Y Q.M⟩ s = if x.s = 0 then ⟨0, 11, false, ⟨FR, runs P.A Y Q.M⟩⟩ else if x.s = 1 then ⟨0, 0, false, ⟨FR.set s (gone x), giveL x.a (x.a + x.z) (runs P.A Y Q.M)⟩⟩ else ⟨0, 12, false, ⟨FR, runs P.A Y Q.M⟩⟩ by unfold destroyV; rw [LK, hx]; rfl)
  have EW := Lib.hid (show destroyW f ⟨FR, runs P.A Y Q.M⟩ s = if x.s = 1 then putX f s (gone x) else f by unfold destroyW; rw [LK, hx]; rfl)
  have HS := Lib.hid (wf_see wf iv.right hx)
  have hr := rightI (iv.right _ x hx)
  have a0 := iv.ok.a0
  have a65 : P.A ≤ 65536 := by unfold Pn.A; omega
  have a8 := Lib.hid iv.ok.a8
  have hMl : Q.M ≤ 8192 := by omega
  obtain ⟨wa, wz⟩ := (wf s x hx).2
  have HA := Lib.hid wa
  have HZ := Lib.hid wz
  have BK := Lib.hid (fun g0 => iv.back hx s1 g0)
  have IOK := Lib.hid iv.ok
  clear wf iv hx LK wa wz
  have S0 := ((Lx.start w [Q.g, Q.gw] (al_lt h)).new (stQ 3 r hh y (s : Int) b c ar ha va ch cd) 87).new zR 87
  simp only [World.size_alloc] at S0
  have h0 := (h.alloc (.cells (stQ 3 r hh y (s : Int) b c ar ha va ch cd).toArray 87)).alloc (.cells zR.toArray 87)
  rw [stq_run]
  obtain ⟨A1, c1, rfl, _⟩ := hC.form
  dsimp only [List.length_nil] at *
  go_enter Tryz.func81, Tryz.ntmps81
  obtain ⟨W, hW⟩ : ∃ W : World, W = (w.alloc (.cells (stQ 3 r hh y (s : Int) b c ar ha va (.slice A1 0 c1) cd).toArray 87)).alloc (.cells [.int .u8 0, .int .u8 0, .int .u8 0, .int .u8 0, .int .i64 0, .int .i64 0, .int .i64 0, .int .i64 0, .int .i64 0, .int .u64 0, .int .u64 0, .slice none 0 0, .int .u64 0, .int .u64 0, .int .i64 0, .int .i64 0, .slice none 0 0, .int .i64 0, .slice none 0 0, .int .i64 0, .bool false, .bool false, .bool false, .int .i64 0, .int .i64 0, .slice none 0 0].toArray 87) := ⟨_, rfl⟩
  rw [← hW] at S0 h0
  go_upto_region 1 with (fail)
  rw [show (w.alloc (.cells (stQ 3 r hh y (s : Int) b c ar ha va (.slice A1 0 c1) cd).toArray 87)).alloc (.cells [.int .u8 0, .int .u8 0, .int .u8 0, .int .u8 0, .int .i64 0, .int .i64 0, .int .i64 0, .int .i64 0, .int .i64 0, .int .u64 0, .int .u64 0, .slice none 0 0, .int .u64 0, .int .u64 0, .int .i64 0, .int .i64 0, .slice none 0 0, .int .i64 0, .slice none 0 0, .int .i64 0, .bool false, .bool false, .bool false, .int .i64 0, .int .i64 0, .slice none 0 0].toArray 87) = W from hW.symm]
  clear hW
  have x4 := (S0.get 1 rfl).cell 4 _ rfl
  go_wp2_with fail
  refine (actl_ok _ R h0 s hs).mono ?_
  rintro e w1 ⟨rfl, k1⟩
  rw [HS.out]
  have S1 := (S0.call k1).new [.int .i64 x.s, .int .i64 x.c, .int .i64 x.p, .int .i64 x.e] 64
  have h1 := (h0.keep k1).alloc (.cells [.int .i64 x.s, .int .i64 x.c, .int .i64 x.p, .int .i64 x.e].toArray 64)
  have A1c := S1.get 0 rfl
  have d0 := A1c.cell 0 _ rfl
  have d1 := A1c.cell 1 _ rfl
  have d2 := A1c.cell 2 _ rfl
  have d3 := A1c.cell 3 _ rfl
  clear A1c S0 h0 x4
  by_cases g0 : x.s = 0
  · have E := Lib.hid (show destroyV ⟨FR, runs P.A Y Q.M⟩ s = ⟨0, 11, false, ⟨FR, runs P.A Y Q.M⟩⟩ by rw [EC.out, if_pos g0])
    have W' := Lib.hid (show destroyW f ⟨FR, runs P.A Y Q.M⟩ s = f by rw [EW.out, if_neg (by omega)])
    have q0 : (x.s == 0) = true := by rw [g0]; rfl
    have ST := S1.swap
    clear g0 hr EC EW S1
    go_upto_region 4 with (fail)
    have RR := at_range (ST.get 2 rfl)
    go_wp2_with (refine wpList_load_mid rfl _ _ rfl w.heap.size 0 rfl (ofR ⟨3, r, hh, y, (s : Int), b, c⟩ ⟨cd, 1⟩ ar ha va (.slice A1 0 c1)).cells _ RR Tryz.underlying87 rfl info_run ?_)
    refine (reftellR_any (ofR ⟨3, r, hh, y, (s : Int), b, c⟩ ⟨cd, 1⟩ ar ha va (.slice A1 0 c1)) [] [] [] 11 0 _ (sr_nilK hC) (Slic.Sr.nil _) (Slic.Sr.nil _) rfl).mono ?_
    rintro z w3 ⟨ch2, li2, sa2, as2, rfl, O2, I2, T2, V2, k3⟩
    rw [tell_ofR]
    obtain ⟨B1, d1', rfl, _, _⟩ := O2.form
    obtain ⟨B2, d2', rfl, _, _⟩ := I2.form
    obtain ⟨B3, d3', rfl, _, _⟩ := T2.form
    obtain ⟨B4, d4', rfl, _, _⟩ := V2.form
    obtain ⟨CS, hCS⟩ : ∃ CS : List Value, (ofT ⟨3, r, hh, y, (s : Int), b, c⟩ ⟨cd, 1⟩ ar ha va 11 0 (.slice B1 0 d1') (.slice B2 0 d2') (.slice B3 0 d3') (.slice B4 0 d4')).cells = CS := ⟨_, rfl⟩
    have CE : runV (ofT ⟨3, r, hh, y, (s : Int), b, c⟩ ⟨cd, 1⟩ ar ha va 11 0 (.slice B1 0 d1') (.slice B2 0 d2') (.slice B3 0 d3') (.slice B4 0 d4')) = .agg CS.toArray := by rw [← hCS]; rfl
    dsimp only [List.length_nil] at *
    rw [CE]
    have L26 : CS.length = 26 := by rw [← hCS]; rfl
    have ONE : ∀ u ∈ CS, u.oneCell' = true := by rw [← hCS]; exact cells_one rfl rfl rfl rfl
    have SN := ST.call k3
    have h3 := h1.keep k3
    have AN := SN.get 0 rfl
    have TT : World.there w3 (w.heap.size + 1) 0 CS.toArray.size := by rw [show CS.toArray.size = 26 from L26]; exact at_there AN
    have IR : (Tryz.prog.info? 87).map (·.size) = some CS.toArray.size := by rw [show CS.toArray.size = 26 from L26]; exact info_run
    have SF := SN.fill CS L26
    have CE' := Lib.hid CE
    have RF := at_range (SF.get 0 rfl)
    have q3 := fill_only w3 (w.heap.size + 1) CS
    have hF := al_far h h3 (Nat.le_succ _) q3
    have HL := Lib.hid L26
    have HO := Lib.hid ONE
    clear CE hCS L26 ONE
    go_wp2_with (refine wpList_store_mid rfl _ _ _ rfl (w.heap.size + 1) 0 CS.toArray rfl rfl TT IR (all_oneCell_toArray HO.out) ?_)
    refine bodyPost_ret (v := .agg CS.toArray) (results_cell_mid rfl _ _ (w.heap.size + 1) CS _ rfl RF Tryz.underlying87 rfl (by rw [HL.out]; exact info_run)) rfl ?_
    refine ⟨_, _, _, _, Y, by rw [E.out]; exact congrArg Ending.returned CE'.out.symm, sr_nilK O2, sr_nilK I2, sr_nilK T2, sr_nilK V2, ?_, ?_, SF.only⟩
    · rw [W'.out]
      exact hF
    · rw [E.out]
  · have q0 : (x.s == 0) = false := by simpa using g0
    by_cases g1 : x.s = 1
    · have E := Lib.hid (show destroyV ⟨FR, runs P.A Y Q.M⟩ s = ⟨0, 0, false, ⟨FR.set s (gone x), giveL x.a (x.a + x.z) (runs P.A Y Q.M)⟩⟩ by rw [EC.out, if_neg g0, if_pos g1])
      have q1 : (x.s != 1) = false := by rw [g1]; rfl
      obtain ⟨p1, p2, p3, p4, p5, p6⟩ := BK.out g0
      have HG : gone x = ⟨0, 0, -1, (x.e + 1) % 16777216, 0, 0⟩ := by unfold gone; rw [show x.c = 0 by omega, show x.p = -1 by omega]
      have W' := Lib.hid (show destroyW f ⟨FR, runs P.A Y Q.M⟩ s = putX f s ⟨0, 0, -1, (x.e + 1) % 16777216, 0, 0⟩ by rw [EW.out, if_pos g1, HG])
      have o1 := IOK.out.a0
      have o2 := IOK.out.a1
      have o3 := IOK.out.s0
      have o4 := IOK.out.s1
      have pa : P.A + P.j ≤ 65536 := by unfold Pn.A; omega
      have GB : Gr.giveB P.A (8 * (Q.M : Int)) (runs P.A Y Q.M) x.a x.z = true := by
        unfold Gr.giveB Gr.sizeB Gr.hasB
        rw [decide_eq_true (by omega), decide_eq_true (by omega), decide_eq_true (by omega), p6]
        rfl
      have HL' := Lib.hid (show giveL x.a (x.a + x.z) (runs P.A Y Q.M) = runs P.A (Ref.giveW P.A Q.M Y x.a x.z) Q.M by
        have := Ref.give_runs (A := P.A) (n := Q.M) Y x.a x.z a8.out
        unfold Gr.giveF at this
        rw [if_pos GB] at this
        exact this)
      obtain ⟨y4, y5⟩ : 0 ≤ x.e ∧ x.e ≤ 16777215 := by omega
      have hrg : Ctl.rightB 0 0 (-1) ((x.e + 1) % 16777216) = true := by
        unfold Ctl.rightB
        exact decide_eq_true (by omega)
      have tm : Int.tmod (x.e + 1) 16777216 = (x.e + 1) % 16777216 := Int.tmod_eq_emod_of_nonneg (by omega)
      have wr : IntKind.i64.wrap (x.e + 1) = x.e + 1 := IntWalk.i64_in _ (by omega)
      have wr2 : IntKind.i64.wrap ((x.e + 1) % 16777216) = (x.e + 1) % 16777216 := IntWalk.i64_in _ (by omega)
      have wra : IntKind.i64.wrap x.a = x.a := IntWalk.i64_in _ (by omega)
      have wrz : IntKind.i64.wrap x.z = x.z := IntWalk.i64_in _ (by omega)
      have u1 : x.a ≤ 9223372036854775807 := by omega
      have u2 : -9223372036854775808 ≤ x.a := by omega
      have u3 : x.z ≤ 9223372036854775807 := by omega
      have u4 : -9223372036854775808 ≤ x.z := by omega
      clear g0 g1 hr EC EW GB p6 HG
      go_wp2_with fail
      have hd := h1.drew
      have Sd := S1.drew
      have c6 := h1.c6
      have c6d := hd.c6
      have G1 := fun W (h : Al W Q P f Y) => get_ok W R h s 1 hs (by omega) 1 rfl
      have G2 := fun W (h : Al W Q P f Y) => get_ok W R h s 2 hs (by omega) 2 rfl
      go_region_held3 (fun W' => W'.cell? ⟨Q.D, 6, none⟩ = some (.pointer (some ⟨Q.C, 0, none⟩)))
        (first | with_reducible exact c6 | with_reducible exact c6d | with_reducible exact c63 | with_reducible exact c64 | with_reducible exact c65 | exact c6)
        (first
          | (go_at_call 87; with_reducible refine (G1 _ hd).mono ?_; rintro z w3 ⟨rfl, k3⟩; rw [HA.out]; have h3 := hd.keep k3; have S3 := Sd.call k3; have c63 := h3.c6)
          | (go_at_call 87; with_reducible refine (G2 _ h3).mono ?_; rintro z w4 ⟨rfl, k4⟩; rw [HZ.out]; have h4 := h3.keep k4; have S4 := S3.call k4; have c64 := h4.c6)
          | (go_at_call 104; refine (Ref.give_any _ Q.C Q.gw Q.M P.A Y x.a x.z h4.gr a0 a65 a8.out hMl u2 u1 u4 u3).mono ?_; rintro z w5 ⟨rfl, rf5, k5⟩; have h5 := h4.ground rf5 k5; have S5 := S4.grown k5 (by simp); have c65 := h5.c6))
      all_goals
        have A5c := S5.get 0 rfl
        have f0 := A5c.cell 0 _ rfl
        have f1 := A5c.cell 1 _ rfl
        have f2 := A5c.cell 2 _ rfl
        have f3 := A5c.cell 3 _ rfl
        clear A5c d0 d1 d2 d3 c6 c6d c63 c64 c65 S1 Sd S3 S4 h1 hd h3 h4
        go_wp2_with fail
        refine (atell_ok _ R h5 s hs _ _ _ _ hrg).mono ?_
        rintro e w6 ⟨rfl, h6, k6⟩
        have S6 := S5.go (only_gw k6)
        go_wp2_with fail
        refine (aput_ok _ R h6 s 1 hs (by omega) _ rfl 0 (by omega) (by omega)).mono ?_
        rintro e w7 ⟨rfl, h7, k7⟩
        have S7 := S6.go (only_gw k7)
        go_wp2_with fail
        refine (aput_ok _ R h7 s 2 hs (by omega) _ rfl 0 (by omega) (by omega)).mono ?_
        rintro e w8 ⟨rfl, h8, k8⟩
        have ST := (S7.go (only_gw k8)).swap
        clear f0 f1 f2 f3 S5 S6 S7 h5 h6 h7
        go_upto_region 11 with (fail)
        have RR := at_range (ST.get 2 rfl)
        go_wp2_with (refine wpList_load_mid rfl _ _ rfl w.heap.size 0 rfl (ofR ⟨3, r, hh, y, (s : Int), b, c⟩ ⟨cd, 1⟩ ar ha va (.slice A1 0 c1)).cells _ RR Tryz.underlying87 rfl info_run ?_)
        refine (reftellR_any (ofR ⟨3, r, hh, y, (s : Int), b, c⟩ ⟨cd, 1⟩ ar ha va (.slice A1 0 c1)) [] [] [] 0 0 _ (sr_nilK hC) (Slic.Sr.nil _) (Slic.Sr.nil _) rfl).mono ?_
        rintro z w3 ⟨ch2, li2, sa2, as2, rfl, O2, I2, T2, V2, k3⟩
        rw [tell_ofR]
        obtain ⟨B1, d1', rfl, _, _⟩ := O2.form
        obtain ⟨B2, d2', rfl, _, _⟩ := I2.form
        obtain ⟨B3, d3', rfl, _, _⟩ := T2.form
        obtain ⟨B4, d4', rfl, _, _⟩ := V2.form
        obtain ⟨CS, hCS⟩ : ∃ CS : List Value, (ofT ⟨3, r, hh, y, (s : Int), b, c⟩ ⟨cd, 1⟩ ar ha va 0 0 (.slice B1 0 d1') (.slice B2 0 d2') (.slice B3 0 d3') (.slice B4 0 d4')).cells = CS := ⟨_, rfl⟩
        have CE : runV (ofT ⟨3, r, hh, y, (s : Int), b, c⟩ ⟨cd, 1⟩ ar ha va 0 0 (.slice B1 0 d1') (.slice B2 0 d2') (.slice B3 0 d3') (.slice B4 0 d4')) = .agg CS.toArray := by rw [← hCS]; rfl
        dsimp only [List.length_nil] at *
        rw [CE]
        have L26 : CS.length = 26 := by rw [← hCS]; rfl
        have ONE : ∀ u ∈ CS, u.oneCell' = true := by rw [← hCS]; exact cells_one rfl rfl rfl rfl
        have SN := ST.call k3
        have h3 := h8.keep k3
        have AN := SN.get 0 rfl
        have TT : World.there w3 (w.heap.size + 1) 0 CS.toArray.size := by rw [show CS.toArray.size = 26 from L26]; exact at_there AN
        have IR : (Tryz.prog.info? 87).map (·.size) = some CS.toArray.size := by rw [show CS.toArray.size = 26 from L26]; exact info_run
        have SF := SN.fill CS L26
        have CE' := Lib.hid CE
        have RF := at_range (SF.get 0 rfl)
        have q3 := fill_only w3 (w.heap.size + 1) CS
        have hF := al_far h h3 (Nat.le_succ _) q3
        have HL := Lib.hid L26
        have HO := Lib.hid ONE
        clear CE hCS L26 ONE
        go_wp2_with (refine wpList_store_mid rfl _ _ _ rfl (w.heap.size + 1) 0 CS.toArray rfl rfl TT IR (all_oneCell_toArray HO.out) ?_)
        refine bodyPost_ret (v := .agg CS.toArray) (results_cell_mid rfl _ _ (w.heap.size + 1) CS _ rfl RF Tryz.underlying87 rfl (by rw [HL.out]; exact info_run)) rfl ?_
        refine ⟨_, _, _, _, (Ref.giveW P.A Q.M Y x.a x.z), by rw [E.out]; exact congrArg Ending.returned CE'.out.symm, sr_nilK O2, sr_nilK I2, sr_nilK T2, sr_nilK V2, ?_, ?_, SF.only⟩
        · rw [W'.out]
          exact hF
        · rw [E.out]
          exact HL'.out
    · have E := Lib.hid (show destroyV ⟨FR, runs P.A Y Q.M⟩ s = ⟨0, 12, false, ⟨FR, runs P.A Y Q.M⟩⟩ by rw [EC.out, if_neg g0, if_neg g1])
      have W' := Lib.hid (show destroyW f ⟨FR, runs P.A Y Q.M⟩ s = f by rw [EW.out, if_neg g1])
      have q1 : (x.s != 1) = true := by simpa using g1
      have ST := S1.swap
      clear g0 g1 hr EC EW S1
      go_upto_region 6 with (fail)
      have RR := at_range (ST.get 2 rfl)
      go_wp2_with (refine wpList_load_mid rfl _ _ rfl w.heap.size 0 rfl (ofR ⟨3, r, hh, y, (s : Int), b, c⟩ ⟨cd, 1⟩ ar ha va (.slice A1 0 c1)).cells _ RR Tryz.underlying87 rfl info_run ?_)
      refine (reftellR_any (ofR ⟨3, r, hh, y, (s : Int), b, c⟩ ⟨cd, 1⟩ ar ha va (.slice A1 0 c1)) [] [] [] 12 0 _ (sr_nilK hC) (Slic.Sr.nil _) (Slic.Sr.nil _) rfl).mono ?_
      rintro z w3 ⟨ch2, li2, sa2, as2, rfl, O2, I2, T2, V2, k3⟩
      rw [tell_ofR]
      obtain ⟨B1, d1', rfl, _, _⟩ := O2.form
      obtain ⟨B2, d2', rfl, _, _⟩ := I2.form
      obtain ⟨B3, d3', rfl, _, _⟩ := T2.form
      obtain ⟨B4, d4', rfl, _, _⟩ := V2.form
      obtain ⟨CS, hCS⟩ : ∃ CS : List Value, (ofT ⟨3, r, hh, y, (s : Int), b, c⟩ ⟨cd, 1⟩ ar ha va 12 0 (.slice B1 0 d1') (.slice B2 0 d2') (.slice B3 0 d3') (.slice B4 0 d4')).cells = CS := ⟨_, rfl⟩
      have CE : runV (ofT ⟨3, r, hh, y, (s : Int), b, c⟩ ⟨cd, 1⟩ ar ha va 12 0 (.slice B1 0 d1') (.slice B2 0 d2') (.slice B3 0 d3') (.slice B4 0 d4')) = .agg CS.toArray := by rw [← hCS]; rfl
      dsimp only [List.length_nil] at *
      rw [CE]
      have L26 : CS.length = 26 := by rw [← hCS]; rfl
      have ONE : ∀ u ∈ CS, u.oneCell' = true := by rw [← hCS]; exact cells_one rfl rfl rfl rfl
      have SN := ST.call k3
      have h3 := h1.keep k3
      have AN := SN.get 0 rfl
      have TT : World.there w3 (w.heap.size + 1) 0 CS.toArray.size := by rw [show CS.toArray.size = 26 from L26]; exact at_there AN
      have IR : (Tryz.prog.info? 87).map (·.size) = some CS.toArray.size := by rw [show CS.toArray.size = 26 from L26]; exact info_run
      have SF := SN.fill CS L26
      have CE' := Lib.hid CE
      have RF := at_range (SF.get 0 rfl)
      have q3 := fill_only w3 (w.heap.size + 1) CS
      have hF := al_far h h3 (Nat.le_succ _) q3
      have HL := Lib.hid L26
      have HO := Lib.hid ONE
      clear CE hCS L26 ONE
      go_wp2_with (refine wpList_store_mid rfl _ _ _ rfl (w.heap.size + 1) 0 CS.toArray rfl rfl TT IR (all_oneCell_toArray HO.out) ?_)
      refine bodyPost_ret (v := .agg CS.toArray) (results_cell_mid rfl _ _ (w.heap.size + 1) CS _ rfl RF Tryz.underlying87 rfl (by rw [HL.out]; exact info_run)) rfl ?_
      refine ⟨_, _, _, _, Y, by rw [E.out]; exact congrArg Ending.returned CE'.out.symm, sr_nilK O2, sr_nilK I2, sr_nilK T2, sr_nilK V2, ?_, ?_, SF.only⟩
      · rw [W'.out]
        exact hF
      · rw [E.out]
end Go.Proofs.YteakglkagmghpaaGreat.Fou

/-
  The document's calls of layer 14: Make of both.
-/
namespace Go.Proofs.YteakglkagmghpaaGreat.Fou
open Go.ChangeShapes Go.WideShapes Go.ChangeAt Go.RowKit
open Go.Proofs.YteakglkagmghpaaGreat.Mod Sco Amem Beg Gm
set_option linter.unusedVariables false
set_option linter.unusedSimpArgs false
set_option maxRecDepth 100000
attribute [local go_sem ↓] Go.wp_at_zero Go.wp_at_succ
variable {P : Pn} {f : Nat → Int} {F : Fo} {G : Nat} {w w' : World} {Y : Nat → Bool} {Q : Ql}
set_option maxHeartbeats 4000000 in
theorem mkmake_any (w : World) (R : Pr P) (h : Al w Q P f Y) (wf : Wf f F.R) (iv : P.Iv F) (hL : F.L = runs P.A Y Q.M) (hM : P.j = 8 * (Q.M : Int)) (r hh y a b c ar ha va cd : Int) (ch : Value) (a1 : 1 ≤ a) (a2 : a ≤ 8192) (hC : Slic.Sr kE w ch []) :
    Calls Tryz.prog 32 #[ptrA Q, runV (ofR ⟨2, r, hh, y, a, b, c⟩ ⟨cd, 1⟩ ar ha va ch)] w
      (MakeD w Q P (createW f F a) (createV F a).F ⟨2, r, hh, y, a, b, c⟩ ⟨cd, 1⟩ ar ha va (createV F a).x (createV F a).v) := by
  have S0 := ((Lx.start w [Q.g, Q.gw] (al_lt h)).new (stQ 2 r hh y a b c ar ha va ch cd) 87).new zR 87
  simp only [World.size_alloc] at S0
  have h0 := (h.alloc (.cells (stQ 2 r hh y a b c ar ha va ch cd).toArray 87)).alloc (.cells zR.toArray 87)
  rw [stq_run]
  obtain ⟨A1, c1, rfl, _⟩ := hC.form
  dsimp only [List.length_nil] at *
  go_enter Tryz.func32, Tryz.ntmps32
  obtain ⟨W, hW⟩ : ∃ W : World, W = (w.alloc (.cells (stQ 2 r hh y a b c ar ha va (.slice A1 0 c1) cd).toArray 87)).alloc (.cells [.int .u8 0, .int .u8 0, .int .u8 0, .int .u8 0, .int .i64 0, .int .i64 0, .int .i64 0, .int .i64 0, .int .i64 0, .int .u64 0, .int .u64 0, .slice none 0 0, .int .u64 0, .int .u64 0, .int .i64 0, .int .i64 0, .slice none 0 0, .int .i64 0, .slice none 0 0, .int .i64 0, .bool false, .bool false, .bool false, .int .i64 0, .int .i64 0, .slice none 0 0].toArray 87) := ⟨_, rfl⟩
  rw [← hW] at S0 h0
  go_upto_region 1 with (fail)
  rw [show (w.alloc (.cells (stQ 2 r hh y a b c ar ha va (.slice A1 0 c1) cd).toArray 87)).alloc (.cells [.int .u8 0, .int .u8 0, .int .u8 0, .int .u8 0, .int .i64 0, .int .i64 0, .int .i64 0, .int .i64 0, .int .i64 0, .int .u64 0, .int .u64 0, .slice none 0 0, .int .u64 0, .int .u64 0, .int .i64 0, .int .i64 0, .slice none 0 0, .int .i64 0, .slice none 0 0, .int .i64 0, .bool false, .bool false, .bool false, .int .i64 0, .int .i64 0, .slice none 0 0].toArray 87) = W from hW.symm]
  clear hW
  have x0 := (S0.get 1 rfl).cell 0 _ rfl
  go_upto_region 2 with (fail)
  have RR := at_range (S0.get 1 rfl)
  go_wp2_with (refine wpList_load_mid rfl _ _ rfl w.heap.size 0 rfl (ofR ⟨2, r, hh, y, a, b, c⟩ ⟨cd, 1⟩ ar ha va (.slice A1 0 c1)).cells _ RR Tryz.underlying87 rfl info_run ?_)
  refine (mkcreate_any _ R h0 wf iv hL hM r hh y a b c ar ha va cd (.slice A1 0 c1) a1 a2 (sr_nilK hC)).mono ?_
  rintro z w3 ⟨ch2, li2, sa2, as2, Y2, rfl, O2, I2, T2, V2, h3, L2, k3⟩
  obtain ⟨B1, d1', rfl, _, _⟩ := O2.form
  obtain ⟨B2, d2', rfl, _, _⟩ := I2.form
  obtain ⟨B3, d3', rfl, _, _⟩ := T2.form
  obtain ⟨B4, d4', rfl, _, _⟩ := V2.form
  obtain ⟨CS, hCS⟩ : ∃ CS : List Value, (ofT ⟨2, r, hh, y, a, b, c⟩ ⟨cd, 1⟩ ar ha va (createV F a).x (createV F a).v (.slice B1 0 d1') (.slice B2 0 d2') (.slice B3 0 d3') (.slice B4 0 d4')).cells = CS := ⟨_, rfl⟩
  have CE : runV (ofT ⟨2, r, hh, y, a, b, c⟩ ⟨cd, 1⟩ ar ha va (createV F a).x (createV F a).v (.slice B1 0 d1') (.slice B2 0 d2') (.slice B3 0 d3') (.slice B4 0 d4')) = .agg CS.toArray := by rw [← hCS]; rfl
  dsimp only [List.length_nil] at *
  rw [CE]
  have L26 : CS.length = 26 := by rw [← hCS]; rfl
  have ONE : ∀ u ∈ CS, u.oneCell' = true := by rw [← hCS]; exact cells_one rfl rfl rfl rfl
  have SN := S0.go k3
  have AN := SN.get 0 rfl
  have TT : World.there w3 (w.heap.size + 1) 0 CS.toArray.size := by rw [show CS.toArray.size = 26 from L26]; exact at_there AN
  have IR : (Tryz.prog.info? 87).map (·.size) = some CS.toArray.size := by rw [show CS.toArray.size = 26 from L26]; exact info_run
  have SF := SN.fill CS L26
  have CE' := Lib.hid CE
  have RF := at_range (SF.get 0 rfl)
  have q3 := fill_only w3 (w.heap.size + 1) CS
  have hF := al_far h h3 (Nat.le_succ _) q3
  have HL := Lib.hid L26
  have HO := Lib.hid ONE
  clear CE hCS L26 ONE
  go_wp2_with (refine wpList_store_mid rfl _ _ _ rfl (w.heap.size + 1) 0 CS.toArray rfl rfl TT IR (all_oneCell_toArray HO.out) ?_)
  refine bodyPost_ret (v := .agg CS.toArray) (results_cell_mid rfl _ _ (w.heap.size + 1) CS _ rfl RF Tryz.underlying87 rfl (by rw [HL.out]; exact info_run)) rfl ?_
  exact ⟨_, _, _, _, Y2, congrArg Ending.returned CE'.out.symm, sr_nilK O2, sr_nilK I2, sr_nilK T2, sr_nilK V2, hF, L2, SF.only⟩
set_option maxHeartbeats 4000000 in
theorem mkdrop_any (w : World) (R : Pr P) (h : Al w Q P f Y) (wf : Wf f F.R) (iv : P.Iv F) (hL : F.L = runs P.A Y Q.M) (hM : P.j = 8 * (Q.M : Int)) (r hh y b c ar ha va cd : Int) (s : Nat) (ch : Value) (s1 : 1 ≤ s) (hs : s < P.n) (hC : Slic.Sr kE w ch []) :
    Calls Tryz.prog 32 #[ptrA Q, runV (ofR ⟨3, r, hh, y, (s : Int), b, c⟩ ⟨cd, 1⟩ ar ha va ch)] w
      (MakeD w Q P (destroyW f F s) (destroyV F s).F ⟨3, r, hh, y, (s : Int), b, c⟩ ⟨cd, 1⟩ ar ha va (destroyV F s).x 0) := by
  have S0 := ((Lx.start w [Q.g, Q.gw] (al_lt h)).new (stQ 3 r hh y (s : Int) b c ar ha va ch cd) 87).new zR 87
  simp only [World.size_alloc] at S0
  have h0 := (h.alloc (.cells (stQ 3 r hh y (s : Int) b c ar ha va ch cd).toArray 87)).alloc (.cells zR.toArray 87)
  rw [stq_run]
  obtain ⟨A1, c1, rfl, _⟩ := hC.form
  dsimp only [List.length_nil] at *
  go_enter Tryz.func32, Tryz.ntmps32
  obtain ⟨W, hW⟩ : ∃ W : World, W = (w.alloc (.cells (stQ 3 r hh y (s : Int) b c ar ha va (.slice A1 0 c1) cd).toArray 87)).alloc (.cells [.int .u8 0, .int .u8 0, .int .u8 0, .int .u8 0, .int .i64 0, .int .i64 0, .int .i64 0, .int .i64 0, .int .i64 0, .int .u64 0, .int .u64 0, .slice none 0 0, .int .u64 0, .int .u64 0, .int .i64 0, .int .i64 0, .slice none 0 0, .int .i64 0, .slice none 0 0, .int .i64 0, .bool false, .bool false, .bool false, .int .i64 0, .int .i64 0, .slice none 0 0].toArray 87) := ⟨_, rfl⟩
  rw [← hW] at S0 h0
  go_upto_region 1 with (fail)
  rw [show (w.alloc (.cells (stQ 3 r hh y (s : Int) b c ar ha va (.slice A1 0 c1) cd).toArray 87)).alloc (.cells [.int .u8 0, .int .u8 0, .int .u8 0, .int .u8 0, .int .i64 0, .int .i64 0, .int .i64 0, .int .i64 0, .int .i64 0, .int .u64 0, .int .u64 0, .slice none 0 0, .int .u64 0, .int .u64 0, .int .i64 0, .int .i64 0, .slice none 0 0, .int .i64 0, .slice none 0 0, .int .i64 0, .bool false, .bool false, .bool false, .int .i64 0, .int .i64 0, .slice none 0 0].toArray 87) = W from hW.symm]
  clear hW
  have x0 := (S0.get 1 rfl).cell 0 _ rfl
  go_upto_region 3 with (fail)
  have RR := at_range (S0.get 1 rfl)
  go_wp2_with (refine wpList_load_mid rfl _ _ rfl w.heap.size 0 rfl (ofR ⟨3, r, hh, y, (s : Int), b, c⟩ ⟨cd, 1⟩ ar ha va (.slice A1 0 c1)).cells _ RR Tryz.underlying87 rfl info_run ?_)
  refine (mkdestroy_any _ R h0 wf iv hL hM r hh y b c ar ha va cd s (.slice A1 0 c1) s1 hs (sr_nilK hC)).mono ?_
  rintro z w3 ⟨ch2, li2, sa2, as2, Y2, rfl, O2, I2, T2, V2, h3, L2, k3⟩
  obtain ⟨B1, d1', rfl, _, _⟩ := O2.form
  obtain ⟨B2, d2', rfl, _, _⟩ := I2.form
  obtain ⟨B3, d3', rfl, _, _⟩ := T2.form
  obtain ⟨B4, d4', rfl, _, _⟩ := V2.form
  obtain ⟨CS, hCS⟩ : ∃ CS : List Value, (ofT ⟨3, r, hh, y, (s : Int), b, c⟩ ⟨cd, 1⟩ ar ha va (destroyV F s).x 0 (.slice B1 0 d1') (.slice B2 0 d2') (.slice B3 0 d3') (.slice B4 0 d4')).cells = CS := ⟨_, rfl⟩
  have CE : runV (ofT ⟨3, r, hh, y, (s : Int), b, c⟩ ⟨cd, 1⟩ ar ha va (destroyV F s).x 0 (.slice B1 0 d1') (.slice B2 0 d2') (.slice B3 0 d3') (.slice B4 0 d4')) = .agg CS.toArray := by rw [← hCS]; rfl
  dsimp only [List.length_nil] at *
  rw [CE]
  have L26 : CS.length = 26 := by rw [← hCS]; rfl
  have ONE : ∀ u ∈ CS, u.oneCell' = true := by rw [← hCS]; exact cells_one rfl rfl rfl rfl
  have SN := S0.go k3
  have AN := SN.get 0 rfl
  have TT : World.there w3 (w.heap.size + 1) 0 CS.toArray.size := by rw [show CS.toArray.size = 26 from L26]; exact at_there AN
  have IR : (Tryz.prog.info? 87).map (·.size) = some CS.toArray.size := by rw [show CS.toArray.size = 26 from L26]; exact info_run
  have SF := SN.fill CS L26
  have CE' := Lib.hid CE
  have RF := at_range (SF.get 0 rfl)
  have q3 := fill_only w3 (w.heap.size + 1) CS
  have hF := al_far h h3 (Nat.le_succ _) q3
  have HL := Lib.hid L26
  have HO := Lib.hid ONE
  clear CE hCS L26 ONE
  go_wp2_with (refine wpList_store_mid rfl _ _ _ rfl (w.heap.size + 1) 0 CS.toArray rfl rfl TT IR (all_oneCell_toArray HO.out) ?_)
  refine bodyPost_ret (v := .agg CS.toArray) (results_cell_mid rfl _ _ (w.heap.size + 1) CS _ rfl RF Tryz.underlying87 rfl (by rw [HL.out]; exact info_run)) rfl ?_
  exact ⟨_, _, _, _, Y2, congrArg Ending.returned CE'.out.symm, sr_nilK O2, sr_nilK I2, sr_nilK T2, sr_nilK V2, hF, L2, SF.only⟩
/-- Make, of a law's call that goes on. -/
theorem mkop_any (w : World) (R : Pr P) (h : Al w Q P f Y) (wf : Wf f F.R) (iv : P.Iv F) (hL : F.L = runs P.A Y Q.M) (hM : P.j = 8 * (Q.M : Int)) (mk : Bool) (k : Int) (hb : opB P.n mk k = true) (ch : Value) (hC : Slic.Sr kE w ch []) :
    Calls Tryz.prog 32 #[ptrA Q, runV (ofR (opC mk k) ⟨0, 1⟩ 0 0 0 ch)] w
      (MakeD w Q P (opW f F mk k) (opR F mk k).F (opC mk k) ⟨0, 1⟩ 0 0 0 (opR F mk k).x (opR F mk k).v) := by
  cases mk with
  | true => exact mkmake_any w R h wf iv hL hM 0 0 0 (1 + k % 512) 0 0 0 0 0 0 ch (by omega) (by omega) hC
  | false =>
    obtain ⟨s, hs⟩ := Int.eq_ofNat_of_zero_le (show 0 ≤ 1 + k % 8 by omega)
    have hn : s < P.n := by
      have : opA false k < (P.n : Int) := by simpa [opB] using hb
      unfold opA at this
      simp [hs] at this
      exact this
    have := mkdrop_any w R h wf iv hL hM 0 0 0 0 0 0 0 0 0 s ch (by omega) hn hC
    have e1 : opC false k = ⟨3, 0, 0, 0, (s : Int), 0, 0⟩ := by unfold opC opA; simp [hs]
    have e2 : opR F false k = destroyV F s := by unfold opR opA; simp [hs]
    have e3 : opW f F false k = destroyW f F s := by unfold opW opA; simp [hs]
    rw [e1, e2, e3, destroy_v]
    exact this
end Go.Proofs.YteakglkagmghpaaGreat.Fou

/-
  FoundPlays' walk: an arena and a ground, and the document's beside them; a Step that is refused; two that are the same.
-/
namespace Go.Proofs.YteakglkagmghpaaGreat.Fou
open Go.ChangeShapes Go.WideShapes Go.ChangeAt Go.RowKit
open Go.Proofs.YteakglkagmghpaaGreat.Mod Sco Amem Beg Gm
set_option linter.unusedVariables false
set_option linter.unusedSimpArgs false
set_option maxRecDepth 100000
attribute [local go_sem ↓] Go.wp_at_zero Go.wp_at_succ
variable {P : Pn} {f e : Nat → Int} {F E : Fo} {G : Nat} {w w' : World} {Y : Nat → Bool} {Q : Ql}
theorem al_types (h : Al w Q P f Y) {b : Nat} {T : TypeId} (tb : isT w b T) (e1 : (T == 99) = false) (e2 : (T == 103) = false) (e3 : (T == 50) = false) (e4 : (T == 182) = false) (e5 : (T == 4) = false) : b ≠ Q.D ∧ b ≠ Q.B ∧ b ≠ Q.g ∧ b ≠ Q.C ∧ b ≠ Q.gw :=
  ⟨tb.ne h.tD e1, tb.ne h.tB e2, tb.ne h.tg e3, tb.ne h.tC e4, tb.ne h.tw e5⟩
theorem al_local (h : Al w Q P f Y) {b : Nat} {T : TypeId} (tb : isT w b T) (e1 : (T == 99) = false) (e2 : (T == 103) = false) (e3 : (T == 50) = false) (e4 : (T == 182) = false) (e5 : (T == 4) = false) (k : Only [b] w w') : Al w' Q P f Y := by
  obtain ⟨n1, n2, n3, n4, n5⟩ := al_types h tb e1 e2 e3 e4 e5
  exact h.only k (fun q => n1 (List.mem_singleton.1 q).symm) (fun q => n2 (List.mem_singleton.1 q).symm) (fun q => n3 (List.mem_singleton.1 q).symm) (fun q => n4 (List.mem_singleton.1 q).symm) (fun q => n5 (List.mem_singleton.1 q).symm)
/-- The program's arena and ground are written: the document's stay. -/
theorem al_prog (h : Al w Q P e Y) (d : Fd w P G f F) (k : Only [P.g, G] w w') : Al w' Q P e Y := by
  obtain ⟨v, a, _⟩ := id d.gr
  obtain ⟨n1, n2, n3, n4, n5⟩ := al_types h (isT.row d.ar.body) (by decide) (by decide) (by decide) (by decide) (by decide)
  obtain ⟨m1, m2, m3, m4, m5⟩ := al_types h (isT.row a) (by decide) (by decide) (by decide) (by decide) (by decide)
  have key : ∀ x, P.g ≠ x → G ≠ x → x ∉ [P.g, G] := fun x h1 h2 q => by
    rcases List.mem_cons.1 q with q | q
    · exact h1 q.symm
    · exact h2 (List.mem_singleton.1 q).symm
  exact h.only k (key _ n1 m1) (key _ n2 m2) (key _ n3 m3) (key _ n4 m4) (key _ n5 m5)
/-- The document's words are written: the program's arena and ground stay. -/
theorem fd_doc (h : Fd w P G f F) (d : Al w Q P e Y) (k : Only [Q.g, Q.gw] w w') : Fd w' P G f F := by
  have key : ∀ {b : Nat} {T : TypeId}, isT w b T → (T == 50) = false → (T == 4) = false → b ∉ [Q.g, Q.gw] := fun hb h1 h2 q => by
    rcases List.mem_cons.1 q with q | q
    · exact hb.ne d.tg h1 q
    · exact hb.ne d.tw h2 (List.mem_singleton.1 q)
  have nB := key (isT.row h.ar.head) (by decide) (by decide)
  have ng := key (isT.row h.ar.body) (by decide) (by decide)
  refine ⟨⟨h.ar.head.of_block (k.block _ h.ar.head.lt nB), h.ar.body.of_block (k.block _ h.ar.body.lt ng), h.ar.fit, h.ar.len⟩, ?_, h.wf, h.iv, Nat.lt_of_lt_of_le h.kl k.size⟩
  obtain ⟨v, a, b, c, x, t⟩ := h.gr
  have nG := key (isT.row a) (by decide) (by decide)
  have row : ∀ g, v.ownBlock = some g → g ∉ [Q.g, Q.gw] := fun g hg => by
    obtain ⟨cs, fz, q⟩ := t g hg
    refine fun hm => ?_
    rcases List.mem_cons.1 hm with hm | hm
    · obtain ⟨c', hc'⟩ := d.tg
      rw [← hm, q] at hc'
      injection hc' with hc'
      injection hc' with _ hc'
      cases hc'
    · obtain ⟨c', hc'⟩ := d.tw
      rw [← List.mem_singleton.1 hm, q] at hc'
      injection hc' with hc'
      injection hc' with _ hc'
      cases hc'
  exact ⟨v, a.of_block (k.block _ a.lt nG), b.keep k.size (fun g hg => k.block g (b.lt hg) (row g hg)), c, x, t.keep fun g hg => k.block g (b.lt hg) (row g hg)⟩
/-- What FoundPlays' walk carries. -/
structure Wp (w0 w : World) (L : List (Nat × List Value)) (P : Pn) (G : Nat) (f : Nat → Int) (F : Fo) (Q : Ql) (e : Nat → Int) (E : Fo) : Prop where
  wk : Wk w0 w L P G f F
  al : ∃ Y, Al w Q P e Y ∧ E.L = runs P.A Y Q.M
  oq : w0.heap.size ≤ Q.g ∧ w0.heap.size ≤ Q.gw
  aq : ∀ y ∈ L, y.1 ≠ Q.g ∧ y.1 ≠ Q.gw
section
variable {w0 : World} {L : List (Nat × List Value)}
theorem Wp.call (S : Wp w0 w L P G f F Q e E) (k : Below w.heap.size w w') : Wp w0 w' L P G f F Q e E := by
  obtain ⟨Y, a, b⟩ := S.al
  exact ⟨S.wk.call k, ⟨Y, a.keep k, b⟩, S.oq, S.aq⟩
theorem Wp.drew (S : Wp w0 w L P G f F Q e E) : Wp w0 w.drew L P G f F Q e E := S.call (Below.refl _ _).drew
theorem Wp.alloc (S : Wp w0 w L P G f F Q e E) (o : Obj) : Wp w0 (w.alloc o) L P G f F Q e E := S.call ((Below.refl _ _).alloc (Nat.le_refl _) _)
theorem Wp.lt (S : Wp w0 w L P G f F Q e E) : Q.g < w.heap.size ∧ Q.gw < w.heap.size := by
  obtain ⟨Y, a, b⟩ := S.al
  exact ⟨a.ar.body.lt, a.gr.body.lt⟩
theorem Wp.new (S : Wp w0 w L P G f F Q e E) (vs : List Value) (t : TypeId) : Wp w0 (w.alloc (.cells vs.toArray t)) ((w.heap.size, vs) :: L) P G f F Q e E :=
  ⟨S.wk.new vs t, (S.alloc _).al, S.oq, fun y hy => by
    rcases List.mem_cons.1 hy with rfl | hy
    · have := S.lt
      exact ⟨by dsimp only; omega, by dsimp only; omega⟩
    · exact S.aq y hy⟩
theorem Wk.fill' {b : Nat} {vs : List Value} (S : Wk w0 w ((b, vs) :: L) P G f F) (tb : isT w b 87) (us : List Value) (h : us.length = vs.length) : Wk w0 (w.setCells b 0 us) ((b, us) :: L) P G f F :=
  ⟨St.fill S.st us h, fd_local S.fd tb (by decide) (by decide) (by decide) (by decide) (fill_only _ _ _), S.og, S.oG, fun y hy => by
    rcases List.mem_cons.1 hy with rfl | hy
    · exact S.ap (b, vs) (by simp)
    · exact S.ap y (by simp [hy])⟩
theorem Wp.fill {b : Nat} {vs : List Value} (S : Wp w0 w ((b, vs) :: L) P G f F Q e E) (tb : isT w b 87) (us : List Value) (h : us.length = vs.length) : Wp w0 (w.setCells b 0 us) ((b, us) :: L) P G f F Q e E := by
  obtain ⟨Y, a, q⟩ := S.al
  exact ⟨S.wk.fill' tb us h, ⟨Y, al_local a tb (by decide) (by decide) (by decide) (by decide) (by decide) (fill_only w b us), q⟩, S.oq, fun y hy => by
    rcases List.mem_cons.1 hy with rfl | hy
    · exact S.aq (b, vs) (by simp)
    · exact S.aq y (by simp [hy])⟩
theorem Wp.sub {x : Nat × List Value} (S : Wp w0 w (x :: L) P G f F Q e E) : Wp w0 w L P G f F Q e E := ⟨⟨St.sub S.wk.st (List.sublist_cons_self x L), S.wk.fd, S.wk.og, S.wk.oG, fun y hy => S.wk.ap y (by simp [hy])⟩, S.al, S.oq, fun y hy => S.aq y (by simp [hy])⟩
/-- The program's Step. -/
theorem Wp.step {f' : Nat → Int} {F' : Fo} (S : Wp w0 w L P G f F Q e E) (h : Fd w' P G f' F') (k : Only [P.g, G] w w') : Wp w0 w' L P G f' F' Q e E := by
  obtain ⟨Y, a, b⟩ := S.al
  exact ⟨S.wk.step h k, ⟨Y, al_prog a S.wk.fd k, b⟩, S.oq, S.aq⟩
/-- The document's. -/
theorem Wp.doc {e' : Nat → Int} {E' : Fo} {Y' : Nat → Bool} (S : Wp w0 w L P G f F Q e E) (h : Al w' Q P e' Y') (hL : E'.L = runs P.A Y' Q.M) (k : Only [Q.g, Q.gw] w w') : Wp w0 w' L P G f F Q e' E' := by
  obtain ⟨Y, a, b⟩ := S.al
  exact ⟨⟨st_only S.wk.st k (fun x hx => by
      rcases List.mem_cons.1 hx with rfl | hx
      · exact S.oq.1
      · rw [List.mem_singleton.1 hx]; exact S.oq.2) (fun y hy q => by
      rcases List.mem_cons.1 q with q | q
      · exact (S.aq y hy).1 q
      · exact (S.aq y hy).2 (List.mem_singleton.1 q)), fd_doc S.wk.fd a k, S.wk.og, S.wk.oG, S.wk.ap⟩, ⟨Y', h, hL⟩, S.oq, S.aq⟩
end
theorem run_ctl (s c p e : Int) (W : World) : (Op.equalIn 10000 64 (.agg #[.int .i64 s, .int .i64 c, .int .i64 p, .int .i64 e]) (.agg #[.int .i64 s, .int .i64 c, .int .i64 p, .int .i64 e])).run Tryz.prog W = .ok true W := by
  simp [go_sem]
set_option maxHeartbeats 2000000 in
/-- Step of a call that is done, or is not on its way so, is refused. -/
theorem step_no (w : World) (n t i j : Int) (va vg : Value) (R : Ru) (h : R.done = true ∨ (R.done = false ∧ (R.pc != 1) = true)) :
    Calls Tryz.prog 31 #[.agg #[.int .i64 n, .int .i64 t, .int .i64 i, .int .i64 j], va, vg, runV R] w fun e w' => ∃ CZ : List Value, e = .returned (.tuple #[.agg CZ.toArray, .int .i64 1]) ∧ CZ.length = 26 ∧ (∀ u ∈ CZ, u.oneCell' = true) ∧ Below w.heap.size w w' := by
  have S0 := (((Held.St.start w).new [.int .i64 n, .int .i64 t, .int .i64 i, .int .i64 j] 23).new [.int .u8 R.c.op, .int .u8 R.c.r, .int .u8 R.c.h, .int .u8 R.c.v, .int .i64 R.c.a, .int .i64 R.c.b, .int .i64 R.c.c, .int .i64 R.pc, .int .i64 R.area, .int .u64 R.hand, .int .u64 R.val, R.ch, .int .u64 R.word, .int .u64 R.next, .int .i64 R.at_, .int .i64 R.top, R.li, .int .i64 R.op, R.said, .int .i64 R.n, .bool R.held, .bool R.done, .bool R.point, .int .i64 R.code, .int .i64 R.an, R.as_] 87).new zR 87
  simp only [World.size_alloc] at S0
  go_enter Tryz.func31, Tryz.ntmps31
  go_upto_region 1 with (fail)
  generalize ((w.alloc (.cells #[.int .i64 n, .int .i64 t, .int .i64 i, .int .i64 j] 23)).alloc (.cells #[.int .u8 R.c.op, .int .u8 R.c.r, .int .u8 R.c.h, .int .u8 R.c.v, .int .i64 R.c.a, .int .i64 R.c.b, .int .i64 R.c.c, .int .i64 R.pc, .int .i64 R.area, .int .u64 R.hand, .int .u64 R.val, R.ch, .int .u64 R.word, .int .u64 R.next, .int .i64 R.at_, .int .i64 R.top, R.li, .int .i64 R.op, R.said, .int .i64 R.n, .bool R.held, .bool R.done, .bool R.point, .int .i64 R.code, .int .i64 R.an, R.as_] 87)).alloc (.cells #[.int .u8 0, .int .u8 0, .int .u8 0, .int .u8 0, .int .i64 0, .int .i64 0, .int .i64 0, .int .i64 0, .int .i64 0, .int .u64 0, .int .u64 0, .slice none 0 0, .int .u64 0, .int .u64 0, .int .i64 0, .int .i64 0, .slice none 0 0, .int .i64 0, .slice none 0 0, .int .i64 0, .bool false, .bool false, .bool false, .int .i64 0, .int .i64 0, .slice none 0 0] 87) = W at *
  have x7 := (S0.get 1 rfl).cell 7 _ rfl
  have x21 := (S0.get 1 rfl).cell 21 _ rfl
  have AN := S0.get 0 rfl
  have TT : World.there W (w.heap.size + 1 + 1) 0 zR.toArray.size := at_there AN
  have SF := St.fill S0 zR rfl
  have RF := at_range (SF.get 0 rfl)
  clear AN S0
  rcases h with h | ⟨h, h1⟩
  · rw [h] at x21
    clear h x7
    go_upto_region 2 with (fail)
    go_wp2_with (refine wpList_store_mid rfl _ _ _ rfl (w.heap.size + 1 + 1) 0 zR.toArray rfl rfl TT info_run (all_oneCell_toArray (by decide)) ?_)
    refine bodyPost_ret (v := .tuple #[.agg zR.toArray, .int .i64 1]) (results_mid2 rfl _ _ (w.heap.size + 1 + 1) zR _ _ rfl rfl RF Tryz.underlying87 rfl info_run) rfl ?_
    exact ⟨zR, rfl, rfl, by decide, SF.below⟩
  · rw [h] at x21
    clear h
    go_upto_region 2 with (fail)
    go_wp2_with (refine wpList_store_mid rfl _ _ _ rfl (w.heap.size + 1 + 1) 0 zR.toArray rfl rfl TT info_run (all_oneCell_toArray (by decide)) ?_)
    refine bodyPost_ret (v := .tuple #[.agg zR.toArray, .int .i64 1]) (results_mid2 rfl _ _ (w.heap.size + 1 + 1) zR _ _ rfl rfl RF Tryz.underlying87 rfl info_run) rfl ?_
    exact ⟨zR, rfl, rfl, by decide, SF.below⟩
end Go.Proofs.YteakglkagmghpaaGreat.Fou
