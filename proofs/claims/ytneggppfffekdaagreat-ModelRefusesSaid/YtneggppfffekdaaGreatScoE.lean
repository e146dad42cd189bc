/-
  Contracts of package scopes: Destroy, Enter, Leave, Open, Hold.
-/
import Derived.Test.YtneggppfffekdaaGreatScoD
namespace Go.Proofs.YtneggppfffekdaaGreat.Sco
open Go.ChangeShapes Go.WideShapes Go.ChangeAt Go.RowKit
open Slic Gm
set_option linter.unusedVariables false
set_option maxRecDepth 8000
set_option linter.unusedSimpArgs false
attribute [local go_sem ↓] Go.wp_at_zero Go.wp_at_succ
section
variable {w w' : World} {Y : Fr} {B g K n : Nat} {A S I J : Int} {F : Fo}
theorem ch_turn (F : Fo) (i : Int) {f : Cx → Ctl.R} : (chV F i f).x = (turnV F i f).x ∧ ((chV F i f).x ≠ 0 → (turnV F i f).F = F) := by
  unfold chV turnV
  cases look F.R i with
  | none => exact ⟨rfl, fun _ => rfl⟩
  | some x =>
    by_cases h0 : (f x).x = 0
    · simp only [h0, if_true]
      exact ⟨trivial, fun h => absurd rfl h⟩
    · simp only [h0, if_false]
      exact ⟨trivial, fun _ => trivial⟩
set_option maxHeartbeats 2000000 in
theorem open_any (h : Sc w Y B g K n A S F) (n8 : n ≤ 8) (i : Int) :
    Calls Tryz.prog 153 #[ptr B, .int .i64 i] w fun e w' => e = .returned (.int .i64 (turnV F i opF).x) ∧ Sc w' Y B g K n A S (turnV F i opF).F ∧ Only [g] w w' := by
  have E := Lib.hid (ch_turn F i (f := opF)).1
  have hg := h.ltg
  go_enter Tryz.func153, Tryz.ntmps153
  go_wp2_with fail
  refine (chg_op h n8 i).mono ?_
  rintro e w1 ⟨rfl, h1, o1⟩
  go_wp2
  go_ret
  exact ⟨ret_int E.out, h1.alloc' _, o1.trans (Only.below (below_one w1 _))⟩
set_option maxHeartbeats 2000000 in
theorem hold_any (h : Sc w Y B g K n A S F) (n8 : n ≤ 8) (i : Int) :
    Calls Tryz.prog 151 #[ptr B, .int .i64 i] w fun e w' => e = .returned (.int .i64 (turnV F i hoF).x) ∧ Sc w' Y B g K n A S (turnV F i hoF).F ∧ Only [g] w w' := by
  have E := Lib.hid (ch_turn F i (f := hoF)).1
  have hg := h.ltg
  go_enter Tryz.func151, Tryz.ntmps151
  go_wp2_with fail
  refine (chg_ho h n8 i).mono ?_
  rintro e w1 ⟨rfl, h1, o1⟩
  go_wp2
  go_ret
  exact ⟨ret_int E.out, h1.alloc' _, o1.trans (Only.below (below_one w1 _))⟩
set_option maxHeartbeats 2000000 in
theorem enter_any (h : Sc w Y B g K n A S F) (n8 : n ≤ 8) (i : Int) (f : Int) :
    Calls Tryz.prog 122 #[ptr B, .int .i64 i, .int .i64 f] w fun e w' => e = .returned (.int .i64 (turnV F i (enF f)).x) ∧ Sc w' Y B g K n A S (turnV F i (enF f)).F ∧ Only [g] w w' := by
  have E := Lib.hid (ch_turn F i (f := (enF f))).1
  have hg := h.ltg
  go_enter Tryz.func122, Tryz.ntmps122
  go_wp2_with fail
  refine (chg_en h n8 i f).mono ?_
  rintro e w1 ⟨rfl, h1, o1⟩
  go_wp2
  go_ret
  exact ⟨ret_int E.out, h1.alloc' _, o1.trans (Only.below (below_one w1 _))⟩
theorem ret_bi {k : IntKind} {a b : Int} {c d : Bool} (h : a = b) (h' : c = d) : Ending.returned (.tuple #[.bool c, .int k a]) = .returned (.tuple #[.bool d, .int k b]) := by rw [h, h']
theorem leave_d (F : Fo) (i : Int) : decide ((chV F i leF).s = 3) = (turnV F i leF).d := by
  have hc := clean_le
  unfold chV turnV
  cases look F.R i with
  | none => rfl
  | some x =>
    by_cases h0 : (leF x).x = 0
    · simp only [h0, if_true]
    · have h1 := hc x h0
      simp only [h0, if_false]
      have h2 : (leF x).s = 0 := by rw [h1]; rfl
      exact decide_eq_false (by rw [h2]; decide)
set_option maxHeartbeats 2000000 in
theorem leave_any (h : Sc w Y B g K n A S F) (n8 : n ≤ 8) (i : Int) :
    Calls Tryz.prog 149 #[ptr B, .int .i64 i] w fun e w' => e = .returned (.tuple #[.bool (turnV F i leF).d, .int .i64 (turnV F i leF).x]) ∧ Sc w' Y B g K n A S (turnV F i leF).F ∧ Only [g] w w' := by
  have E := Lib.hid (ch_turn F i (f := leF)).1
  have D : ((chV F i leF).s == 3) = (turnV F i leF).d := (Bool.beq_eq_decide_eq _ _).trans (leave_d F i)
  have hg := h.ltg
  go_enter Tryz.func149, Tryz.ntmps149
  go_wp2_with fail
  refine (chg_le h n8 i).mono ?_
  rintro e w1 ⟨rfl, h1, o1⟩
  go_wp2
  go_ret2
  exact ⟨ret_bi E.out rfl, h1.alloc' _, o1.trans (Only.below (below_one w1 _))⟩

set_option maxRecDepth 8000 in
set_option maxHeartbeats 4000000 in
theorem destroy_any (h : Sc w Y B g K n A S F) (v : Inv n A S I J F) (hK : K < w.heap.size) (i : Int) :
    Calls Tryz.prog 119 #[ptr B, .int .i64 i] w fun e w' => e = .returned (.int .i64 (destroyV F i).x) ∧ Sc w' Y B g K n A S (destroyV F i).F ∧ Only [B, g] w w' := by
  have n8 := v.n8
  have hg := h.ltg
  have hc := chg_un h n8 i v.right
  have no : ∀ y : Int, chV F i unF = Ctl.no y → y ≠ 0 → (turnV F i unF).F = F → destroyV F i = ⟨0, y, false, F⟩ →
      Calls Tryz.prog 119 #[ptr B, .int .i64 i] w fun e w' => e = .returned (.int .i64 (destroyV F i).x) ∧ Sc w' Y B g K n A S (destroyV F i).F ∧ Only [B, g] w w' := by
    intro y e1 y0 e2 e3
    rw [e1, e2] at hc
    have E3 := Lib.hid e3
    have q : ((Ctl.no y).x != 0) = true := by simpa [Ctl.no] using y0
    clear e1 e2 e3 y0
    go_enter Tryz.func119, Tryz.ntmps119
    go_wp2_with fail
    refine hc.mono ?_
    rintro e w1 ⟨rfl, h1, o1⟩
    go_wp2
    go_ret
    rw [E3.out]
    exact ⟨rfl, h1.alloc' _, (o1.mono (by simp)).trans (Only.below (below_one w1 _))⟩
  cases hl : look F.R i with
  | none =>
    have e1 : chV F i unF = Ctl.no 11 := by unfold chV; rw [hl]
    have e3 : destroyV F i = ⟨0, 11, false, F⟩ := by unfold destroyV; rw [hl]
    exact no 11 e1 (by decide) ((ch_turn F i).2 (by rw [e1]; decide)) e3
  | some x =>
    have e0 : chV F i unF = unV x.s x.c x.p x.e := by unfold chV; rw [hl]; rfl
    rcases un_cases x.s x.c x.p x.e with ⟨hs, he⟩ | ⟨hs, he⟩ | ⟨hs, hs', he⟩
    · have e3 : destroyV F i = ⟨0, 11, false, F⟩ := by unfold destroyV; rw [hl]; simp only [hs, if_true]
      rw [he] at e0
      exact no 11 e0 (by decide) ((ch_turn F i).2 (by rw [e0]; decide)) e3
    · have e3 : destroyV F i = ⟨0, 0, false, ⟨F.R.set i.toNat (gone x), giveL x.a (x.a + x.z) F.L⟩⟩ := by
        unfold destroyV; rw [hl]; simp only [hs, if_true]; simp only [show ¬ ((1 : Int) = 0) by decide, if_false]
      rw [he] at e0
      have e4 : (turnV F i unF).F = ⟨F.R.set i.toNat ⟨0, x.c, x.p, (x.e + 1) % 16777216, x.a, x.z⟩, F.L⟩ := by
        unfold turnV; rw [hl]
        have e5 : unF x = ⟨0, x.c, x.p, (x.e + 1) % 16777216, 0⟩ := he
        simp only [e5, if_true]
        rfl
      obtain ⟨i1, i2, hx⟩ := look_in hl
      rw [h.len] at i2
      obtain ⟨k, rfl⟩ : ∃ k : Nat, i = k := ⟨i.toNat, by omega⟩
      rw [Int.toNat_natCast] at hx e3 e4
      have hk : k < n := by omega
      obtain ⟨b1, b2, b3, b4, b5, b6⟩ := v.back hx (by omega) (by rw [hs]; decide)
      have o1 := v.ok.a0
      have o2 := v.ok.a1
      have o3 := v.ok.s0
      have o4 := v.ok.s1
      have GB : Gr.giveB A S F.L x.a x.z = true := by
        unfold Gr.giveB Gr.sizeB Gr.hasB
        rw [decide_eq_true (by omega), decide_eq_true (by omega), decide_eq_true (by omega), b6]
        rfl
      have GE := Lib.hid (show Gr.giveE A S F.L x.a x.z = 0 by unfold Gr.giveE; rw [if_pos GB])
      have GF := Lib.hid (show Gr.giveF A S F.L x.a x.z = giveL x.a (x.a + x.z) F.L by unfold Gr.giveF; rw [if_pos GB])
      rw [e0, e4] at hc
      have E3 := Lib.hid e3
      have n1 : B ≠ g := h.ne
      have n2 : g ≠ B := fun e => h.ne e.symm
      have OK := v.ok
      have hB := h.ltB
      clear e0 e3 e4 GB b2 b3 b6 no he hl v hs
      go_enter Tryz.func119, Tryz.ntmps119
      go_wp2_with fail
      refine hc.mono ?_
      rintro e w1 ⟨rfl, h1, o1⟩
      have hx1 := set_read hx ⟨0, x.c, x.p, (x.e + 1) % 16777216, x.a, x.z⟩
      have h2 := h1.alloc' (.cells #[.int .i64 0, .int .i64 x.c, .int .i64 x.p, .int .i64 ((x.e + 1) % 16777216)] 64)
      have O2 := o1.trans (Only.below (below_one w1 (.cells #[.int .i64 0, .int .i64 x.c, .int .i64 x.p, .int .i64 ((x.e + 1) % 16777216)] 64)))
      obtain ⟨⟨x0, x1, x2, x3, x4, x5⟩, hf⟩ := h2.at hx1
      have c2 := h2.all
      have f4 := hf (k * 6 + 4)
      have f5 := hf (k * 6 + 5)
      have h3 := h2.alloc' (.cells #[.int .i64 x.a, .int .i64 x.z] 109)
      have O3 := O2.trans (Only.below (below_one (w1.alloc (.cells #[.int .i64 0, .int .i64 x.c, .int .i64 x.p, .int .i64 ((x.e + 1) % 16777216)] 64)) (.cells #[.int .i64 x.a, .int .i64 x.z] 109)))
      have s1 := o1.size
      have hne : w1.heap.size + 1 ≠ g := by omega
      have C3 := h3.cg.put2 k hx1 0 0
      rw [List.set_set] at C3
      have h4 := h3.of_cg C3
      have O4 := O3.trans C3.only
      have c3 := h3.all
      obtain ⟨⟨y0, y1, y2, y3, y4, y5⟩, hf'⟩ := h3.at hx1
      have f4' := hf' (k * 6 + 4)
      have f5' := hf' (k * 6 + 5)
      clear x0 x1 x2 x3 hf hf' y0 y1 y2 y3 h2 h3
      go_wp2_with fail
      have z0 : ((((w1.alloc (.cells #[.int .i64 0, .int .i64 x.c, .int .i64 x.p, .int .i64 ((x.e + 1) % 16777216)] 64)).alloc (.cells #[.int .i64 x.a, .int .i64 x.z] 109)).setCell ⟨g, k * 6 + 4, none⟩ (.int .i64 0)).setCell ⟨g, k * 6 + 5, none⟩ (.int .i64 0)).cell? ⟨w1.heap.size + 1, 0, none⟩ = some (.int .i64 x.a) := by simp [go_sem, hne]
      have z1 : ((((w1.alloc (.cells #[.int .i64 0, .int .i64 x.c, .int .i64 x.p, .int .i64 ((x.e + 1) % 16777216)] 64)).alloc (.cells #[.int .i64 x.a, .int .i64 x.z] 109)).setCell ⟨g, k * 6 + 4, none⟩ (.int .i64 0)).setCell ⟨g, k * 6 + 5, none⟩ (.int .i64 0)).cell? ⟨w1.heap.size + 1, 1, none⟩ = some (.int .i64 x.z) := by simp [go_sem, hne]
      have lt4 : w1.heap.size + 1 < ((((w1.alloc (.cells #[.int .i64 0, .int .i64 x.c, .int .i64 x.p, .int .i64 ((x.e + 1) % 16777216)] 64)).alloc (.cells #[.int .i64 x.a, .int .i64 x.z] 109)).setCell ⟨g, k * 6 + 4, none⟩ (.int .i64 0)).setCell ⟨g, k * 6 + 5, none⟩ (.int .i64 0)).heap.size := by simp [World.setCell]
      have B1 := h1.ltB
      clear c2 f4 f5 x4 x5 c3 f4' f5' y4 y5 hx1 C3 O3 O2 h1
      generalize ((((w1.alloc (.cells #[.int .i64 0, .int .i64 x.c, .int .i64 x.p, .int .i64 ((x.e + 1) % 16777216)] 64)).alloc (.cells #[.int .i64 x.a, .int .i64 x.z] 109)).setCell ⟨g, k * 6 + 4, none⟩ (.int .i64 0)).setCell ⟨g, k * 6 + 5, none⟩ (.int .i64 0)) = W4 at *
      have h5 := h4.below (Below.refl W4.heap.size W4).drew
      have O5 := O4.trans (Only.below (Below.refl W4.heap.size W4).drew)
      have hK5 : K < W4.drew.heap.size := by have := O4.size; show K < W4.heap.size; omega
      go_region_held3 (fun w' => w'.cell? ⟨w1.heap.size + 1, 0, none⟩ = some (.int .i64 x.a) ∧ w'.cell? ⟨w1.heap.size + 1, 1, none⟩ = some (.int .i64 x.z))
        (first | exact ⟨z0, z1⟩ | exact T5)
        ((go_at_call 147; refine (Gr.give_any W4.drew (ly Y g n) B K A S F.L x.a x.z h5.gr hK5 OK (by omega) (by omega) (by omega) (by omega)).mono ?_; rintro e w5 ⟨rfl, g5, k5⟩; rw [GE.out]; have T5 : w5.cell? ⟨w1.heap.size + 1, 0, none⟩ = some (.int .i64 x.a) ∧ w5.cell? ⟨w1.heap.size + 1, 1, none⟩ = some (.int .i64 x.z) := ⟨(cell_only k5 (by exact lt4) (fun e => by injection e with e; omega) 0).trans z0, (cell_only k5 (by exact lt4) (fun e => by injection e with e; omega) 1).trans z1⟩))
      all_goals
        go_wp2
        go_ret
        rw [E3.out]
        rw [GF.out] at g5
        exact ⟨rfl, h5.ground g5 k5, (O5.mono (by simp)).trans (Only.grown k5 (by simp))⟩
    · have e3 : destroyV F i = ⟨0, 12, false, F⟩ := by unfold destroyV; rw [hl]; simp only [hs, hs', if_false]
      rw [he] at e0
      exact no 12 e0 (by decide) ((ch_turn F i).2 (by rw [e0]; decide)) e3
end
end Go.Proofs.YtneggppfffekdaaGreat.Sco
