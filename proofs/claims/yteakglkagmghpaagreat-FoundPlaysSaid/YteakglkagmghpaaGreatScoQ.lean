/-
  Contracts of the document's scopes: Enter, Leave, Open, Hold, Destroy, Create.
-/
import Derived.Test.YteakglkagmghpaaGreatScoR
import Derived.Test.YteakglkagmghpaaGreatScoP
namespace Go.Proofs.YteakglkagmghpaaGreat.Sco
open Go.ChangeShapes Go.WideShapes Go.ChangeAt Go.RowKit
open Slic Gm
set_option linter.unusedVariables false
set_option linter.unusedSimpArgs false
attribute [local go_sem ↓] Go.wp_at_zero Go.wp_at_succ

theorem is_yes {i : Int} {n : Nat} (h1 : 1 ≤ i) (h2 : i < n) : isB i n = true := decide_eq_true ⟨h1, h2⟩
theorem is_no {i : Int} {n : Nat} (h : i < 1 ∨ (n : Int) ≤ i) : isB i n = false := decide_eq_false (by omega)
theorem look_yes {R : List Cx} {k : Nat} {x : Cx} (h1 : 1 ≤ k) (hx : R[k]? = some x) : look R (k : Int) = some x := by
  unfold look
  rw [if_pos (by omega), Int.toNat_natCast]
  exact hx
theorem look_no {R : List Cx} {i : Int} (h : i < 1 ∨ (R.length : Int) ≤ i) : look R i = none := by
  unfold look
  by_cases c : 1 ≤ i
  · rw [if_pos c, List.getElem?_eq_none (by omega)]
  · rw [if_neg c]
def drB (r : Ctl.R) : Bool := if r.x = 0 then decide (r.s = 3) else false
theorem turn_in {F : Fo} {k : Nat} {x : Cx} (f : Cx → Ctl.R) (h1 : 1 ≤ k) (hx : F.R[k]? = some x) {r : Ctl.R} (hr : f x = r) :
    (turnV F (k : Int) f).x = r.x ∧ (turnV F (k : Int) f).d = drB r ∧ (turnV F (k : Int) f).F.R = becR F.R k r.s r.c r.p r.e x.a x.z r.x ∧ (turnV F (k : Int) f).F.L = F.L := by
  subst hr
  unfold turnV becR drB
  rw [look_yes h1 hx]
  by_cases h0 : (f x).x = 0
  · simp only [h0, if_true, Int.toNat_natCast]
    exact ⟨trivial, trivial, rfl, trivial⟩
  · simp only [h0, if_false]
    exact ⟨trivial, trivial, trivial, trivial⟩
theorem turn_out {F : Fo} {i : Int} (f : Cx → Ctl.R) (h : i < 1 ∨ (F.R.length : Int) ≤ i) : turnV F i f = ⟨0, 11, false, F⟩ := by
  unfold turnV
  rw [look_no h]
section
variable {w w' : World} {P : Pl} {n N : Nat} {A : Int} {R : List Cx} {Y : Nat → Bool} {L : List E}
set_option maxHeartbeats 2000000 in
theorem refenter_any (h : Rs w P n A N R Y) (i f : Int) :
    Calls Tryz.prog 107 #[ptrD P, .int .i64 i, .int .i64 f] w fun e w' => e = tellI (turnV ⟨R, L⟩ i (enF f)).x ∧ Rs w' P n A N (turnV ⟨R, L⟩ i (enF f)).F.R Y ∧ Only [P.gc] w w' := by
  by_cases hi : 1 ≤ i ∧ i < n
  · obtain ⟨k, rfl⟩ : ∃ k : Nat, i = k := ⟨i.toNat, by omega⟩
    have E := Lib.hid (is_yes hi.1 hi.2)
    obtain ⟨x, hx⟩ : ∃ x, R[k]? = some x := ⟨_, List.getElem?_eq_getElem (by rw [h.len]; omega)⟩
    obtain ⟨r, hr⟩ : ∃ r, Ctl.entV x.s x.c x.p x.e f = r := ⟨_, rfl⟩
    have HT := Lib.hid (turn_in (F := ⟨R, L⟩) (enF f) (by omega) hx (show (enF f) x = r from hr))
    have HR := Lib.hid hr
    clear hr hi
    have c0 := h.c0
    obtain ⟨⟨x0, x1, x2, x3⟩, hf⟩ := h.atC hx
    have hkn : k < n := by have := (List.getElem?_eq_some_iff.1 hx).1; rw [h.len] at this; exact this
    clear hf
    go_enter Tryz.func107, Tryz.ntmps107
    go_wp2_with fail
    refine (is_any h _).mono ?_
    rintro z w1 ⟨rfl, rfl⟩
    rw [E.out]
    go_wp2_with fail
    refine (Ctl.refenter_any x.s x.c x.p x.e f _).mono ?_
    rintro z w1 ⟨rfl, k1⟩
    rw [HR.out]
    have h2 := (h.below k1).alloc (.cells #[.int .i64 r.s, .int .i64 r.c, .int .i64 r.p, .int .i64 r.e] 64)
    go_wp2_with fail
    refine (become_any h2 k hx r.s r.c r.p r.e r.x).mono ?_
    rintro z w3 ⟨rfl, h3, o3⟩
    go_wp2
    go_ret
    exact ⟨ret_int HT.out.1.symm, by rw [HT.out.2.2.1]; exact h3, ((Only.below k1).trans (Only.below (below_one _ _))).trans o3⟩
  · have E := Lib.hid (is_no (n := n) (i := i) (by omega))
    have HT := Lib.hid (turn_out (F := ⟨R, L⟩) (i := i) (enF f) (by show i < 1 ∨ (R.length : Int) ≤ i; rw [h.len]; omega))
    clear hi
    go_enter Tryz.func107, Tryz.ntmps107
    go_wp2_with fail
    refine (is_any h _).mono ?_
    rintro z w1 ⟨rfl, rfl⟩
    rw [E.out]
    go_wp2
    go_ret
    exact ⟨ret_int (by rw [HT.out]), by rw [HT.out]; exact h, Only.refl _ _⟩
set_option maxRecDepth 8000 in
set_option maxHeartbeats 4000000 in
theorem refdestroy_any {I J : Int} (h : Rs w P n A N R Y) (v : Inv n A (8 * (N : Int)) I J ⟨R, runs A Y N⟩) (hN : N ≤ 8192) (i : Int) :
    Calls Tryz.prog 52 #[ptrD P, .int .i64 i] w fun e w' => ∃ Y', e = tellI (destroyV ⟨R, runs A Y N⟩ i).x ∧ Rs w' P n A N (destroyV ⟨R, runs A Y N⟩ i).F.R Y' ∧ (destroyV ⟨R, runs A Y N⟩ i).F.L = runs A Y' N ∧ Only [P.gc, P.gx, P.gw] w w' := by
  by_cases hi : 1 ≤ i ∧ i < n
  · obtain ⟨k, rfl⟩ : ∃ k : Nat, i = k := ⟨i.toNat, by omega⟩
    have E := Lib.hid (is_yes hi.1 hi.2)
    obtain ⟨x, hx⟩ : ∃ x, R[k]? = some x := ⟨_, List.getElem?_eq_getElem (by rw [h.len]; omega)⟩
    have hk1 : 1 ≤ k := by omega
    have hlk := look_yes hk1 hx
    have hkn : k < n := by omega
    clear hi
    have c0 := h.c0
    obtain ⟨⟨x0, x1, x2, x3⟩, hf⟩ := h.atC hx
    clear hf
    by_cases s0 : x.s = 0
    · have HV := Lib.hid (show destroyV ⟨R, runs A Y N⟩ (k : Int) = ⟨0, 11, false, ⟨R, runs A Y N⟩⟩ by unfold destroyV; rw [hlk]; simp only [s0, if_true])
      rw [s0] at x0
      clear hlk s0 x1 x2 x3
      go_enter Tryz.func52, Tryz.ntmps52
      go_wp2_with fail
      refine (is_any h _).mono ?_
      rintro z w1 ⟨rfl, rfl⟩
      rw [E.out]
      go_wp2
      go_ret
      exact ⟨Y, ret_int (by rw [HV.out]), by rw [HV.out]; exact h, by rw [HV.out], Only.refl _ _⟩
    · have q0 : (x.s == 0) = false := by simpa using s0
      by_cases s1 : x.s = 1
      · obtain ⟨b1, b2, b3, b4, b5, b6⟩ := v.back hx hk1 s0
        have hr := rightI (v.right _ x hx)
        have HV := Lib.hid (show destroyV ⟨R, runs A Y N⟩ (k : Int) = ⟨0, 0, false, ⟨R.set k (gone x), giveL x.a (x.a + x.z) (runs A Y N)⟩⟩ by unfold destroyV; rw [hlk]; simp only [s1, if_true]; simp only [show ¬ ((1 : Int) = 0) by decide, if_false, Int.toNat_natCast])
        have GB := Lib.hid (show Gr.giveB A (8 * (N : Int)) (runs A Y N) x.a x.z = true by
          unfold Gr.giveB Gr.sizeB Gr.hasB
          rw [decide_eq_true (by omega), decide_eq_true (by omega), decide_eq_true (by omega), b6]
          rfl)
        have GL := Lib.hid (show giveL x.a (x.a + x.z) (runs A Y N) = runs A (Ref.giveW A N Y x.a x.z) N by
          have := Ref.give_runs (A := A) (n := N) Y x.a x.z v.ok.a8
          unfold Gr.giveF at this
          rw [if_pos GB.out] at this
          exact this)
        have HG := Lib.hid (show (gone x) = ⟨0, 0, -1, (x.e + 1) % 16777216, 0, 0⟩ by unfold gone; rw [show x.c = 0 by omega, show x.p = -1 by omega])
        have q1 : (x.s != 1) = false := by simpa using s1
        have e0 : 0 ≤ x.e := hr.1
        have e1 : x.e ≤ 16777215 := hr.2.1
        have tm : Int.tmod (x.e + 1) 16777216 = (x.e + 1) % 16777216 := Int.tmod_eq_emod_of_nonneg (by omega)
        have wr : IntKind.i64.wrap (x.e + 1) = x.e + 1 := IntWalk.i64_in _ (by omega)
        have wr2 : IntKind.i64.wrap ((x.e + 1) % 16777216) = (x.e + 1) % 16777216 := IntWalk.i64_in _ (by omega)
        have a0 := v.ok.a0
        have a1 := v.ok.a1
        have a8 := Lib.hid v.ok.a8
        have u1 : x.a ≤ 9223372036854775807 := by omega
        have u2 : -9223372036854775808 ≤ x.a := by omega
        have u3 : x.z ≤ 9223372036854775807 := by omega
        have u4 : -9223372036854775808 ≤ x.z := by omega
        obtain ⟨⟨m0, m1⟩, hf⟩ := h.atX hx
        have c1 := h.c1
        have c2 := h.c2
        clear hf hlk hr b2 b3 b6 s0 s1
        go_enter Tryz.func52, Tryz.ntmps52
        go_wp2_with fail
        refine (is_any h _).mono ?_
        rintro z w1 ⟨rfl, rfl⟩
        rw [E.out]
        go_wp2_with fail
        have hd := h.drew
        go_region_held3 (fun w' => w'.cell? ⟨P.D, 1, none⟩ = some (.slice (some ⟨P.gx, 0, none⟩) n P.cx) ∧ w'.cell? ⟨P.D, 2, none⟩ = some (.pointer (some ⟨P.C, 0, none⟩)) ∧ w'.cell? ⟨P.gx, k * 2, none⟩ = some (.int .i64 x.a) ∧ w'.cell? ⟨P.gx, k * 2 + 1, none⟩ = some (.int .i64 x.z))
          (first | exact ⟨c1, c2, m0, m1⟩ | exact T5)
          ((go_at_call 104; refine (Ref.give_any _ P.C P.gw N A Y x.a x.z hd.rf a0 a1 a8.out hN u2 u1 u4 u3).mono ?_; rintro z w5 ⟨rfl, rf5, k5⟩; have h5 := hd.ground k5 rf5; have T5 := (And.intro h5.c1 (And.intro h5.c2 (h5.atX hx).1))))
        all_goals
          have o5 : Only [P.gc, P.gx, P.gw] w w5 := (Only.below (Below.refl _ _).drew).trans (Only.grown k5 (by simp))
          have d1 := h5.c1
          obtain ⟨⟨y0, y1⟩, hf⟩ := h5.atX hx
          have f0 := hf (k * 2)
          have f1 := hf (k * 2 + 1)
          have h6 := h5.putX2 k hx 0 0
          have o6 := (o5.trans (Only.put _ P.gx (k * 2) (.int .i64 0) (by simp))).trans (Only.put _ P.gx (k * 2 + 1) (.int .i64 0) (by simp))
          have hx6 := set_read hx ⟨x.s, x.c, x.p, x.e, 0, 0⟩
          clear hf c0 c1 c2 m0 m1 x0 x1 x2 x3 T5
          go_wp2_with fail
          have d0 := h6.c0
          obtain ⟨⟨z0, z1, z2, z3⟩, hf⟩ := h6.atC hx6
          have g0 := hf (k * 4)
          have g1 := hf (k * 4 + 1)
          have g2 := hf (k * 4 + 2)
          have g3 := hf (k * 4 + 3)
          have h7 := (h6.putC4 k hx6 0 0 (-1) ((x.e + 1) % 16777216)).drew
          rw [List.set_set] at h7
          clear hf y0 y1 f0 f1 d1
          generalize (w5.setCell ⟨P.gx, k * 2, none⟩ (.int .i64 0)).setCell ⟨P.gx, k * 2 + 1, none⟩ (.int .i64 0) = W6 at *
          have o7 := ((((o6.trans (Only.put _ P.gc (k * 4) (.int .i64 0) (by simp))).trans (Only.put _ P.gc (k * 4 + 1) (.int .i64 0) (by simp))).trans (Only.put _ P.gc (k * 4 + 2) (.int .i64 (-1)) (by simp))).trans (Only.put _ P.gc (k * 4 + 3) (.int .i64 ((x.e + 1) % 16777216)) (by simp))).trans (Only.below (Below.refl _ _).drew)
          go_region
          all_goals
            go_wp2
            go_ret
            refine ⟨ret_int (by rw [HV.out]), Ref.giveW A N Y x.a x.z, ?_, ?_, o7⟩
            · rw [HV.out, HG.out]
              exact h7
            · rw [HV.out]
              exact GL.out
      · have HV := Lib.hid (show destroyV ⟨R, runs A Y N⟩ (k : Int) = ⟨0, 12, false, ⟨R, runs A Y N⟩⟩ by unfold destroyV; rw [hlk]; simp only [s0, s1, if_false])
        have q1 : (x.s != 1) = true := by simpa using s1
        clear hlk s0 s1 x1 x2 x3
        go_enter Tryz.func52, Tryz.ntmps52
        go_wp2_with fail
        refine (is_any h _).mono ?_
        rintro z w1 ⟨rfl, rfl⟩
        rw [E.out]
        go_wp2
        go_ret
        exact ⟨Y, ret_int (by rw [HV.out]), by rw [HV.out]; exact h, by rw [HV.out], Only.refl _ _⟩
  · have E := Lib.hid (is_no (n := n) (i := i) (by omega))
    have HV := Lib.hid (show destroyV ⟨R, runs A Y N⟩ i = ⟨0, 11, false, ⟨R, runs A Y N⟩⟩ by unfold destroyV; rw [look_no (by show i < 1 ∨ (R.length : Int) ≤ i; rw [h.len]; omega)])
    clear hi
    go_enter Tryz.func52, Tryz.ntmps52
    go_wp2_with fail
    refine (is_any h _).mono ?_
    rintro z w1 ⟨rfl, rfl⟩
    rw [E.out]
    go_wp2
    go_ret
    exact ⟨Y, ret_int (by rw [HV.out]), by rw [HV.out]; exact h, by rw [HV.out], Only.refl _ _⟩
end
end Go.Proofs.YteakglkagmghpaaGreat.Sco
