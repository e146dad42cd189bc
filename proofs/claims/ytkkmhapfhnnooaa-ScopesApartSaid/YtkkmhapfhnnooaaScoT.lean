/-
  Something that is done (the law's own does), over what a walk carries.
-/
import Derived.Test.YtkkmhapfhnnooaaScoS
namespace Go.Proofs.Ytkkmhapfhnnooaa.Sco
open Go.ChangeShapes Go.WideShapes Go.ChangeAt Go.RowKit
open Slic Gm
set_option linter.unusedVariables false
set_option linter.unusedSimpArgs false
attribute [local go_sem ↓] Go.wp_at_zero Go.wp_at_succ

def doV (F : Fo) (k s z : Int) : Re := if k % 7 = 0 then createV F z else if k % 7 = 1 then destroyV F s else if k % 7 = 4 then turnV F s leF else if k % 7 = 5 then turnV F s opF else if k % 7 = 6 then turnV F s hoF else turnV F s (enF z)
theorem do_cases (F : Fo) (k s z : Int) : (k % 7 = 0 ∧ doV F k s z = createV F z) ∨ (k % 7 = 1 ∧ doV F k s z = destroyV F s) ∨ (k % 7 = 2 ∧ doV F k s z = turnV F s (enF z)) ∨ (k % 7 = 3 ∧ doV F k s z = turnV F s (enF z)) ∨
    (k % 7 = 4 ∧ doV F k s z = turnV F s leF) ∨ (k % 7 = 5 ∧ doV F k s z = turnV F s opF) ∨ (k % 7 = 6 ∧ doV F k s z = turnV F s hoF) := by
  have h : k % 7 = 0 ∨ k % 7 = 1 ∨ k % 7 = 2 ∨ k % 7 = 3 ∨ k % 7 = 4 ∨ k % 7 = 5 ∨ k % 7 = 6 := by omega
  unfold doV
  rcases h with h | h | h | h | h | h | h <;> rw [h] <;> simp
theorem turn_v (F : Fo) (i : Int) (f : Cx → Ctl.R) : (turnV F i f).v = 0 := by
  unfold turnV
  cases look F.R i with
  | none => rfl
  | some x =>
    by_cases h0 : (f x).x = 0
    · simp only [h0, if_true]
    · simp only [h0, if_false]
theorem destroy_v (F : Fo) (i : Int) : (destroyV F i).v = 0 := by
  unfold destroyV
  cases look F.R i with
  | none => rfl
  | some x =>
    by_cases h0 : x.s = 0
    · simp only [h0, if_true]
    · by_cases h1 : x.s = 1
      · simp only [h0, h1, if_true, if_false]
        rfl
      · simp only [h0, h1, if_false]
theorem ret_n {a b c d : Int} (h : a = b) (h' : c = d) : tellN a c = tellN b d := by rw [h, h']

section
variable {w0 w w' : World} {B g n : Nat} {A S I J : Int} {F F' : Fo} {bx : List (Nat × List Value × TypeId)}
theorem soo_create (h : So w0 w B g n A S I J F bx) (z : Int) (z1 : -9223372036854775808 ≤ z) (z2 : z ≤ 9223372036854775807) :
    Calls Try.prog 14 #[ptr B, .int .i64 z] w fun e w' => e = tellN (createV F z).v (createV F z).x ∧ So w0 w' B g n A S I J (createV F z).F bx ∧ Only [B, g] w w' :=
  (create_any h.sc h.inv.n8 h.inv.ok h.sc.ltB z z1 z2).mono fun e w' ⟨he, hs, ho⟩ => ⟨he, h.step hs (h.inv.create z) ho, ho⟩
theorem soo_destroy (h : So w0 w B g n A S I J F bx) (i : Int) :
    Calls Try.prog 16 #[ptr B, .int .i64 i] w fun e w' => e = tellI (destroyV F i).x ∧ So w0 w' B g n A S I J (destroyV F i).F bx ∧ Only [B, g] w w' :=
  (destroy_any h.sc h.inv h.sc.ltB i).mono fun e w' ⟨he, hs, ho⟩ => ⟨he, h.step hs (h.inv.destroy i) ho, ho⟩
theorem soo_open (h : So w0 w B g n A S I J F bx) (i : Int) :
    Calls Try.prog 20 #[ptr B, .int .i64 i] w fun e w' => e = tellI (turnV F i opF).x ∧ So w0 w' B g n A S I J (turnV F i opF).F bx ∧ Only [B, g] w w' :=
  (open_any h.sc h.inv.n8 i).mono fun e w' ⟨he, hs, ho⟩ => ⟨he, h.step hs (h.inv.turn i fine_op) (ho.mono (by simp)), ho.mono (by simp)⟩
theorem soo_hold (h : So w0 w B g n A S I J F bx) (i : Int) :
    Calls Try.prog 22 #[ptr B, .int .i64 i] w fun e w' => e = tellI (turnV F i hoF).x ∧ So w0 w' B g n A S I J (turnV F i hoF).F bx ∧ Only [B, g] w w' :=
  (hold_any h.sc h.inv.n8 i).mono fun e w' ⟨he, hs, ho⟩ => ⟨he, h.step hs (h.inv.turn i fine_ho) (ho.mono (by simp)), ho.mono (by simp)⟩
theorem soo_enter (h : So w0 w B g n A S I J F bx) (i f : Int) :
    Calls Try.prog 24 #[ptr B, .int .i64 i, .int .i64 f] w fun e w' => e = tellI (turnV F i (enF f)).x ∧ So w0 w' B g n A S I J (turnV F i (enF f)).F bx ∧ Only [B, g] w w' :=
  (enter_any h.sc h.inv.n8 i f).mono fun e w' ⟨he, hs, ho⟩ => ⟨he, h.step hs (h.inv.turn i (fine_en f)) (ho.mono (by simp)), ho.mono (by simp)⟩
theorem soo_leave (h : So w0 w B g n A S I J F bx) (i : Int) :
    Calls Try.prog 18 #[ptr B, .int .i64 i] w fun e w' => e = .returned (.tuple #[.bool (turnV F i leF).d, .int .i64 (turnV F i leF).x]) ∧ So w0 w' B g n A S I J (turnV F i leF).F bx ∧ Only [B, g] w w' :=
  (leave_any h.sc h.inv.n8 i).mono fun e w' ⟨he, hs, ho⟩ => ⟨he, h.step hs (h.inv.turn i fine_le) (ho.mono (by simp)), ho.mono (by simp)⟩
set_option maxHeartbeats 4000000 in
theorem doeso_any (h : So w0 w B g n A S I J F bx) (k s z : Int) (z1 : -9223372036854775808 ≤ z) (z2 : z ≤ 9223372036854775807) (k1 : 0 ≤ k) (k2 : k ≤ 255) :
    Calls Try.prog 35 #[ptr B, .agg #[.int .u8 k, .int .i64 s, .int .i64 z]] w fun e w' => e = tellN (doV F k s z).v (doV F k s z).x ∧ So w0 w' B g n A S I J (doV F k s z).F bx ∧ Only [B, g] w w' := by
  have h1 := h.new [.int .u8 k, .int .i64 s, .int .i64 z] 34
  obtain ⟨c0, c1, c2⟩ := h1.get3 0 rfl
  have hd : Int.tmod k 7 = k % 7 := Int.tmod_eq_emod_of_nonneg k1
  rcases do_cases F k s z with ⟨hk, E⟩ | ⟨hk, E⟩ | ⟨hk, E⟩ | ⟨hk, E⟩ | ⟨hk, E⟩ | ⟨hk, E⟩ | ⟨hk, E⟩
  all_goals
    have E := Lib.hid E
    go_enter Try.func35, Try.ntmps35
    go_wp2_with fail
    first
      | (refine (soo_create h1 z z1 z2).mono ?_; rintro e w1 ⟨rfl, h2, o2⟩; go_wp2; go_ret2; exact ⟨ret_n (by rw [E.out]) (by rw [E.out]), by rw [E.out]; exact h2.drop 1, (Only.below (below_one w _)).trans o2⟩)
      | (refine (soo_destroy h1 s).mono ?_; rintro e w1 ⟨rfl, h2, o2⟩; go_wp2; go_ret2; exact ⟨ret_n (by rw [E.out, destroy_v]) (by rw [E.out]), by rw [E.out]; exact h2.drop 1, (Only.below (below_one w _)).trans o2⟩)
      | (refine (soo_leave h1 s).mono ?_; rintro e w1 ⟨rfl, h2, o2⟩; go_wp2; go_ret2; exact ⟨ret_n (by rw [E.out, turn_v]) (by rw [E.out]), by rw [E.out]; exact h2.drop 1, (Only.below (below_one w _)).trans o2⟩)
      | (refine (soo_open h1 s).mono ?_; rintro e w1 ⟨rfl, h2, o2⟩; go_wp2; go_ret2; exact ⟨ret_n (by rw [E.out, turn_v]) (by rw [E.out]), by rw [E.out]; exact h2.drop 1, (Only.below (below_one w _)).trans o2⟩)
      | (refine (soo_hold h1 s).mono ?_; rintro e w1 ⟨rfl, h2, o2⟩; go_wp2; go_ret2; exact ⟨ret_n (by rw [E.out, turn_v]) (by rw [E.out]), by rw [E.out]; exact h2.drop 1, (Only.below (below_one w _)).trans o2⟩)
      | (refine (soo_enter h1 s z).mono ?_; rintro e w1 ⟨rfl, h2, o2⟩; go_wp2; go_ret2; exact ⟨ret_n (by rw [E.out, turn_v]) (by rw [E.out]), by rw [E.out]; exact h2.drop 1, (Only.below (below_one w _)).trans o2⟩)
theorem does_any (h : So w0 w B g n A S I J F bx) (k s z : Int) (z1 : -9223372036854775808 ≤ z) (z2 : z ≤ 9223372036854775807) (k1 : 0 ≤ k) (k2 : k ≤ 255) :
    Calls Try.prog 35 #[ptr B, .agg #[.int .u8 k, .int .i64 s, .int .i64 z]] w fun e w' => e = tellN (doV F k s z).v (doV F k s z).x ∧ So w0 w' B g n A S I J (doV F k s z).F bx :=
  (doeso_any h k s z z1 z2 k1 k2).mono fun e w' ⟨he, hs, _⟩ => ⟨he, hs⟩
/-- What is done to other scopes leaves these as they are. -/
theorem So.other {B' g' : Nat} (h : So w0 w B g n A S I J F bx) (k : Only [B', g'] w w') (tB : isT w B' 77) (tg : isT w g' 73) (oB : w0.heap.size ≤ B') (og : w0.heap.size ≤ g') (nB : B ≠ B') (ng : g ≠ g') (nb : ∀ x ∈ bx, x.1 ≠ B' ∧ x.1 ≠ g') : So w0 w' B g n A S I J F bx := by
  have n1 : B ≠ g' := h.sc.tB.ne tg (by decide)
  have n2 : g ≠ B' := h.sc.tg.ne tB (by decide)
  refine ⟨h.sc.only k (by simp; exact ⟨nB, n1⟩) (by simp; exact ⟨n2, ng⟩) (fun x hx => ?_), h.inv, k.below_of h.below h.below.size (fun x hx => ?_), h.oB, h.og, fun x hx => ⟨bt_only (h.box x hx).1 k (by have := nb x hx; simp; exact this), (h.box x hx).2⟩⟩
  · rcases List.mem_cons.1 hx with rfl | hx
    · exact .inr ⟨_, tB, by decide⟩
    · rw [List.mem_singleton.1 hx]; exact .inr ⟨_, tg, by decide⟩
  · rcases List.mem_cons.1 hx with rfl | hx
    · exact oB
    · rw [List.mem_singleton.1 hx]; exact og
end
end Go.Proofs.Ytkkmhapfhnnooaa.Sco
