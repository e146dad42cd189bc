/-
  Contracts of the document's model: value, Handle, Slots.
-/
import Derived.Test.YtbpmnjmegffllaaGreatDo
namespace Go.Proofs.YtbpmnjmegffllaaGreat.Mod
open Go.ChangeShapes Go.WideShapes Go.ChangeAt Go.RowKit
open Slic Sco
set_option linter.unusedVariables false
set_option linter.unusedSimpArgs false
set_option maxRecDepth 8000
section
variable {w w' : World} {X : Dx} {p : Dp} {m : Mo} {Z : Fx} {k : Nat}
set_option maxHeartbeats 4000000 in
theorem refvalue_any (h : Rm w X p m) (v : Iv Z k m) (hk : k ≤ 10000) (hn : Z.n = X.n) {t : Nat} (ht : t < 4) {x : Int} (hx : wf64 x) (f : Int) :
    Calls Tryz.prog 126 #[ptrX X, .int .i64 (t : Int), .int .u64 x, .int .i64 f] w fun z w' => z = .returned (.int .i64 (m.fits (m.ents t) x f)) ∧ Rm w' X p m ∧ Below w.heap.size w w' := by
  have ti : (t : Int) < 4 := by omega
  have t0 : (0 : Int) ≤ (t : Int) := by omega
  by_cases h0 : x = 0
  · subst h0
    have E := Lib.hid (show m.fits (m.ents t) 0 f = 0 from if_pos rfl)
    as_aux_lemma =>
      go_enter Tryz.func126, Tryz.ntmps126
      go_wp2
      go_ret
      exact ⟨by rw [E.out]; rfl, h, Below.refl _ _⟩
  · have z0 : (x == 0) = false := by simpa using h0
    by_cases hc : m.chk (m.ents t) x = 0
    · obtain ⟨k1, k2⟩ := ck_yes hc
      have E := Lib.hid (show m.fits (m.ents t) x f = if Chain.aboveV (m.ents t) (Refs.unV x).s f = false then 22 else 0 by unfold Mo.fits; rw [if_neg h0, if_neg (by rw [hc]; decide)])
      have KC := Lib.hid hc
      have K2 := Lib.hid k2
      clear hc k1 k2 h0
      cases ha : Chain.aboveV (m.ents t) (Refs.unV x).s f with
      | false =>
        have E2 := Lib.hid (show m.fits (m.ents t) x f = 22 by rw [E.out, if_pos ha])
        have HA := Lib.hid ha
        clear ha E
        as_aux_lemma =>
          go_enter Tryz.func126, Tryz.ntmps126
          go_wp2_with fail
          refine (refcheck_any h v hk hn ht hx).mono ?_
          rintro z w1 ⟨rfl, h1, q1⟩
          rw [KC.out, K2.out]
          have cE := h1.entC ht
          have oE := (ent_own.2 (h1.en t ht)).sr
          go_wp2_with fail
          refine (Chain.refabove_any _ (sl3 (p.c t)) (m.ents t) _ _ oE).mono ?_
          rintro e wq ⟨rfl, rfl⟩
          rw [HA.out]
          go_wp2
          go_ret
          exact ⟨by rw [E2.out]; rfl, h1, q1⟩
      | true =>
        have E2 := Lib.hid (show m.fits (m.ents t) x f = 0 by rw [E.out, if_neg (by rw [ha]; decide)])
        have HA := Lib.hid ha
        clear ha E
        as_aux_lemma =>
          go_enter Tryz.func126, Tryz.ntmps126
          go_wp2_with fail
          refine (refcheck_any h v hk hn ht hx).mono ?_
          rintro z w1 ⟨rfl, h1, q1⟩
          rw [KC.out, K2.out]
          have cE := h1.entC ht
          have oE := (ent_own.2 (h1.en t ht)).sr
          go_wp2_with fail
          refine (Chain.refabove_any _ (sl3 (p.c t)) (m.ents t) _ _ oE).mono ?_
          rintro e wq ⟨rfl, rfl⟩
          rw [HA.out]
          go_wp2
          go_ret
          exact ⟨by rw [E2.out]; rfl, h1, q1⟩
    · have E := Lib.hid (show m.fits (m.ents t) x f = m.chk (m.ents t) x by unfold Mo.fits; rw [if_neg h0, if_pos hc])
      obtain ⟨C, hC⟩ : ∃ C, m.chk (m.ents t) x = C := ⟨_, rfl⟩
      have z1 : (C != 0) = true := by rw [← hC]; simpa using hc
      have HC := Lib.hid hC
      clear hC hc h0
      as_aux_lemma =>
        go_enter Tryz.func126, Tryz.ntmps126
        go_wp2_with fail
        refine (refcheck_any h v hk hn ht hx).mono ?_
        rintro z w1 ⟨rfl, h1, q1⟩
        rw [HC.out]
        go_wp2
        go_ret
        exact ⟨by rw [E.out, HC.out]; rfl, h1, q1⟩
end
end Go.Proofs.YtbpmnjmegffllaaGreat.Mod
