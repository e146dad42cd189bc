/-
  Contracts of the document's own answers for layer 4, fifth part: Give.
-/
import Derived.Test.YtkkmhapfhnnooaaRefD
namespace Go.Proofs.Ytkkmhapfhnnooaa.Ref
open Go.ChangeShapes Go.WideShapes Go.ChangeAt Go.RowKit Gm Gr
set_option linter.unusedVariables false
set_option linter.unusedSimpArgs false

theorem Rf.drewN {w : World} {C g n : Nat} {A : Int} {F : Nat → Bool} (h : Rf w C g A n F) (k : Nat) : Rf (w.drewN k) C g A n F := ⟨h.head, h.body⟩
theorem below_drewN {N : Nat} {a w : World} (h : Below N a w) (k : Nat) : Below N a (w.drewN k) := ⟨h.os, h.tape, h.output, h.size, h.block⟩

/-- Which words are free behind Give. -/
def giveW (A : Int) (n : Nat) (F : Nat → Bool) (a z : Int) : Nat → Bool := if giveB A (8 * (n : Int)) (runs A F n) a z = true then setW F ((a - A) / 8).toNat (z / 8).toNat true else F
theorem giveB_parts {A S : Int} {L : List E} {a z : Int} (h : giveB A S L a z = true) : 0 < z ∧ z % 8 = 0 ∧ a % 8 = 0 ∧ A ≤ a ∧ z ≤ A + S - a ∧ bad a (a + z) L = false := by
  unfold giveB at h
  simp only [Bool.and_eq_true, decide_eq_true_eq, Bool.not_eq_true'] at h
  obtain ⟨h1, h2, h3, h4⟩ := h
  have ⟨s1, s2⟩ : 0 < z ∧ z % 8 = 0 := of_decide_eq_true h1
  have ⟨t1, t2, t3⟩ : A ≤ a ∧ a ≤ A + S ∧ z ≤ A + S - a := of_decide_eq_true h3
  exact ⟨s1, s2, h2, t1, t3, h4⟩
theorem giveB_mk {A S : Int} {L : List E} {a z : Int} (h1 : 0 < z) (h2 : z % 8 = 0) (h3 : a % 8 = 0) (h4 : A ≤ a) (h5 : z ≤ A + S - a) : giveB A S L a z = !bad a (a + z) L := by
  unfold giveB
  rw [show sizeB z = true from decide_eq_true ⟨h1, h2⟩, decide_eq_true h3, show hasB A S a z = true from decide_eq_true ⟨h4, by omega, h5⟩]
  rfl
theorem giveB_not {A S : Int} {L : List E} {a z : Int} (h : ¬ (0 < z ∧ z % 8 = 0 ∧ a % 8 = 0 ∧ A ≤ a ∧ z ≤ A + S - a)) : giveB A S L a z = false := by
  cases hb : giveB A S L a z with
  | false => rfl
  | true =>
    have := giveB_parts hb
    exact absurd ⟨this.1, this.2.1, this.2.2.1, this.2.2.2.1, this.2.2.2.2.1⟩ h
theorem give_runs {A : Int} {n : Nat} (F : Nat → Bool) (a z : Int) (a8 : A % 8 = 0) : giveF A (8 * (n : Int)) (runs A F n) a z = runs A (giveW A n F a z) n := by
  unfold giveF giveW
  by_cases h : giveB A (8 * (n : Int)) (runs A F n) a z = true
  · rw [if_pos h, if_pos h]
    obtain ⟨h1, h2, h3, h4, h5, h6⟩ := giveB_parts h
    exact runs_give (by omega) (by omega) (by omega) (by omega) h6
  · rw [if_neg h, if_neg h]

set_option maxRecDepth 8000 in
set_option maxHeartbeats 4000000 in
theorem give_any (w : World) (C g n : Nat) (A : Int) (F : Nat → Bool) (a z : Int) (h : Rf w C g A n F) (a0 : 0 ≤ A) (a1 : A ≤ 65536) (a8 : A % 8 = 0) (hn : n ≤ 8192) (b1 : -9223372036854775808 ≤ a) (b2 : a ≤ 9223372036854775807) (z1 : -9223372036854775808 ≤ z) (z2 : z ≤ 9223372036854775807) :
    Calls Try.prog 52 #[.pointer (some ⟨C, 0, none⟩), .int .i64 a, .int .i64 z] w fun e w' => e = .returned (.int .i64 (giveE A (8 * (n : Int)) (runs A F n) a z)) ∧ Rf w' C g A n (giveW A n F a z) ∧ w.grownBy w' (some g) := by
  have x0 := h.c0
  have x1 := h.c1
  have e8 := tmod8 a
  have no : (¬ (0 < z ∧ z % 8 = 0 ∧ a % 8 = 0 ∧ A ≤ a ∧ z ≤ A + 8 * (n : Int) - a)) → Hid (giveE A (8 * (n : Int)) (runs A F n) a z = 1 ∧ giveW A n F a z = F) := by
    intro hh
    have hb := giveB_not (L := runs A F n) hh
    unfold giveE giveW
    rw [if_neg (by rw [hb]; decide), if_neg (by rw [hb]; decide)]
    exact Lib.hid ⟨rfl, rfl⟩
  by_cases h0 : z < 1
  · have q0 : decide (z < 1) = true := decide_eq_true h0
    have N := no (by omega)
    clear no e8
    go_enter Try.func52, Try.ntmps52
    go_wp2
    go_quiet (fail)
    go_wp2
    go_ret
    exact ⟨ret_int N.out.1.symm, by rw [N.out.2]; exact h.drewN _, only_drewN (World.grownBy.refl _ _) _⟩
  have q0 : decide (z < 1) = false := decide_eq_false h0
  by_cases h1 : z % 8 = 0
  rotate_left
  · have q1 : (z % 8 != 0) = true := by simpa using h1
    have N := no (by omega)
    clear no e8 h1
    go_enter Try.func52, Try.ntmps52
    go_wp2
    go_quiet (fail)
    go_wp2
    go_ret
    exact ⟨ret_int N.out.1.symm, by rw [N.out.2]; exact h.drewN _, only_drewN (World.grownBy.refl _ _) _⟩
  have q1 : (z % 8 != 0) = false := by simpa using h1
  by_cases h2 : a % 8 = 0
  rotate_left
  · have q2 : (a % 8 != 0) = true := by simpa using h2
    have q2t : (a.tmod 8 != 0) = true := by simp; exact fun e => h2 (e8.1 e)
    have N := no (by omega)
    clear no e8 h2
    go_enter Try.func52, Try.ntmps52
    go_wp2
    go_quiet (fail)
    go_wp2
    go_ret
    exact ⟨ret_int N.out.1.symm, by rw [N.out.2]; exact h.drewN _, only_drewN (World.grownBy.refl _ _) _⟩
  have q2 : (a % 8 != 0) = false := by simpa using h2
  have q2t : (a.tmod 8 != 0) = false := by simp; exact e8.2 h2
  by_cases h3 : a < A
  · have q3 : decide (a < A) = true := decide_eq_true h3
    have N := no (by omega)
    clear no e8
    go_enter Try.func52, Try.ntmps52
    go_wp2
    go_quiet (fail)
    go_wp2
    go_ret
    exact ⟨ret_int N.out.1.symm, by rw [N.out.2]; exact h.drewN _, only_drewN (World.grownBy.refl _ _) _⟩
  have q3 : decide (a < A) = false := decide_eq_false h3
  by_cases h4 : A + 8 * (n : Int) ≤ a
  · have q4 : decide (A + 8 * (n : Int) ≤ a) = true := decide_eq_true h4
    have N := no (by omega)
    clear no e8
    go_enter Try.func52, Try.ntmps52
    go_wp2
    go_quiet (fail)
    go_wp2
    go_ret
    exact ⟨ret_int N.out.1.symm, by rw [N.out.2]; exact h.drewN _, only_drewN (World.grownBy.refl _ _) _⟩
  have q4 : decide (A + 8 * (n : Int) ≤ a) = false := decide_eq_false h4
  by_cases h5 : A + 8 * (n : Int) - a < z
  · have q5 : decide (A + 8 * (n : Int) - a < z) = true := decide_eq_true h5
    have N := no (by omega)
    clear no e8
    go_enter Try.func52, Try.ntmps52
    go_wp2
    go_quiet (fail)
    go_wp2
    go_ret
    exact ⟨ret_int N.out.1.symm, by rw [N.out.2]; exact h.drewN _, only_drewN (World.grownBy.refl _ _) _⟩
  have q5 : decide (A + 8 * (n : Int) - a < z) = false := decide_eq_false h5
  clear no e8
  obtain ⟨u, hu⟩ : ∃ u : Nat, a = A + 8 * (u : Int) := ⟨((a - A) / 8).toNat, by omega⟩
  obtain ⟨m, hm⟩ : ∃ m : Nat, z = 8 * (m : Int) := ⟨(z / 8).toNat, by omega⟩
  have hum : u + m ≤ n := by omega
  have hm0 : 0 < m := by omega
  have HB := Lib.hid (giveB_mk (L := runs A F n) (by omega) h1 h2 (by omega) (show z ≤ A + 8 * (n : Int) - a by omega))
  have HD := Lib.hid (runs_bad (F := F) hu (show a + z = a + 8 * (m : Int) by omega) hm0 hum)
  have E1 := Lib.hid (show ((a - A) / 8).toNat = u by omega)
  have E2 := Lib.hid (show (z / 8).toNat = m by omega)
  have HU := Lib.hid hu
  have HM := Lib.hid hm
  have zq : z / 8 = (m : Int) := by omega
  have d1 : 0 ≤ a - A := by omega
  have d2 : a - A ≤ 65536 := by omega
  have d3 : (a - A) / 8 = (u : Int) := by omega
  have d4 : (a - A).tdiv 8 = (u : Int) := tdiv8 (by omega)
  have d5 : IntKind.i64.wrap (a - A) = a - A := IntWalk.i64_in _ (by omega)
  have d6 : 0 ≤ a := by omega
  have d7 : a ≤ 131072 := by omega
  have d8 : 0 ≤ z := by omega
  have d9 : z ≤ 65536 := by omega
  clear hu hm h1 h2
  go_enter Try.func52, Try.ntmps52
  go_wp2
  go_quiet (fail)
  go_wp2_with fail
  go_loopw [8] (fun t wr => ∃ k : Nat, k ≤ m ∧ t = .int .i64 k ∧ Rf wr C g A n F ∧ Below w.heap.size w wr ∧ Hid (∀ i, i < k → F (u + i) = false)) (fun t _ => m - (intOf t).toNat)
  case atStart => exact ⟨0, by omega, rfl, h.drewN _, below_drewN (Below.refl _ _) _, Lib.hid (fun i h => by omega)⟩
  case round =>
    obtain ⟨k, hk, rfl, hR, hBl, hno⟩ := hrel
    have y0 := hR.c0
    have y1 := hR.c1
    clear x0 x1
    by_cases hlt : k < m
    · have y := hR.body.cell (i := u + k) (by omega)
      have e1 : IntKind.i64.wrap ((u : Int) + (k : Int)) = (u : Int) + (k : Int) := IntWalk.i64_in _ (by omega)
      have e2 : (0 : Int) ≤ (u : Int) + (k : Int) := by omega
      have e3 : (u : Int) + (k : Int) < (n : Int) := by omega
      have e4 : ((u : Int) + (k : Int)).toNat = u + k := by omega
      cases hf : F (u + k) with
      | true =>
        rw [hf] at y
        have hb : bad a (a + z) (runs A F n) = true := HD.out.2 ⟨k, hlt, hf⟩
        have N := Lib.hid (show giveE A (8 * (n : Int)) (runs A F n) a z = 1 ∧ giveW A n F a z = F by
          have hx : giveB A (8 * (n : Int)) (runs A F n) a z = false := by rw [HB.out, hb]; rfl
          unfold giveE giveW
          rw [if_neg (by rw [hx]; decide), if_neg (by rw [hx]; decide)]
          exact ⟨rfl, rfl⟩)
        clear hf hb
        go_wp2_with fail
        go_region
        all_goals
          clear e1 e2 e3 e4
          go_wp2_with fail
          go_ret
          exact ⟨ret_int N.out.1.symm, by rw [N.out.2]; exact hR.drew, only_drew (only_below hBl)⟩
      | false =>
        rw [hf] at y
        have HF := Lib.hid hf
        clear hf
        go_wp2_with fail
        go_region
        all_goals
          clear e1 e2 e3 e4
          go_wp2_with fail
          go_roundw
          case rel =>
            refine ⟨k + 1, by omega, by go_num, hR.drew, hBl.drew, Lib.hid (fun i h => ?_)⟩
            by_cases e : i = k
            · subst e; exact HF.out
            · exact hno.out i (by omega)
          case measure => simp [intOf]; omega
    · obtain rfl : k = m := by omega
      have hb : bad a (a + z) (runs A F n) = false := by
        cases hx : bad a (a + z) (runs A F n) with
        | false => rfl
        | true =>
          obtain ⟨i, i1, i2⟩ := HD.out.1 hx
          rw [hno.out i i1] at i2
          cases i2
      have hx : giveB A (8 * (n : Int)) (runs A F n) a z = true := by rw [HB.out, hb]; rfl
      have HX := Lib.hid hx
      clear hb hx
      go_wp2_with fail
      refine (set_any wr C g n A F a z u k true hR a0 a1 hn HU.out HM.out hum).mono ?_
      rintro e w2 ⟨rfl, hR2, g2⟩
      go_wp2_with fail
      go_ret
      exact ⟨ret_int (by unfold giveE; rw [if_pos HX.out]), by unfold giveW; rw [if_pos HX.out, E1.out, E2.out]; exact hR2, only_trans (only_below hBl) g2⟩
end Go.Proofs.Ytkkmhapfhnnooaa.Ref
