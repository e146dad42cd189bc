/-
  What the laws of layer 4 begin with: New at whatever may be; Same at two rows that are the same; the document's example.
-/
import Derived.Test.YtnekbbdodhokbaaGrH
namespace Go.Proofs.Ytnekbbdodhokbaa.Gr
open Go.ChangeShapes Go.WideShapes Go.ChangeAt Go.RowKit Gm
set_option linter.unusedVariables false
set_option linter.unusedSimpArgs false

def newL (A S : Int) : List E := if S = 0 then [] else [(A, S)]
theorem bound_ok {A : Int} (h : boundB A = true) : 0 ≤ A ∧ A ≤ 65536 ∧ A % 8 = 0 := of_decide_eq_true h
theorem ok_new {A S : Int} (hA : boundB A = true) (hS : boundB S = true) : Ok A S (newL A S) := by
  obtain ⟨a1, a2, a3⟩ := bound_ok hA
  obtain ⟨s1, s2, s3⟩ := bound_ok hS
  unfold newL
  by_cases h : S = 0
  · rw [if_pos h]
    exact ⟨trivial, (fun e he => by cases he), (fun e he => by cases he), a1, a2, s1, s2, a3, s3⟩
  · rw [if_neg h]
    refine ⟨⟨Int.le_refl _, by show 0 < S; omega, trivial⟩, fun e he => ?_, fun e he => ?_, a1, a2, s1, s2, a3, s3⟩
    all_goals
      have : e = (A, S) := by simpa using he
      subst this
    · exact Int.le_refl _
    · exact ⟨a3, s3⟩
theorem new_at (w : World) (A S : Int) (K : Nat) (hA : boundB A = true) (hS : boundB S = true) (hK : K ≤ w.heap.size) :
    Calls Try.prog 10 #[.int .i64 A, .int .i64 S] w fun e w' => e = .returned (.tuple #[.pointer (some ⟨w.heap.size, 0, none⟩), .int .i64 0]) ∧ Gr w' w.heap.size K A S (newL A S) ∧ Below w.heap.size w w' ∧ w.heap.size < w'.heap.size := by
  by_cases h : S = 0
  · subst h
    exact (new_zero w A K hA).mono fun e w' ⟨a, b, c⟩ => ⟨a, by unfold newL; rw [if_pos rfl]; exact b, c, b.lt⟩
  · have := bound_ok hS
    exact (new_any w A S K hA hS (by omega) hK).mono fun e w' ⟨a, b, c⟩ => ⟨a, by unfold newL; rw [if_neg h]; exact b, c, b.lt⟩

theorem Ex.cell {w : World} {V : Option Addr} {n c : Nat} {L : List E} (h : Ex w (.slice V n c) L) {k : Nat} (hk : k < L.length) : ∃ g, V = some ⟨g, 0, none⟩ ∧ g < w.heap.size ∧ w.cell? ⟨g, k * 2, none⟩ = some (.int .i64 (L[k]).1) ∧ w.cell? ⟨g, k * 2 + 1, none⟩ = some (.int .i64 (L[k]).2) := by
  obtain ⟨g, c', e, _, _, hg, hc⟩ := h.at_ (by omega)
  injection e with e1
  exact ⟨g, e1, hg, (hc k hk).1, (hc k hk).2⟩

set_option maxHeartbeats 2000000 in
theorem same_yes (w : World) (V U : Option Addr) (c d : Nat) (L : List E) (hu : Ex w (.slice V L.length c) L) (hv : Ex w (.slice U L.length d) L) (hl : L.length ≤ 200000) :
    Calls Try.prog 16 #[.slice V L.length c, .slice U L.length d] w fun e w' => e = .returned (.bool true) ∧ Below w.heap.size w w' := by
  go_enter Try.func16, Try.ntmps16
  go_wp2
  go_loopw [5] (fun t wr => ∃ k : Nat, k ≤ L.length ∧ t = .int .i64 k ∧ Below w.heap.size w wr) (fun t _ => L.length - (intOf t).toNat)
  case atStart => exact ⟨0, by omega, rfl, Below.refl _ _⟩
  case round =>
    obtain ⟨k, hk, rfl, hb⟩ := hrel
    by_cases hlt : k < L.length
    · obtain ⟨g, rfl, _, x0, x1⟩ := (hu.below hb).cell hlt
      obtain ⟨g', rfl, _, y0, y1⟩ := (hv.below hb).cell hlt
      go_wp2
      go_region
      all_goals
        go_wp2
        go_roundw
        case rel => exact ⟨k + 1, by omega, by go_num, hb.drew⟩
        case measure => simp [intOf]; omega
    · go_wp2
      go_ret
      exact ⟨rfl, hb⟩

set_option maxHeartbeats 4000000 in
theorem shown_any (w : World) : Calls Try.prog 9 #[] w fun e w' => e = .returned (.bool true) ∧ Below w.heap.size w w' := by
  have ok0 : Ok 0 64 (newL 0 64) := ok_new (by decide) (by decide)
  have n0 := Lib.hid (show newL 0 64 = [(0, 64)] by decide)
  have n1 := Lib.hid (show carveF 16 [(0, 64)] = [(16, 48)] by decide)
  have n2 := Lib.hid (show carveF 16 [(16, 48)] = [(32, 32)] by decide)
  have n3 := Lib.hid (show giveF 0 64 [(32, 32)] 0 16 = [(0, 16), (32, 32)] by decide)
  have n4 := Lib.hid (show carveF 24 [(0, 16), (32, 32)] = [(0, 16), (56, 8)] by decide)
  have v1 := Lib.hid (show carveV 16 [(0, 64)] = 0 ∧ carveB 16 [(0, 64)] = true by decide)
  have v2 := Lib.hid (show carveV 16 [(16, 48)] = 16 ∧ carveB 16 [(16, 48)] = true by decide)
  have v3 := Lib.hid (show giveE 0 64 [(32, 32)] 0 16 = 0 by decide)
  have v4 := Lib.hid (show carveV 24 [(0, 16), (32, 32)] = 32 ∧ carveB 24 [(0, 16), (32, 32)] = true by decide)
  have ok1 : Ok 0 64 (carveL 16 (newL 0 64)) := ok0.carve (by decide) (by decide)
  rw [show carveL 16 (newL 0 64) = [(16, 48)] by decide] at ok1
  have ok2 : Ok 0 64 (carveL 16 [(16, 48)]) := ok1.carve (by decide) (by decide)
  rw [show carveL 16 [(16, 48)] = [(32, 32)] by decide] at ok2
  have ok3 : Ok 0 64 (giveL 0 16 [(32, 32)]) := (ok2.give (by decide) (by decide) (by decide) (by decide) (by decide) (by decide)).1
  rw [show giveL 0 16 [(32, 32)] = [(0, 16), (32, 32)] by decide] at ok3
  rw [n0.out] at ok0
  go_enter Try.func9, Try.ntmps9
  go_wp2_with fail
  refine (new_at w 0 64 w.heap.size (by decide) (by decide) (Nat.le_refl _)).mono ?_
  rintro e w1 ⟨rfl, h1, k1, z1⟩
  rw [n0.out] at h1
  go_wp2_with fail
  refine (carve_any _ _ _ 0 64 _ 16 h1 z1 ok0 (by omega) (by omega)).mono ?_
  rintro e w2 ⟨rfl, h2, g2⟩
  have z2 := g2.size
  rw [v1.out.1, v1.out.2]
  rw [n1.out] at h2
  go_wp2_with fail
  refine (carve_any _ _ _ 0 64 _ 16 h2 (by omega) ok1 (by omega) (by omega)).mono ?_
  rintro e w3 ⟨rfl, h3, g3⟩
  have z3 := g3.size
  rw [v2.out.1, v2.out.2]
  rw [n2.out] at h3
  go_wp2_with fail
  refine (give_any _ _ _ 0 64 _ 0 16 h3 (by omega) ok2 (by omega) (by omega) (by omega) (by omega)).mono ?_
  rintro e w4 ⟨rfl, h4, g4⟩
  have z4 := g4.size
  rw [v3.out]
  rw [n3.out] at h4
  go_wp2_with fail
  refine (carve_any _ _ _ 0 64 _ 24 h4 (by omega) ok3 (by omega) (by omega)).mono ?_
  rintro e w5 ⟨rfl, h5, g5⟩
  have z5 := g5.size
  rw [v4.out.1, v4.out.2]
  rw [n4.out] at h5
  go_wp2_with fail
  refine (free_any _ _ _ 0 64 _ h5 (by decide)).mono ?_
  rintro e w6 ⟨V, c, rfl, hE, hn, k6⟩
  obtain ⟨g, rfl, _, x0, x1⟩ := hE.cell (k := 0) (by decide)
  obtain ⟨g', e1, _, y0, y1⟩ := hE.cell (k := 1) (by decide)
  injection e1 with e1
  injection e1 with e1
  subst e1
  have B5 : Below w.heap.size w w5 := ((((k1.grown g2 k1.size (fun k e => by injection e with e; omega)).grown g3 (by omega) (fun k e => by injection e with e; omega)).grown g4 (by omega) (fun k e => by injection e with e; omega)).grown g5 (by omega) (fun k e => by injection e with e; omega))
  go_wp2_with fail
  go_ret
  exact ⟨rfl, B5.trans (k6.mono (by omega))⟩
end Go.Proofs.Ytnekbbdodhokbaa.Gr
