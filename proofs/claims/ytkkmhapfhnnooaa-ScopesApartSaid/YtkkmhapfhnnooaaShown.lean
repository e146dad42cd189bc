/-
  New at whatever may be; Same at two rows that are the same.
-/
import Derived.Test.YtkkmhapfhnnooaaGrH
namespace Go.Proofs.Ytkkmhapfhnnooaa.Gr
open Go.ChangeShapes Go.WideShapes Go.ChangeAt Go.RowKit Gm
set_option linter.unusedVariables false
set_option linter.unusedSimpArgs false

def newL (A S : Int) : List E := if S = 0 then [] else [(A, S)]
theorem bound_ok {A : Int} (h : boundB A = true) : 0 ≤ A ∧ A ≤ 65536 ∧ A % 8 = 0 := of_decide_eq_true h
theorem ok_new {A S : Int} (hA : boundB A = true) (hS : boundB S = true) : Ok A S (newL A S) := by
  obtain ⟨a1, a2, a3⟩ := bound_ok hA
  obtain ⟨s1, s2, s3⟩ := bound_ok hS
  unfold newL
  by_cases h : S = 0
  · rw [if_pos h]
    exact ⟨trivial, (fun e he => by cases he), (fun e he => by cases he), a1, a2, s1, s2, a3, s3⟩
  · rw [if_neg h]
    refine ⟨⟨Int.le_refl _, by show 0 < S; omega, trivial⟩, fun e he => ?_, fun e he => ?_, a1, a2, s1, s2, a3, s3⟩
    all_goals
      have : e = (A, S) := by simpa using he
      subst this
    · exact Int.le_refl _
    · exact ⟨a3, s3⟩
theorem new_at (w : World) (A S : Int) (K : Nat) (hA : boundB A = true) (hS : boundB S = true) (hK : K ≤ w.heap.size) :
    Calls Try.prog 39 #[.int .i64 A, .int .i64 S] w fun e w' => e = .returned (.tuple #[.pointer (some ⟨w.heap.size, 0, none⟩), .int .i64 0]) ∧ Gr w' y0 w.heap.size K A S (newL A S) ∧ Below w.heap.size w w' ∧ w.heap.size < w'.heap.size := by
  by_cases h : S = 0
  · subst h
    exact (new_zero w A K hA).mono fun e w' ⟨a, b, c⟩ => ⟨a, by unfold newL; rw [if_pos rfl]; exact b, c, b.lt⟩
  · have := bound_ok hS
    exact (new_any w A S K hA hS (by omega) hK).mono fun e w' ⟨a, b, c⟩ => ⟨a, by unfold newL; rw [if_neg h]; exact b, c, b.lt⟩

theorem Ex.cell {w : World} {V : Option Addr} {n c : Nat} {L : List E} (h : Ex w (.slice V n c) L) {k : Nat} (hk : k < L.length) : ∃ g, V = some ⟨g, 0, none⟩ ∧ g < w.heap.size ∧ w.cell? ⟨g, k * 2, none⟩ = some (.int .i64 (L[k]).1) ∧ w.cell? ⟨g, k * 2 + 1, none⟩ = some (.int .i64 (L[k]).2) := by
  obtain ⟨g, c', e, _, _, hg, hc⟩ := h.at_ (by omega)
  injection e with e1
  exact ⟨g, e1, hg, (hc k hk).1, (hc k hk).2⟩

set_option maxHeartbeats 2000000 in
theorem same_yes (w : World) (V U : Option Addr) (c d : Nat) (L : List E) (hu : Ex w (.slice V L.length c) L) (hv : Ex w (.slice U L.length d) L) (hl : L.length ≤ 200000) :
    Calls Try.prog 30 #[.slice V L.length c, .slice U L.length d] w fun e w' => e = .returned (.bool true) ∧ Below w.heap.size w w' := by
  go_enter Try.func30, Try.ntmps30
  go_wp2
  go_loopw [5] (fun t wr => ∃ k : Nat, k ≤ L.length ∧ t = .int .i64 k ∧ Below w.heap.size w wr) (fun t _ => L.length - (intOf t).toNat)
  case atStart => exact ⟨0, by omega, rfl, Below.refl _ _⟩
  case round =>
    obtain ⟨k, hk, rfl, hb⟩ := hrel
    by_cases hlt : k < L.length
    · obtain ⟨g, rfl, _, x0, x1⟩ := (hu.below hb).cell hlt
      obtain ⟨g', rfl, _, y0, y1⟩ := (hv.below hb).cell hlt
      go_wp2
      go_region
      all_goals
        go_wp2
        go_roundw
        case rel => exact ⟨k + 1, by omega, by go_num, hb.drew⟩
        case measure => simp [intOf]; omega
    · go_wp2
      go_ret
      exact ⟨rfl, hb⟩

end Go.Proofs.Ytkkmhapfhnnooaa.Gr
