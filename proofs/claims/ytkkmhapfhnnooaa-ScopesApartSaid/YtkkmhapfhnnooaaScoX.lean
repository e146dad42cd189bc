/-
  Same of any two rows tells yes or no.
-/
import Derived.Test.YtkkmhapfhnnooaaShown
namespace Go.Proofs.Ytkkmhapfhnnooaa.Gr
open Go.ChangeShapes Go.WideShapes Go.ChangeAt Go.RowKit Gm
set_option linter.unusedVariables false
set_option linter.unusedSimpArgs false

set_option maxRecDepth 8000 in
set_option maxHeartbeats 2000000 in
theorem same_some (w : World) (V U : Option Addr) (c d : Nat) (L M : List E) (hu : Ex w (.slice V L.length c) L) (hv : Ex w (.slice U M.length d) M) (hl : L.length ≤ 200000) (hm : M.length ≤ 200000) :
    Calls Try.prog 30 #[.slice V L.length c, .slice U M.length d] w fun e w' => (∃ b, e = .returned (.bool b)) ∧ Below w.heap.size w w' := by
  by_cases hlen : L.length = M.length
  · go_enter Try.func30, Try.ntmps30
    go_wp2
    go_loopw [5] (fun t wr => ∃ k : Nat, k ≤ L.length ∧ t = .int .i64 k ∧ Below w.heap.size w wr) (fun t _ => L.length - (intOf t).toNat)
    case atStart => exact ⟨0, by omega, rfl, Below.refl _ _⟩
    case round =>
      obtain ⟨k, hk, rfl, hb⟩ := hrel
      by_cases hlt : k < L.length
      · obtain ⟨g, rfl, _, x0, x1⟩ := (hu.below hb).cell hlt
        obtain ⟨g', rfl, _, y0, y1⟩ := (hv.below hb).cell (k := k) (by omega)
        by_cases e1 : (L[k]).1 = (M[k]'(by omega)).1 ∧ (L[k]).2 = (M[k]'(by omega)).2
        · rw [← e1.1] at y0
          rw [← e1.2] at y1
          clear e1
          go_wp2
          go_region
          all_goals
            go_wp2
            go_roundw
            case rel => exact ⟨k + 1, by omega, by go_num, hb.drew⟩
            case measure => simp [intOf]; omega
        · have hq : ((L[k]).1 == (M[k]'(by omega)).1) = false ∨ (((L[k]).1 == (M[k]'(by omega)).1) = true ∧ ((L[k]).2 == (M[k]'(by omega)).2) = false) := by
            by_cases a : (L[k]).1 = (M[k]'(by omega)).1
            · exact .inr ⟨by simpa using a, by simpa using fun b => e1 ⟨a, b⟩⟩
            · exact .inl (by simpa using a)
          clear e1
          rcases hq with hq | ⟨hq, hq'⟩
          all_goals
            go_wp2
            go_region
            all_goals
              go_wp2
              go_ret
              exact ⟨⟨_, rfl⟩, hb.drew⟩
      · go_wp2
        go_ret
        exact ⟨⟨_, rfl⟩, hb⟩
  · have hq : (((L.length : Nat) : Int) != (M.length : Int)) = true := by simp; omega
    go_enter Try.func30, Try.ntmps30
    go_wp2
    go_ret
    exact ⟨⟨_, rfl⟩, Below.refl _ _⟩
end Go.Proofs.Ytkkmhapfhnnooaa.Gr
