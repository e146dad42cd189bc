/-
  Contracts of the document's own answers for layer 4, third part: set, Carve, Give.
-/
import Derived.Test.YtkkmhapfhnnooaaRefB
namespace Go.Proofs.Ytkkmhapfhnnooaa.Ref
open Go.ChangeShapes Go.WideShapes Go.ChangeAt Go.RowKit Gm Gr
set_option linter.unusedVariables false
set_option linter.unusedSimpArgs false

theorem tdiv8 {x : Int} {u : Nat} (h : x = 8 * (u : Int)) : x.tdiv 8 = (u : Int) := by
  subst h
  rw [Int.mul_comm]
  exact Int.mul_tdiv_cancel _ (by decide)

set_option maxRecDepth 8000 in
set_option maxHeartbeats 2000000 in
theorem set_any (w : World) (C g n : Nat) (A : Int) (F : Nat → Bool) (a z : Int) (u m : Nat) (x : Bool) (h : Rf w C g A n F) (a0 : 0 ≤ A) (a1 : A ≤ 65536) (hn : n ≤ 8192) (ha : a = A + 8 * (u : Int)) (hz : z = 8 * (m : Int)) (hm : u + m ≤ n) :
    Calls Try.prog 72 #[.pointer (some ⟨C, 0, none⟩), .int .i64 a, .int .i64 z, .bool x] w fun e w' => e = .returned (.tuple #[]) ∧ Rf w' C g A n (setW F u m x) ∧ w.grownBy w' (some g) := by
  have z1 : 0 ≤ z := by omega
  have z2 : z ≤ 65536 := by omega
  have zq : z / 8 = (m : Int) := by omega
  have d1 : 0 ≤ a - A := by omega
  have d2 : a - A ≤ 65536 := by omega
  have d3 : (a - A) / 8 = (u : Int) := by omega
  have d4 : (a - A).tdiv 8 = (u : Int) := tdiv8 (by omega)
  have d5 : IntKind.i64.wrap (a - A) = a - A := IntWalk.i64_in _ (by omega)
  have d6 : 0 ≤ a := by omega
  have d7 : a ≤ 131072 := by omega
  clear ha hz
  go_enter Try.func72, Try.ntmps72
  go_wp2_with fail
  go_loopw [8] (fun t wr => ∃ k : Nat, k ≤ m ∧ t = .int .i64 k ∧ Rf wr C g A n (setW F u k x) ∧ w.grownBy wr (some g)) (fun t _ => m - (intOf t).toNat)
  case atStart => exact ⟨0, by omega, rfl, by rw [setW_zero]; exact h, World.grownBy.refl _ _⟩
  case round =>
    obtain ⟨k, hk, rfl, hR, hG⟩ := hrel
    by_cases hlt : k < m
    · have x0 := hR.c0
      have x1 := hR.c1
      have y := hR.body.cell (i := u + k) (by omega)
      have f := hR.body.frozen (u + k)
      have e1 : IntKind.i64.wrap ((u : Int) + (k : Int)) = (u : Int) + (k : Int) := IntWalk.i64_in _ (by omega)
      have e2 : (0 : Int) ≤ (u : Int) + (k : Int) := by omega
      have e3 : (u : Int) + (k : Int) < (n : Int) := by omega
      have e4 : ((u : Int) + (k : Int)).toNat = u + k := by omega
      go_wp2_with fail
      go_region
      all_goals
        clear e1 e2 e3 e4
        go_wp2_with fail
        go_roundw
        case rel => exact ⟨k + 1, by omega, by go_num, ((hR.set (u + k) x).congr fun i _ => setW_step F u k i x).drew, only_drew (only_setCell hG _ _)⟩
        case measure => simp [intOf]; omega
    · obtain rfl : k = m := by omega
      go_wp2_with fail
      go_end0
      exact ⟨rfl, hR, hG⟩
end Go.Proofs.Ytkkmhapfhnnooaa.Ref
