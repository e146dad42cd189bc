/-
  Contract of package model: Slots.
-/
import Derived.Test.YtneggppfffekdaaGreatDoes
namespace Go.Proofs.YtneggppfffekdaaGreat.Mod
open Go.ChangeShapes Go.WideShapes Go.ChangeAt Go.RowKit Go.Shelf
open Slic Sco
set_option linter.unusedVariables false
set_option linter.unusedSimpArgs false
set_option maxRecDepth 8000
attribute [local go_sem] Oper.semAt_some

/-- An object's slots, and whether there is one. -/
def slotsV (m : Mo) (x : Int) : List Int × Bool := match m.obs x with | none => ([], false) | some o => (o.sl, true)
section
variable {w0 w w' : World} {Z : Fx} {m : Mo} {bx : Bx} {k : Nat}
set_option maxHeartbeats 1000000 in
theorem slots_any (h : Mw w0 w Z m bx) (v : Lv Z k m) (x : Int) (hx : wf64 x) : Calls Tryz.prog 29 #[ptr Z.B, .int .u64 x] w fun e w' => ∃ u, e = .returned (.tuple #[u, .bool (slotsV m x).2]) ∧ Slic.Own Fina.kU w' w.heap.size u (slotsV m x).1 ∧ Below w.heap.size w w' := by
  obtain ⟨H, h⟩ := h
  have lk := h.map.look hx
  obtain ⟨_, _, _, mc7⟩ := h.md.cells
  cases ho : m.obs x with
  | none =>
    have hb : blk m.O H.om x = none := by
      have := blk_obs m.O H.om x h.oml
      unfold Mo.obs at ho
      rw [ho] at this
      simpa using this
    have HV := Lib.hid (show slotsV m x = ([], false) by unfold slotsV; rw [ho])
    rw [hb] at lk
    have lk' : (Instr.lookup 116 (.map (some Z.bm)) (.int .u64 x) true).run Tryz.prog w = .ok (.tuple #[.pointer none, .bool false]) w := lk
    clear lk
    go_enter Tryz.func29, Tryz.ntmps29
    go_wp2
    refine bodyPost_ret (v := .tuple #[.slice none 0 0, .bool false]) (by simp [results, Tryz.results29, go_sem]) rfl ?_
    rw [HV.out]
    exact ⟨_, rfl, Slic.Own.nil _ _, Below.refl _ _⟩
  | some o =>
    obtain ⟨i, p, e1, e2, e3, e4, e5, e6⟩ := h.objAt ho
    have HV := Lib.hid (show slotsV m x = (o.sl, true) by unfold slotsV; rw [ho])
    rw [e4] at lk
    have lk' : (Instr.lookup 116 (.map (some Z.bm)) (.int .u64 x) true).run Tryz.prog w = .ok (.tuple #[.pointer (some ⟨p.1, 0, none⟩), .bool true]) w := lk
    clear lk
    obtain ⟨_, o3, _, _, _⟩ := obj_cells e5
    have hl := v.sl6 o (List.mem_of_getElem? e1)
    go_enter Tryz.func29, Tryz.ntmps29
    go_wp2_with fail
    refine (Fina.clone_any w _ o.sl e6.sr (by omega)).mono ?_
    rintro e w1 ⟨u, rfl, O1, k1⟩
    go_wp2
    refine bodyPost_ret (v := .tuple #[u, .bool true]) (by simp [results, Tryz.results29, go_sem]) rfl ?_
    rw [HV.out]
    exact ⟨_, rfl, O1, k1⟩
end
end Go.Proofs.YtneggppfffekdaaGreat.Mod
