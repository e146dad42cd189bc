/-
  Stores into the document's model: a cell of the struct; a portal, a register, how much is used.
-/
import Derived.Test.YteakglkagmghpaaGreatDq
namespace Go.Proofs.YteakglkagmghpaaGreat.Mod
open Go.ChangeShapes Go.WideShapes Go.ChangeAt Go.RowKit
open Slic Sco
set_option linter.unusedVariables false
set_option linter.unusedSimpArgs false
section
variable {w w' : World} {X : Dx} {p : Dp} {m m' : Mo} {Z : Fx} {k : Nat}
theorem Rm.tD (h : Rm w X p m) : isT w X.D 60 := isT.row h.hd
theorem Rm.putD (h : Rm w X p m) (j : Nat) (v : Value) (hF : m'.F = m.F) (hO : m'.O = m.O) (hE : ∀ t, t < 4 → m'.ents t = m.ents t) (he : ∀ i, i < 43 → (if i = j then v else dcell X p m i) = dcell X p m' i) : Rm (w.setCell ⟨X.D, j, none⟩ v) X p m' := by
  have q : Only [X.D] w (w.setCell ⟨X.D, j, none⟩ v) := Only.put _ _ _ _ (by simp)
  have tD := h.tD
  have nt : ∀ T, (60 == T) = false → ∀ x ∈ [X.D], noT w x T := fun T hT x hx => by rw [List.mem_singleton.1 hx]; exact tD.no hT
  refine ⟨(h.hd.set j v).congr he, ?_, by rw [hF]; exact h.rl, by rw [hO]; exact own_types h.ob q (nt _ (by decide)), by rw [hO]; exact h.ln, fun i o t h1 h2 => ?_, h.ap, fun t ht => ?_, ?_⟩
  · rw [hF]
    refine h.rs.only q ?_ ?_ ?_ ?_ ?_
    · simp; exact h.rs.tD.ne tD (by decide)
    · simp; exact h.rs.tc.ne tD (by decide)
    · simp; exact h.rs.tx.ne tD (by decide)
    · simp; exact h.rs.tC.ne tD (by decide)
    · simp; exact h.rs.tw.ne tD (by decide)
  · rw [hO] at h1
    exact own_types (h.sl i o t h1 h2) q (nt _ (by decide))
  · rw [hE t ht]
    exact own_types (h.en t ht) q (nt _ (by decide))
  · exact h.fi.types q (nt _ (by decide)) (nt _ (by decide))
theorem dc_low (m m' : Mo) {j : Nat} (h : j < 7) : dcell X p m j = dcell X p m' j := by
  have : j = 0 ∨ j = 1 ∨ j = 2 ∨ j = 3 ∨ j = 4 ∨ j = 5 ∨ j = 6 := by omega
  rcases this with rfl | rfl | rfl | rfl | rfl | rfl | rfl <;> rfl
theorem dc_gate (m : Mo) {j : Nat} (h : 7 ≤ j) (h' : j < 15) : dcell X p m j = .int .u64 (m.A.getD (j - 7) ar0).g := by
  unfold dcell
  rw [if_neg (by omega), if_neg (by omega), if_neg (by omega), if_neg (by omega), if_neg (by omega), if_neg (by omega), if_neg (by omega), if_pos (by omega)]
  rfl
theorem dc_byte (m : Mo) {j : Nat} (h : 15 ≤ j) (h' : j < 23) : dcell X p m j = .int .i64 (m.A.getD (j - 15) ar0).u := by
  unfold dcell
  rw [if_neg (by omega), if_neg (by omega), if_neg (by omega), if_neg (by omega), if_neg (by omega), if_neg (by omega), if_neg (by omega), if_neg (by omega), if_pos (by omega)]
  rfl
theorem dc_reg (m : Mo) {j : Nat} (h : 23 ≤ j) (h' : j < 39) : dcell X p m j = .int .u64 ((m.T.getD ((j - 23) / 4) th0).r ((j - 23) % 4)) := by
  unfold dcell
  rw [if_neg (by omega), if_neg (by omega), if_neg (by omega), if_neg (by omega), if_neg (by omega), if_neg (by omega), if_neg (by omega), if_neg (by omega), if_neg (by omega), if_pos (by omega)]
  rfl
theorem dc_ent (m : Mo) {j : Nat} (h : 39 ≤ j) : dcell X p m j = sl3 (p.c (j - 39)) := by
  unfold dcell
  rw [if_neg (by omega), if_neg (by omega), if_neg (by omega), if_neg (by omega), if_neg (by omega), if_neg (by omega), if_neg (by omega), if_neg (by omega), if_neg (by omega), if_neg (by omega)]
theorem th_set {T : List Th} {t : Nat} {y : Th} (ht : t < T.length) (j : Nat) : (T.set t y).getD j th0 = if j = t then y else T.getD j th0 := by
  rw [List.getD_eq_getElem?_getD, List.getD_eq_getElem?_getD, List.getElem?_set]
  by_cases e : t = j
  · subst e
    rw [if_pos rfl, if_pos ht, if_pos rfl]
    rfl
  · rw [if_neg e, if_neg (fun h => e h.symm)]
/-- A register is put. -/
theorem Rm.putReg (h : Rm w X p m) {t r : Nat} (ht : t < m.T.length) (h4 : m.T.length ≤ 4) (hr : r < 4) (v : Int) : Rm (w.setCell ⟨X.D, 23 + t * 4 + r, none⟩ (.int .u64 v)) X p (m.setReg t (r : Int) v) := by
  refine h.putD (23 + t * 4 + r) _ rfl rfl (fun u _ => ?_) fun i hi => ?_
  · show ((m.T.set t _).getD u th0).c = (m.T.getD u th0).c
    rw [th_set ht]
    by_cases e : u = t
    · rw [if_pos e, e]
      rfl
    · rw [if_neg e]
  by_cases c1 : i < 7
  · rw [if_neg (by omega)]
    exact dc_low _ _ c1
  by_cases c2 : i < 15
  · rw [if_neg (by omega), dc_gate _ (by omega) c2, dc_gate _ (by omega) c2]
    rfl
  by_cases c3 : i < 23
  · rw [if_neg (by omega), dc_byte _ (by omega) c3, dc_byte _ (by omega) c3]
    rfl
  by_cases c4 : i < 39
  · rw [dc_reg _ (by omega) c4, dc_reg _ (by omega) c4]
    show _ = Value.int .u64 (((m.T.set t _).getD ((i - 23) / 4) th0).r ((i - 23) % 4))
    rw [th_set ht, Int.toNat_natCast]
    by_cases e : (i - 23) / 4 = t
    · rw [if_pos e]
      show _ = Value.int .u64 (setR (m.th t).r r v ((i - 23) % 4))
      unfold setR
      by_cases e2 : (i - 23) % 4 = r
      · rw [if_pos e2, if_pos (by omega)]
      · rw [if_neg e2, if_neg (by omega), e]
        rfl
    · rw [if_neg e, if_neg (by omega)]
  · rw [if_neg (by omega), dc_ent _ (by omega), dc_ent _ (by omega)]
end
end Go.Proofs.YteakglkagmghpaaGreat.Mod
