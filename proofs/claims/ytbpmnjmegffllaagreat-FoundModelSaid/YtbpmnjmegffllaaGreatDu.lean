/-
  Stores into the document's model: a thread's entries; an object's slot.
-/
import Derived.Test.YtbpmnjmegffllaaGreatDt
namespace Go.Proofs.YtbpmnjmegffllaaGreat.Mod
open Go.ChangeShapes Go.WideShapes Go.ChangeAt Go.RowKit
open Slic Sco
set_option linter.unusedVariables false
set_option linter.unusedSimpArgs false
section
variable {w w' : World} {X : Dx} {p : Dp} {m m' : Mo} {Z : Fx} {k : Nat}
theorem dcl {p' : Dp} (m m' : Mo) (ho : p'.o = p.o) {j : Nat} (h : j < 7) : dcell X p m j = dcell X p' m' j := by
  have : j = 0 ∨ j = 1 ∨ j = 2 ∨ j = 3 ∨ j = 4 ∨ j = 5 ∨ j = 6 := by omega
  unfold dcell
  rw [ho]
  rcases this with rfl | rfl | rfl | rfl | rfl | rfl | rfl <;> rfl
theorem Rm.putC (h : Rm w X p m) {t : Nat} (ht : t < m.T.length) (h4 : m.T.length ≤ 4) (y : Tri) {L : List Chain.E} (hy : Slic.Own kE w 0 (sl3 y) L) : Rm (w.setCell ⟨X.D, 39 + t, none⟩ (sl3 y)) X ⟨p.o, fun j => if j = t then y else p.c j, p.s, p.Y⟩ (m.setEnt t L) := by
  have q : Only [X.D] w (w.setCell ⟨X.D, 39 + t, none⟩ (sl3 y)) := Only.put _ _ _ _ (by simp)
  have tD := h.tD
  have nt : ∀ T, (94 == T) = false → ∀ x ∈ [X.D], noT w x T := fun T hT x hx => by rw [List.mem_singleton.1 hx]; exact tD.no hT
  have th : ∀ u, (m.setEnt t L).th u = if u = t then ⟨(m.th t).r, L⟩ else m.th u := fun u => by
    show (m.T.set t _).getD u th0 = _
    rw [th_set ht]
    rfl
  refine ⟨(h.hd.set (39 + t) (sl3 y)).congr fun i hi => ?_, ?_, h.rl, own_types h.ob q (nt _ (by decide)), h.ln, fun i o t' h1 h2 => own_types (h.sl i o t' h1 h2) q (nt _ (by decide)), h.ap, fun u hu => ?_, h.fi.types q (nt _ (by decide)) (nt _ (by decide))⟩
  · by_cases c1 : i < 7
    · rw [if_neg (by omega)]
      exact dcl (p := p) (p' := ⟨p.o, fun j => if j = t then y else p.c j, p.s, p.Y⟩) _ _ rfl c1
    by_cases c2 : i < 15
    · rw [if_neg (by omega), dc_gate _ (by omega) c2, dc_gate _ (by omega) c2]
      rfl
    by_cases c3 : i < 23
    · rw [if_neg (by omega), dc_byte _ (by omega) c3, dc_byte _ (by omega) c3]
      rfl
    by_cases c4 : i < 39
    · rw [if_neg (by omega), dc_reg _ (by omega) c4, dc_reg _ (by omega) c4]
      have e : (m.setEnt t L).T.getD ((i - 23) / 4) th0 = (m.setEnt t L).th ((i - 23) / 4) := rfl
      rw [e, th]
      by_cases e2 : (i - 23) / 4 = t
      · rw [if_pos e2, e2]
        rfl
      · rw [if_neg e2]
        rfl
    · rw [dc_ent _ (by omega), dc_ent _ (by omega)]
      dsimp only
      by_cases e2 : i = 39 + t
      · rw [if_pos e2, if_pos (by omega)]
      · rw [if_neg e2, if_neg (by omega)]
  · refine h.rs.only q ?_ ?_ ?_ ?_ ?_
    · simp; exact h.rs.tD.ne tD (by decide)
    · simp; exact h.rs.tc.ne tD (by decide)
    · simp; exact h.rs.tx.ne tD (by decide)
    · simp; exact h.rs.tC.ne tD (by decide)
    · simp; exact h.rs.tw.ne tD (by decide)
  · show Slic.Own kE _ 0 (sl3 (if u = t then y else p.c u)) ((m.setEnt t L).th u).c
    rw [th]
    by_cases e2 : u = t
    · rw [if_pos e2, if_pos e2]
      exact own_types hy q (nt _ (by decide))
    · rw [if_neg e2, if_neg e2]
      exact own_types (h.en u hu) q (nt _ (by decide))
theorem flat_slot (h : Int) (b : Nat) (x : Int) : ∀ (O : List Ob) (S : List Tri), kO.flat ((O.map (putSlot h b x)).zip S) = kO.flat (O.zip S)
  | [], _ => rfl
  | _ :: _, [] => rfl
  | o :: O, t :: S => by
    have e : kO.enc (putSlot h b x o, t) = kO.enc (o, t) := by
      unfold putSlot
      split <;> rfl
    have := flat_slot h b x O S
    unfold Kd.flat at this ⊢
    rw [List.map_cons, List.zip_cons_cons, List.zip_cons_cons, List.flatMap_cons, List.flatMap_cons, e, this]
theorem Rm.putSlot (h : Rm w X p m) (v : Iv Z k m) {i : Nat} {o : Ob} {t : Tri} (ho : m.O[i]? = some o) (hp : p.s[i]? = some t) {b : Nat} (hb : b < o.sl.length) {g n c : Nat} (et : sl3 t = .slice (some ⟨g, 0, none⟩) n c) (x : Int) : Rm (w.setCell ⟨g, b, none⟩ (.int .u64 x)) X p ⟨m.F, m.O.map (Mod.putSlot o.h b x), m.A, m.T⟩ := by
  have q : Only [g] w (w.setCell ⟨g, b, none⟩ (.int .u64 x)) := Only.put _ _ _ _ (by simp)
  have so := h.sl i o t ho hp
  have tg : isT w g 36 := own_isT so (by rw [et]; rfl)
  have nt : ∀ T, (36 == T) = false → ∀ x ∈ [g], noT w x T := fun T hT x hx => by rw [List.mem_singleton.1 hx]; exact tg.no hT
  have hl : (m.O.map (Mod.putSlot o.h b x)).length = m.O.length := List.length_map ..
  refine ⟨h.hd.of_block (q.block _ h.hd.lt (by simp; exact h.tD.ne tg (by decide))), ?_, h.rl, ?_, by rw [hl]; exact h.ln, fun j o' t' h1 h2 => ?_, h.ap, fun u hu => own_types (h.en u hu) q (nt _ (by decide)), h.fi.types q (nt _ (by decide)) (nt _ (by decide))⟩
  · refine h.rs.only q ?_ ?_ ?_ ?_ ?_
    · simp; exact h.rs.tD.ne tg (by decide)
    · simp; exact h.rs.tc.ne tg (by decide)
    · simp; exact h.rs.tx.ne tg (by decide)
    · simp; exact h.rs.tC.ne tg (by decide)
    · simp; exact h.rs.tw.ne tg (by decide)
  · have := own_types h.ob q (nt _ (by decide))
    unfold Slic.Own at this ⊢
    rw [flat_slot, List.length_zip, hl, ← List.length_zip]
    exact this
  · rw [List.getElem?_map] at h1
    obtain ⟨oj, hj, rfl⟩ := Option.map_eq_some_iff.1 h1
    by_cases e : j = i
    · subst e
      rw [ho] at hj
      injection hj with hj
      subst hj
      rw [hp] at h2
      injection h2 with h2
      subst h2
      rw [et] at so ⊢
      have := own_put so b 0 (List.getElem?_eq_getElem hb) (by decide) x (.int .u64 x) rfl
      rw [show b * Fina.kU.m + 0 = b by simp [Fina.kU]] at this
      unfold Mod.putSlot
      rw [if_pos rfl]
      exact this
    · have hne : oj.h ≠ o.h := by
        rcases Nat.lt_or_gt_of_ne e with c' | c'
        · exact fun hh => (List.pairwise_iff_getElem.1 v.hne j i (List.getElem?_eq_some_iff.1 hj).1 (List.getElem?_eq_some_iff.1 ho).1 c') (by rw [(List.getElem?_eq_some_iff.1 hj).2, (List.getElem?_eq_some_iff.1 ho).2]; exact hh)
        · exact fun hh => (List.pairwise_iff_getElem.1 v.hne i j (List.getElem?_eq_some_iff.1 ho).1 (List.getElem?_eq_some_iff.1 hj).1 c') (by rw [(List.getElem?_eq_some_iff.1 hj).2, (List.getElem?_eq_some_iff.1 ho).2]; exact hh.symm)
      have eo : (Mod.putSlot o.h b x oj).sl = oj.sl := by
        unfold Mod.putSlot
        rw [if_neg hne]
      rw [eo]
      refine own_off (h.sl j oj t' hj h2) q fun y hy => ?_
      rw [List.mem_singleton.1 hy]
      have ob_ : Mod.ob t = some g := by show (sl3 t).ownBlock = _; rw [et]; rfl
      intro hh
      have hh : Mod.ob t' = some g := hh
      rcases Nat.lt_or_gt_of_ne e with c' | c'
      · have := List.pairwise_iff_getElem.1 h.ap j i (List.getElem?_eq_some_iff.1 h2).1 (List.getElem?_eq_some_iff.1 hp).1 c'
        rw [(List.getElem?_eq_some_iff.1 h2).2, (List.getElem?_eq_some_iff.1 hp).2, hh, ob_] at this
        rcases this with this | this
        · cases this
        · exact this rfl
      · have := List.pairwise_iff_getElem.1 h.ap i j (List.getElem?_eq_some_iff.1 hp).1 (List.getElem?_eq_some_iff.1 h2).1 c'
        rw [(List.getElem?_eq_some_iff.1 h2).2, (List.getElem?_eq_some_iff.1 hp).2, hh, ob_] at this
        rcases this with this | this
        · cases this
        · exact this rfl
end
end Go.Proofs.YtbpmnjmegffllaaGreat.Mod
