/-
  Plain mathematics of one scope among eight: made, entered, left, opened, unmade, made again.
-/
import Derived.Test.YtkkmhapfhnnooaaScoT
namespace Go.Proofs.Ytkkmhapfhnnooaa.Sco
open Gm
set_option linter.unusedVariables false

def GG (X : Cx) : Fo := ⟨⟨2, 1, -1, 0, 512, 0⟩ :: X :: List.replicate 6 free0, [(616, 152)]⟩
theorem once_made : createV (start (8 : Int).toNat (64 * 8 + 0) 256 (64 * 8) 0) 100 = ⟨1, 0, false, GG ⟨1, 0, -1, 0, 512, 104⟩⟩ := rfl
theorem turn_GG (X : Cx) (f : Cx → Ctl.R) : turnV (GG X) 1 f = if (f X).x = 0 then ⟨0, 0, decide ((f X).s = 3), GG (X.turn (f X))⟩ else ⟨0, (f X).x, false, GG X⟩ := rfl
theorem gone_GG (X : Cx) : destroyV (GG X) 1 = if X.s = 0 then ⟨0, 11, false, GG X⟩ else if X.s = 1 then ⟨0, 0, false, ⟨⟨2, 1, -1, 0, 512, 0⟩ :: gone X :: List.replicate 6 free0, giveL X.a (X.a + X.z) [(616, 152)]⟩⟩ else ⟨0, 12, false, GG X⟩ := rfl
theorem turn_ok {X : Cx} {f : Cx → Ctl.R} {s c p e : Int} (h : f X = ⟨s, c, p, e, 0⟩) : turnV (GG X) 1 f = ⟨0, 0, decide (s = 3), GG ⟨s, c, p, e, X.a, X.z⟩⟩ := by
  rw [turn_GG, h]
  rfl
theorem turn_no {X : Cx} {f : Cx → Ctl.R} {y : Int} (h : f X = Ctl.no y) (hy : y ≠ 0) : turnV (GG X) 1 f = ⟨0, y, false, GG X⟩ := by
  rw [turn_GG, h]
  exact if_neg hy
def Yi : Cx := ⟨1, 0, -1, 0, 512, 104⟩
def Yl (m at_ : Int) : Cx := ⟨2, m, at_, 0, 512, 104⟩
def Yd (at_ : Int) : Cx := ⟨3, 0, at_, 0, 512, 104⟩
def Y (m : Nat) (at_ : Int) : Cx := if m = 0 then Yi else Yl m at_
theorem Y_pos {m : Nat} {a : Int} (h : 1 ≤ m) : Y m a = Yl m a := if_neg (by omega)
theorem right_l {m a : Int} (m1 : 1 ≤ m) (m7 : m ≤ 7) (a0 : 0 ≤ a) (a7 : a ≤ 7) : Ctl.rightB 2 m a 0 = true := decide_eq_true (by omega)
theorem en_more {m : Nat} {a : Int} (hm : m < 7) (a0 : 0 ≤ a) (a7 : a ≤ 7) : turnV (GG (Y m a)) 1 (enF a) = ⟨0, 0, false, GG (Y (m + 1) a)⟩ := by
  rw [Y_pos (m := m + 1) (by omega)]
  by_cases h0 : m = 0
  · subst h0
    have e : enF a Yi = ⟨2, 1, a, 0, 0⟩ := by
      show Ctl.entV 1 0 (-1) 0 a = _
      unfold Ctl.entV
      rw [if_pos ⟨by decide, a0, a7⟩]
      rfl
    exact (turn_ok (X := Yi) e).trans rfl
  · rw [Y_pos (m := m) (by omega)]
    have e : enF a (Yl m a) = ⟨2, (m : Int) + 1, a, 0, 0⟩ := by
      show Ctl.entV 2 m a 0 a = _
      unfold Ctl.entV
      rw [if_pos ⟨right_l (by omega) (by omega) a0 a7, a0, a7⟩, if_neg (by decide), if_neg (by decide), if_neg (by decide), if_pos rfl, if_neg (by omega)]
    exact (turn_ok (X := Yl m a) e).trans rfl
theorem en_full {a : Int} (a0 : 0 ≤ a) (a7 : a ≤ 7) : turnV (GG (Y 7 a)) 1 (enF a) = ⟨0, 16, false, GG (Y 7 a)⟩ := by
  rw [Y_pos (by decide)]
  refine turn_no (X := Yl 7 a) ?_ (by decide)
  show Ctl.entV 2 7 a 0 a = _
  unfold Ctl.entV
  rw [if_pos ⟨right_l (by omega) (by omega) a0 a7, a0, a7⟩, if_neg (by decide), if_neg (by decide), if_neg (by decide), if_pos rfl, if_pos rfl]
theorem en_other {m : Nat} {a f : Int} (m1 : 1 ≤ m) (m7 : m ≤ 7) (a0 : 0 ≤ a) (a7 : a ≤ 7) (f0 : 0 ≤ f) (f7 : f ≤ 7) (h : ¬ f = a) : turnV (GG (Y m a)) 1 (enF f) = ⟨0, 15, false, GG (Y m a)⟩ := by
  rw [Y_pos m1]
  refine turn_no (X := Yl m a) ?_ (by decide)
  show Ctl.entV 2 m a 0 f = _
  unfold Ctl.entV
  rw [if_pos ⟨right_l (by omega) (by omega) a0 a7, f0, f7⟩, if_neg (by decide), if_neg (by decide), if_neg (by decide), if_neg (fun e => h e.symm)]
theorem gone_in {m : Nat} {a : Int} (m1 : 1 ≤ m) : destroyV (GG (Y m a)) 1 = ⟨0, 12, false, GG (Y m a)⟩ := by
  rw [Y_pos m1]
  rfl
theorem le_more {m : Nat} {a : Int} (m1 : 2 ≤ m) (m7 : m ≤ 7) (a0 : 0 ≤ a) (a7 : a ≤ 7) : turnV (GG (Y m a)) 1 leF = ⟨0, 0, false, GG (Y (m - 1) a)⟩ := by
  rw [Y_pos (m := m) (by omega), Y_pos (m := m - 1) (by omega)]
  have e : leF (Yl m a) = ⟨2, ((m - 1 : Nat) : Int), a, 0, 0⟩ := by
    show Ctl.leV 2 m a 0 = _
    unfold Ctl.leV
    rw [if_pos (right_l (by omega) (by omega) a0 a7), if_pos rfl, if_neg (by omega), show (m : Int) - 1 = ((m - 1 : Nat) : Int) by omega]
  exact (turn_ok (X := Yl m a) e).trans rfl
theorem le_last {a : Int} (a0 : 0 ≤ a) (a7 : a ≤ 7) : turnV (GG (Y 1 a)) 1 leF = ⟨0, 0, true, GG (Yd a)⟩ := by
  rw [Y_pos (by decide)]
  have e : leF (Yl (1 : Nat) a) = ⟨3, 0, a, 0, 0⟩ := by
    show Ctl.leV 2 1 a 0 = _
    unfold Ctl.leV
    rw [if_pos (right_l (by omega) (by omega) a0 a7), if_pos rfl, if_pos rfl]
  exact (turn_ok (X := Yl (1 : Nat) a) e).trans rfl
theorem right_d {a : Int} (a0 : 0 ≤ a) (a7 : a ≤ 7) : Ctl.rightB 3 0 a 0 = true := decide_eq_true (by omega)
theorem en_wait {a : Int} (a0 : 0 ≤ a) (a7 : a ≤ 7) : turnV (GG (Yd a)) 1 (enF a) = ⟨0, 10, false, GG (Yd a)⟩ := by
  refine turn_no (X := Yd a) ?_ (by decide)
  show Ctl.entV 3 0 a 0 a = _
  unfold Ctl.entV
  rw [if_pos ⟨right_d a0 a7, a0, a7⟩, if_neg (by decide), if_pos rfl]
theorem gone_wait (a : Int) : destroyV (GG (Yd a)) 1 = ⟨0, 12, false, GG (Yd a)⟩ := rfl
theorem op_drain {a : Int} (a0 : 0 ≤ a) (a7 : a ≤ 7) : turnV (GG (Yd a)) 1 opF = ⟨0, 0, false, GG ⟨1, 0, -1, 1, 512, 104⟩⟩ := by
  have e : opF (Yd a) = ⟨1, 0, -1, 1, 0⟩ := by
    show Ctl.opV 3 0 a 0 = _
    unfold Ctl.opV
    rw [if_pos (right_d a0 a7), if_pos rfl]
    rfl
  exact (turn_ok (X := Yd a) e).trans rfl
def Gf : Fo := ⟨⟨2, 1, -1, 0, 512, 0⟩ :: ⟨0, 0, -1, 2, 0, 0⟩ :: List.replicate 6 free0, [(512, 256)]⟩
def Gl : Fo := ⟨⟨2, 1, -1, 0, 512, 0⟩ :: ⟨1, 0, -1, 2, 512, 8⟩ :: List.replicate 6 free0, [(520, 248)]⟩
theorem gone_last : destroyV (GG ⟨1, 0, -1, 1, 512, 104⟩) 1 = ⟨0, 0, false, Gf⟩ := rfl
theorem once_again : createV Gf 8 = ⟨1, 0, false, Gl⟩ := rfl
theorem see_open : seeC (GG ⟨1, 0, -1, 1, 512, 104⟩).R 1 = ⟨1, 0, -1, 1, 0⟩ := rfl
theorem see_last : seeC Gl.R 1 = ⟨1, 0, -1, 2, 0⟩ := rfl
end Go.Proofs.Ytkkmhapfhnnooaa.Sco
