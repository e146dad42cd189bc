/-
  The laws' calls of layer 14, one behind the other: what each makes of the forest; the row of them that comes in.
-/
import Derived.Test.YteakglkagmghpaaGreatFouJ
namespace Go.Proofs.YteakglkagmghpaaGreat.Fou
open Go.ChangeShapes Go.WideShapes Go.ChangeAt Go.RowKit
open Go.Proofs.YteakglkagmghpaaGreat.Mod Sco Amem Beg Gm
set_option linter.unusedVariables false
set_option linter.unusedSimpArgs false
set_option maxRecDepth 8000
variable {P : Pn} {f : Nat → Int} {F : Fo} {G : Nat} {w w' : World}
theorem op_bd (mk : Bool) (k : Int) : 1 ≤ opA mk k ∧ opA mk k ≤ 512 := by
  unfold opA
  cases mk
  · rw [if_neg (by decide)]; omega
  · rw [if_pos rfl]; omega
/-- What becomes of a law's call that goes on. -/
inductive OpD (F : Fo) (mk : Bool) (k : Int) : Prop
  | no (h : (opR F mk k).x ≠ 0) (v : (opR F mk k).v = 0) (e : (opR F mk k).F = F)
  | make (x : Cx) (hm : mk = true) (hx : F.R[F.R.findIdx fr]? = some x) (x0 : (opR F mk k).x = 0) (v : (opR F mk k).v = ((F.R.findIdx fr : Nat) : Int)) (c : Gr.carveB (upz (opA mk k)) F.L = true) (e : (opR F mk k).F = ⟨F.R.set (F.R.findIdx fr) (made x (carveA (upz (opA mk k)) F.L) (upz (opA mk k))), carveL (upz (opA mk k)) F.L⟩)
  | drop (x : Cx) (s : Nat) (hm : mk = false) (hs : opA mk k = (s : Int)) (hx : F.R[s]? = some x) (h1 : x.s = 1) (x0 : (opR F mk k).x = 0) (v : (opR F mk k).v = 0) (e : (opR F mk k).F = ⟨F.R.set s (gone x), giveL x.a (x.a + x.z) F.L⟩)
theorem op_cases (F : Fo) (mk : Bool) (k : Int) : OpD F mk k := by
  have hb := op_bd mk k
  cases mk with
  | true =>
    have hz : ¬ (opA true k < 1 ∨ 8192 < opA true k) := by omega
    have e : opR F true k = createV F (opA true k) := rfl
    cases hx : F.R[F.R.findIdx fr]? with
    | none =>
      have e2 : createV F (opA true k) = ⟨0, 13, false, F⟩ := by unfold createV; rw [if_neg hz, hx]
      exact .no (by rw [e, e2]; simp) (by rw [e, e2]) (by rw [e, e2])
    | some x =>
      cases hc : Gr.carveB (upz (opA true k)) F.L with
      | true =>
        have e2 : createV F (opA true k) = ⟨(F.R.findIdx fr : Nat), 0, false, ⟨F.R.set (F.R.findIdx fr) (made x (carveA (upz (opA true k)) F.L) (upz (opA true k))), carveL (upz (opA true k)) F.L⟩⟩ := by unfold createV; rw [if_neg hz, hx]; dsimp only; rw [if_pos hc]
        exact .make x rfl hx (by rw [e, e2]) (by rw [e, e2]) hc (by rw [e, e2])
      | false =>
        have e2 : createV F (opA true k) = ⟨0, 14, false, F⟩ := by unfold createV; rw [if_neg hz, hx]; dsimp only; rw [if_neg (by rw [hc]; decide)]
        exact .no (by rw [e, e2]; simp) (by rw [e, e2]) (by rw [e, e2])
  | false =>
    obtain ⟨s, hs⟩ := Int.eq_ofNat_of_zero_le (show 0 ≤ opA false k by omega)
    have e : opR F false k = destroyV F (s : Int) := by rw [← hs]; rfl
    have lk : Sco.look F.R (s : Int) = F.R[s]? := by unfold Sco.look; rw [if_pos (by omega), Int.toNat_natCast]
    cases hx : F.R[s]? with
    | none =>
      have e2 : destroyV F (s : Int) = ⟨0, 11, false, F⟩ := by unfold destroyV; rw [lk, hx]
      exact .no (by rw [e, e2]; simp) (by rw [e, e2]) (by rw [e, e2])
    | some x =>
      have e2 : destroyV F (s : Int) = if x.s = 0 then ⟨0, 11, false, F⟩ else if x.s = 1 then ⟨0, 0, false, ⟨F.R.set s (gone x), giveL x.a (x.a + x.z) F.L⟩⟩ else ⟨0, 12, false, F⟩ := by unfold destroyV; rw [lk, hx]; rfl
      by_cases h0 : x.s = 0
      · rw [if_pos h0] at e2
        exact .no (by rw [e, e2]; simp) (by rw [e, e2]) (by rw [e, e2])
      · by_cases h1 : x.s = 1
        · rw [if_neg h0, if_pos h1] at e2
          exact .drop x s rfl hs hx h1 (by rw [e, e2]) (by rw [e, e2]) (by rw [e, e2])
        · rw [if_neg h0, if_neg h1] at e2
          exact .no (by rw [e, e2]; simp) (by rw [e, e2]) (by rw [e, e2])
/-- A call of the row that came in. -/
theorem op_at {A : Option Addr} {n : Nat} {z : Nat → Nat → Int} (h : Args.PRecs [none, some .i64] w A n z) (i : Nat) (hi : i < n) : ∃ b o mk, A = some ⟨b, o, none⟩ ∧ b < w.heap.size ∧ w.cell? ⟨b, o + i * 2, none⟩ = some (.bool mk) ∧ w.cell? ⟨b, o + (i * 2 + 1), none⟩ = some (.int .i64 (z i 1)) ∧ -9223372036854775808 ≤ z i 1 ∧ z i 1 ≤ 9223372036854775807 := by
  obtain ⟨b, o, e, hb, hc⟩ := h.at_ i hi
  have h0 := hc 0 (by decide)
  have h1 := hc 1 (by decide)
  have hw := h.wf i 1
  exact ⟨b, o, _, e, hb, h0, h1, Held.bounds_i64 hw⟩
end Go.Proofs.YteakglkagmghpaaGreat.Fou
