/-
  Contract of the document's Create.
-/
import Derived.Test.YteakglkagmghpaaGreatScoQ
namespace Go.Proofs.YteakglkagmghpaaGreat.Sco
open Go.ChangeShapes Go.WideShapes Go.ChangeAt Go.RowKit
open Slic Gm
set_option linter.unusedVariables false
set_option linter.unusedSimpArgs false
attribute [local go_sem ↓] Go.wp_at_zero Go.wp_at_succ

section
variable {w w' : World} {P : Pl} {n N : Nat} {A : Int} {R : List Cx} {Y : Nat → Bool} {L : List E}
set_option maxRecDepth 8000 in
set_option maxHeartbeats 4000000 in
theorem refcreate_any {I J : Int} (h : Rs w P n A N R Y) (v : Inv n A (8 * (N : Int)) I J ⟨R, runs A Y N⟩) (hN : N ≤ 8192) (z : Int) (z1 : -9223372036854775808 ≤ z) (z2 : z ≤ 9223372036854775807) :
    Calls Tryz.prog 51 #[ptrD P, .int .i64 z] w fun e w' => ∃ Y', e = tellN (createV ⟨R, runs A Y N⟩ z).v (createV ⟨R, runs A Y N⟩ z).x ∧ Rs w' P n A N (createV ⟨R, runs A Y N⟩ z).F.R Y' ∧ (createV ⟨R, runs A Y N⟩ z).F.L = runs A Y' N ∧ Only [P.gc, P.gx, P.gw] w w' := by
  by_cases hz : z < 1 ∨ 8192 < z
  · have HV := Lib.hid (show createV ⟨R, runs A Y N⟩ z = ⟨0, 1, false, ⟨R, runs A Y N⟩⟩ by unfold createV; rw [if_pos hz])
    have hz' : (z < 1) ∨ (¬ z < 1 ∧ 8192 < z) := by omega
    clear hz
    rcases hz' with hz | ⟨hz, hz'⟩
    all_goals
      go_enter Tryz.func51, Tryz.ntmps51
      go_wp2
      go_ret2
      first | exact ⟨ret_n (by rw [HV.out]) (by rw [HV.out]), Y, by rw [HV.out]; exact h, by rw [HV.out], Only.refl _ _⟩ | exact ⟨Y, ret_n (by rw [HV.out]) (by rw [HV.out]), by rw [HV.out]; exact h, by rw [HV.out], Only.refl _ _⟩
  · have hu := upz_all hz
    obtain ⟨hz1, hz2⟩ : ¬ z < 1 ∧ ¬ 8192 < z := by omega
    have e1 : IntKind.i64.wrap (z + 7) = z + 7 := IntWalk.i64_in _ (by omega)
    have e2 : Int.tdiv (z + 7) 8 = (z + 7) / 8 := Int.tdiv_eq_ediv_of_nonneg (by omega)
    have e3 : IntKind.i64.wrap ((z + 7) / 8 * 8) = upz z := by unfold upz; exact IntWalk.i64_in _ (by omega)
    have e4 : (z + 7) / 8 * 8 = upz z := rfl
    have HU := Lib.hid hu
    have HC := Lib.hid (show createV ⟨R, runs A Y N⟩ z = (match R[R.findIdx fr]? with
      | none => ⟨0, 13, false, ⟨R, runs A Y N⟩⟩
      | some x => if Gr.carveB (upz z) (runs A Y N) = true then ⟨(R.findIdx fr : Nat), 0, false, ⟨R.set (R.findIdx fr) (made x (carveA (upz z) (runs A Y N)) (upz z)), carveL (upz z) (runs A Y N)⟩⟩ else ⟨0, 14, false, ⟨R, runs A Y N⟩⟩) by unfold createV; rw [if_neg hz]; rfl)
    have HF := Lib.hid v.fr_pos
    have hlen := h.len
    have HR := Lib.hid v.right
    have a0 := v.ok.a0
    have a1 := v.ok.a1
    have a8 := Lib.hid v.ok.a8
    have c0 := h.c0
    have c1 := h.c1
    have c2 := h.c2
    have n8 := v.n8
    have EXT := Lib.hid v.ext
    generalize upz z = u at *
    clear hu hz v
    go_enter Tryz.func51, Tryz.ntmps51
    go_wp2_with fail
    go_loop [6] (fun t => ∃ j : Nat, 1 ≤ j ∧ j ≤ n ∧ t = .int .i64 (j : Int) ∧ Hid (∀ i (hi : i < R.length), i < j → fr R[i] = false)) (fun t => n - (intOf t).toNat)
    case atStart =>
      refine ⟨1, by omega, ?_, rfl, Lib.hid (fun i hi h => ?_)⟩
      · have := HF.out
        have : R.findIdx fr ≤ R.length := List.findIdx_le_length
        have := HF.out
        have e : 1 ≤ R.findIdx fr := HF.out
        omega
      · have e : 1 ≤ R.findIdx fr := HF.out
        have := List.not_of_lt_findIdx (p := fr) (show i < R.findIdx fr by omega)
        simpa using this
    case round =>
      obtain ⟨j, hj1, hj2, rfl, hno⟩ := hrel
      by_cases hjn : j < n
      · obtain ⟨x, hx⟩ : ∃ x, R[j]? = some x := ⟨_, List.getElem?_eq_getElem (by omega)⟩
        obtain ⟨⟨x0, x1, x2, x3⟩, hf⟩ := h.atC hx
        cases hp : fr x with
        | true =>
          have s0 : x.s = 0 := of_decide_eq_true hp
          have HI : Hid (R.findIdx fr = j) := Lib.hid (find_at hno.out (by omega) (by have := (List.getElem?_eq_some_iff.1 hx).2; rw [this]; exact hp))
          have HV := Lib.hid (HC.out.trans (by rw [HI.out, hx]))
          rw [s0] at x0
          clear HC hno hp x1 x2 x3
          have S0 := Lib.hid s0
          clear s0
          go_wp2_with fail
          refine (Ref.carve_any w P.C P.gw N A Y u h.rf a0 a1 a8.out hN (by have := HU.out; omega) (by have := HU.out; omega)).mono ?_
          rintro e w1 ⟨rfl, rf1, k1⟩
          have h1 := h.ground k1 rf1
          have o1 : Only [P.gc, P.gx, P.gw] w w1 := Only.grown k1 (by simp)
          have CR := Lib.hid (Ref.carve_runs (A := A) (z := u) (n := N) Y a0 a1 a8.out hN)
          generalize Ref.carveW A u N Y = Y1 at *
          cases hb : Gr.carveB u (runs A Y N) with
          | false =>
            have HW := Lib.hid (show Gr.carveV u (runs A Y N) = 0 by unfold Gr.carveV; rw [if_neg (by rw [hb]; decide)])
            have HQ := Lib.hid (show createV ⟨R, runs A Y N⟩ z = ⟨0, 14, false, ⟨R, runs A Y N⟩⟩ from HV.out.trans (by simp only [hb]; rfl))
            have HL := Lib.hid (show runs A Y N = runs A Y1 N by have := CR.out; unfold Gr.carveF at this; rw [if_neg (by rw [hb]; decide)] at this; exact this)
            clear hb
            go_wp2_with fail
            go_ret2
            first | exact ⟨ret_n (by rw [HQ.out]) (by rw [HQ.out]), Y1, by rw [HQ.out]; exact h1, by rw [HQ.out]; exact HL.out, o1⟩ | exact ⟨Y1, ret_n (by rw [HQ.out]) (by rw [HQ.out]), by rw [HQ.out]; exact h1, by rw [HQ.out]; exact HL.out, o1⟩
          | true =>
            have HW := Lib.hid (show Gr.carveV u (runs A Y N) = carveA u (runs A Y N) by unfold Gr.carveV; rw [if_pos hb])
            have HQ := Lib.hid (show createV ⟨R, runs A Y N⟩ z = ⟨(j : Nat), 0, false, ⟨R.set j (made x (carveA u (runs A Y N)) u), carveL u (runs A Y N)⟩⟩ from HV.out.trans (by simp only [hb, if_true]))
            have HL := Lib.hid (show carveL u (runs A Y N) = runs A Y1 N by have := CR.out; unfold Gr.carveF at this; rw [if_pos hb] at this; exact this)
            clear hb
            rw [HW.out]
            generalize carveA u (runs A Y N) = ca at *
            have d0 := h1.c0
            have d1 := h1.c1
            obtain ⟨⟨y0, _⟩, hf1⟩ := h1.atC hx
            have f0 := hf1 (j * 4)
            have h2 := h1.putC1 j hx 1
            have hx2 := set_read hx ⟨1, x.c, x.p, x.e, x.a, x.z⟩
            have e1' := h2.c1
            obtain ⟨⟨m0, m1⟩, hf2⟩ := h2.atX hx2
            have g0 := hf2 (j * 2)
            have g1 := hf2 (j * 2 + 1)
            have h3 := h2.putX2 j hx2 ca u
            rw [List.set_set] at h3
            have o3 := ((o1.trans (Only.put _ P.gc (j * 4) (.int .i64 1) (by simp))).trans (Only.put _ P.gx (j * 2) (.int .i64 ca) (by simp))).trans (Only.put _ P.gx (j * 2 + 1) (.int .i64 u) (by simp))
            clear hf hf1 hf2 c0 c1 c2 x0
            go_wp2_with fail
            go_ret2
            first | exact ⟨ret_n (by rw [HQ.out]) (by rw [HQ.out]), Y1, by rw [HQ.out]; exact h3, by rw [HQ.out]; exact HL.out, o3⟩ | exact ⟨Y1, ret_n (by rw [HQ.out]) (by rw [HQ.out]), by rw [HQ.out]; exact h3, by rw [HQ.out]; exact HL.out, o3⟩
        | false =>
          have qs : (x.s != 0) = true := by
            have : ¬ x.s = 0 := of_decide_eq_false hp
            simpa using this
          have HP := Lib.hid hp
          clear hf
          go_wp2_with fail
          go_round
          case rel =>
            refine ⟨j + 1, by omega, by omega, by go_num, Lib.hid (fun i hi h => ?_)⟩
            by_cases e : i = j
            · subst e
              have := (List.getElem?_eq_some_iff.1 hx).2
              rw [this]
              exact HP.out
            · exact hno.out i hi (by omega)
          case measure => simp [intOf]; omega
      · obtain rfl : j = n := by omega
        have HQ := Lib.hid (show createV ⟨R, runs A Y N⟩ z = ⟨0, 13, false, ⟨R, runs A Y N⟩⟩ from HC.out.trans (by
          have e : R.findIdx fr = R.length := find_none (fun i hi _ => hno.out i hi (by omega))
          rw [e, List.getElem?_eq_none (Nat.le_refl _)]))
        clear hjn
        go_wp2_with fail
        go_ret2
        first | exact ⟨ret_n (by rw [HQ.out]) (by rw [HQ.out]), Y, by rw [HQ.out]; exact h, by rw [HQ.out], Only.refl _ _⟩ | exact ⟨Y, ret_n (by rw [HQ.out]) (by rw [HQ.out]), by rw [HQ.out]; exact h, by rw [HQ.out], Only.refl _ _⟩
end
end Go.Proofs.YteakglkagmghpaaGreat.Sco
