/-
  Contracts of the document's own answers for layer 4, fourth part: Carve.
-/
import Derived.Test.YtkkmhapfhnnooaaRefC
namespace Go.Proofs.Ytkkmhapfhnnooaa.Ref
open Go.ChangeShapes Go.WideShapes Go.ChangeAt Go.RowKit Gm Gr
set_option linter.unusedVariables false
set_option linter.unusedSimpArgs false

/-- Which words are free behind Carve. -/
def carveW (A z : Int) (n : Nat) (F : Nat → Bool) : Nat → Bool := if carveB z (runs A F n) = true then setW F ((carveA z (runs A F n) - A) / 8).toNat (z / 8).toNat false else F
theorem carve_runs {A z : Int} {n : Nat} (F : Nat → Bool) (a0 : 0 ≤ A) (a1 : A ≤ 65536) (a8 : A % 8 = 0) (hn : n ≤ 8192) : carveF z (runs A F n) = runs A (carveW A z n F) n := by
  unfold carveF carveW
  by_cases h : carveB z (runs A F n) = true
  · rw [if_pos h, if_pos h]
    have h' := h
    unfold carveB at h'
    rw [Bool.and_eq_true] at h'
    obtain ⟨hs, hf⟩ := h'
    have ⟨hz, h8⟩ : 0 < z ∧ z % 8 = 0 := of_decide_eq_true hs
    obtain ⟨e, he, k1, k2⟩ := carve_in hf
    have ok := Ok.runs (n := n) F a0 a1 a8 hn
    have := ok.mem he
    exact runs_carve (by omega) (by omega) hf (by omega)
  · rw [if_neg h, if_neg h]
theorem carveI_of {z : Int} {L : List E} {k : Nat} (h : ∀ i (hi : i < L.length), i < k → decide (z ≤ (L[i]).2) = false) (hk : k < L.length) (hp : decide (z ≤ (L[k]).2) = true) : carveI z L = k := findIdx_at (P := fun e => decide (z ≤ e.2)) h hk hp
theorem carveI_no {z : Int} {L : List E} (h : ∀ i (hi : i < L.length), i < L.length → decide (z ≤ (L[i]).2) = false) : carveI z L = L.length := findIdx_none (P := fun e => decide (z ≤ e.2)) h

set_option maxRecDepth 8000 in
set_option maxHeartbeats 2000000 in
theorem carve_any (w : World) (C g n : Nat) (A : Int) (F : Nat → Bool) (z : Int) (h : Rf w C g A n F) (a0 : 0 ≤ A) (a1 : A ≤ 65536) (a8 : A % 8 = 0) (hn : n ≤ 8192) (z1 : -9223372036854775808 ≤ z) (z2 : z ≤ 9223372036854775807) :
    Calls Try.prog 47 #[.pointer (some ⟨C, 0, none⟩), .int .i64 z] w fun e w' => e = .returned (.tuple #[.int .i64 (carveV z (runs A F n)), .bool (carveB z (runs A F n))]) ∧ Rf w' C g A n (carveW A z n F) ∧ w.grownBy w' (some g) := by
  by_cases hz : z < 1
  · have hs : sizeB z = false := decide_eq_false (by omega)
    have hB := Lib.hid (show carveB z (runs A F n) = false by unfold carveB; rw [hs]; rfl)
    clear hs
    go_enter Try.func47, Try.ntmps47
    go_wp2
    go_ret2
    exact ⟨ret_ib (by unfold carveV; rw [if_neg (by rw [hB.out]; decide)]) hB.out.symm, by unfold carveW; rw [if_neg (by rw [hB.out]; decide)]; exact h, World.grownBy.refl _ _⟩
  · by_cases h8 : z % 8 = 0
    · have hs : sizeB z = true := decide_eq_true ⟨by omega, h8⟩
      have q8 : (z % 8 != 0) = false := by simpa using h8
      have ok := Ok.runs (n := n) F a0 a1 a8 hn
      have hl := ok.len
      have H8 := Lib.hid h8
      have HS := Lib.hid hs
      clear h8 hs
      go_enter Try.func47, Try.ntmps47
      go_wp2_with fail
      refine (extents_any w C g n A F h a0 a1 hn).mono ?_
      rintro e w1 ⟨V, c, rfl, hE, hn1, k1⟩
      have hR := h.below k1
      have hW := Lib.hid (rfl : carveW A z n F = carveW A z n F)
      generalize hL : runs A F n = L at *
      have HL := Lib.hid hL
      clear hL hW
      go_wp2_with fail
      go_loop [7] (fun t => ∃ k : Nat, k ≤ L.length ∧ t = .int .i64 k ∧ Hid (∀ i (hi : i < L.length), i < k → decide (z ≤ (L[i]).2) = false)) (fun t => L.length - (intOf t).toNat)
      case atStart => exact ⟨0, by omega, rfl, Lib.hid (fun i _ h => by omega)⟩
      case round =>
        obtain ⟨k, hk, rfl, hno⟩ := hrel
        by_cases hlt : k < L.length
        · obtain ⟨q, rfl, ql, x0, x1⟩ := hE.cell hlt
          obtain ⟨b1, b2, b3, b4, b5, b6, b7, b8⟩ := ok.at_ hlt
          cases hp : decide (z ≤ (L[k]).2) with
          | true =>
            have hI := carveI_of hno.out hlt hp
            obtain ⟨k1', k2, k3, k4⟩ := carve_some (z := z) (L := L) (by rw [hI]; exact hlt)
            have k2' : carveA z L = (L[k]).1 := by rw [k2]; congr 2
            have hp2 : z ≤ (L[k]).2 := of_decide_eq_true hp
            have hB := Lib.hid (show carveB z L = true by unfold carveB; rw [HS.out, k1']; rfl)
            have K2 := Lib.hid k2'
            obtain ⟨u, hu⟩ : ∃ u : Nat, (L[k]).1 = A + 8 * (u : Int) := ⟨(((L[k]).1 - A) / 8).toNat, by omega⟩
            obtain ⟨m, hm⟩ : ∃ m : Nat, z = 8 * (m : Int) := ⟨(z / 8).toNat, by have := H8.out; omega⟩
            have hum : u + m ≤ n := by omega
            have HU := Lib.hid hu
            have HM := Lib.hid hm
            have E1 := Lib.hid (show (((L[k]).1 - A) / 8).toNat = u by omega)
            have E2 := Lib.hid (show (z / 8).toNat = m by omega)
            clear k2 k2' k4 k1' k3 hI hu hm
            go_wp2_with fail
            refine (set_any w1 C g n A F _ _ u m false hR a0 a1 hn HU.out HM.out hum).mono ?_
            rintro e w2 ⟨rfl, hR2, g2⟩
            have y0 : w2.cell? ⟨q, k * 2, none⟩ = some (.int .i64 (L[k]).1) := by
              have hq : w.heap.size ≤ q := hn1 q rfl
              have hg := h.body.lt
              exact (World.cell?_of_block (w := w1) (w' := w2) (a := ⟨q, k * 2, none⟩) (g2.block q ql (fun e => by injection e with e; omega))).trans x0
            go_wp2_with fail
            go_ret2
            exact ⟨ret_ib (by unfold carveV; rw [HL.out, if_pos hB.out, K2.out]) (by rw [HL.out]; exact hB.out.symm), by unfold carveW; rw [HL.out, if_pos hB.out, K2.out, E1.out, E2.out]; exact hR2, only_trans (only_below k1) g2⟩
          | false =>
            have HP := Lib.hid hp
            go_wp2_with fail
            go_round
            case rel =>
              refine ⟨k + 1, by omega, by go_num, Lib.hid (fun i hi h => ?_)⟩
              by_cases e : i = k
              · subst e; exact HP.out
              · exact hno.out i hi (by omega)
            case measure => simp [intOf]; omega
        · obtain rfl : k = L.length := by omega
          have hI := carveI_no hno.out
          have hB := Lib.hid (show carveB z L = false by unfold carveB; rw [(carve_none hI).1, Bool.and_false])
          clear hI
          go_wp2_with fail
          go_ret2
          exact ⟨ret_ib (by unfold carveV; rw [HL.out, if_neg (by rw [hB.out]; decide)]) (by rw [HL.out]; exact hB.out.symm), by unfold carveW; rw [HL.out, if_neg (by rw [hB.out]; decide)]; exact hR, only_below k1⟩
    · have hs : sizeB z = false := decide_eq_false (by omega)
      have q8 : (z % 8 != 0) = true := by simpa using h8
      have hB := Lib.hid (show carveB z (runs A F n) = false by unfold carveB; rw [hs]; rfl)
      clear hs h8
      go_enter Try.func47, Try.ntmps47
      go_wp2
      go_ret2
      exact ⟨ret_ib (by unfold carveV; rw [if_neg (by rw [hB.out]; decide)]) hB.out.symm, by unfold carveW; rw [if_neg (by rw [hB.out]; decide)]; exact h, World.grownBy.refl _ _⟩
end Go.Proofs.Ytkkmhapfhnnooaa.Ref
