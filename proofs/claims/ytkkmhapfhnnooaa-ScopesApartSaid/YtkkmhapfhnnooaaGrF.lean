/-
  Contract of package ground: Carve, for every size.
-/
import Derived.Test.YtkkmhapfhnnooaaGrE
import Derived.RegionTactic
import Derived.BigRegion
namespace Go.Proofs.Ytkkmhapfhnnooaa.Gr
open Go.ChangeShapes Go.WideShapes Go.ChangeAt Go.RowKit Gm
set_option linter.unusedVariables false
set_option linter.unusedSimpArgs false

def carveB (z : Int) (L : List E) : Bool := sizeB z && fits z L
def carveV (z : Int) (L : List E) : Int := if carveB z L = true then carveA z L else 0
def carveF (z : Int) (L : List E) : List E := if carveB z L = true then carveL z L else L
theorem ret_ib {k : IntKind} {a b : Int} {c d : Bool} (h : a = b) (h' : c = d) : Ending.returned (.tuple #[.int k a, .bool c]) = .returned (.tuple #[.int k b, .bool d]) := by rw [h, h']

theorem Gr.grown {w w' : World} {Y : Ly} {B K : Nat} {A S : Int} {L : List E} (h : Gr w Y B K A S L) (k : w.grownBy w' none) : Gr w' Y B K A S L := h.keep k (by simp) (.inl rfl)

theorem replace_at (w : World) (Y : Ly) (B K : Nat) (A S : Int) (L M : List E) (low high : Nat) (lo hi : Int) (x : Value) (e1 : lo = (low : Int)) (e2 : hi = (high : Int)) (h : Gr w Y B K A S L) (hK : K < w.heap.size) (h1 : low ≤ high) (h2 : high ≤ L.length) (hx : Ex w x M) (hM : M.length ≤ 1) (hl : L.length ≤ 200000) :
    Calls Try.prog 71 #[.pointer (some ⟨B, Y.o, none⟩), .int .i64 lo, .int .i64 hi, x] w fun e w' => e = .returned (.tuple #[]) ∧ Gr w' Y B K A S (L.take low ++ (M ++ L.drop high)) ∧ w.grownBy w' (some B) := by
  subst e1
  subst e2
  exact replace_any w Y B K A S L M low high x h hK h1 h2 hx hM hl
/-- A row of one extent that was just made. -/
theorem one_row (w : World) (a s : Int) : Ex (w.alloc (.cells #[.int .i64 a, .int .i64 s] 46)) (.slice (some ⟨w.heap.size, 0, none⟩) 1 1) [(a, s)] := by
  refine .inr ⟨_, 1, rfl, Nat.le_refl _, by decide, by simp, fun i hi => ?_⟩
  have : i = 0 := by simpa using hi
  subst this
  constructor <;> simp [go_sem]

set_option maxHeartbeats 4000000 in
theorem carve_any (w : World) (Y : Ly) (B K : Nat) (A S : Int) (L : List E) (z : Int) (h : Gr w Y B K A S L) (hK : K < w.heap.size) (ok : Ok A S L) (z1 : -9223372036854775808 ≤ z) (z2 : z ≤ 9223372036854775807) :
    Calls Try.prog 46 #[.pointer (some ⟨B, Y.o, none⟩), .int .i64 z] w fun e w' => e = .returned (.tuple #[.int .i64 (carveV z L), .bool (carveB z L)]) ∧ Gr w' Y B K A S (carveF z L) ∧ w.grownBy w' (some B) := by
  have hl := ok.len
  have h0 := h.alloc (.cells #[.int .i64 z] 3)
  have g0 : w.grownBy (w.alloc (.cells #[.int .i64 z] 3)) none := only_alloc (World.grownBy.refl _ _) _
  have c0 : (w.alloc (.cells #[.int .i64 z] 3)).cell? ⟨w.heap.size, 0, none⟩ = some (.int .i64 z) := by simp [go_sem]
  have hK0 : K < (w.alloc (.cells #[.int .i64 z] 3)).heap.size := by simp; omega
  by_cases hs : sizeB z = true
  · have ⟨hz, h8⟩ : 0 < z ∧ z % 8 = 0 := of_decide_eq_true hs
    by_cases hi : carveI z L < L.length
    · obtain ⟨k1, k2, k3, k4⟩ := carve_some hi
      have hB := Lib.hid (show carveB z L = true by unfold carveB; rw [hs, k1]; rfl)
      obtain ⟨b1, b2, b3, b4, b5, b6, b7, b8⟩ := ok.at_ hi
      have hlt : L.length ≤ 200000 := by omega
      have K2 := Lib.hid k2
      have K4 := Lib.hid k4
      have K3 := Lib.hid k3
      have k3' : z ≤ (L[carveI z L]).2 := k3
      clear k1 k2 k4 k3
      have HX := Lib.hid (rfl : L[carveI z L] = L[carveI z L])
      generalize hm : carveI z L = m at *
      have HM := Lib.hid hm
      clear hm HX
      go_enter Try.func46, Try.ntmps46
      go_wp2_with fail
      generalize w.alloc (.cells #[.int .i64 z] 3) = W0 at *
      refine (size_any _ _ z1 z2).mono ?_
      rintro e w' ⟨rfl, rfl⟩
      go_wp2_with fail
      refine (first1_any _ Y B K A S L _ z h0 c0 (by omega)).mono ?_
      rintro e w1 ⟨rfl, k1⟩
      rw [show L.findIdx (fun e => decide (z ≤ e.2)) = m from HM.out]
      have h1 := h0.below k1
      have c1 := bel k1 c0
      have g1 : w.grownBy w1 none := only_trans g0 (only_below k1)
      obtain ⟨v, hh, hv, hvB, hvK⟩ := id h1
      obtain ⟨g, c, rfl, h3, h4, h5, hc⟩ := hv.at_ (by omega)
      obtain ⟨y0, y1⟩ := hc m hi
      have x2 : w1.cell? ⟨B, Y.o + 2, none⟩ = some (.slice (some ⟨g, 0, none⟩) L.length c) := Ly.cell2 hh
      clear hc hh hv hvB hvK
      go_wp2_with fail
      have wr1 : IntKind.i64.wrap ((L[m]).1 + z) = (L[m]).1 + z := IntWalk.i64_in _ (by omega)
      have wr2 : IntKind.i64.wrap ((L[m]).2 - z) = (L[m]).2 - z := IntWalk.i64_in _ (by omega)
      have c1' := cell_alloc c1 (.cells #[.int .i64 0, .int .i64 0] 46)
      have x2' := cell_alloc x2 (.cells #[.int .i64 0, .int .i64 0] 46)
      have y1' := cell_alloc y1 (.cells #[.int .i64 0, .int .i64 0] 46)
      go_region
      clear wr1 wr2
      by_cases d : (L[m]).2 = z
      · have dq : ((L[m]).2 - z == 0) = true := by simp; omega
        have KL := Lib.hid (show carveL z L = L.take m ++ ([] ++ L.drop (m + 1)) by rw [K4.out]; unfold cut; rw [if_pos d])
        have D := Lib.hid d
        clear d
        go_wp2_with fail
        have G2 : w.grownBy (w1.alloc (.cells #[.int .i64 ((L[m]).1 + z), .int .i64 ((L[m]).2 - z)] 46)).drew none := only_drew (only_alloc g1 _)
        have H2 := (h1.alloc (.cells #[.int .i64 ((L[m]).1 + z), .int .i64 ((L[m]).2 - z)] 46)).drew
        generalize (w1.alloc (.cells #[.int .i64 ((L[m]).1 + z), .int .i64 ((L[m]).2 - z)] 46)).drew = W2 at *
        (with_reducible refine (replace_at W2 Y B K A S L [] m (m + 1) (m : Int) ((m : Int) + 1) _ rfl (by omega) H2 (by have := G2.size; omega) (by omega) (by omega) (.nil _) (by simp) hlt).mono ?_)
        rintro e w3 ⟨rfl, h3', g3⟩
        go_wp2
        go_ret2
        exact ⟨ret_ib (by unfold carveV; rw [if_pos hB.out, K2.out]) hB.out.symm, by unfold carveF; rw [if_pos hB.out, KL.out]; exact h3', only_trans (only_wide G2) g3⟩
      · have dq : ((L[m]).2 - z == 0) = false := by simp; omega
        have KL := Lib.hid (show carveL z L = L.take m ++ ([((L[m]).1 + z, (L[m]).2 - z)] ++ L.drop (m + 1)) by rw [K4.out]; unfold cut; rw [if_neg d])
        have D := Lib.hid d
        clear d
        go_wp2_with fail
        have G2 : w.grownBy ((w1.alloc (.cells #[.int .i64 ((L[m]).1 + z), .int .i64 ((L[m]).2 - z)] 46)).alloc (.cells #[.int .i64 ((L[m]).1 + z), .int .i64 ((L[m]).2 - z)] 46)).drew none := only_drew (only_alloc (only_alloc g1 _) _)
        have H2 := ((h1.alloc (.cells #[.int .i64 ((L[m]).1 + z), .int .i64 ((L[m]).2 - z)] 46)).alloc (.cells #[.int .i64 ((L[m]).1 + z), .int .i64 ((L[m]).2 - z)] 46)).drew
        have X2 := (one_row (w1.alloc (.cells #[.int .i64 ((L[m]).1 + z), .int .i64 ((L[m]).2 - z)] 46)) ((L[m]).1 + z) ((L[m]).2 - z)).drew
        rw [World.size_alloc] at X2
        generalize ((w1.alloc (.cells #[.int .i64 ((L[m]).1 + z), .int .i64 ((L[m]).2 - z)] 46)).alloc (.cells #[.int .i64 ((L[m]).1 + z), .int .i64 ((L[m]).2 - z)] 46)).drew = W2 at *
        (with_reducible refine (replace_at W2 Y B K A S L [((L[m]).1 + z, (L[m]).2 - z)] m (m + 1) (m : Int) ((m : Int) + 1) _ rfl (by omega) H2 (by have := G2.size; omega) (by omega) (by omega) X2 (by simp) hlt).mono ?_)
        rintro e w3 ⟨rfl, h3', g3⟩
        go_wp2
        go_ret2
        exact ⟨ret_ib (by unfold carveV; rw [if_pos hB.out, K2.out]) hB.out.symm, by unfold carveF; rw [if_pos hB.out, KL.out]; exact h3', only_trans (only_wide G2) g3⟩
    · have hlt : L.length ≤ 200000 := by omega
      have hm : carveI z L = L.length := Nat.le_antisymm (carveI_le z L) (by omega)
      have hB := Lib.hid (show carveB z L = false by unfold carveB; rw [(carve_none hm).1, Bool.and_false])
      have HM := Lib.hid hm
      clear hm hi
      go_enter Try.func46, Try.ntmps46
      go_wp2_with fail
      generalize w.alloc (.cells #[.int .i64 z] 3) = W0 at *
      refine (size_any _ _ z1 z2).mono ?_
      rintro e w' ⟨rfl, rfl⟩
      go_wp2_with fail
      refine (first1_any _ Y B K A S L _ z h0 c0 (by omega)).mono ?_
      rintro e w1 ⟨rfl, k1⟩
      rw [show L.findIdx (fun e => decide (z ≤ e.2)) = L.length from HM.out]
      have h1 := h0.below k1
      have g1 : w.grownBy w1 none := only_trans g0 (only_below k1)
      obtain ⟨v, hh, hv, hvB, hvK⟩ := id h1
      obtain ⟨V, c, rfl⟩ := hv.form
      have x2 : w1.cell? ⟨B, Y.o + 2, none⟩ = some (.slice V L.length c) := Ly.cell2 hh
      clear hh hv hvB hvK
      go_wp2
      go_ret2
      exact ⟨ret_ib (by unfold carveV; rw [if_neg (by rw [hB.out]; decide)]) hB.out.symm, by unfold carveF; rw [if_neg (by rw [hB.out]; decide)]; exact h1, only_wide g1⟩
  · have hs' : sizeB z = false := by simpa using hs
    have hB := Lib.hid (show carveB z L = false by unfold carveB; rw [hs']; rfl)
    clear hs
    go_enter Try.func46, Try.ntmps46
    go_wp2_with fail
    generalize w.alloc (.cells #[.int .i64 z] 3) = W0 at *
    refine (size_any _ _ z1 z2).mono ?_
    rintro e w' ⟨rfl, rfl⟩
    go_wp2
    go_ret2
    exact ⟨ret_ib (by unfold carveV; rw [if_neg (by rw [hB.out]; decide)]) hB.out.symm, by unfold carveF; rw [if_neg (by rw [hB.out]; decide)]; exact h0, only_wide g0⟩
end Go.Proofs.Ytkkmhapfhnnooaa.Gr
