/-
  A contract of some: ten programs at most, of ten ops at most.
-/
import Derived.Test.YtapbhcpcechccaaFinaD
import Derived.Deep.RegionLaw
namespace Go.Proofs.Ytapbhcpcechccaa.Fina
open Go.ChangeShapes Go.WideShapes Go.ChangeAt Go.RowKit
open Slic
set_option linter.unusedVariables false

def someL (LL : List (List O)) : List (List O) := (LL.take 10).map (·.take 10)
theorem some_len (LL : List (List O)) : (someL LL).length ≤ 10 := by simp [someL]; omega
/-- Rows of slices of one's own, each of which reads as a list. -/
def ORows (w : World) (b : Nat) (v : Value) (LL : List (List O)) : Prop := ∃ Hs : List (Option Addr × Nat × Nat), Own kR w b v Hs ∧ Hs.length = LL.length ∧ ∀ (i : Nat) (h : i < Hs.length) (h' : i < LL.length), Sr kF w (.slice (Hs[i]).1 (Hs[i]).2.1 (Hs[i]).2.2) LL[i]
theorem ORows.rows {w : World} {b : Nat} {v : Value} {LL : List (List O)} (h : ORows w b v LL) : Rows w v LL := by
  obtain ⟨Hs, h1, h2, h3⟩ := h
  exact ⟨Hs, h1.sr, h2, h3⟩
theorem one_row (W : World) (A : Option Addr) (n c k : Nat) (hk : k = W.heap.size) : Sr kR (W.alloc (.cells #[.slice A n c] 28)) (.slice (some ⟨k, 0, none⟩) 1 1) [(A, n, c)] := by
  subst hk
  have h : Own kR (W.alloc (.cells #[.slice A n c] 28)) 0 (.slice (some ⟨W.heap.size, 0, none⟩) 1 1) [(A, n, c)] := Own.lit W 0 (Nat.zero_le _) [(A, n, c)] #[.slice A n c] rfl (by simp [maxLen]) 1 rfl
  exact h.sr
theorem below_drew' (w : World) : Below w.heap.size w w.drew := (Below.refl _ _).drew
def Somes (w : World) (LL : List (List O)) (e : Ending) (w' : World) : Prop := ∃ v, e = .returned v ∧ Rows w' v LL ∧ Below w.heap.size w w'
set_option maxRecDepth 100000 in
set_option maxHeartbeats 4000000 in
theorem some_any (w : World) (v : Value) (LL : List (List O)) (h : Rows w v LL) : Calls Try.prog 9 #[v] w (Somes w (someL LL)) := by
  have h' := h
  obtain ⟨A, c, rfl, h1, h2⟩ := h.form
  clear h
  have hlen : LL.length ≤ 9223372036854775807 := by unfold maxLen at h2; omega
  go_enter Try.func9, Try.ntmps9
  go_wp2_with fail
  go_loopw [3, 4] (fun s t wr => ∃ (k : Nat) (Hs : List (Option Addr × Nat × Nat)), k ≤ LL.length ∧ k ≤ 10 ∧ t = .int .i64 k ∧ Own kR wr w.heap.size s Hs ∧ Hs.length = k ∧ Below w.heap.size w wr ∧ ∀ (i : Nat) (h : i < Hs.length) (h' : i < LL.length), Sr kF w (.slice (Hs[i]).1 (Hs[i]).2.1 (Hs[i]).2.2) (LL[i].take 10)) (fun _ t _ => LL.length - (intOf t).toNat)
  case atStart => exact ⟨0, [], by omega, by omega, rfl, Own.empty w _ (Nat.le_refl _), rfl, below_one _ _, fun i h => by simp at h⟩
  case round =>
    obtain ⟨k, Hs, hk, hk2, rfl, hO, hl, hB, hS⟩ := hrel
    by_cases hlt : k < LL.length ∧ k < 10
    · obtain ⟨hlt, h10⟩ := hlt
      have z1 : decide ((k : Int) < (LL.length : Int)) = true := decide_eq_true (by omega)
      have z2 : decide ((k : Int) < 10) = true := decide_eq_true (by omega)
      obtain ⟨g, o, B, d, rfl, hg, hc, hL, hd, hd2⟩ := h'.at k hlt
      obtain ⟨A', c', rfl, m1, m2⟩ := hO.sr.form
      have i0 : (0 : Int) ≤ (k : Int) := by omega
      have i1 : (k : Int) < (LL.length : Int) := by omega
      have hcr := (hB.cell (p := ⟨g, o + k, none⟩) hg).trans hc
      have hgr : g < wr.heap.size := Nat.lt_of_lt_of_le hg hB.size
      have hws := hB.size
      have HL := Lib.hid hl
      have HS := Lib.hid hS
      clear hl hS hc
      by_cases hm : (LL[k]).length ≤ 10
      · have P := Lib.hid (List.take_of_length_le hm)
        generalize hq : LL[k] = L at *
        have HQ := Lib.hid hq
        clear hq
        obtain ⟨s1, s2⟩ := slice_h kF B L.length d L.length hd
        simp only [show kF.X = 28 from rfl] at s1 s2
        have y : decide ((L.length : Int) ≤ 10) = true := decide_eq_true (by omega)
        have y2 : decide ((10 : Int) < (L.length : Int)) = false := decide_eq_false (by omega)
        have y3 : min (L.length : Int) 10 = (L.length : Int) := by omega
        have y4 : (if (10 : Int) < (L.length : Int) then (10 : Int) else (L.length : Int)) = (L.length : Int) := if_neg (by omega)
        have i2 : (0 : Int) ≤ (L.length : Int) := by omega
        have i3 : (L.length : Int) ≤ (d : Int) := by omega
        go_wp2_with fail
        go_region_law
          ((refine step_own (K := kR) (by rfl) (.tmp 16) (.tmp 28) (by rfl) (by rfl) (by rfl) (by rfl) ((hO.below (below_one _ _)).below (below_drew' _)) (one_row wr B L.length d _ rfl).drew (by simp; have := HL.out; omega) (by simp; omega) ?_; intro v' w' hown hgrow hG))
        all_goals
          go_wp2
          go_roundw
          case rel =>
            refine ⟨k + 1, Hs ++ [(B, L.length, d)], by omega, by omega, by go_num, hown, by simp; exact HL.out, hG.below _ _ (Nat.le_refl _) ((hB.alloc hB.size _).drew), fun i h h' => ?_⟩
            by_cases e : i < Hs.length
            · rw [List.getElem_append_left e]
              exact HS.out i e h'
            · obtain rfl : i = k := by simp at h; have := HL.out; omega
              rw [List.getElem_append_right (by omega)]
              have e0 : i - Hs.length = 0 := by have := HL.out; omega
              simp only [e0, List.getElem_cons_zero, HQ.out]
              rw [P.out]; exact hL
          case measure => simp [intOf]; omega
      · generalize hq : LL[k] = L at *
        have HQ := Lib.hid hq
        clear hq
        obtain ⟨s1, s2⟩ := slice_h kF B L.length d 10 (by omega)
        simp only [Int.cast_ofNat_Int, show kF.X = 28 from rfl] at s1 s2
        have y3 : min (L.length : Int) 10 = 10 := by omega
        have y4 : (if (10 : Int) < (L.length : Int) then (10 : Int) else (L.length : Int)) = 10 := if_pos (by omega)
        have i4 : (10 : Int) ≤ (d : Int) := by omega
        have i2 : (0 : Int) ≤ (L.length : Int) := by omega
        have i3 : (L.length : Int) ≤ (d : Int) := by omega
        go_wp2_with fail
        go_region_law
          ((refine step_own (K := kR) (by rfl) (.tmp 16) (.tmp 28) (by rfl) (by rfl) (by rfl) (by rfl) ((hO.below (below_one _ _)).below (below_drew' _)) (one_row wr B 10 d _ rfl).drew (by simp; have := HL.out; omega) (by simp; omega) ?_; intro v' w' hown hgrow hG))
        all_goals
          go_wp2
          go_roundw
          case rel =>
            refine ⟨k + 1, Hs ++ [(B, 10, d)], by omega, by omega, by go_num, hown, by simp; exact HL.out, hG.below _ _ (Nat.le_refl _) ((hB.alloc hB.size _).drew), fun i h h' => ?_⟩
            by_cases e : i < Hs.length
            · rw [List.getElem_append_left e]
              exact HS.out i e h'
            · obtain rfl : i = k := by simp at h; have := HL.out; omega
              rw [List.getElem_append_right (by omega)]
              have e0 : i - Hs.length = 0 := by have := HL.out; omega
              simp only [e0, List.getElem_cons_zero, HQ.out]
              exact hL.part (by omega) (by omega) (Nat.le_refl _)
          case measure => simp [intOf]; omega
    · have hk3 : k = LL.length ∨ (k < LL.length ∧ k = 10) := by omega
      have R := show Rows wr _ (someL LL) from by
        refine ⟨Hs, hO.sr, by rw [hl]; simp [someL]; omega, fun i h h' => ?_⟩
        have e : (someL LL)[i] = (LL[i]'(by simp [someL] at h'; omega)).take 10 := by simp [someL]
        rw [e]
        exact (hS i h (by simp [someL] at h'; omega)).below hB
      obtain ⟨A', c', rfl, m1, m2⟩ := hO.sr.form
      clear hO hS hl
      rcases hk3 with rfl | ⟨h3, rfl⟩
      · have z1 : decide ((LL.length : Int) < (LL.length : Int)) = false := decide_eq_false (by omega)
        go_wp2
        go_ret
        exact ⟨_, rfl, R, hB⟩
      · have z1 : decide (((10 : Nat) : Int) < (LL.length : Int)) = true := decide_eq_true (by omega)
        go_wp2
        go_ret
        exact ⟨_, rfl, R, hB⟩
end Go.Proofs.Ytapbhcpcechccaa.Fina
