/-
  Contracts of package chain, what only reads: Area, entered, Reach, Parent, Above; and of the document's own.
-/
import Derived.Test.YtjebkchlbbfabaaChM
namespace Go.Proofs.Ytjebkchlbbfabaa.Chain
open Go.ChangeShapes Go.WideShapes Go.ChangeAt Go.RowKit
set_option linter.unusedVariables false

set_option maxHeartbeats 1000000 in
theorem area_any (w : World) (v : Value) (L : List E) (h : Sr w v L) : Calls Try.prog 15 #[v] w fun e w' => e = .returned (.int .i64 (areaV L)) ∧ w = w' := by
  obtain ⟨A, c, rfl, h1, h2, h3, h4⟩ := h
  unfold maxLen at h2
  by_cases hl : 0 < L.length
  · obtain ⟨g, o, rfl, hg, hc⟩ := h4 hl
    have HA := Lib.hid (area_at hl)
    obtain ⟨c0, c1⟩ := hc (L.length - 1) (by omega)
    have z : ((L.length : Int) == 0) = false := beq_eq_false_iff_ne.2 (by omega)
    have e1 : ((L.length : Int) - 1).toNat = L.length - 1 := by omega
    clear hc h4
    go_enter Try.func15, Try.ntmps15
    go_wp2
    go_ret
    exact ⟨ret_int HA.out.symm, rfl⟩
  · obtain rfl : L = [] := List.eq_nil_of_length_eq_zero (by omega)
    go_enter Try.func15, Try.ntmps15
    go_wp2
    go_ret
    exact ⟨rfl, rfl⟩
set_option maxHeartbeats 1000000 in
theorem refarea_any (w : World) (v : Value) (L : List E) (h : Sr w v L) : Calls Try.prog 16 #[v] w fun e w' => e = .returned (.int .i64 (areaV L)) ∧ w = w' := by
  obtain ⟨A, c, rfl, h1, h2, h3, h4⟩ := h
  unfold maxLen at h2
  by_cases hl : 0 < L.length
  · obtain ⟨g, o, rfl, hg, hc⟩ := h4 hl
    have HA := Lib.hid (area_at hl)
    obtain ⟨c0, c1⟩ := hc (L.length - 1) (by omega)
    have z : ((L.length : Int) == 0) = false := beq_eq_false_iff_ne.2 (by omega)
    have e1 : ((L.length : Int) - 1).toNat = L.length - 1 := by omega
    clear hc h4
    go_enter Try.func16, Try.ntmps16
    go_wp2
    go_ret
    exact ⟨ret_int HA.out.symm, rfl⟩
  · obtain rfl : L = [] := List.eq_nil_of_length_eq_zero (by omega)
    go_enter Try.func16, Try.ntmps16
    go_wp2
    go_ret
    exact ⟨rfl, rfl⟩

def No (L : List E) (s : Int) (k : Nat) : Prop := ∀ j (hj : j < L.length), j < k → hit s L[j] = false
theorem No.step {L : List E} {s : Int} {k : Nat} (h : No L s k) (hk : k < L.length) (hn : hit s L[k] = false) : No L s (k + 1) := fun j hj hlt => by
  by_cases e : j = k
  · subst e; exact hn
  · exact h j hj (by omega)
theorem ent_yes {L : List E} {s : Int} {k : Nat} (h : No L s k) (hk : k < L.length) (hn : hit s L[k] = true) : inP L s ∧ idx L s = k ∧ entV L s = (k : Int) := by
  have e := idx_of hk hn h
  have i : inP L s := by unfold inP; omega
  exact ⟨i, e, by rw [entV, if_pos i, e]⟩
theorem ent_no {L : List E} {s : Int} (h : No L s L.length) : ¬ inP L s ∧ entV L s = -1 := by
  have i := idx_none h
  exact ⟨i, if_neg i⟩

set_option maxHeartbeats 1000000 in
theorem ent_any (w : World) (v : Value) (L : List E) (s : Int) (h : Sr w v L) : Calls Try.prog 24 #[v, .int .i64 s] w fun e w' => e = .returned (.int .i64 (entV L s)) ∧ Below w.heap.size w w' := by
  obtain ⟨A, c, rfl, h1, h2, h3, h4⟩ := h
  unfold maxLen at h2
  go_enter Try.func24, Try.ntmps24
  go_wp2
  go_loopw [9] (fun t wr => ∃ k : Nat, k ≤ L.length ∧ t = .int .i64 k ∧ Below w.heap.size w wr ∧ No L s k) (fun t _ => L.length - (intOf t).toNat)
  case atStart => exact ⟨0, by omega, rfl, Below.refl _ _, fun j _ hj => by omega⟩
  case round =>
    obtain ⟨k, hk, rfl, hB, hN⟩ := hrel
    by_cases hlt : k < L.length
    · obtain ⟨g, o, rfl, hg, hc⟩ := h4 (by omega)
      obtain ⟨c0, c1⟩ := hc k hlt
      have d0 := (hB.cell (p := ⟨g, o + k * 2, none⟩) hg).trans c0
      have d1 := (hB.cell (p := ⟨g, o + k * 2 + 1, none⟩) hg).trans c1
      have hgr : g < wr.heap.size := Nat.lt_of_lt_of_le hg hB.size
      clear c0 c1 hc h4
      by_cases hh : hit s L[k] = true
      · obtain ⟨q1, q2, q3⟩ := ent_yes hN hlt hh
        have Q3 := Lib.hid q3
        simp only [hit, Bool.and_eq_true, beq_iff_eq] at hh
        rw [hh.1] at d1
        rw [hh.2] at d0
        clear hh q1 q2 q3
        go_wp2
        go_ret
        exact ⟨ret_int Q3.out.symm, hB.alloc hB.size _⟩
      · have hh' : hit s L[k] = false := by simpa using hh
        have N' := Lib.hid (hN.step hlt hh')
        clear hh
        cases hq : (L[k]).2 with
        | false =>
          rw [hq] at d1
          clear hh' hq
          go_wp2
          go_roundw
          case rel => exact ⟨k + 1, by omega, by go_num, hB.alloc hB.size _, N'.out⟩
          case measure => simp [intOf]; omega
        | true =>
          rw [hq] at d1
          have hne : ((L[k]).1 == s) = false := by simpa [hit, hq] using hh'
          clear hh' hq
          go_wp2
          go_roundw
          case rel => exact ⟨k + 1, by omega, by go_num, hB.alloc hB.size _, N'.out⟩
          case measure => simp [intOf]; omega
    · obtain rfl : k = L.length := by omega
      have Q := Lib.hid (ent_no hN).2
      go_wp2
      go_ret
      exact ⟨ret_int Q.out.symm, hB⟩
set_option maxHeartbeats 1000000 in
theorem reach_any (w : World) (v : Value) (L : List E) (s : Int) (h : Sr w v L) : Calls Try.prog 17 #[v, .int .i64 s] w fun e w' => e = .returned (.bool (reachV L s)) ∧ Below w.heap.size w w' := by
  have HR : Hid (reachV L s = ((s == 0) || decide (0 ≤ entV L s))) := Lib.hid (by rw [ent_nonneg]; rfl)
  by_cases hz : s = 0
  · have z : (s == 0) = true := by simpa using hz
    rw [z] at HR
    subst hz
    go_enter Try.func17, Try.ntmps17
    go_wp2
    go_ret
    exact ⟨ret_bool (by rw [HR.out]; rfl), Below.refl _ _⟩
  · have z : (s == 0) = false := by simpa using hz
    rw [z] at HR
    go_enter Try.func17, Try.ntmps17
    go_wp2_with fail
    refine (ent_any _ _ L s h).mono ?_
    rintro e w1 ⟨rfl, k1⟩
    go_wp2
    go_ret
    exact ⟨ret_bool (by rw [HR.out]; rfl), k1⟩
set_option maxHeartbeats 1000000 in
theorem par_any (w : World) (v : Value) (L : List E) (s : Int) (h : Sr w v L) : Calls Try.prog 19 #[v, .int .i64 s] w fun e w' => e = .returned (.int .i64 (parV L s)) ∧ Below w.heap.size w w' := by
  by_cases hi : inP L s
  · have HE : Hid (entV L s = (idx L s : Int)) := Lib.hid (if_pos hi)
    have HP : Hid (parV L s = areaV (L.take (idx L s))) := Lib.hid (if_pos hi)
    have hlt : idx L s < L.length := hi
    clear hi
    generalize idx L s = k at *
    have h' := h
    obtain ⟨A, c, rfl, h1, h2, h3, h4⟩ := h
    have sl := slice_h A L.length c k (by omega)
    obtain ⟨s1, s2⟩ := sl
    clear h4
    have hlen : L.length ≤ 9223372036854775807 := by unfold maxLen at h2; omega
    go_enter Try.func19, Try.ntmps19
    go_wp2_with fail
    refine (ent_any _ _ L s h').mono ?_
    rintro e w1 ⟨rfl, k1⟩
    rw [HE.out]
    go_wp2_with fail
    refine (area_any _ _ (L.take k) ((h'.below k1).part (by omega) (by omega) (Nat.le_refl _))).mono ?_
    rintro e w2 ⟨rfl, rfl⟩
    go_wp2
    go_ret
    exact ⟨ret_int HP.out.symm, k1⟩
  · have HE : Hid (entV L s = -1) := Lib.hid (if_neg hi)
    have HP : Hid (parV L s = -1) := Lib.hid (if_neg hi)
    clear hi
    go_enter Try.func19, Try.ntmps19
    go_wp2_with fail
    refine (ent_any _ _ L s h).mono ?_
    rintro e w1 ⟨rfl, k1⟩
    rw [HE.out]
    go_wp2
    go_ret
    exact ⟨ret_int HP.out.symm, k1⟩
theorem above_at {L : List E} {s b : Int} {k : Nat} (h0 : s ≠ 0) (h1 : s ≠ b) (hk : k < 8) (e : up L (k + 1) b = s) : aboveV L s b = true := above_iff.2 (.inr (.inr ⟨k, hk, e⟩))
theorem above_end {L : List E} {s b : Int} (h0 : s ≠ 0) (h1 : s ≠ b) (h : comes L s b 8 = false) : aboveV L s b = false := by
  unfold aboveV
  rw [h]
  simp [h0, h1]
theorem comes_step {L : List E} {s b : Int} {k : Nat} (h : comes L s b k = false) (hn : ¬ up L (k + 1) b = s) : comes L s b (k + 1) = false := by
  unfold comes
  rw [h]
  simpa using hn

set_option maxHeartbeats 1000000 in
theorem above_any (w : World) (v : Value) (L : List E) (s b : Int) (h : Sr w v L) : Calls Try.prog 21 #[v, .int .i64 s, .int .i64 b] w fun e w' => e = .returned (.bool (aboveV L s b)) ∧ Below w.heap.size w w' := by
  obtain ⟨A, c, e, _⟩ := id h
  subst e
  by_cases h0 : s = 0
  · have HA : Hid (aboveV L s b = true) := Lib.hid (above_iff.2 (.inl h0))
    subst h0
    go_enter Try.func21, Try.ntmps21
    go_wp2
    go_ret
    exact ⟨ret_bool HA.out.symm, Below.refl _ _⟩
  · by_cases h1 : s = b
    · have HA : Hid (aboveV L s b = true) := Lib.hid (above_iff.2 (.inr (.inl h1)))
      have z : (s == 0) = false := by simpa using h0
      subst h1
      go_enter Try.func21, Try.ntmps21
      go_wp2
      go_ret
      exact ⟨ret_bool HA.out.symm, Below.refl _ _⟩
    · have z : (s == 0) = false := by simpa using h0
      have z1 : (s == b) = false := by simpa using h1
      go_enter Try.func21, Try.ntmps21
      go_wp2_with fail
      go_loopw [7, 16] (fun u t wr => ∃ k : Nat, k ≤ 8 ∧ t = .int .i64 k ∧ u = .int .i64 (up L k b) ∧ Below w.heap.size w wr ∧ Hid (comes L s b k = false)) (fun _ t _ => 8 - (intOf t).toNat)
      case atStart => exact ⟨0, by omega, rfl, rfl, Below.refl _ _, Lib.hid rfl⟩
      case round =>
        obtain ⟨k, hk, rfl, rfl, hB, hC⟩ := hrel
        by_cases hlt : k < 8
        · have hs := (h.below hB)
          go_wp2_with fail
          refine (par_any _ _ L _ hs).mono ?_
          rintro e w1 ⟨rfl, k1⟩
          have B1 : Below w.heap.size w w1 := hB.trans (k1.mono hB.size)
          have HU : Hid (parV L (up L k b) = up L (k + 1) b) := Lib.hid rfl
          by_cases he : up L (k + 1) b = s
          · have HA : Hid (aboveV L s b = true) := Lib.hid (above_at h0 h1 hlt he)
            rw [HU.out, he]
            clear he
            go_wp2
            go_ret
            exact ⟨ret_bool HA.out.symm, B1⟩
          · have C' := Lib.hid (comes_step hC.out he)
            have z2 : (up L (k + 1) b == s) = false := by simpa using he
            rw [HU.out]
            clear he
            go_wp2
            go_roundw
            case rel => exact ⟨k + 1, by omega, by go_num, rfl, B1, C'⟩
            case measure => simp [intOf]; omega
        · obtain rfl : k = 8 := by omega
          have HA : Hid (aboveV L s b = false) := Lib.hid (above_end h0 h1 hC.out)
          go_wp2
          go_ret
          exact ⟨ret_bool HA.out.symm, hB⟩
end Go.Proofs.Ytjebkchlbbfabaa.Chain
