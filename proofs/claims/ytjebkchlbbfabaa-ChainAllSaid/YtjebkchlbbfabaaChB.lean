/-
  Contracts of the document's own Reach, Parent, Above, and of Same.
-/
import Derived.Test.YtjebkchlbbfabaaChA
namespace Go.Proofs.Ytjebkchlbbfabaa.Chain
open Go.ChangeShapes Go.WideShapes Go.ChangeAt Go.RowKit
set_option linter.unusedVariables false

set_option maxHeartbeats 1000000 in
theorem refreach_any (w : World) (v : Value) (L : List E) (s : Int) (h : Sr w v L) : Calls Try.prog 18 #[v, .int .i64 s] w fun e w' => e = .returned (.bool (reachV L s)) ∧ w = w' := by
  obtain ⟨A, c, rfl, h1, h2, h3, h4⟩ := h
  unfold maxLen at h2
  go_enter Try.func18, Try.ntmps18
  go_wp2
  go_loop [5] (fun t => ∃ k : Nat, k ≤ L.length ∧ t = .int .i64 k ∧ No L s k) (fun t => L.length - (intOf t).toNat)
  case atStart => exact ⟨0, by omega, rfl, fun j _ hj => by omega⟩
  case round =>
    obtain ⟨k, hk, rfl, hN⟩ := hrel
    by_cases hlt : k < L.length
    · obtain ⟨g, o, rfl, hg, hc⟩ := h4 (by omega)
      obtain ⟨d0, d1⟩ := hc k hlt
      clear hc h4
      by_cases hh : hit s L[k] = true
      · have Q3 := Lib.hid (reach_iff.2 (.inr (ent_yes hN hlt hh).1))
        simp only [hit, Bool.and_eq_true, beq_iff_eq] at hh
        rw [hh.1] at d1
        rw [hh.2] at d0
        clear hh
        go_wp2
        go_ret
        exact ⟨ret_bool Q3.out.symm, rfl⟩
      · have hh' : hit s L[k] = false := by simpa using hh
        have N' := Lib.hid (hN.step hlt hh')
        clear hh
        cases hq : (L[k]).2 with
        | false =>
          rw [hq] at d1
          clear hh' hq
          go_wp2
          go_round
          case rel => exact ⟨k + 1, by omega, by go_num, N'.out⟩
          case measure => simp [intOf]; omega
        | true =>
          rw [hq] at d1
          have hne : ((L[k]).1 == s) = false := by simpa [hit, hq] using hh'
          clear hh' hq
          go_wp2
          go_round
          case rel => exact ⟨k + 1, by omega, by go_num, N'.out⟩
          case measure => simp [intOf]; omega
    · obtain rfl : k = L.length := by omega
      have Q : Hid (reachV L s = (s == 0)) := Lib.hid (by
        have := (ent_no hN).1
        rw [inP_iff] at this
        unfold reachV
        simp [this])
      go_wp2
      go_ret
      exact ⟨ret_bool Q.out.symm, rfl⟩
set_option maxHeartbeats 1000000 in
theorem refpar_any (w : World) (v : Value) (L : List E) (s : Int) (h : Sr w v L) : Calls Try.prog 20 #[v, .int .i64 s] w fun e w' => e = .returned (.int .i64 (parV L s)) ∧ w = w' := by
  have h' := h
  obtain ⟨A, c, rfl, h1, h2, h3, h4⟩ := h
  have hlen : L.length ≤ 9223372036854775807 := by unfold maxLen at h2; omega
  go_enter Try.func20, Try.ntmps20
  go_wp2
  go_loop [5] (fun t => ∃ k : Nat, k ≤ L.length ∧ t = .int .i64 k ∧ No L s k) (fun t => L.length - (intOf t).toNat)
  case atStart => exact ⟨0, by omega, rfl, fun j _ hj => by omega⟩
  case round =>
    obtain ⟨k, hk, rfl, hN⟩ := hrel
    by_cases hlt : k < L.length
    · obtain ⟨g, o, rfl, hg, hc⟩ := h4 (by omega)
      obtain ⟨d0, d1⟩ := hc k hlt
      clear hc h4
      by_cases hh : hit s L[k] = true
      · obtain ⟨q1, q2, q3⟩ := ent_yes hN hlt hh
        have HP : Hid (parV L s = areaV (L.take k)) := Lib.hid (by rw [parV, if_pos q1, q2])
        simp only [hit, Bool.and_eq_true, beq_iff_eq] at hh
        rw [hh.1] at d1
        rw [hh.2] at d0
        clear hh q1 q2 q3
        obtain ⟨s1, s2⟩ := slice_h (some ⟨g, o, none⟩) L.length c k (by omega)
        go_wp2_with fail
        refine (refarea_any _ _ (L.take k) (h'.part (by omega) (by omega) (Nat.le_refl _))).mono ?_
        rintro e w2 ⟨rfl, rfl⟩
        go_wp2
        go_ret
        exact ⟨ret_int HP.out.symm, rfl⟩
      · have hh' : hit s L[k] = false := by simpa using hh
        have N' := Lib.hid (hN.step hlt hh')
        clear hh
        cases hq : (L[k]).2 with
        | false =>
          rw [hq] at d1
          clear hh' hq
          go_wp2
          go_round
          case rel => exact ⟨k + 1, by omega, by go_num, N'.out⟩
          case measure => simp [intOf]; omega
        | true =>
          rw [hq] at d1
          have hne : ((L[k]).1 == s) = false := by simpa [hit, hq] using hh'
          clear hh' hq
          go_wp2
          go_round
          case rel => exact ⟨k + 1, by omega, by go_num, N'.out⟩
          case measure => simp [intOf]; omega
    · obtain rfl : k = L.length := by omega
      have HP : Hid (parV L s = -1) := Lib.hid (if_neg (ent_no hN).1)
      go_wp2
      go_ret
      exact ⟨ret_int HP.out.symm, rfl⟩
set_option maxHeartbeats 1000000 in
theorem refabove_any (w : World) (v : Value) (L : List E) (s b : Int) (h : Sr w v L) : Calls Try.prog 22 #[v, .int .i64 s, .int .i64 b] w fun e w' => e = .returned (.bool (aboveV L s b)) ∧ w = w' := by
  obtain ⟨A, c, e, _⟩ := id h
  subst e
  by_cases h0 : s = 0
  · have HA : Hid (aboveV L s b = true) := Lib.hid (above_iff.2 (.inl h0))
    subst h0
    go_enter Try.func22, Try.ntmps22
    go_wp2
    go_ret
    exact ⟨ret_bool HA.out.symm, rfl⟩
  · by_cases h1 : s = b
    · have HA : Hid (aboveV L s b = true) := Lib.hid (above_iff.2 (.inr (.inl h1)))
      have z : (s == 0) = false := by simpa using h0
      subst h1
      go_enter Try.func22, Try.ntmps22
      go_wp2
      go_ret
      exact ⟨ret_bool HA.out.symm, rfl⟩
    · have z : (s == 0) = false := by simpa using h0
      have z1 : (s == b) = false := by simpa using h1
      go_enter Try.func22, Try.ntmps22
      go_wp2_with fail
      go_loop [7, 8] (fun u t => ∃ k : Nat, k ≤ 8 ∧ t = .int .i64 k ∧ u = .int .i64 (up L k b) ∧ Hid (comes L s b k = false)) (fun _ t => 8 - (intOf t).toNat)
      case atStart => exact ⟨0, by omega, rfl, rfl, Lib.hid rfl⟩
      case round =>
        obtain ⟨k, hk, rfl, rfl, hC⟩ := hrel
        by_cases hlt : k < 8
        · go_wp2_with fail
          refine (refpar_any _ _ L _ h).mono ?_
          rintro e w1 ⟨rfl, rfl⟩
          have HU : Hid (parV L (up L k b) = up L (k + 1) b) := Lib.hid rfl
          by_cases he : up L (k + 1) b = s
          · have HA : Hid (aboveV L s b = true) := Lib.hid (above_at h0 h1 hlt he)
            rw [HU.out, he]
            clear he
            go_wp2
            go_ret
            exact ⟨ret_bool HA.out.symm, rfl⟩
          · have C' := Lib.hid (comes_step hC.out he)
            have z2 : (up L (k + 1) b == s) = false := by simpa using he
            rw [HU.out]
            clear he
            go_wp2
            go_round
            case rel => exact ⟨k + 1, by omega, by go_num, rfl, C'⟩
            case measure => simp [intOf]; omega
        · obtain rfl : k = 8 := by omega
          have HA : Hid (aboveV L s b = false) := Lib.hid (above_end h0 h1 hC.out)
          go_wp2
          go_ret
          exact ⟨ret_bool HA.out.symm, rfl⟩

def eqB (a : Int) (b : Bool) (c : Int) (d : Bool) : Bool := decide (a = c ∧ b = d)
theorem run_eq (a : Int) (b : Bool) (c : Int) (d : Bool) (W : World) : (Op.equalIn 10000 T (.agg #[.int .i64 a, .bool b]) (.agg #[.int .i64 c, .bool d])).run Try.prog W = .ok (eqB a b c d) W := by
  unfold eqB
  by_cases h1 : a = c
  · subst h1
    by_cases h2 : b = d
    · subst h2
      simp [go_sem]
    · simp [go_sem, h2]
  · simp [go_sem, h1]
def sameB (L M : List E) : Bool := decide (L = M)
theorem same_refl (L : List E) : sameB L L = true := decide_eq_true rfl
theorem same_no {L M : List E} {k : Nat} (h1 : k < L.length) (h2 : k < M.length) (h : L[k] ≠ M[k]) : sameB L M = false := by
  refine decide_eq_false fun e => ?_
  subst e
  exact h rfl
theorem same_len {L M : List E} (h : L.length ≠ M.length) : sameB L M = false := by
  refine decide_eq_false fun e => ?_
  subst e
  exact h rfl
def Eqs (L M : List E) (k : Nat) : Prop := ∀ i (h1 : i < L.length) (h2 : i < M.length), i < k → L[i] = M[i]
theorem same_yes {L M : List E} (hl : L.length = M.length) (h : Eqs L M L.length) : sameB L M = true := by
  refine decide_eq_true ?_
  exact List.ext_getElem hl fun i h1 h2 => h i h1 h2 h1
set_option maxHeartbeats 1000000 in
theorem same_any (w : World) (u v : Value) (L M : List E) (h : Sr w u L) (h' : Sr w v M) : Calls Try.prog 12 #[u, v] w fun e w' => e = .returned (.bool (sameB L M)) ∧ Below w.heap.size w w' := by
  obtain ⟨A, c, rfl, h1, h2, h3, h4⟩ := h
  obtain ⟨B, d, rfl, k1, k2, k3, k4⟩ := h'
  unfold maxLen at h2 k2
  by_cases hl : L.length = M.length
  · have HL := Lib.hid hl
    have z : ((L.length : Int) == (M.length : Int)) = true := by simp [hl]
    have z' : ((L.length : Int) != (M.length : Int)) = false := by simp [hl]
    have hle : L.length ≤ M.length := by omega
    clear hl
    go_enter Try.func12, Try.ntmps12
    go_wp2_with fail
    go_loopw [5] (fun t wr => ∃ k : Nat, k ≤ L.length ∧ t = .int .i64 k ∧ Below w.heap.size w wr ∧ Hid (Eqs L M k)) (fun t _ => L.length - (intOf t).toNat)
    case atStart => exact ⟨0, by omega, rfl, Below.refl _ _, Lib.hid (fun i _ _ hi => by omega)⟩
    case round =>
      obtain ⟨k, hk, rfl, hB, hQ⟩ := hrel
      by_cases hlt : k < L.length
      · obtain ⟨g, o, rfl, hg, hc⟩ := h4 (by omega)
        obtain ⟨g', o', rfl, hg', hc'⟩ := k4 (by omega)
        have d0 := (hB.cell (p := ⟨g, o + k * 2, none⟩) hg).trans (hc k hlt).1
        have d1 := (hB.cell (p := ⟨g, o + k * 2 + 1, none⟩) hg).trans (hc k hlt).2
        have f0 := (hB.cell (p := ⟨g', o' + k * 2, none⟩) hg').trans (hc' k (by omega)).1
        have f1 := (hB.cell (p := ⟨g', o' + k * 2 + 1, none⟩) hg').trans (hc' k (by omega)).2
        have hr := run_eq (L[k]).1 (L[k]).2 (M[k]).1 (M[k]).2
        have i1 : (k : Int) < (L.length : Int) := by omega
        have i2 : (k : Int) < (M.length : Int) := by omega
        clear hc hc' h4 k4
        by_cases he : L[k] = M[k]
        · have Q' := Lib.hid (show Eqs L M (k + 1) from fun i a1 a2 hi => by
            by_cases e : i = k
            · subst e; exact he
            · exact hQ.out i a1 a2 (by omega))
          have hq : eqB (L[k]).1 (L[k]).2 (M[k]).1 (M[k]).2 = true := decide_eq_true (by rw [he]; exact ⟨rfl, rfl⟩)
          rw [hq] at hr
          clear he hq
          go_wp2_with fail
          go_quiet (fail)
          go_wp2
          go_roundw
          case rel => exact ⟨k + 1, by omega, by go_num, hB.trans ⟨rfl, rfl, rfl, Nat.le_refl _, fun _ _ => rfl⟩, Q'⟩
          case measure => simp [intOf]; omega
        · have hq : eqB (L[k]).1 (L[k]).2 (M[k]).1 (M[k]).2 = false := decide_eq_false fun e => he (Prod.ext e.1 e.2)
          have N := Lib.hid (same_no hlt (by omega) he)
          rw [hq] at hr
          clear he hq
          go_wp2_with fail
          go_quiet (fail)
          go_wp2
          go_ret
          exact ⟨ret_bool N.out.symm, hB.trans ⟨rfl, rfl, rfl, Nat.le_refl _, fun _ _ => rfl⟩⟩
      · obtain rfl : k = L.length := by omega
        have Y := Lib.hid (same_yes HL.out hQ.out)
        go_wp2
        go_ret
        exact ⟨ret_bool Y.out.symm, hB⟩
  · have N := Lib.hid (same_len hl)
    have z : ((L.length : Int) == (M.length : Int)) = false := beq_eq_false_iff_ne.2 (by omega)
    have z' : ((L.length : Int) != (M.length : Int)) = true := by rw [bne, z]; rfl
    clear hl h4 k4
    go_enter Try.func12, Try.ntmps12
    go_wp2
    go_ret
    exact ⟨ret_bool N.out.symm, Below.refl _ _⟩
end Go.Proofs.Ytjebkchlbbfabaa.Chain
