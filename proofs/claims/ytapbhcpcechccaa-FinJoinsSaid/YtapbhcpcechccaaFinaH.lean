/-
  Contracts of the document's Words and Ints (whether two rows are the same), of few and shown.
-/
import Derived.Test.YtapbhcpcechccaaFinaF
namespace Go.Proofs.Ytapbhcpcechccaa.Fina
open Go.ChangeShapes Go.WideShapes Go.ChangeAt Go.RowKit
open Slic
set_option linter.unusedVariables false

def sameB (S T : List Int) : Bool := decide (S = T)
theorem same_self (S : List Int) : sameB S S = true := decide_eq_true rfl

set_option maxHeartbeats 2000000 in
theorem words_any (w : World) (v u : Value) (S T : List Int) (h : Sr kU w v S) (h' : Sr kU w u T) : Calls Try.prog 17 #[v, u] w fun e w' => e = .returned (.bool (sameB S T)) ∧ Below w.heap.size w w' := by
  have hs := h
  have ht := h'
  obtain ⟨A, c, rfl, h1, h2⟩ := h.form
  obtain ⟨A', c', rfl, h3, h4⟩ := h'.form
  clear h h'
  have l1 : S.length ≤ 9223372036854775807 := by unfold maxLen at h2; omega
  have l2 : T.length ≤ 9223372036854775807 := by unfold maxLen at h4; omega
  by_cases hl : S.length = T.length
  rotate_left
  · have q : ((S.length : Int) != (T.length : Int)) = true := by simpa using (show ¬ (S.length : Int) = (T.length : Int) by omega)
    have q' : (S.length != T.length) = true := by simpa using hl
    have Y : Hid (sameB S T = false) := Lib.hid (decide_eq_false fun e => hl (by rw [e]))
    clear hl
    go_enter Try.func17, Try.ntmps17
    go_wp2
    go_ret
    exact ⟨ret_bool Y.out.symm, Below.refl _ _⟩
  · have HL := Lib.hid hl
    have q : ((S.length : Int) != (T.length : Int)) = false := by simpa using (show (S.length : Int) = (T.length : Int) by omega)
    have q' : (S.length != T.length) = false := by simpa using hl
    clear hl
    go_enter Try.func17, Try.ntmps17
    go_wp2
    go_loopw [5] (fun t wr => ∃ k : Nat, k ≤ S.length ∧ t = .int .i64 k ∧ Below w.heap.size w wr ∧ Hid (S.take k = T.take k)) (fun t _ => S.length - (intOf t).toNat)
    case atStart => exact ⟨0, by omega, rfl, Below.refl _ _, Lib.hid (by simp)⟩
    case round =>
      obtain ⟨k, hk, rfl, hB, hT⟩ := hrel
      by_cases hlt : k < S.length
      · have hlt' : k < T.length := by have := HL.out; omega
        obtain ⟨g, o, rfl, hg, c0⟩ := word_at (hs.below hB) k hlt
        obtain ⟨g', o', rfl, hg', c1⟩ := word_at (ht.below hB) k hlt'
        have e1 := Lib.hid (List.take_succ_eq_append_getElem hlt)
        have e2 := Lib.hid (List.take_succ_eq_append_getElem hlt')
        have e3 := Lib.hid (show ∀ (e : S = T), S[k] = T[k] from fun e => by subst e; rfl)
        generalize S[k] = x at *
        generalize T[k] = y at *
        have i0 : (0 : Int) ≤ (k : Int) := by omega
        have i1 : (k : Int) < (S.length : Int) := by omega
        have i2 : (k : Int) < (T.length : Int) := by omega
        have z1 : decide ((k : Int) < (S.length : Int)) = true := decide_eq_true i1
        by_cases hxy : x = y
        · subst hxy
          have Y : Hid (S.take (k + 1) = T.take (k + 1)) := Lib.hid (by rw [e1.out, e2.out, hT.out])
          go_wp2
          go_region
          go_wp2
          go_roundw
          case rel => exact ⟨k + 1, by omega, by go_num, hB.drew, Y⟩
          case measure => simp [intOf]; omega
        · have z : (x != y) = true := by simpa using hxy
          have Y : Hid (sameB S T = false) := Lib.hid (decide_eq_false fun e => hxy (e3.out e))
          clear hxy
          go_wp2
          go_region
          go_wp2
          go_ret
          exact ⟨ret_bool Y.out.symm, hB.drew⟩
      · obtain rfl : k = S.length := by omega
        have z1 : decide ((S.length : Int) < (S.length : Int)) = false := decide_eq_false (by omega)
        have Y : Hid (sameB S T = true) := Lib.hid (decide_eq_true (by have := hT.out; rwa [List.take_length, HL.out, List.take_length] at this))
        go_wp2
        go_ret
        exact ⟨ret_bool Y.out.symm, hB⟩

set_option maxHeartbeats 2000000 in
theorem ints_any (w : World) (v u : Value) (S T : List Int) (h : Sr kI w v S) (h' : Sr kI w u T) : Calls Try.prog 18 #[v, u] w fun e w' => e = .returned (.bool (sameB S T)) ∧ Below w.heap.size w w' := by
  have hs := h
  have ht := h'
  obtain ⟨A, c, rfl, h1, h2⟩ := h.form
  obtain ⟨A', c', rfl, h3, h4⟩ := h'.form
  clear h h'
  have l1 : S.length ≤ 9223372036854775807 := by unfold maxLen at h2; omega
  have l2 : T.length ≤ 9223372036854775807 := by unfold maxLen at h4; omega
  by_cases hl : S.length = T.length
  rotate_left
  · have q : ((S.length : Int) != (T.length : Int)) = true := by simpa using (show ¬ (S.length : Int) = (T.length : Int) by omega)
    have q' : (S.length != T.length) = true := by simpa using hl
    have Y : Hid (sameB S T = false) := Lib.hid (decide_eq_false fun e => hl (by rw [e]))
    clear hl
    go_enter Try.func18, Try.ntmps18
    go_wp2
    go_ret
    exact ⟨ret_bool Y.out.symm, Below.refl _ _⟩
  · have HL := Lib.hid hl
    have q : ((S.length : Int) != (T.length : Int)) = false := by simpa using (show (S.length : Int) = (T.length : Int) by omega)
    have q' : (S.length != T.length) = false := by simpa using hl
    clear hl
    go_enter Try.func18, Try.ntmps18
    go_wp2
    go_loopw [5] (fun t wr => ∃ k : Nat, k ≤ S.length ∧ t = .int .i64 k ∧ Below w.heap.size w wr ∧ Hid (S.take k = T.take k)) (fun t _ => S.length - (intOf t).toNat)
    case atStart => exact ⟨0, by omega, rfl, Below.refl _ _, Lib.hid (by simp)⟩
    case round =>
      obtain ⟨k, hk, rfl, hB, hT⟩ := hrel
      by_cases hlt : k < S.length
      · have hlt' : k < T.length := by have := HL.out; omega
        obtain ⟨g, o, rfl, hg, c0⟩ := num_at (hs.below hB) k hlt
        obtain ⟨g', o', rfl, hg', c1⟩ := num_at (ht.below hB) k hlt'
        have e1 := Lib.hid (List.take_succ_eq_append_getElem hlt)
        have e2 := Lib.hid (List.take_succ_eq_append_getElem hlt')
        have e3 := Lib.hid (show ∀ (e : S = T), S[k] = T[k] from fun e => by subst e; rfl)
        generalize S[k] = x at *
        generalize T[k] = y at *
        have i0 : (0 : Int) ≤ (k : Int) := by omega
        have i1 : (k : Int) < (S.length : Int) := by omega
        have i2 : (k : Int) < (T.length : Int) := by omega
        have z1 : decide ((k : Int) < (S.length : Int)) = true := decide_eq_true i1
        by_cases hxy : x = y
        · subst hxy
          have Y : Hid (S.take (k + 1) = T.take (k + 1)) := Lib.hid (by rw [e1.out, e2.out, hT.out])
          go_wp2
          go_region
          go_wp2
          go_roundw
          case rel => exact ⟨k + 1, by omega, by go_num, hB.drew, Y⟩
          case measure => simp [intOf]; omega
        · have z : (x != y) = true := by simpa using hxy
          have Y : Hid (sameB S T = false) := Lib.hid (decide_eq_false fun e => hxy (e3.out e))
          clear hxy
          go_wp2
          go_region
          go_wp2
          go_ret
          exact ⟨ret_bool Y.out.symm, hB.drew⟩
      · obtain rfl : k = S.length := by omega
        have z1 : decide ((S.length : Int) < (S.length : Int)) = false := decide_eq_false (by omega)
        have Y : Hid (sameB S T = true) := Lib.hid (decide_eq_true (by have := hT.out; rwa [List.take_length, HL.out, List.take_length] at this))
        go_wp2
        go_ret
        exact ⟨ret_bool Y.out.symm, hB⟩

def Few (w : World) (M : List Int) (e : Ending) (w' : World) : Prop := ∃ v, e = .returned v ∧ Sr kU w v M ∧ w = w'
set_option maxHeartbeats 1000000 in
theorem few_any (w : World) (v : Value) (L : List Int) (h : Sr kU w v L) : Calls Try.prog 10 #[v] w (Few w (L.take 10)) := by
  have h' := h
  obtain ⟨A, c, rfl, h1, h2⟩ := h.form
  clear h
  have hlen : L.length ≤ 9223372036854775807 := by unfold maxLen at h2; omega
  by_cases hl : L.length ≤ 10
  · obtain ⟨s1, s2⟩ := slice_h kU A L.length c L.length h1
    have P := Lib.hid (List.take_of_length_le hl)
    have z : decide ((L.length : Int) ≤ 10) = true := decide_eq_true (by omega)
    have z2 : decide ((10 : Int) < (L.length : Int)) = false := decide_eq_false (by omega)
    have z3 : min (L.length : Int) 10 = (L.length : Int) := by omega
    simp only [show kU.X = 24 from rfl] at s1 s2
    go_enter Try.func10, Try.ntmps10
    go_wp2
    go_ret
    refine ⟨_, rfl, ?_, rfl⟩
    rw [P.out]
    exact h'
  · obtain ⟨s1, s2⟩ := slice_h kU A L.length c 10 (by omega)
    simp only [Int.cast_ofNat_Int, show kU.X = 24 from rfl] at s1 s2
    have z3 : min (L.length : Int) 10 = 10 := by omega
    go_enter Try.func10, Try.ntmps10
    go_wp2
    go_ret
    exact ⟨_, rfl, h'.part (by omega) (by omega) (Nat.le_refl _), rfl⟩

set_option maxHeartbeats 1000000 in
theorem shown_any (w : World) : Calls Try.prog 8 #[] w fun e w' => e = .returned (.bool true) ∧ Below w.heap.size w w' := by
  have hw : Hid (walk [(3, 0, 1), (0, 7, 0), (0, 8, 0)] 0 [0, 5] = ⟨[0, 5], [8], false, 2⟩) := Lib.hid (by simp [walk, leftV, slotsV, sayV, holdV, inB])
  go_enter Try.func8, Try.ntmps8
  go_wp2_with fail
  have L0 : Own kF (w.alloc (.cells #[.int .u8 3, .int .i64 0, .int .i64 1, .int .u8 0, .int .i64 7, .int .i64 0, .int .u8 0, .int .i64 8, .int .i64 0] 32)) 0 (.slice (some ⟨w.heap.size, 0, none⟩) 3 3) [(3, 0, 1), (0, 7, 0), (0, 8, 0)] := Own.lit w 0 (Nat.zero_le _) _ _ rfl (by decide) 3 rfl
  have L1 := L0.below (below_one _ (.cells #[.int .u64 0, .int .u64 5] 41))
  have S0 : Own kU ((w.alloc (.cells #[.int .u8 3, .int .i64 0, .int .i64 1, .int .u8 0, .int .i64 7, .int .i64 0, .int .u8 0, .int .i64 8, .int .i64 0] 32)).alloc (.cells #[.int .u64 0, .int .u64 5] 41)) 0 (.slice (some ⟨(w.alloc (.cells #[.int .u8 3, .int .i64 0, .int .i64 1, .int .u8 0, .int .i64 7, .int .i64 0, .int .u8 0, .int .i64 8, .int .i64 0] 32)).heap.size, 0, none⟩) 2 2) [0, 5] := Own.lit _ 0 (Nat.zero_le _) _ _ rfl (by decide) 2 rfl
  rw [World.size_alloc] at S0
  have B0 := (below_one w (.cells #[.int .u8 3, .int .i64 0, .int .i64 1, .int .u8 0, .int .i64 7, .int .i64 0, .int .u8 0, .int .i64 8, .int .i64 0] 32)).alloc (by simp) (.cells #[.int .u64 0, .int .u64 5] 41)
  refine (run_any _ _ _ [(3, 0, 1), (0, 7, 0), (0, 8, 0)] [0, 5] L1.sr (by simp) S0.sr (by simp) (by intro o ho; simp at ho; rcases ho with rfl | rfl | rfl <;> simp) (by intro o ho; simp at ho; rcases ho with rfl | rfl | rfl <;> simp)).mono ?_
  rintro e w1 ⟨vs, vd, rfl, Sf, Df, k1⟩
  rw [hw.out] at Sf Df ⊢
  have B1 := B0.trans (k1.mono (by simp; omega))
  obtain ⟨g, c, rfl, g1, g2, g3, g4, g5, g6⟩ := Df.form (by simp)
  have d0 := g6 0 0 _ (by simp) rfl
  simp [show kI.m = 1 from rfl] at d0
  clear g5 g6 L0 L1 S0 B0 k1
  go_wp2
  go_ret
  exact ⟨rfl, B1⟩
end Go.Proofs.Ytapbhcpcechccaa.Fina
