/-
  Contracts of the document's Step.
-/
import Derived.Test.YteakglkagmghpaaGreatFinp
import Derived.Deep.DeepCutAuto
import Derived.Deep.RegionLaw
import Derived.Test.YteakglkagmghpaaGreatBase
namespace Go.Proofs.YteakglkagmghpaaGreat.Fina
open Go.ChangeShapes Go.WideShapes Go.ChangeAt Go.RowKit
open Slic
set_option linter.unusedVariables false
set_option maxRecDepth 8000

end Go.Proofs.YteakglkagmghpaaGreat.Fina

/-
  Contracts of the document's Words and Ints (whether two rows are the same), of few and shown.
-/
namespace Go.Proofs.YteakglkagmghpaaGreat.Fina
open Go.ChangeShapes Go.WideShapes Go.ChangeAt Go.RowKit
open Slic
set_option linter.unusedVariables false
set_option maxRecDepth 8000

def sameB (S T : List Int) : Bool := decide (S = T)
theorem same_self (S : List Int) : sameB S S = true := decide_eq_true rfl

set_option maxHeartbeats 2000000 in
theorem ints_any (w : World) (v u : Value) (S T : List Int) (h : Sr kI w v S) (h' : Sr kI w u T) : Calls Tryz.prog 82 #[v, u] w fun e w' => e = .returned (.bool (sameB S T)) ∧ Below w.heap.size w w' := by
  have hs := h
  have ht := h'
  obtain ⟨A, c, rfl, h1, h2⟩ := h.form
  obtain ⟨A', c', rfl, h3, h4⟩ := h'.form
  clear h h'
  have l1 : S.length ≤ 9223372036854775807 := by unfold maxLen at h2; omega
  have l2 : T.length ≤ 9223372036854775807 := by unfold maxLen at h4; omega
  by_cases hl : S.length = T.length
  rotate_left
  · have q : ((S.length : Int) != (T.length : Int)) = true := by simpa using (show ¬ (S.length : Int) = (T.length : Int) by omega)
    have q' : (S.length != T.length) = true := by simpa using hl
    have Y : Hid (sameB S T = false) := Lib.hid (decide_eq_false fun e => hl (by rw [e]))
    clear hl
    go_enter Tryz.func82, Tryz.ntmps82
    go_wp2
    go_ret
    exact ⟨ret_bool Y.out.symm, Below.refl _ _⟩
  · have HL := Lib.hid hl
    have q : ((S.length : Int) != (T.length : Int)) = false := by simpa using (show (S.length : Int) = (T.length : Int) by omega)
    have q' : (S.length != T.length) = false := by simpa using hl
    clear hl
    go_enter Tryz.func82, Tryz.ntmps82
    go_wp2
    go_loopw [5] (fun t wr => ∃ k : Nat, k ≤ S.length ∧ t = .int .i64 k ∧ Below w.heap.size w wr ∧ Hid (S.take k = T.take k)) (fun t _ => S.length - (intOf t).toNat)
    case atStart => exact ⟨0, by omega, rfl, Below.refl _ _, Lib.hid (by simp)⟩
    case round =>
      obtain ⟨k, hk, rfl, hB, hT⟩ := hrel
      by_cases hlt : k < S.length
      · have hlt' : k < T.length := by have := HL.out; omega
        obtain ⟨g, o, rfl, hg, c0⟩ := num_at (hs.below hB) k hlt
        obtain ⟨g', o', rfl, hg', c1⟩ := num_at (ht.below hB) k hlt'
        have e1 := Lib.hid (List.take_succ_eq_append_getElem hlt)
        have e2 := Lib.hid (List.take_succ_eq_append_getElem hlt')
        have e3 := Lib.hid (show ∀ (e : S = T), S[k] = T[k] from fun e => by subst e; rfl)
        generalize S[k] = x at *
        generalize T[k] = y at *
        have i0 : (0 : Int) ≤ (k : Int) := by omega
        have i1 : (k : Int) < (S.length : Int) := by omega
        have i2 : (k : Int) < (T.length : Int) := by omega
        have z1 : decide ((k : Int) < (S.length : Int)) = true := decide_eq_true i1
        by_cases hxy : x = y
        · subst hxy
          have Y : Hid (S.take (k + 1) = T.take (k + 1)) := Lib.hid (by rw [e1.out, e2.out, hT.out])
          go_wp2
          go_region
          go_wp2
          go_roundw
          case rel => exact ⟨k + 1, by omega, by go_num, hB.drew, Y⟩
          case measure => simp [intOf]; omega
        · have z : (x != y) = true := by simpa using hxy
          have Y : Hid (sameB S T = false) := Lib.hid (decide_eq_false fun e => hxy (e3.out e))
          clear hxy
          go_wp2
          go_region
          go_wp2
          go_ret
          exact ⟨ret_bool Y.out.symm, hB.drew⟩
      · obtain rfl : k = S.length := by omega
        have z1 : decide ((S.length : Int) < (S.length : Int)) = false := decide_eq_false (by omega)
        have Y : Hid (sameB S T = true) := Lib.hid (decide_eq_true (by have := hT.out; rwa [List.take_length, HL.out, List.take_length] at this))
        go_wp2
        go_ret
        exact ⟨ret_bool Y.out.symm, hB⟩

end Go.Proofs.YteakglkagmghpaaGreat.Fina

/-
  A contract of some: ten programs at most, of ten ops at most.
-/
namespace Go.Proofs.YteakglkagmghpaaGreat.Fina
open Go.ChangeShapes Go.WideShapes Go.ChangeAt Go.RowKit
open Slic
set_option linter.unusedVariables false
set_option maxRecDepth 8000

/-- Rows of slices of one's own, each of which reads as a list. -/
def ORows (w : World) (b : Nat) (v : Value) (LL : List (List O)) : Prop := ∃ Hs : List (Option Addr × Nat × Nat), Own kR w b v Hs ∧ Hs.length = LL.length ∧ ∀ (i : Nat) (h : i < Hs.length) (h' : i < LL.length), Sr kF w (.slice (Hs[i]).1 (Hs[i]).2.1 (Hs[i]).2.2) LL[i]
theorem ORows.rows {w : World} {b : Nat} {v : Value} {LL : List (List O)} (h : ORows w b v LL) : Rows w v LL := by
  obtain ⟨Hs, h1, h2, h3⟩ := h
  exact ⟨Hs, h1.sr, h2, h3⟩
theorem one_row (W : World) (A : Option Addr) (n c k : Nat) (hk : k = W.heap.size) : Sr kR (W.alloc (.cells #[.slice A n c] 109)) (.slice (some ⟨k, 0, none⟩) 1 1) [(A, n, c)] := by
  subst hk
  have h : Own kR (W.alloc (.cells #[.slice A n c] 109)) 0 (.slice (some ⟨W.heap.size, 0, none⟩) 1 1) [(A, n, c)] := Own.lit W 0 (Nat.zero_le _) [(A, n, c)] #[.slice A n c] rfl (by simp [maxLen]) 1 rfl
  exact h.sr
end Go.Proofs.YteakglkagmghpaaGreat.Fina

/-
  A contract of the document's Fit: programs that may be, each in a row of one's own.
-/
namespace Go.Proofs.YteakglkagmghpaaGreat.Fina
open Go.ChangeShapes Go.WideShapes Go.ChangeAt Go.RowKit
open Slic
set_option linter.unusedVariables false
set_option maxRecDepth 8000

theorem mask_i64 (k : Nat) (hk : k ≤ 62) (x : Int) : bits .and .i64 x (2 ^ k - 1) = x % 2 ^ k := by
  have hpos : 0 < 2 ^ k := Nat.two_pow_pos k
  have hle : 2 ^ k ≤ 2 ^ 62 := Nat.pow_le_pow_right (by decide) hk
  have hc : ((2 : Int) ^ k - 1) = ((2 ^ k - 1 : Nat) : Int) := by rw [Int.natCast_sub hpos]; simp
  rw [hc]
  show IntKind.i64.wrap ((BitVec.ofInt 64 x &&& BitVec.ofInt 64 ((2 ^ k - 1 : Nat) : Int)).toNat : Int) = _
  have e : (BitVec.ofInt 64 ((2 ^ k - 1 : Nat) : Int)).toNat = 2 ^ k - 1 := by
    rw [BitVec.ofInt_natCast, BitVec.toNat_ofNat, Nat.mod_eq_of_lt (by omega)]
  rw [BitVec.toNat_and, e, Nat.and_two_pow_sub_one_eq_mod, BitVec.toNat_ofInt]
  have h1 : (((x % ((2 ^ 64 : Nat) : Int)).toNat % 2 ^ k : Nat) : Int) = x % 2 ^ k := by
    rw [Int.natCast_emod, Int.toNat_of_nonneg (Int.emod_nonneg _ (by decide))]
    have hd : ((2 ^ k : Nat) : Int) ∣ ((2 ^ 64 : Nat) : Int) := Int.natCast_dvd_natCast.2 (Nat.pow_dvd_pow 2 (by omega))
    rw [Int.emod_emod_of_dvd _ hd, Int.natCast_pow]
    rfl
  rw [h1, IntKind.wrap_i64]
  have h2 : (2 : Int) ^ k ≤ 2 ^ 62 := by exact_mod_cast hle
  have h3 : (0 : Int) < 2 ^ k := by exact_mod_cast hpos
  have h4 := Int.emod_nonneg x (show (2 : Int) ^ k ≠ 0 by omega)
  have h5 := Int.emod_lt_of_pos x h3
  omega

theorem one_op (W : World) (x y z : Int) (k : Nat) (hk : k = W.heap.size) : Sr kF (W.alloc (.cells #[.int .u8 x, .int .i64 y, .int .i64 z] 111)) (.slice (some ⟨k, 0, none⟩) 1 1) [(x, y, z)] := by
  subst hk
  have h : Own kF (W.alloc (.cells #[.int .u8 x, .int .i64 y, .int .i64 z] 111)) 0 (.slice (some ⟨W.heap.size, 0, none⟩) 1 1) [(x, y, z)] := Own.lit W 0 (Nat.zero_le _) [(x, y, z)] #[.int .u8 x, .int .i64 y, .int .i64 z] rfl (by simp [maxLen]) 1 rfl
  exact h.sr
/-- What Fit tells: rows of one's own. -/
def Fitted (w : World) (LL : List (List O)) (e : Ending) (w' : World) : Prop := ∃ v Hs, e = .returned v ∧ Own kR w' w.heap.size v Hs ∧ Hs.length = LL.length ∧ (∀ (i : Nat) (h : i < Hs.length) (h' : i < LL.length), Own kF w' w.heap.size (.slice (Hs[i]).1 (Hs[i]).2.1 (Hs[i]).2.2) LL[i]) ∧ Below w.heap.size w w'
theorem fitp_take (L : List O) (j : Nat) (h : j < L.length) (h8 : j < 8) : ((L.take 8).take (j + 1)).map fitO = ((L.take 8).take j).map fitO ++ [fitO L[j]] := by
  rw [List.take_succ_eq_append_getElem (by rw [List.length_take]; omega), List.map_append]
  simp
def FitRel (w : World) (LL : List (List O)) (s t : Value) (wr : World) : Prop := ∃ (k : Nat) (Hs : List (Option Addr × Nat × Nat)), k ≤ LL.length ∧ k ≤ 8 ∧ t = .int .i64 k ∧ Own kR wr w.heap.size s Hs ∧ Hs.length = k ∧ Below w.heap.size w wr ∧ ∀ (i : Nat) (h : i < Hs.length) (h' : i < LL.length), Own kF wr w.heap.size (.slice (Hs[i]).1 (Hs[i]).2.1 (Hs[i]).2.2) (fitP LL[i])
set_option maxRecDepth 100000 in
set_option maxHeartbeats 8000000 in
theorem fit_any (w : World) (v : Value) (LL : List (List O)) (h : Rows w v LL) (hb : okOs LL) : Calls Tryz.prog 9 #[v] w (Fitted w (fitL LL)) := by
  have h' := h
  obtain ⟨A, c, rfl, h1, h2⟩ := h.form
  clear h
  have hlen : LL.length ≤ 9223372036854775807 := by unfold maxLen at h2; omega
  go_enter Tryz.func9, Tryz.ntmps9
  go_wp2_with fail
  go_loopw [3, 4] (FitRel w LL) (fun _ t _ => LL.length - (intOf t).toNat)
  case atStart => exact ⟨0, [], by omega, by omega, rfl, Own.empty w _ (Nat.le_refl _), rfl, below_one _ _, fun i h => by simp at h⟩
  case round =>
    obtain ⟨k, Hs, hk, hk2, rfl, hO, hl, hB, hS⟩ := hrel
    obtain ⟨A', c', rfl, m1, m2⟩ := hO.sr.form
    by_cases hlt : k < LL.length ∧ k < 8
    · obtain ⟨hlt, h8⟩ := hlt
      have z1 : decide ((k : Int) < (LL.length : Int)) = true := decide_eq_true (by omega)
      have z2 : decide ((k : Int) < 8) = true := decide_eq_true (by omega)
      obtain ⟨g, o, B, d, rfl, hg, hc, hL, hd, hd2⟩ := h'.at k hlt
      have ho := hb _ (List.getElem_mem hlt)
      have i0 : (0 : Int) ≤ (k : Int) := by omega
      have i1 : (k : Int) < (LL.length : Int) := by omega
      have hcr := (hB.cell (p := ⟨g, o + k, none⟩) hg).trans hc
      have hgr : g < wr.heap.size := Nat.lt_of_lt_of_le hg hB.size
      have hLr := hL.below hB
      have hws := hB.size
      have HL := Lib.hid hl
      have HS := Lib.hid hS
      have HO := Lib.hid hO
      have HB := Lib.hid hB
      generalize hq : LL[k] = L at *
      have HQ := Lib.hid hq
      have hl2 : L.length ≤ 9223372036854775807 := by unfold maxLen at hd2; omega
      clear hl hS hc hL hq hO hB
      go_wp2_with fail
      generalize hwr : wr = V at *
      clear hwr
      go_loopw [5, 6] (fun p t wx => ∃ (j : Nat) (M : List O), j ≤ L.length ∧ j ≤ 8 ∧ t = .int .i64 j ∧ Own kF wx V.heap.size p M ∧ Below V.heap.size V wx ∧ M.length ≤ 8 ∧ Hid (M = ((L.take 8).take j).map fitO)) (fun _ t _ => L.length - (intOf t).toNat)
      case atStart => exact ⟨0, [], by omega, by omega, rfl, Own.empty V _ (Nat.le_refl _), below_one _ _, by simp, Lib.hid (by simp)⟩
      case round =>
        obtain ⟨j, M, hj, hj8, rfl, hP, hB2, hm, hM⟩ := hrel
        obtain ⟨A3, c3, rfl, n1, n2⟩ := hP.sr.form
        have hcx := (hB2.cell (p := ⟨g, o + k, none⟩) hgr).trans hcr
        have hgx : g < wr.heap.size := Nat.lt_of_lt_of_le hgr hB2.size
        by_cases hjt : j < L.length ∧ j < 8
        · obtain ⟨hjt, hj9⟩ := hjt
          obtain ⟨g2, o2, rfl, hg2, d0, d1, d2⟩ := op_at (hLr.below hB2) j hjt
          have hq := ho _ (List.getElem_mem hjt)
          have T := Lib.hid (fitp_take L j hjt hj9)
          generalize L[j] = q at *
          obtain ⟨op, a, b⟩ := q
          simp only at d0 d1 d2 hq
          obtain ⟨p0, p1⟩ := hq
          have y1 : decide ((j : Int) < (L.length : Int)) = true := decide_eq_true (by omega)
          have y2 : decide ((j : Int) < 8) = true := decide_eq_true (by omega)
          have j0 : (0 : Int) ≤ (j : Int) := by omega
          have j1 : (j : Int) < (L.length : Int) := by omega
          have X1 : bits .and .i64 a 63 = a % 64 := mask_i64 6 (by decide) a
          have X2 : bits .and .i64 a 7 = a % 8 := mask_i64 3 (by decide) a
          have X3 : bits .and .i64 b 7 = b % 8 := mask_i64 3 (by decide) b
          have w0 : 0 ≤ a % 8 := by omega
          have w1 : a % 8 ≤ 7 := by omega
          have w2 : 0 ≤ b % 8 := by omega
          have w3 : b % 8 ≤ 7 := by omega
          have five : op % 5 = 0 ∨ op % 5 = 1 ∨ op % 5 = 2 ∨ op % 5 = 3 ∨ op % 5 = 4 := by omega
          clear hcr hgr
          rcases five with e | e | e | e | e
          · have F : Hid (fitO (op, a, b) = (op % 5, a % 64, 0)) := Lib.hid (by simp [fitO, e])
            have q0 : (op % 5 == 0) = true := by rw [e]; rfl
            clear e
            go_upto_region 21 with (fail)
            go_wp2_with (
              refine wpList_app (K := kF) (o := ⟨some 120, _, _, _, _, _⟩) rfl (.tmp 117) (.tmp 119) rfl rfl rfl rfl ((hP.below (below_one _ _)).below (below_one _ _)) (one_op _ (op % 5) (a % 64) (0) (wr.heap.size + 1) (by simp)) (by simp; omega) (by have := hB2.size; simp; omega) ?_
              intro v' w' O' g' G')
            go_roundw
            case rel => exact ⟨j + 1, M ++ [(op % 5, a % 64, 0)], by omega, by omega, by go_num, O', G'.below _ _ (Nat.le_refl _) ((hB2.alloc hB2.size _).alloc (by have := hB2.size; simp; omega) _), by have := congrArg List.length hM.out; simp at this; simp; omega, Lib.hid (by rw [T.out, F.out, hM.out])⟩
            case measure => simp [intOf]; omega
          · have F : Hid (fitO (op, a, b) = (op % 5, a % 8 % 6, 0)) := Lib.hid (by simp [fitO, e])
            have q0 : (op % 5 == 0) = false := by rw [e]; rfl
            have q1 : (op % 5 == 1) = true := by rw [e]; rfl
            clear e
            go_upto_region 21 with (fail)
            go_wp2_with (
              refine wpList_app (K := kF) (o := ⟨some 120, _, _, _, _, _⟩) rfl (.tmp 117) (.tmp 119) rfl rfl rfl rfl ((hP.below (below_one _ _)).below (below_one _ _)) (one_op _ (op % 5) (a % 8 % 6) (0) (wr.heap.size + 1) (by simp)) (by simp; omega) (by have := hB2.size; simp; omega) ?_
              intro v' w' O' g' G')
            go_roundw
            case rel => exact ⟨j + 1, M ++ [(op % 5, a % 8 % 6, 0)], by omega, by omega, by go_num, O', G'.below _ _ (Nat.le_refl _) ((hB2.alloc hB2.size _).alloc (by have := hB2.size; simp; omega) _), by have := congrArg List.length hM.out; simp at this; simp; omega, Lib.hid (by rw [T.out, F.out, hM.out])⟩
            case measure => simp [intOf]; omega
          · have F : Hid (fitO (op, a, b) = (op % 5, a % 8 % 6, b % 8 % 6)) := Lib.hid (by simp [fitO, e])
            have q0 : (op % 5 == 0) = false := by rw [e]; rfl
            have q1 : (op % 5 == 1) = false := by rw [e]; rfl
            have q2 : (op % 5 == 2) = true := by rw [e]; rfl
            clear e
            go_upto_region 21 with (fail)
            go_wp2_with (
              refine wpList_app (K := kF) (o := ⟨some 120, _, _, _, _, _⟩) rfl (.tmp 117) (.tmp 119) rfl rfl rfl rfl ((hP.below (below_one _ _)).below (below_one _ _)) (one_op _ (op % 5) (a % 8 % 6) (b % 8 % 6) (wr.heap.size + 1) (by simp)) (by simp; omega) (by have := hB2.size; simp; omega) ?_
              intro v' w' O' g' G')
            go_roundw
            case rel => exact ⟨j + 1, M ++ [(op % 5, a % 8 % 6, b % 8 % 6)], by omega, by omega, by go_num, O', G'.below _ _ (Nat.le_refl _) ((hB2.alloc hB2.size _).alloc (by have := hB2.size; simp; omega) _), by have := congrArg List.length hM.out; simp at this; simp; omega, Lib.hid (by rw [T.out, F.out, hM.out])⟩
            case measure => simp [intOf]; omega
          · have F : Hid (fitO (op, a, b) = (op % 5, a % 8 % 6, b % 8)) := Lib.hid (by simp [fitO, e])
            have q0 : (op % 5 == 0) = false := by rw [e]; rfl
            have q1 : (op % 5 == 1) = false := by rw [e]; rfl
            have q2 : (op % 5 == 2) = false := by rw [e]; rfl
            have q3 : (op % 5 == 3) = true := by rw [e]; rfl
            clear e
            go_upto_region 21 with (fail)
            go_wp2_with (
              refine wpList_app (K := kF) (o := ⟨some 120, _, _, _, _, _⟩) rfl (.tmp 117) (.tmp 119) rfl rfl rfl rfl ((hP.below (below_one _ _)).below (below_one _ _)) (one_op _ (op % 5) (a % 8 % 6) (b % 8) (wr.heap.size + 1) (by simp)) (by simp; omega) (by have := hB2.size; simp; omega) ?_
              intro v' w' O' g' G')
            go_roundw
            case rel => exact ⟨j + 1, M ++ [(op % 5, a % 8 % 6, b % 8)], by omega, by omega, by go_num, O', G'.below _ _ (Nat.le_refl _) ((hB2.alloc hB2.size _).alloc (by have := hB2.size; simp; omega) _), by have := congrArg List.length hM.out; simp at this; simp; omega, Lib.hid (by rw [T.out, F.out, hM.out])⟩
            case measure => simp [intOf]; omega
          · have F : Hid (fitO (op, a, b) = (op % 5, 0, 0)) := Lib.hid (by simp [fitO, e])
            have q0 : (op % 5 == 0) = false := by rw [e]; rfl
            have q1 : (op % 5 == 1) = false := by rw [e]; rfl
            have q2 : (op % 5 == 2) = false := by rw [e]; rfl
            have q3 : (op % 5 == 3) = false := by rw [e]; rfl
            clear e
            go_upto_region 21 with (fail)
            go_wp2_with (
              refine wpList_app (K := kF) (o := ⟨some 120, _, _, _, _, _⟩) rfl (.tmp 117) (.tmp 119) rfl rfl rfl rfl ((hP.below (below_one _ _)).below (below_one _ _)) (one_op _ (op % 5) (0) (0) (wr.heap.size + 1) (by simp)) (by simp; omega) (by have := hB2.size; simp; omega) ?_
              intro v' w' O' g' G')
            go_roundw
            case rel => exact ⟨j + 1, M ++ [(op % 5, 0, 0)], by omega, by omega, by go_num, O', G'.below _ _ (Nat.le_refl _) ((hB2.alloc hB2.size _).alloc (by have := hB2.size; simp; omega) _), by have := congrArg List.length hM.out; simp at this; simp; omega, Lib.hid (by rw [T.out, F.out, hM.out])⟩
            case measure => simp [intOf]; omega
        · have hM' : M = fitP L := by
            rw [hM.out]
            unfold fitP
            rw [List.take_of_length_le (by rw [List.length_take]; omega)]
          have two : j = L.length ∨ (j < L.length ∧ j = 8) := by omega
          have HM := Lib.hid hM'
          clear hM' hjt hM
          have j0 : (0 : Int) ≤ (j : Int) := by omega
          have hO2 := HO.out.below hB2
          have y : (decide ((j : Int) < (L.length : Int)) = false ∧ j = L.length) ∨ (decide ((8 : Int) < (L.length : Int)) = true ∧ j = 8) := by
            simp only [decide_eq_false_iff_not, decide_eq_true_eq]; omega
          clear two
          rcases y with ⟨y, rfl⟩ | ⟨y, rfl⟩
          all_goals
            go_upto_region 22 with (fail)
            go_wp2_with (
              refine wpList_app (K := kR) (o := ⟨some 124, _, _, _, _, _⟩) rfl (.tmp 121) (.tmp 123) rfl rfl rfl rfl (hO2.below (below_one _ _)) (one_row wr A3 M.length c3 _ rfl) (by simp; have := HL.out; omega) (by have := HB.out.size; have := hB2.size; simp; omega) ?_
              intro v' w' O' g' G')
            have REL : FitRel w LL v' (.int .i64 ((k : Int) + 1)) w' := by
              refine ⟨k + 1, Hs ++ [(A3, M.length, c3)], by omega, by omega, by go_num, O', by simp; exact HL.out, G'.below _ _ (Nat.le_refl _) ((HB.out.trans (hB2.mono HB.out.size)).alloc (by have := HB.out.size; have := hB2.size; omega) _), fun i h h' => ?_⟩
              by_cases e : i < Hs.length
              · rw [List.getElem_append_left e]
                have R := ((HS.out i e h').below hB2).below (below_one _ (.cells #[.slice A3 M.length c3] 109))
                exact R.kept g' (R.apart (hO2.below (below_one _ _)) (by decide))
              · obtain rfl : i = k := by simp at h; have := HL.out; omega
                rw [List.getElem_append_right (by omega)]
                have e0 : i - Hs.length = 0 := by have := HL.out; omega
                simp only [e0, List.getElem_cons_zero, HQ.out]
                have R := (hP.zero hws).below (below_one _ (.cells #[.slice A3 M.length c3] 109))
                rw [← HM.out]
                exact R.kept g' (R.apart (hO2.below (below_one _ _)) (by decide))
            first
              | (refine ⟨REL, ?_⟩; simp [intOf]; omega)
              | (go_roundw; (case rel => exact REL); (case measure => simp [intOf]; omega))
    · have hk3 : (decide ((k : Int) < (LL.length : Int)) = false ∧ k = LL.length) ∨ (decide ((8 : Int) < (LL.length : Int)) = true ∧ k = 8) := by
        simp only [decide_eq_false_iff_not, decide_eq_true_eq]; omega
      have R : Fitted w (fitL LL) (.returned (.slice A' Hs.length c')) wr := by
        refine ⟨_, Hs, rfl, hO, by rw [hl]; simp [fitL]; omega, fun i h h' => ?_, hB⟩
        have e : (fitL LL)[i] = fitP (LL[i]'(by simp [fitL] at h'; omega)) := by simp [fitL]
        rw [e]
        exact hS i h (by simp [fitL] at h'; omega)
      clear hO hS hl hlt
      rcases hk3 with ⟨y, rfl⟩ | ⟨y, rfl⟩
      · go_wp2
        go_ret
        exact R
      · go_wp2
        go_ret
        exact R
end Go.Proofs.YteakglkagmghpaaGreat.Fina

/-
  What came in: ops, words, and programs as a list of lists.
-/
namespace Go.Proofs.YteakglkagmghpaaGreat.Fina
open Go.ChangeShapes Go.WideShapes Go.ChangeAt Go.RowKit Go.Deep
open Slic
set_option linter.unusedVariables false
set_option maxRecDepth 8000

section
variable {H : Type} {enc : TypeId × Value → H} {w : World} {base : Nat} {spare : Nat → Bool} {held : Bool}
/-- Programs that came in. -/
def Came (w : World) (v : Value) (LL : List (List O)) : Prop := Rows w v LL ∧ okOs LL
end
end Go.Proofs.YteakglkagmghpaaGreat.Fina

/-
  What the laws want: the end of a slice, one program made such as may be.
-/
namespace Go.Proofs.YteakglkagmghpaaGreat.Fina
open Go.ChangeShapes Go.WideShapes Go.ChangeAt Go.RowKit
open Slic
set_option linter.unusedVariables false
set_option maxRecDepth 8000

/-- What Fit makes of one program. -/
structure One (w W : World) (L : List O) (g c : Nat) (A : Option Addr) (d : Nat) : Prop where
  cell : W.cell? ⟨g, 0, none⟩ = some (.slice A (fitP L).length d)
  lt : g < W.heap.size
  row : Own kF W w.heap.size (.slice A (fitP L).length d) (fitP L)
  cap : (fitP L).length ≤ d ∧ d ≤ maxLen
  rows : Rows W (.slice (some ⟨g, 0, none⟩) 1 c) [fitP L]
  below : Below w.heap.size w W
theorem One.call {w W W' : World} {L : List O} {g c : Nat} {A : Option Addr} {d : Nat} (h : One w W L g c A d) (k : Below W.heap.size W W') : One w W' L g c A d :=
  ⟨(k.cell (p := ⟨g, 0, none⟩) h.lt).trans h.cell, Nat.lt_of_lt_of_le h.lt k.size, h.row.below k, h.cap, h.rows.below k, h.below.trans (k.mono h.below.size)⟩
end Go.Proofs.YteakglkagmghpaaGreat.Fina
