/-
  penfoldlaw10.FinJoins returns true for every two slices of ops and every slice of words, and changes nothing that was there; no condition.
-/
import Derived.Test.YtapbhcpcechccaaRows
import Derived.Test.YtapbhcpcechccaaArgs
import Derived.Test.YtapbhcpcechccaaFinaL
import Derived.Test.YtapbhcpcechccaaSt
namespace Go.Proofs.Ytapbhcpcechccaa.finJoins
open Go.ChangeShapes Go.WideShapes Go.ChangeAt Go.RowKit
set_option linter.unusedVariables false

open Fina Held Slic
/-- The first k ops' skips stay within. -/
def cutO (n i : Nat) (o : O) : O := if o.1 = 3 then (o.1, o.2.1, min o.2.2 ((n : Int) - 1 - i)) else o
def cutsO (P : List O) (k : Nat) : List O := (List.range P.length).map fun i => if i < k then cutO P.length i (P.getD i (0, 0, 0)) else P.getD i (0, 0, 0)
theorem cuts_len (P : List O) (k : Nat) : (cutsO P k).length = P.length := by simp [cutsO]
theorem cuts_at (P : List O) (k i : Nat) (h : i < P.length) : (cutsO P k)[i]'(by rw [cuts_len]; exact h) = if i < k then cutO P.length i P[i] else P[i] := by
  simp [cutsO, h]
theorem cuts_zero (P : List O) : cutsO P 0 = P := by
  apply List.ext_getElem (cuts_len P 0)
  intro i h1 h2
  rw [cuts_at P 0 i h2, if_neg (by omega)]
theorem cuts_set (P : List O) (k : Nat) (h : k < P.length) (x : O) (hx : x = cutO P.length k P[k]) : (cutsO P k).set k x = cutsO P (k + 1) := by
  apply List.ext_getElem (by simp [cuts_len])
  intro i h1 h2
  rw [cuts_len] at h2
  rw [List.getElem_set, cuts_at P (k + 1) i h2]
  by_cases e : k = i
  · subst e
    rw [if_pos rfl, if_pos (by omega), hx]
  · rw [if_neg e, cuts_at P k i h2]
    by_cases e2 : i < k
    · rw [if_pos e2, if_pos (by omega)]
    · rw [if_neg e2, if_neg (by omega)]
theorem cuts_same (P : List O) (k : Nat) (h : k < P.length) (hx : P[k] = cutO P.length k P[k]) : cutsO P k = cutsO P (k + 1) := by
  rw [← cuts_set P k h _ hx]
  apply List.ext_getElem (by simp)
  intro i h1 h2
  rw [cuts_len] at h1
  rw [List.getElem_set]
  by_cases e : k = i
  · subst e
    rw [if_pos rfl, cuts_at P k k h1, if_neg (by omega)]
  · rw [if_neg e]
theorem inner_of : ∀ (L : List O), (∀ (i : Nat) (h : i < L.length), (L[i]).1 = 3 → (L[i]).2.2 ≤ (L.length : Int) - 1 - i) → inner L
  | [], _ => trivial
  | o :: r, h => by
    refine ⟨fun e => ?_, inner_of r fun i hi e => ?_⟩
    · have := h 0 (by simp) e
      simp at this
      omega
    · have := h (i + 1) (by simpa using hi) (by simpa using e)
      simp at this
      omega
theorem cuts_inner (P : List O) : inner (cutsO P P.length) := by
  refine inner_of _ fun i h e => ?_
  rw [cuts_len] at h
  rw [cuts_at P _ i h, if_pos h] at e ⊢
  rw [cuts_len]
  unfold cutO at *
  split
  · simp only
    omega
  · rename_i k
    rw [if_neg k] at e
    exact absurd e k
theorem cuts_ok (P : List O) (k : Nat) (h1 : okO P) (h2 : okL P) : okO (cutsO P k) ∧ okL (cutsO P k) := by
  have key : ∀ o ∈ cutsO P k, ∃ (i : Nat) (h : i < P.length), o = P[i] ∨ o = cutO P.length i P[i] := by
    intro o ho
    obtain ⟨i, hi, rfl⟩ := List.mem_iff_getElem.1 ho
    rw [cuts_len] at hi
    refine ⟨i, hi, ?_⟩
    rw [cuts_at P k i hi]
    split
    · exact .inr rfl
    · exact .inl rfl
  constructor
  · intro o ho
    obtain ⟨i, hi, e | e⟩ := key o ho
    · exact e ▸ h1 _ (List.getElem_mem hi)
    · have := h1 _ (List.getElem_mem hi)
      rw [e]
      unfold cutO
      split <;> exact this
  · intro o ho e3
    obtain ⟨i, hi, e | e⟩ := key o ho
    · exact e ▸ h2 _ (List.getElem_mem hi) (e ▸ e3)
    · have k := h2 _ (List.getElem_mem hi)
      rw [e] at e3 ⊢
      unfold cutO at *
      split
      · rename_i q
        have := k q
        simp only
        omega
      · rename_i q
        rw [if_neg q] at e3
        exact absurd e3 q
theorem q_far {w : World} {B gp : Nat} {v : Value} {Q : List O} (h : Own kF w B v Q) (hg : gp < B) : v.ownBlock = none ∨ v.ownBlock ≠ some gp := by
  cases e : v.ownBlock with
  | none => exact .inl rfl
  | some g =>
    refine .inr fun q => ?_
    injection q with q
    have := (h.lt g e).1
    omega

set_option maxRecDepth 100000 in
set_option maxHeartbeats 8000000 in
theorem walk (aA : Option Addr) (an ac : Nat) (az : Nat → Nat → Int) (bA : Option Addr) (bn bc : Nat) (bz : Nat → Nat → Int) (slotsA : Option Addr) (slotsn slotsc : Nat) (slotsz : Nat → Int) (w : World) (ha : Args.PRecs [some .u8, some .i64, some .i64] w aA an az) (hac : an ≤ ac ∧ ac ≤ maxLen ∧ (aA = none → ac = 0)) (hb : Args.PRecs [some .u8, some .i64, some .i64] w bA bn bz) (hbc : bn ≤ bc ∧ bc ≤ maxLen ∧ (bA = none → bc = 0)) (hslots : Args.Ints .u64 w slotsA slotsn slotsz) (hslotsc : slotsn ≤ slotsc ∧ slotsc ≤ maxLen ∧ (slotsA = none → slotsc = 0)) :
    Calls Try.prog 7 #[.slice aA an ac, .slice bA bn bc, .slice slotsA slotsn slotsc] w fun e w' => e = .returned (.bool true) ∧ Below w.heap.size w w' := by
  obtain ⟨L0, bO⟩ := came_ops ha hac
  obtain ⟨M0, bM⟩ := came_ops hb hbc
  have S0 := came_words hslots hslotsc
  have ho := ops_len an az
  have ho2 := ops_len bn bz
  have hs := words_len slotsn slotsz
  generalize opsOf an az = L at *
  generalize opsOf bn bz = M at *
  generalize wordsOf slotsn slotsz = S at *
  subst ho ho2 hs
  clear ha hb hslots
  obtain ⟨oc1, oc2, oc3⟩ := hac
  obtain ⟨od1, od2, od3⟩ := hbc
  obtain ⟨sc1, sc2, sc3⟩ := hslotsc
  have F := Lib.hid (fitp_ok bO)
  have BO := Lib.hid bO
  have FM := Lib.hid (fitp_ok bM)
  have BM := Lib.hid bM
  clear bO bM
  go_enter Try.func7, Try.ntmps7
  go_wp2_with fail
  refine (shown_any _).mono ?_
  rintro z w1 ⟨rfl, k1⟩
  have L1 := L0.below k1
  have M1 := M0.below k1
  have S1 := S0.below k1
  have B1 := k1
  clear L0 M0 k1
  go_wp2_with fail
  refine (fitone_any _ _ aA L.length ac L (one_row w1 aA L.length ac _ rfl) (L1.alloc _) BO.out).mono ?_
  rintro z w2 ⟨g, c, A, d, rfl, U2⟩
  have S2 := (S1.alloc _).below U2.below
  have M2 := (M1.alloc _).below U2.below
  have B2 := (B1.alloc B1.size _).trans (U2.below.mono (by have := B1.size; simp; omega))
  have B1' := B1
  clear L1 M1 S1 B1
  have d0 := U2.cell
  have hg := U2.lt
  have P2 := U2.row
  obtain ⟨pc1, pc2⟩ := U2.cap
  clear U2
  generalize fitP L = P at *
  obtain ⟨f1, f2, f3, f4⟩ := F.out
  clear F f3 BO
  obtain ⟨m, hm⟩ : ∃ m, m = min P.length 4 := ⟨_, rfl⟩
  have y3 : min (P.length : Int) 4 = (m : Int) := by omega
  have y4 : (if (4 : Int) < (P.length : Int) then (4 : Int) else (P.length : Int)) = (m : Int) := by split <;> omega
  obtain ⟨s1, s2⟩ := slice_h kF A P.length d m (by omega)
  simp only [show kF.X = 28 from rfl] at s1 s2
  have m4 : m ≤ 4 := by omega
  have mP : m ≤ P.length := by omega
  have HM := Lib.hid hm
  clear hm
  go_wp2_with fail
  refine (fitone_any _ _ bA M.length bc M (one_row w2 bA M.length bc _ rfl) (M2.alloc _) BM.out).mono ?_
  rintro z w3 ⟨g', c', A2, d2, rfl, U3⟩
  have S3 := (S2.alloc _).below U3.below
  have B3 := (B2.alloc B2.size _).trans (U3.below.mono (by have := B2.size; simp; omega))
  have P3 := (P2.below (below_one _ _)).below U3.below
  have hPg := Lib.hid (show ∀ gg, (Value.slice A P.length d).ownBlock = some gg → gg < w2.heap.size from fun gg e => (P2.lt gg e).2)
  have Q3 := U3.row
  have d3 := U3.cell
  obtain ⟨qc1, qc2⟩ := U3.cap
  clear U3 M2 S2 d0 hg y3 y4 s1 s2 P2
  generalize fitP M = Q at *
  obtain ⟨h1, h2, h3, h4⟩ := FM.out
  clear FM h3 BM
  obtain ⟨n, hn⟩ : ∃ n, n = min Q.length 4 := ⟨_, rfl⟩
  have y3 : min (Q.length : Int) 4 = (n : Int) := by omega
  have y4 : (if (4 : Int) < (Q.length : Int) then (4 : Int) else (Q.length : Int)) = (n : Int) := by split <;> omega
  obtain ⟨s1, s2⟩ := slice_h kF A2 Q.length d2 n (by omega)
  simp only [show kF.X = 28 from rfl] at s1 s2
  have P4 := P3.zero (b' := w.heap.size) (by have := B1'.size; simp; omega)
  have Q4 := Q3.zero (b' := w2.heap.size) (by simp)
  have n4 : n ≤ 4 := by omega
  have nQ : n ≤ Q.length := by omega
  have hpt : (P.take m).length = m := by rw [List.length_take]; have := HM.out; omega
  have HN := Lib.hid hn
  have HPT := Lib.hid hpt
  have hB2 := B2.size
  clear P3 Q3 hn hpt B2
  go_wp2_with fail
  clear y3 y4 s1 s2 d3
  go_loopw [10] (fun t wr => ∃ (k : Nat) (W : List O), k ≤ m ∧ t = .int .i64 k ∧ W.length = P.length ∧ Own kF wr w.heap.size (.slice A P.length d) W ∧ Own kF wr w2.heap.size (.slice A2 Q.length d2) Q ∧ Below w.heap.size w wr ∧ Hid (W.take m = cutsO (P.take m) k)) (fun t _ => m - (intOf t).toNat)
  case atStart => exact ⟨0, P, by omega, rfl, rfl, P4, Q4, B3, Lib.hid (cuts_zero _).symm⟩
  case round =>
    obtain ⟨k, W, hk, rfl, hW, hP, hQ, hB, hC⟩ := hrel
    by_cases hlt : k < m
    · have hkW : k < W.length := by omega
      obtain ⟨gp, cp, e, k1, k2, k3, k4, k5, k6⟩ := hP.form (by omega)
      injection e with e _ e'
      subst e e'
      have a0 := k6 k 0 _ hkW rfl
      have a1 := k6 k 1 _ hkW rfl
      have a2 := k6 k 2 _ hkW rfl
      have fz := k5 (k * 3 + 2)
      simp only [show kF.m = 3 from rfl, Nat.add_zero] at a0 a1 a2
      clear k5 k6
      have hkP : k < (P.take m).length := by rw [HPT.out]; exact hlt
      have eW : W[k] = (P.take m)[k] := by
        have h5 : (W.take m)[k]? = (cutsO (P.take m) k)[k]? := by rw [hC.out]
        rw [List.getElem?_take, if_pos hlt, List.getElem?_eq_getElem hkW, List.getElem?_eq_getElem (by rw [cuts_len]; exact hkP), cuts_at _ _ _ hkP, if_neg (by omega)] at h5
        injection h5
      have hb := f2 _ (show (P.take m)[k] ∈ P from List.mem_of_mem_take (List.getElem_mem hkP))
      have PUT := Lib.hid (fun (x : Int) => (show Own kF wr w.heap.size (.slice (some ⟨gp, 0, none⟩) W.length d) W by rw [hW]; exact hP).put k 2 hkW (by decide) ((W[k]).1, (W[k]).2.1, x) (.int .i64 x) rfl)
      have SET := Lib.hid (fun x : O => show x = cutO (P.take m).length k (P.take m)[k] → (W.set k x).take m = cutsO (P.take m) (k + 1) from fun e => by rw [List.take_set, hC.out, cuts_set _ _ hkP _ e])
      have SAME := Lib.hid (show (P.take m)[k] = cutO (P.take m).length k (P.take m)[k] → W.take m = cutsO (P.take m) (k + 1) from fun e => by rw [hC.out, cuts_same _ _ hkP e])
      rw [HPT.out] at SET SAME
      rw [eW] at a0 a1 a2 PUT
      generalize (P.take m)[k] = q at *
      obtain ⟨op, a, b⟩ := q
      simp only at a0 a1 a2 hb PUT
      have y1 : decide ((k : Int) < (m : Int)) = true := decide_eq_true (by omega)
      have i0 : (0 : Int) ≤ (k : Int) := by omega
      have i1 : (k : Int) < (m : Int) := by omega
      clear eW
      by_cases h3 : op = 3
      · have q0 : (op == 3) = true := by simpa using h3
        obtain ⟨b0, b1⟩ := hb h3
        obtain ⟨x, hx⟩ : ∃ x, x = min b ((m : Int) - 1 - k) := ⟨_, rfl⟩
        have y5 : (if (m : Int) - 1 - (k : Int) < b then (m : Int) - 1 - (k : Int) else b) = x := by split <;> omega
        obtain ⟨P5, g5⟩ := PUT.out x
        rw [show kF.m = 3 from rfl] at P5 g5
        have Y : Hid ((W.set k (op, a, x)).take m = cutsO (P.take m) (k + 1)) := Lib.hid (SET.out _ (by simp [cutO, h3, hx]))
        have B5 := hB.setCell (p := ⟨gp, k * 3 + 2, none⟩) k1 (.int .i64 x)
        have Q5 := hQ.kept g5 (q_far hQ (hPg.out gp rfl))
        rw [hW] at P5
        have hW5 : (W.set k (op, a, x)).length = P.length := by rw [List.length_set]; exact hW
        clear hx h3 hb PUT SET SAME hW hP hQ hB hC
        go_wp2
        go_roundw
        case rel => exact ⟨k + 1, _, by omega, by go_num, hW5, P5, Q5, B5, Y⟩
        case measure => simp [intOf]; omega
      · have q0 : (op == 3) = false := by simpa using h3
        have Y : Hid (W.take m = cutsO (P.take m) (k + 1)) := Lib.hid (SAME.out (by simp [cutO, h3]))
        clear h3 hb PUT SET SAME
        go_wp2
        go_roundw
        case rel => exact ⟨k + 1, W, by omega, by go_num, hW, hP, hQ, hB, Y⟩
        case measure => simp [intOf]; omega
    · obtain rfl : k = m := by omega
      have y1 : decide ((k : Int) < (k : Int)) = false := decide_eq_false (by omega)
      have hP' : W.take k = cutsO (P.take k) k := hC.out
      have ci := cuts_inner (P.take k)
      rw [HPT.out] at ci
      obtain ⟨c1, c2⟩ := cuts_ok (P.take k) k (okO_take f1 k) (okL_take f2 k)
      rw [← hP'] at ci c1 c2
      have Px : Sr kF wr (.slice A k d) (W.take k) := (show Sr kF wr (.slice A W.length d) W by rw [hW]; exact hP.sr).part (by omega) (by omega) (Nat.le_refl _)
      have Qx : Sr kF wr (.slice A2 n d2) (Q.take n) := hQ.sr.part (by omega) (by omega) (Nat.le_refl _)
      have S5 := S0.below hB
      have lp : (W.take k).length = k := by rw [List.length_take]; omega
      have lq : (Q.take n).length = n := by rw [List.length_take]; omega
      have g1 := okO_take h1 n
      have g2 := okL_take h2 n
      have Hlp := Lib.hid lp
      have Hlq := Lib.hid lq
      have hws := hB.size
      clear hC hP' hP hQ hW lp lq P4 Q4 S3 B3 f1 f2 h1 h2 hPg hB2 B1'
      generalize W.take k = X at *
      generalize Q.take n = Z at *
      go_wp2_with fail
      refine (few_any _ _ S S5).mono ?_
      rintro z w4 ⟨vs, rfl, S6, rfl⟩
      have T10 : (S.take 10).length ≤ 10 := by rw [List.length_take]; omega
      generalize S.take 10 = T at *
      obtain ⟨TA, tc, rfl, t1, t2⟩ := S6.form
      clear S5
      go_upto_region 12 with (fail)
      go_wp2_with (first
        | (refine wpList_app (K := kF) (o := ⟨some 79, _, _, _, _, _⟩) rfl (.tmp 77) (.tmp 78) rfl rfl rfl rfl (Own.empty wr wr.heap.size (Nat.le_refl _)) (Px.alloc _) (by simp; have := Hlp.out; omega) (by simp) ?_
           intro v5 w5 O5 gr5 G5
           rw [List.nil_append] at O5
           have j5 : Below wr.heap.size wr w5 := G5.below _ _ (Nat.le_refl _) (below_one _ _))
        | (refine wpList_app (K := kF) (o := ⟨some 81, _, _, _, _, _⟩) rfl (.tmp 79) (.tmp 80) rfl rfl rfl rfl O5 (Qx.below j5) (by have := Hlp.out; have := Hlq.out; omega) j5.size ?_
           intro v6 w6 O6 gr6 G6
           have j6 : Below wr.heap.size wr w6 := G6.below _ _ (Nat.le_refl _) j5))
      have P6 := Px.below j6
      have Q6 := Qx.below j6
      have T6 := S6.below j6
      have B6 := hB.trans (j6.mono hws)
      have oX : okO (X ++ Z) := fun o ho => (List.mem_append.1 ho).elim (c1 o) (g1 o)
      have lX : okL (X ++ Z) := fun o ho => (List.mem_append.1 ho).elim (c2 o) (g2 o)
      have WJ := Lib.hid (walk_join X.length X Z T (Nat.le_refl _) ci)
      clear Px Qx S6 hB j5 j6 gr5 G5 O5 gr6 G6
      refine (run_any _ _ _ (X ++ Z) T O6.sr (by rw [List.length_append]; have := Hlp.out; have := Hlq.out; omega) T6 (by omega) oX lX).mono ?_
      rintro z w7 ⟨v7, u7, rfl, V7, U7, k7⟩
      rw [WJ.out] at V7 U7 ⊢
      have P7 := P6.below k7
      have Q7 := Q6.below k7
      have T7 := T6.below k7
      have B7 := B6.trans (k7.mono B6.size)
      clear P6 Q6 T6 B6 k7 O6 oX lX WJ
      go_wp2_with fail
      refine (run_any _ _ _ X T P7 (by have := Hlp.out; omega) T7 (by omega) c1 c2).mono ?_
      rintro z w8 ⟨v8, u8, rfl, V8, U8, k8⟩
      have wl := walk_len X 0 T
      generalize Fina.walk X 0 T = r at *
      obtain ⟨rS, rD, rH, rn⟩ := r
      simp only at V7 U7 V8 U8 wl ⊢
      obtain ⟨wl1, wl2, wl3⟩ := wl
      have Q8 := Q7.below k8
      have V7' := V7.sr.below k8
      have U7' := U7.sr.below k8
      have B8 := B7.trans (k8.mono B7.size)
      have HS := Lib.hid wl1
      clear P7 Q7 T7 V7 U7 B7 k8 wl1
      go_wp2_with fail
      refine (run_any _ _ _ Z rS Q8 (by have := Hlq.out; omega) V8.sr (by have := HS.out; omega) g1 g2).mono ?_
      rintro z w9 ⟨v9, u9, rfl, V9, U9, k9⟩
      have wm := walk_len Z 0 rS
      generalize Fina.walk Z 0 rS = r at *
      obtain ⟨qS, qD, qH, qn⟩ := r
      simp only at V7' U7' V9 U9 wm ⊢
      obtain ⟨wm1, wm2, wm3⟩ := wm
      have V7 := V7'.below k9
      have U7 := U7'.below k9
      have U8' := U8.below k9
      have B9 := B8.trans (k9.mono B8.size)
      clear Q8 V8 U8 V7' U7' B8 k9 wm1
      go_wp2_with fail
      refine (words_any _ _ _ _ _ V7 V9.sr).mono ?_
      rintro z x1 ⟨rfl, l1⟩
      rw [same_self]
      have U7' := U7.below l1
      have U8x := U8'.below l1
      have U9x := U9.below l1
      have Bx := B9.trans (l1.mono B9.size)
      have xl : rD.length ≤ 10 := by have := Hlp.out; omega
      have yl : qD.length ≤ 10 := by have := Hlq.out; omega
      clear U7 U8' V7 V9 U9 B9 l1
      go_upto_region 16 with (fail)
      go_wp2_with (first
        | (refine wpList_app (K := kI) (o := ⟨some 110, _, _, _, _, _⟩) rfl (.tmp 108) (.tmp 109) rfl rfl rfl rfl (Own.empty x1 x1.heap.size (Nat.le_refl _)) (U8x.sr.alloc _) (by simp; omega) (by simp) ?_
           intro v5 x2 O5 gr5 G5
           rw [List.nil_append] at O5
           have j5 : Below x1.heap.size x1 x2 := G5.below _ _ (Nat.le_refl _) (below_one _ _))
        | (refine wpList_app (K := kI) (o := ⟨some 112, _, _, _, _, _⟩) rfl (.tmp 110) (.tmp 111) rfl rfl rfl rfl O5 (U9x.sr.below j5) (by omega) j5.size ?_
           intro v6 x3 O6 gr6 G6
           have j6 : Below x1.heap.size x1 x3 := G6.below _ _ (Nat.le_refl _) j5))
      refine (ints_any _ _ _ _ _ (U7'.below j6) O6.sr).mono ?_
      rintro z x4 ⟨rfl, l4⟩
      rw [same_self]
      have By := (Bx.trans (j6.mono Bx.size)).trans (l4.mono (Nat.le_trans Bx.size j6.size))
      have rb : rn ≤ 100 := by have := Hlp.out; omega
      have qb : qn ≤ 100 := by have := Hlq.out; omega
      clear U7' O6 l4 j6 j5 gr5 G5 O5 gr6 G6 Bx U8x U9x
      cases rH with
      | true =>
        go_wp2
        go_ret
        exact ⟨rfl, By⟩
      | false =>
        go_wp2
        go_ret
        exact ⟨rfl, By⟩

set_option maxRecDepth 100000 in
theorem lifted (os : Os) (started : os.Started) (H : Type) (enc : TypeId × Value → H) :
    ReturnsInHanded {} Try.checked os 7 .any (Rows.finJoinsSpec.pre6 enc Try.prog Try.f7 Rows.finJoinsRow.domain false) (Rows.finJoinsSpec.post enc Try.prog Try.f7 false true false false) := by
  refine returnsInHanded_of_change (C := Try.checked) Args.own started (by kernel_rfl) Try.func7
    (ChangeSpec.witness6 (enc := enc) (C := Try.checked) false ⟨#[], #[.slice none 0 0, .slice none 0 0, .slice none 0 0], []⟩ 8 (by kernel_rfl) (by kernel_rfl) (by kernel_rfl) (by kernel_rfl)) ?_
  intro W base args ds gs before hval0 hW hcnd _
  have hval : ∀ (j : Nat) t v, Try.f7.params[j]? = some t → args[j]? = some v → Value.okWide Try.prog W .any base t v := hval0
  have hW' := hW
  obtain ⟨p, q, hA0, hV, rfl, hfz, hnd⟩ := hW
  have hA : DataW.TrodAll enc Try.prog W 0 (fun _ => true) true Try.f7.params.toList args.toList ds p := hA0
  rw [Try.params7] at hA hval
  obtain ⟨v0, vs0, d0, ds0, p0, q0, hargs, rfl, rfl, h0, r0⟩ := trodAll_cons hA
  obtain ⟨v1, vs1, d1, ds1, p1, q1, rfl, rfl, rfl, h1, r1⟩ := trodAll_cons r0
  obtain ⟨v2, vs2, d2, ds2, p2, q2, rfl, rfl, rfl, h2, r2⟩ := trodAll_cons r1
  obtain ⟨rfl, rfl, rfl⟩ := trodAll_nil r2
  obtain rfl : args = #[v0, v1, v2] := by cases args; simp_all
  obtain ⟨rfl, rfl⟩ := trodVars_none hV
  have lt0 := Args.trod_below h0
  obtain ⟨aA, an, ac, az, rfl, ha, hac⟩ := Args.precs_cap (ks := [some .u8, some .i64, some .i64]) (e := 32) (by kernel_rfl) Try.underlying32 (by kernel_rfl) (by kernel_rfl) (by decide) (hval 0 28 v0 rfl rfl) h0
  have lt1 := Args.trod_below h1
  obtain ⟨bA, bn, bc, bz, rfl, hb, hbc⟩ := Args.precs_cap (ks := [some .u8, some .i64, some .i64]) (e := 32) (by kernel_rfl) Try.underlying32 (by kernel_rfl) (by kernel_rfl) (by decide) (hval 1 28 v1 rfl rfl) h1
  have lt2 := Args.trod_below h2
  obtain ⟨slotsA, slotsn, slotsc, slotsz, rfl, hslots, hslotsc⟩ := Args.ints_cap (k := .u64) (e := 41) (by kernel_rfl) (by kernel_rfl) (by kernel_rfl) (hval 2 24 v2 rfl rfl) h2
  clear hA0 hval0
  refine (walk aA an ac az bA bn bc bz slotsA slotsn slotsc slotsz W ha hac hb hbc hslots hslotsc).mono fun e W' ⟨he, bel⟩ => ?_
  subst he
  exact ⟨_, rfl, _, _, _, [], _, [], hW', trodAll_mk1 (shut_bool Try.underlying4 _), trodAll_cons_mk (Below.trod Args.laidOut (by kernel_rfl) (of_decide_eq_true (by kernel_rfl)) h0 bel lt0) (trodAll_cons_mk (Below.trod Args.laidOut (by kernel_rfl) (of_decide_eq_true (by kernel_rfl)) h1 bel lt1) (trodAll_cons_mk (Below.trod Args.laidOut (by kernel_rfl) (of_decide_eq_true (by kernel_rfl)) h2 bel lt2) (trodAll_mk0))), rfl, bel.frame _, fun h => by cases h⟩

theorem over : Rows.finJoinsRow.holds Try.pinned (OpenSpec.ofChange Rows.finJoinsSpec) :=
  OpenClaim.holds_of_wide 7 Try.f7 rfl rfl rfl rfl rfl rfl rfl ⟨rfl, rfl, rfl, rfl, rfl⟩ rfl rfl rfl rfl rfl (by kernel_rfl) Try.func7 (by kernel_rfl)
    (of_decide_eq_true (by kernel_rfl)) (by unfold Func.isWrapper; rw [if_neg (of_decide_eq_false (by kernel_rfl))]; exact ⟨rfl, rfl⟩)
    (fun os started H enc _ => lifted os started H enc)

theorem proved : Rows.FinJoinsSaid :=
  over
end Go.Proofs.Ytapbhcpcechccaa.finJoins
