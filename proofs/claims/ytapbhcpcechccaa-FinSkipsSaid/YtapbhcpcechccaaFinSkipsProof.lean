/-
  penfoldlaw10.FinSkips returns true for every slice of ops, every slice of words and every two bytes, and changes nothing that was there; no condition.
-/
import Derived.Test.YtapbhcpcechccaaRows
import Derived.Test.YtapbhcpcechccaaArgs
import Derived.Test.YtapbhcpcechccaaFinaL
import Derived.Test.YtapbhcpcechccaaSt
namespace Go.Proofs.Ytapbhcpcechccaa.finSkips
open Go.ChangeShapes Go.WideShapes Go.ChangeAt Go.RowKit
set_option linter.unusedVariables false

open Fina Held Slic
theorem skip_yes (R : List O) (a b : Nat) (S : List Int) (h : a < S.length) (hz : S[a] = 0) : Fina.walk ((3, (a : Int), (b : Int)) :: R) 0 S = ⟨(Fina.walk (R.drop b) 0 S).S, (Fina.walk (R.drop b) 0 S).said, (Fina.walk (R.drop b) 0 S).held, (Fina.walk (R.drop b) 0 S).n + 1⟩ := by
  have e1 : leftV S (3, (a : Int), (b : Int)) = b := by simp [leftV, inB, h, hz]
  have e2 : slotsV S (3, (a : Int), (b : Int)) = S := by simp [slotsV]
  rw [Fina.walk, e1, e2, Int.toNat_natCast, walk_drop R b S]
  simp [sayV, holdV]
theorem skip_no (R : List O) (a b : Nat) (S : List Int) (h : ¬ ∃ h : a < S.length, S[a] = 0) : Fina.walk ((3, (a : Int), (b : Int)) :: R) 0 S = ⟨(Fina.walk R 0 S).S, (Fina.walk R 0 S).said, (Fina.walk R 0 S).held, (Fina.walk R 0 S).n + 1⟩ := by
  have e1 : leftV S (3, (a : Int), (b : Int)) = 0 := by
    unfold leftV
    rw [if_neg]
    rintro ⟨_, k1, k2⟩
    simp only [inB, decide_eq_true_eq] at k1
    have k3 : a < S.length := by omega
    rw [Int.toNat_natCast, List.getD_eq_getElem?_getD, List.getElem?_eq_getElem k3] at k2
    exact h ⟨k3, k2⟩
  have e2 : slotsV S (3, (a : Int), (b : Int)) = S := by simp [slotsV]
  rw [Fina.walk, e1, e2]
  simp [sayV, holdV]

set_option maxRecDepth 100000 in
set_option maxHeartbeats 8000000 in
theorem walk (opsA : Option Addr) (opsn opsc : Nat) (opsz : Nat → Nat → Int) (slotsA : Option Addr) (slotsn slotsc : Nat) (slotsz : Nat → Int) (n0 n1 : Int) (w : World) (hops : Args.PRecs [some .u8, some .i64, some .i64] w opsA opsn opsz) (hopsc : opsn ≤ opsc ∧ opsc ≤ maxLen ∧ (opsA = none → opsc = 0)) (hslots : Args.Ints .u64 w slotsA slotsn slotsz) (hslotsc : slotsn ≤ slotsc ∧ slotsc ≤ maxLen ∧ (slotsA = none → slotsc = 0)) (wn0 : (Lit.int .u8 n0).wf = true) (wn1 : (Lit.int .u8 n1).wf = true) :
    Calls Try.prog 6 #[.slice opsA opsn opsc, .slice slotsA slotsn slotsc, .agg #[.int .u8 n0, .int .u8 n1]] w fun e w' => e = .returned (.bool true) ∧ Below w.heap.size w w' := by
  obtain ⟨L0, bO⟩ := came_ops hops hopsc
  have S0 := came_words hslots hslotsc
  have ho := ops_len opsn opsz
  have hs := words_len slotsn slotsz
  generalize opsOf opsn opsz = L at *
  generalize wordsOf slotsn slotsz = S at *
  subst ho hs
  clear hops hslots
  obtain ⟨oc1, oc2, oc3⟩ := hopsc
  obtain ⟨sc1, sc2, sc3⟩ := hslotsc
  have F := Lib.hid (fitp_ok bO)
  have BO := Lib.hid bO
  clear bO
  obtain ⟨na1, na2⟩ := bounds_u8 wn0
  obtain ⟨nb1, nb2⟩ := bounds_u8 wn1
  go_enter Try.func6, Try.ntmps6
  have N0 := (St.start w).new [.int .u8 n0, .int .u8 n1] 43
  go_wp2_with fail
  refine (shown_any _).mono ?_
  rintro z w1 ⟨rfl, k1⟩
  have N1 := N0.call k1
  have L1 := (L0.alloc _).below k1
  have S1 := (S0.alloc _).below k1
  clear L0 S0 k1 N0
  go_wp2_with fail
  refine (fitone_any _ _ opsA L.length opsc L (one_row w1 opsA L.length opsc _ rfl) (L1.alloc _) BO.out).mono ?_
  rintro z w2 ⟨g, c, A, d, rfl, U2⟩
  have S2 := (S1.alloc _).below U2.below
  have N2 := (N1.alloc _).call U2.below
  clear L1 S1 N1
  have d0 := U2.cell
  have hg := U2.lt
  have P2 := U2.row.sr
  obtain ⟨pc1, pc2⟩ := U2.cap
  clear U2
  generalize fitP L = P at *
  obtain ⟨f1, f2, f3, f4⟩ := F.out
  clear F f3 BO
  obtain ⟨m, hm⟩ : ∃ m, m = min P.length 7 := ⟨_, rfl⟩
  have y3 : min (P.length : Int) 7 = (m : Int) := by omega
  have y4 : (if (7 : Int) < (P.length : Int) then (7 : Int) else (P.length : Int)) = (m : Int) := by split <;> omega
  obtain ⟨s1, s2⟩ := slice_h kF A P.length d m (by omega)
  simp only [show kF.X = 28 from rfl] at s1 s2
  have R2 : Sr kF w2 (.slice A m d) (P.take m) := P2.part (by omega) (by omega) (Nat.le_refl _)
  have hrl : (P.take m).length = m := by rw [List.length_take]; omega
  have HL := Lib.hid hrl
  have f1' := okO_take f1 m
  have f2' := okL_take f2 m
  have m7 : m ≤ 7 := by omega
  have md : m ≤ d := by omega
  have HM := Lib.hid hm
  clear hm hrl P2 f1 f2
  generalize P.take m = R at *
  go_wp2_with fail
  refine (few_any _ _ S S2).mono ?_
  rintro z w3 ⟨vs, rfl, S3, rfl⟩
  have T10 : (S.take 10).length ≤ 10 := by rw [List.length_take]; omega
  generalize S.take 10 = T at *
  obtain ⟨TA, tc, rfl, t1, t2⟩ := S3.form
  have hg2 := N2.below.size
  obtain ⟨nl, e0, e1⟩ := N2.get2 0 rfl
  clear S2 y3 y4 s1 s2 d0 hg
  obtain ⟨a, ha⟩ : ∃ a : Nat, n0 % 6 = (a : Int) := ⟨(n0 % 6).toNat, by omega⟩
  obtain ⟨b, hb⟩ : ∃ b : Nat, n1 % 9 = (b : Int) := ⟨(n1 % 9).toNat, by omega⟩
  have HA := Lib.hid ha
  have HB := Lib.hid hb
  have a6 : a ≤ 5 := by omega
  have b8 : b ≤ 8 := by omega
  clear ha hb
  go_upto_region 7 with (fail)
  rw [HA.out, HB.out]
  have B2 := N2.below
  clear N2 e0 e1
  have three : (∃ h : a < T.length, T[a] = 0) ∨ (¬ (∃ h : a < T.length, T[a] = 0) ∧ ¬ a < T.length) ∨ (¬ (∃ h : a < T.length, T[a] = 0) ∧ a < T.length) := by
    by_cases x : (∃ h : a < T.length, T[a] = 0)
    · exact .inl x
    · by_cases y : a < T.length
      · exact .inr (.inr ⟨x, y⟩)
      · exact .inr (.inl ⟨x, y⟩)
  have a0 : (0 : Int) ≤ (a : Int) := by omega
  have ok2 : okO ((3, (a : Int), (b : Int)) :: R) := fun o ho => by
    rcases List.mem_cons.1 ho with rfl | ho
    · simp
    · exact f1' o ho
  have ok3 : okL ((3, (a : Int), (b : Int)) :: R) := fun o ho _ => by
    rcases List.mem_cons.1 ho with rfl | ho
    · simp; omega
    · exact f2' o ho (by assumption)
  rcases three with ⟨ah, hz⟩ | ⟨hz, ah⟩ | ⟨hz, ah⟩
  · have W0 := skip_yes R a b T ah hz
    obtain ⟨gT, oT, rfl, hgT, cT⟩ := word_at S3 a ah
    rw [hz] at cT
    clear hz
    obtain ⟨lo, hlo⟩ : ∃ lo, lo = min b m := ⟨_, rfl⟩
    have y5 : (if (m : Int) < (b : Int) then (m : Int) else (b : Int)) = (lo : Int) := by split <;> omega
    have y6 : (if m < b then (m : Int) else (b : Int)) = (lo : Int) := by split <;> omega
    obtain ⟨A9, s1, s2, M2⟩ := slice_l kF R2 HL.out.symm lo (by omega) md
    simp only [show kF.X = 28 from rfl] at s1 s2
    have eM : R.drop lo = R.drop b := by
      by_cases e : b ≤ m
      · rw [show lo = b by omega]
      · rw [List.drop_of_length_le (by rw [HL.out]; omega), List.drop_of_length_le (by rw [HL.out]; omega)]
    rw [eM] at M2
    have lM : (R.drop b).length ≤ 7 := by rw [List.length_drop, HL.out]; omega
    have okM := okO_drop f1' b
    have okM2 := okL_drop f2' b
    have hN := (walk_len (R.drop b) 0 T).2.1
    generalize R.drop b = M at *
    have HW := Lib.hid W0
    have HN : (Fina.walk M 0 T).n ≤ 1000000 := by omega
    have q1 : decide ((a : Int) < (T.length : Int)) = true := decide_eq_true (by omega)
    have a1 : (a : Int) < (T.length : Int) := by omega
    clear W0 eM hlo hN
    go_upto_region 8 with (
      refine wpList_app (K := kF) (o := ⟨some 50, _, _, _, _, _⟩) rfl (.tmp 48) (.tmp 49) rfl rfl rfl rfl (own_op w2 3 (a : Int) (b : Int)) (R2.alloc _) (by simp; have := HL.out; omega) (by simp) ?_
      intro v4 w4 O4 g4 G4
      have k4 : Below w2.heap.size w2 w4 := G4.below _ _ (Nat.le_refl _) (below_one _ _)
      have M4 := M2.below k4
      have cT4 := (k4.cell (p := ⟨gT, oT + a, none⟩) hgT).trans cT)
    have S4 := S3.below k4
    have B4 := B2.trans (k4.mono hg2)
    clear R2 S3 G4 g4 k4
    go_wp2_with fail
    refine (run_any _ _ _ ((3, (a : Int), (b : Int)) :: R) T O4.sr (by simp; have := HL.out; omega) S4 (by omega) ok2 ok3).mono ?_
    rintro z w5 ⟨vx, vy, rfl, X5, Y5, k5⟩
    rw [HW.out] at X5 Y5 ⊢
    have M5 := M4.below k5
    have S5 := S4.below k5
    have B5 := B4.trans (k5.mono B4.size)
    clear M4 S4 B4 k5 O4 ok2 ok3
    go_wp2_with fail
    refine (run_any _ _ _ M T M5 (by omega) S5 (by omega) okM okM2).mono ?_
    rintro z w6 ⟨vp, vq, rfl, P6, Q6, k6⟩
    generalize Fina.walk M 0 T = r at *
    obtain ⟨rS, rD, rH, rn⟩ := r
    simp only at X5 Y5 P6 Q6 ⊢
    have X6 := X5.sr.below k6
    have Y6 := Y5.sr.below k6
    have B6 := B5.trans (k6.mono B5.size)
    clear M5 S5 X5 Y5 B5 k6 HW
    go_wp2_with fail
    refine (words_any _ _ _ _ _ X6 P6.sr).mono ?_
    rintro z w7 ⟨rfl, k7⟩
    rw [same_self]
    have Y7 := Y6.below k7
    have Q7 := Q6.sr.below k7
    have B7 := B6.trans (k7.mono B6.size)
    clear X6 Y6 P6 Q6 B6 k7
    go_wp2_with fail
    refine (ints_any _ _ _ _ _ Y7 Q7).mono ?_
    rintro z w8 ⟨rfl, k8⟩
    rw [same_self]
    have B8 := B7.trans (k8.mono B7.size)
    clear Y7 Q7 B7 k8
    have rb : rn ≤ 1000000 := HN
    go_wp2
    go_ret
    exact ⟨rfl, B8⟩
  · have W0 := skip_no R a b T hz
    clear hz
    have M2 := R2
    have lM : R.length ≤ 7 := by have := HL.out; omega
    have okM := f1'
    have okM2 := f2'
    have hN := (walk_len R 0 T).2.1
    have HW := Lib.hid W0
    have HN : (Fina.walk R 0 T).n ≤ 1000000 := by omega
    have q1 : decide ((a : Int) < (T.length : Int)) = false := decide_eq_false (by omega)
    clear W0 hN
    go_upto_region 8 with (
      refine wpList_app (K := kF) (o := ⟨some 50, _, _, _, _, _⟩) rfl (.tmp 48) (.tmp 49) rfl rfl rfl rfl (own_op w2 3 (a : Int) (b : Int)) (R2.alloc _) (by simp; have := HL.out; omega) (by simp) ?_
      intro v4 w4 O4 g4 G4
      have k4 : Below w2.heap.size w2 w4 := G4.below _ _ (Nat.le_refl _) (below_one _ _)
      have M4 := M2.below k4)
    have S4 := S3.below k4
    have B4 := B2.trans (k4.mono hg2)
    clear R2 S3 G4 g4 k4
    go_wp2_with fail
    refine (run_any _ _ _ ((3, (a : Int), (b : Int)) :: R) T O4.sr (by simp; have := HL.out; omega) S4 (by omega) ok2 ok3).mono ?_
    rintro z w5 ⟨vx, vy, rfl, X5, Y5, k5⟩
    rw [HW.out] at X5 Y5 ⊢
    have M5 := M4.below k5
    have S5 := S4.below k5
    have B5 := B4.trans (k5.mono B4.size)
    clear M4 S4 B4 k5 O4 ok2 ok3
    go_wp2_with fail
    refine (run_any _ _ _ R T M5 (by omega) S5 (by omega) okM okM2).mono ?_
    rintro z w6 ⟨vp, vq, rfl, P6, Q6, k6⟩
    generalize Fina.walk R 0 T = r at *
    obtain ⟨rS, rD, rH, rn⟩ := r
    simp only at X5 Y5 P6 Q6 ⊢
    have X6 := X5.sr.below k6
    have Y6 := Y5.sr.below k6
    have B6 := B5.trans (k6.mono B5.size)
    clear M5 S5 X5 Y5 B5 k6 HW
    go_wp2_with fail
    refine (words_any _ _ _ _ _ X6 P6.sr).mono ?_
    rintro z w7 ⟨rfl, k7⟩
    rw [same_self]
    have Y7 := Y6.below k7
    have Q7 := Q6.sr.below k7
    have B7 := B6.trans (k7.mono B6.size)
    clear X6 Y6 P6 Q6 B6 k7
    go_wp2_with fail
    refine (ints_any _ _ _ _ _ Y7 Q7).mono ?_
    rintro z w8 ⟨rfl, k8⟩
    rw [same_self]
    have B8 := B7.trans (k8.mono B7.size)
    clear Y7 Q7 B7 k8
    have rb : rn ≤ 1000000 := HN
    go_wp2
    go_ret
    exact ⟨rfl, B8⟩
  · have W0 := skip_no R a b T hz
    obtain ⟨gT, oT, rfl, hgT, cT⟩ := word_at S3 a ah
    have hx : ¬ T[a] = 0 := fun e => hz ⟨ah, e⟩
    generalize T[a] = x at *
    have q2 : (x == 0) = false := by simpa using hx
    clear hz hx
    have M2 := R2
    have lM : R.length ≤ 7 := by have := HL.out; omega
    have okM := f1'
    have okM2 := f2'
    have hN := (walk_len R 0 T).2.1
    have HW := Lib.hid W0
    have HN : (Fina.walk R 0 T).n ≤ 1000000 := by omega
    have q1 : decide ((a : Int) < (T.length : Int)) = true := decide_eq_true (by omega)
    have a1 : (a : Int) < (T.length : Int) := by omega
    clear W0 hN
    go_upto_region 8 with (
      refine wpList_app (K := kF) (o := ⟨some 50, _, _, _, _, _⟩) rfl (.tmp 48) (.tmp 49) rfl rfl rfl rfl (own_op w2 3 (a : Int) (b : Int)) (R2.alloc _) (by simp; have := HL.out; omega) (by simp) ?_
      intro v4 w4 O4 g4 G4
      have k4 : Below w2.heap.size w2 w4 := G4.below _ _ (Nat.le_refl _) (below_one _ _)
      have M4 := M2.below k4
      have cT4 := (k4.cell (p := ⟨gT, oT + a, none⟩) hgT).trans cT)
    have S4 := S3.below k4
    have B4 := B2.trans (k4.mono hg2)
    clear R2 S3 G4 g4 k4
    go_wp2_with fail
    refine (run_any _ _ _ ((3, (a : Int), (b : Int)) :: R) T O4.sr (by simp; have := HL.out; omega) S4 (by omega) ok2 ok3).mono ?_
    rintro z w5 ⟨vx, vy, rfl, X5, Y5, k5⟩
    rw [HW.out] at X5 Y5 ⊢
    have M5 := M4.below k5
    have S5 := S4.below k5
    have B5 := B4.trans (k5.mono B4.size)
    clear M4 S4 B4 k5 O4 ok2 ok3
    go_wp2_with fail
    refine (run_any _ _ _ R T M5 (by omega) S5 (by omega) okM okM2).mono ?_
    rintro z w6 ⟨vp, vq, rfl, P6, Q6, k6⟩
    generalize Fina.walk R 0 T = r at *
    obtain ⟨rS, rD, rH, rn⟩ := r
    simp only at X5 Y5 P6 Q6 ⊢
    have X6 := X5.sr.below k6
    have Y6 := Y5.sr.below k6
    have B6 := B5.trans (k6.mono B5.size)
    clear M5 S5 X5 Y5 B5 k6 HW
    go_wp2_with fail
    refine (words_any _ _ _ _ _ X6 P6.sr).mono ?_
    rintro z w7 ⟨rfl, k7⟩
    rw [same_self]
    have Y7 := Y6.below k7
    have Q7 := Q6.sr.below k7
    have B7 := B6.trans (k7.mono B6.size)
    clear X6 Y6 P6 Q6 B6 k7
    go_wp2_with fail
    refine (ints_any _ _ _ _ _ Y7 Q7).mono ?_
    rintro z w8 ⟨rfl, k8⟩
    rw [same_self]
    have B8 := B7.trans (k8.mono B7.size)
    clear Y7 Q7 B7 k8
    have rb : rn ≤ 1000000 := HN
    go_wp2
    go_ret
    exact ⟨rfl, B8⟩

set_option maxRecDepth 100000 in
theorem lifted (os : Os) (started : os.Started) (H : Type) (enc : TypeId × Value → H) :
    ReturnsInHanded {} Try.checked os 6 .any (Rows.finSkipsSpec.pre6 enc Try.prog Try.f6 Rows.finSkipsRow.domain false) (Rows.finSkipsSpec.post enc Try.prog Try.f6 false true false false) := by
  refine returnsInHanded_of_change (C := Try.checked) Args.own started (by kernel_rfl) Try.func6
    (ChangeSpec.witness6 (enc := enc) (C := Try.checked) false ⟨#[], #[.slice none 0 0, .slice none 0 0, .agg #[.int .u8 0, .int .u8 0]], []⟩ 8 (by kernel_rfl) (by kernel_rfl) (by kernel_rfl) (by kernel_rfl)) ?_
  intro W base args ds gs before hval0 hW hcnd _
  have hval : ∀ (j : Nat) t v, Try.f6.params[j]? = some t → args[j]? = some v → Value.okWide Try.prog W .any base t v := hval0
  have hW' := hW
  obtain ⟨p, q, hA0, hV, rfl, hfz, hnd⟩ := hW
  have hA : DataW.TrodAll enc Try.prog W 0 (fun _ => true) true Try.f6.params.toList args.toList ds p := hA0
  rw [Try.params6] at hA hval
  obtain ⟨v0, vs0, d0, ds0, p0, q0, hargs, rfl, rfl, h0, r0⟩ := trodAll_cons hA
  obtain ⟨v1, vs1, d1, ds1, p1, q1, rfl, rfl, rfl, h1, r1⟩ := trodAll_cons r0
  obtain ⟨v2, vs2, d2, ds2, p2, q2, rfl, rfl, rfl, h2, r2⟩ := trodAll_cons r1
  obtain ⟨rfl, rfl, rfl⟩ := trodAll_nil r2
  obtain rfl : args = #[v0, v1, v2] := by cases args; simp_all
  obtain ⟨rfl, rfl⟩ := trodVars_none hV
  have lt0 := Args.trod_below h0
  obtain ⟨opsA, opsn, opsc, opsz, rfl, hops, hopsc⟩ := Args.precs_cap (ks := [some .u8, some .i64, some .i64]) (e := 32) (by kernel_rfl) Try.underlying32 (by kernel_rfl) (by kernel_rfl) (by decide) (hval 0 28 v0 rfl rfl) h0
  have lt1 := Args.trod_below h1
  obtain ⟨slotsA, slotsn, slotsc, slotsz, rfl, hslots, hslotsc⟩ := Args.ints_cap (k := .u64) (e := 41) (by kernel_rfl) (by kernel_rfl) (by kernel_rfl) (hval 1 24 v1 rfl rfl) h1
  have lt2 := Args.trod_below h2
  obtain ⟨nz, hv2, hn⟩ := Args.arr_in (m := 2) (k := .u8) (e := 5) (by kernel_rfl) (by kernel_rfl) (by kernel_rfl) (by kernel_rfl) (hval 2 43 v2 rfl rfl) h2
  obtain rfl : v2 = .agg #[.int .u8 (nz 0), .int .u8 (nz 1)] := hv2.trans (by kernel_rfl)
  clear hA0 hval0
  refine (walk opsA opsn opsc opsz slotsA slotsn slotsc slotsz (nz 0) (nz 1) W hops hopsc hslots hslotsc (hn 0) (hn 1)).mono fun e W' ⟨he, bel⟩ => ?_
  subst he
  exact ⟨_, rfl, _, _, _, [], _, [], hW', trodAll_mk1 (shut_bool Try.underlying4 _), trodAll_cons_mk (Below.trod Args.laidOut (by kernel_rfl) (of_decide_eq_true (by kernel_rfl)) h0 bel lt0) (trodAll_cons_mk (Below.trod Args.laidOut (by kernel_rfl) (of_decide_eq_true (by kernel_rfl)) h1 bel lt1) (trodAll_cons_mk (Below.trod Args.laidOut (by kernel_rfl) (of_decide_eq_true (by kernel_rfl)) h2 bel lt2) (trodAll_mk0))), rfl, bel.frame _, fun h => by cases h⟩

theorem over : Rows.finSkipsRow.holds Try.pinned (OpenSpec.ofChange Rows.finSkipsSpec) :=
  OpenClaim.holds_of_wide 6 Try.f6 rfl rfl rfl rfl rfl rfl rfl ⟨rfl, rfl, rfl, rfl, rfl⟩ rfl rfl rfl rfl rfl (by kernel_rfl) Try.func6 (by kernel_rfl)
    (of_decide_eq_true (by kernel_rfl)) (by unfold Func.isWrapper; rw [if_neg (of_decide_eq_false (by kernel_rfl))]; exact ⟨rfl, rfl⟩)
    (fun os started H enc _ => lifted os started H enc)

theorem proved : Rows.FinSkipsSaid :=
  over
end Go.Proofs.Ytapbhcpcechccaa.finSkips
