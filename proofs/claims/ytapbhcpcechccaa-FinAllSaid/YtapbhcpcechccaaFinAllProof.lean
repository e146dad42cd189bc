/-
  penfoldlaw10.FinAll returns true for every slice of slices of ops, every two numbers and every slice of words, and changes nothing that was there; no condition.
-/
import Derived.Test.YtapbhcpcechccaaRows
import Derived.Test.YtapbhcpcechccaaArgs
import Derived.Test.YtapbhcpcechccaaFinaL
import Derived.Test.YtapbhcpcechccaaSt
namespace Go.Proofs.Ytapbhcpcechccaa.finAll
open Go.ChangeShapes Go.WideShapes Go.ChangeAt Go.RowKit
set_option linter.unusedVariables false

open Fina Held Slic
theorem some_ok {LL : List (List O)} (h : okOs LL) : okOs (someL LL) := by
  intro L hL
  obtain ⟨M, hM, rfl⟩ := List.mem_map.1 hL
  exact okO_take (h M (List.mem_of_mem_take hM)) 10
theorem of_short {LL : List (List O)} (n : Int) (h : okOs LL) : okO (ofV (someL LL) n) ∧ (ofV (someL LL) n).length ≤ 10 := by
  unfold ofV
  split
  · rename_i hn
    simp only [inB, decide_eq_true_eq] at hn
    have hk : n.toNat < (someL LL).length := by omega
    rw [List.getD_eq_getElem?_getD, List.getElem?_eq_getElem hk]
    refine ⟨some_ok h _ (List.getElem_mem hk), ?_⟩
    simp [someL]
    omega
  · exact ⟨fun o ho => absurd ho List.not_mem_nil, by simp⟩
theorem ok_all {P : List O} (h : ∀ o ∈ P, 0 ≤ o.2.2 ∧ o.2.2 ≤ 100) : okL P := fun o ho _ => h o ho
theorem both_steps (P : List O) (T : List Int) (n : Int) (hl : P.length ≤ 10) (hT : T.length ≤ 10) (hb : okO P) (hk : okL P) : ∃ a' S' D' h',
    (∀ W v u, Sr kF W v P → Sr kU W u T → Calls Try.prog 15 #[v, .int .i64 n, u] W (StepTold W a' S' D' h')) ∧
    (∀ W v u, Sr kF W v P → Sr kU W u T → Calls Try.prog 16 #[v, .int .i64 n, u] W (StepTold W a' S' D' h')) := by
  cases hn : inB n P.length with
  | true =>
    obtain ⟨i, rfl⟩ : ∃ i : Nat, n = i := ⟨n.toNat, by simp only [inB, decide_eq_true_eq] at hn; omega⟩
    have hi : i < P.length := by simp only [inB, decide_eq_true_eq] at hn; omega
    exact ⟨_, _, _, _, fun W v u h1 h2 => stepf_yes W v u P T i h1 (by omega) h2 (by omega) hi hb hk, fun W v u h1 h2 => refstep_yes W v u P T i h1 (by omega) h2 (by omega) hi hb hk⟩
  | false =>
    exact ⟨_, _, _, _, fun W v u h1 h2 => stepf_no W v u P T n h1 (by omega) h2 (by omega) hn, fun W v u h1 h2 => refstep_no W v u P T n h1 (by omega) h2 (by omega) hn⟩

set_option maxRecDepth 100000 in
set_option maxHeartbeats 8000000 in
theorem walk (lv : Value) (lL : _) (n0 n1 : Int) (slotsA : Option Addr) (slotsn slotsc : Nat) (slotsz : Nat → Int) (w : World) (hl : Fina.Came w lv lL) (wn0 : (Lit.int .i64 n0).wf = true) (wn1 : (Lit.int .i64 n1).wf = true) (hslots : Args.Ints .u64 w slotsA slotsn slotsz) (hslotsc : slotsn ≤ slotsc ∧ slotsc ≤ maxLen ∧ (slotsA = none → slotsc = 0)) :
    Calls Try.prog 3 #[lv, .agg #[.int .i64 n0, .int .i64 n1], .slice slotsA slotsn slotsc] w fun e w' => e = .returned (.bool true) ∧ Below w.heap.size w w' := by
  obtain ⟨R0, bO⟩ := hl
  have S0 := came_words hslots hslotsc
  have hs := words_len slotsn slotsz
  generalize wordsOf slotsn slotsz = S at *
  subst hs
  clear hslots
  obtain ⟨sc1, sc2, sc3⟩ := hslotsc
  have OF := Lib.hid (of_short n0 bO)
  have BO := some_ok bO
  clear bO
  go_enter Try.func3, Try.ntmps3
  have N0 := (St.start w).new [.int .i64 n0, .int .i64 n1] 23
  go_wp2_with fail
  refine (shown_any _).mono ?_
  rintro z w1 ⟨rfl, k1⟩
  have N1 := N0.call k1
  have R1 := (R0.below (below_one _ _)).below k1
  have S1 := (S0.alloc _).below k1
  clear R0 S0 k1 N0
  go_wp2_with fail
  refine (some_any _ _ lL R1).mono ?_
  rintro z w2 ⟨v2, rfl, R2, k2⟩
  have N2 := N1.call k2
  have S2 := S1.below k2
  clear R1 S1 k2 N1
  generalize someL lL = LL at *
  obtain ⟨f1, f4⟩ := OF.out
  clear OF
  go_wp2_with fail
  refine (few_any _ _ S S2).mono ?_
  rintro z w3 ⟨vs, rfl, S3, rfl⟩
  have T10 : (S.take 10).length ≤ 10 := by rw [List.length_take]; omega
  generalize S.take 10 = T at *
  obtain ⟨TA, tc, rfl, t1, t2⟩ := S3.form
  clear S2
  obtain ⟨nl, e0, e1⟩ := N2.get2 0 rfl
  go_wp2_with fail
  refine (of_any _ _ LL n0 R2).mono ?_
  rintro z w3 ⟨vp, rfl, P3, rfl⟩
  go_wp2_with fail
  refine (refof_any _ _ LL n0 R2).mono ?_
  rintro z w3 ⟨vq, rfl, Q3, rfl⟩
  generalize ofV LL n0 = P at *
  obtain ⟨PA, pc, rfl, p1, p2⟩ := P3.form
  obtain ⟨QA, qc, rfl, q1, q2⟩ := Q3.form
  go_wp2_with fail
  refine (right_any _ _ LL R2 BO).mono ?_
  rintro z w4 ⟨rfl, k4⟩
  have R4 := R2.below k4
  have N4 := N2.call k4
  have S4 := S3.below k4
  have P4 := P3.below k4
  have Q4 := Q3.below k4
  clear R2 N2 S3 P3 Q3 k4 nl e0 e1
  go_wp2_with fail
  refine (refright_any _ _ LL R4 BO).mono ?_
  rintro z w5 ⟨rfl, k5⟩
  have N5 := N4.call k5
  have S5 := S4.below k5
  have P5 := P4.below k5
  have Q5 := Q4.below k5
  clear R4 N4 S4 P4 Q4 k5 BO
  generalize rightB LL = rb at *
  go_wp2_with fail
  go_loopw [11] (fun t wr => ∃ k : Nat, k ≤ P.length ∧ t = .int .i64 k ∧ Below w5.heap.size w5 wr) (fun t _ => P.length - (intOf t).toNat)
  case atStart => exact ⟨0, by omega, rfl, Below.refl _ _⟩
  case round =>
    obtain ⟨k, hk, rfl, hB⟩ := hrel
    by_cases hlt : k < P.length
    · obtain ⟨g1, o1, rfl, hg1, a0, a1, a2⟩ := op_at (P5.below hB) k hlt
      obtain ⟨g2, o2, rfl, hg2, b0, b1, b2⟩ := op_at (Q5.below hB) k hlt
      generalize P[k] = q at *
      obtain ⟨op, a, b⟩ := q
      simp only at a0 a1 a2 b0 b1 b2
      have y1 : decide ((k : Int) < (P.length : Int)) = true := decide_eq_true (by omega)
      have i0 : (0 : Int) ≤ (k : Int) := by omega
      have i1 : (k : Int) < (P.length : Int) := by omega
      go_wp2
      go_region
      go_wp2
      go_roundw
      case rel => exact ⟨k + 1, by omega, by go_num, hB.drew⟩
      case measure => simp [intOf]; omega
    · obtain rfl : k = P.length := by omega
      have y1 : decide ((P.length : Int) < (P.length : Int)) = false := decide_eq_false (by omega)
      have N6 := N5.call hB
      have S6 := S5.below hB
      have P6 := P5.below hB
      have Q6 := Q5.below hB
      clear N5 S5 P5 Q5 hB
      go_wp2_with fail
      generalize hV : wr = V at *
      clear hV
      go_loop [12] (fun t => ∃ k : Nat, k ≤ P.length ∧ t = .int .i64 k ∧ Hid (∀ o ∈ P.take k, 0 ≤ o.2.2 ∧ o.2.2 ≤ 100)) (fun t => P.length - (intOf t).toNat)
      case atStart => exact ⟨0, by omega, rfl, Lib.hid (by simp)⟩
      case round =>
        obtain ⟨k, hk, rfl, hA⟩ := hrel
        by_cases hlt : k < P.length
        · obtain ⟨g2, o2, rfl, hg2, b0, b1, b2⟩ := op_at Q6 k hlt
          have TT := Lib.hid (List.take_succ_eq_append_getElem hlt)
          generalize P[k] = q at *
          obtain ⟨op, a, b⟩ := q
          simp only at b0 b1 b2
          have y1 : decide ((k : Int) < (P.length : Int)) = true := decide_eq_true (by omega)
          have i0 : (0 : Int) ≤ (k : Int) := by omega
          have i1 : (k : Int) < (P.length : Int) := by omega
          by_cases c1 : b < 0
          · have z1 : decide (b < 0) = true := decide_eq_true c1
            go_wp2
            go_ret
            exact ⟨rfl, N6.below⟩
          · have z1 : decide (b < 0) = false := decide_eq_false c1
            by_cases c2 : 100 < b
            · have z2 : decide (100 < b) = true := decide_eq_true c2
              go_wp2
              go_ret
              exact ⟨rfl, N6.below⟩
            · have z2 : decide (100 < b) = false := decide_eq_false c2
              have Y : Hid (∀ o ∈ P.take (k + 1), 0 ≤ o.2.2 ∧ o.2.2 ≤ 100) := Lib.hid (by
                rw [TT.out]
                intro o ho
                rcases List.mem_append.1 ho with ho | ho
                · exact hA.out o ho
                · simp at ho
                  subst ho
                  exact ⟨by simp only; omega, by simp only; omega⟩)
              go_wp2
              go_round
              case rel => exact ⟨k + 1, by omega, by go_num, Y⟩
              case measure => simp [intOf]; omega
        · obtain rfl : k = P.length := by omega
          have y1 : decide ((P.length : Int) < (P.length : Int)) = false := decide_eq_false (by omega)
          have f2 : okL P := ok_all (by have := hA.out; rwa [List.take_length] at this)
          obtain ⟨a', S', D', h', stA, stB⟩ := both_steps P T n1 (by omega) (by omega) f1 f2
          have STA := Lib.hid stA
          have STB := Lib.hid stB
          clear stA stB hA
          obtain ⟨nl, e0, e1⟩ := N6.get2 0 rfl
          go_wp2_with fail
          refine (STA.out _ _ _ Q6 S6).mono ?_
          rintro z x1 ⟨v1, u1, rfl, X1, Y1, j1⟩
          have N7 := N6.call j1
          have S7 := S6.below j1
          have Q7 := Q6.below j1
          clear N6 S6 Q6 P6 j1 nl e0 e1
          obtain ⟨nl, e0, e1⟩ := N7.get2 0 rfl
          go_wp2_with fail
          refine (STB.out _ _ _ Q7 S7).mono ?_
          rintro z x2 ⟨v2, u2, rfl, X2, Y2, j2⟩
          have N8 := N7.call j2
          have S8 := S7.below j2
          have Q8 := Q7.below j2
          have X1' := X1.sr.below j2
          have Y1' := Y1.sr.below j2
          clear N7 S7 Q7 X1 Y1 j2 nl e0 e1 STA STB
          go_wp2_with fail
          refine (words_any _ _ _ _ _ X1' X2.sr).mono ?_
          rintro z x3 ⟨rfl, j3⟩
          rw [same_self]
          have N9 := N8.call j3
          have S9 := S8.below j3
          have Q9 := Q8.below j3
          have Y1'' := Y1'.below j3
          have Y2' := Y2.sr.below j3
          clear N8 S8 Q8 X1' Y1' X2 Y2 j3
          go_wp2_with fail
          refine (ints_any _ _ _ _ _ Y1'' Y2').mono ?_
          rintro z x4 ⟨rfl, j4⟩
          rw [same_self]
          have NA := N9.call j4
          have SA := S9.below j4
          have QB := Q9.below j4
          clear N9 S9 Q9 Y1'' Y2' j4
          go_wp2_with fail
          refine (run_any _ _ _ P T QB (by omega) SA (by omega) f1 f2).mono ?_
          rintro z x5 ⟨v3, u3, rfl, X3, Y3, j5⟩
          have NB := NA.call j5
          have SB := SA.below j5
          have QC := QB.below j5
          clear NA SA QB j5
          go_wp2_with fail
          refine (refrun_any _ _ _ P T QC (by omega) SB (by omega) f1 f2).mono ?_
          rintro z x6 ⟨v4, u4, rfl, X4, Y4, j6⟩
          generalize Fina.walk P 0 T = r at *
          obtain ⟨rS, rD, rH, rn⟩ := r
          simp only at X3 Y3 X4 Y4 ⊢
          have NC := NB.call j6
          have X3' := X3.sr.below j6
          have Y3' := Y3.sr.below j6
          clear NB SB QC X3 Y3 j6
          go_wp2_with fail
          refine (words_any _ _ _ _ _ X3' X4.sr).mono ?_
          rintro z x7 ⟨rfl, j7⟩
          rw [same_self]
          have ND := NC.call j7
          have Y3'' := Y3'.below j7
          have Y4' := Y4.sr.below j7
          clear NC X3' Y3' X4 Y4 j7
          go_wp2_with fail
          refine (ints_any _ _ _ _ _ Y3'' Y4').mono ?_
          rintro z x8 ⟨rfl, j8⟩
          rw [same_self]
          have NE := ND.call j8
          clear ND Y3'' Y4' j8
          go_wp2
          go_ret
          exact ⟨rfl, NE.below⟩

set_option maxRecDepth 100000 in
theorem lifted (os : Os) (started : os.Started) (H : Type) (enc : TypeId × Value → H) :
    ReturnsInHanded {} Try.checked os 3 .any (Rows.finAllSpec.pre6 enc Try.prog Try.f3 Rows.finAllRow.domain false) (Rows.finAllSpec.post enc Try.prog Try.f3 false true false false) := by
  refine returnsInHanded_of_change (C := Try.checked) Args.own started (by kernel_rfl) Try.func3
    (ChangeSpec.witness6 (enc := enc) (C := Try.checked) false ⟨#[], #[.slice none 0 0, .agg #[.int .i64 0, .int .i64 0], .slice none 0 0], []⟩ 8 (by kernel_rfl) (by kernel_rfl) (by kernel_rfl) (by kernel_rfl)) ?_
  intro W base args ds gs before hval0 hW hcnd _
  have hval : ∀ (j : Nat) t v, Try.f3.params[j]? = some t → args[j]? = some v → Value.okWide Try.prog W .any base t v := hval0
  have hW' := hW
  obtain ⟨p, q, hA0, hV, rfl, hfz, hnd⟩ := hW
  have hA : DataW.TrodAll enc Try.prog W 0 (fun _ => true) true Try.f3.params.toList args.toList ds p := hA0
  rw [Try.params3] at hA hval
  obtain ⟨v0, vs0, d0, ds0, p0, q0, hargs, rfl, rfl, h0, r0⟩ := trodAll_cons hA
  obtain ⟨v1, vs1, d1, ds1, p1, q1, rfl, rfl, rfl, h1, r1⟩ := trodAll_cons r0
  obtain ⟨v2, vs2, d2, ds2, p2, q2, rfl, rfl, rfl, h2, r2⟩ := trodAll_cons r1
  obtain ⟨rfl, rfl, rfl⟩ := trodAll_nil r2
  obtain rfl : args = #[v0, v1, v2] := by cases args; simp_all
  obtain ⟨rfl, rfl⟩ := trodVars_none hV
  have lt0 := Args.trod_below h0
  obtain ⟨lL, hl⟩ := Fina.came_rows (hval 0 22 v0 rfl rfl) h0
  have lt1 := Args.trod_below h1
  obtain ⟨nz, hv1, hn⟩ := Args.arr_in (m := 2) (k := .i64) (e := 3) (by kernel_rfl) (by kernel_rfl) (by kernel_rfl) (by kernel_rfl) (hval 1 23 v1 rfl rfl) h1
  obtain rfl : v1 = .agg #[.int .i64 (nz 0), .int .i64 (nz 1)] := hv1.trans (by kernel_rfl)
  have lt2 := Args.trod_below h2
  obtain ⟨slotsA, slotsn, slotsc, slotsz, rfl, hslots, hslotsc⟩ := Args.ints_cap (k := .u64) (e := 41) (by kernel_rfl) (by kernel_rfl) (by kernel_rfl) (hval 2 24 v2 rfl rfl) h2
  clear hA0 hval0
  refine (walk v0 lL (nz 0) (nz 1) slotsA slotsn slotsc slotsz W hl (hn 0) (hn 1) hslots hslotsc).mono fun e W' ⟨he, bel⟩ => ?_
  subst he
  exact ⟨_, rfl, _, _, _, [], _, [], hW', trodAll_mk1 (shut_bool Try.underlying4 _), trodAll_cons_mk (Below.trod Args.laidOut (by kernel_rfl) (of_decide_eq_true (by kernel_rfl)) h0 bel lt0) (trodAll_cons_mk (Below.trod Args.laidOut (by kernel_rfl) (of_decide_eq_true (by kernel_rfl)) h1 bel lt1) (trodAll_cons_mk (Below.trod Args.laidOut (by kernel_rfl) (of_decide_eq_true (by kernel_rfl)) h2 bel lt2) (trodAll_mk0))), rfl, bel.frame _, fun h => by cases h⟩

theorem over : Rows.finAllRow.holds Try.pinned (OpenSpec.ofChange Rows.finAllSpec) :=
  OpenClaim.holds_of_wide 3 Try.f3 rfl rfl rfl rfl rfl rfl rfl ⟨rfl, rfl, rfl, rfl, rfl⟩ rfl rfl rfl rfl rfl (by kernel_rfl) Try.func3 (by kernel_rfl)
    (of_decide_eq_true (by kernel_rfl)) (by unfold Func.isWrapper; rw [if_neg (of_decide_eq_false (by kernel_rfl))]; exact ⟨rfl, rfl⟩)
    (fun os started H enc _ => lifted os started H enc)

theorem proved : Rows.FinAllSaid :=
  over
end Go.Proofs.Ytapbhcpcechccaa.finAll
