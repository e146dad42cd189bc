/-
  penfoldlaw03.CtlStates returns true for every four integers and every byte; no condition.
-/
import Derived.Test.YtkogamgnkccdlaaRows
import Derived.Test.YtkogamgnkccdlaaArgs
import Derived.Test.YtkogamgnkccdlaaSt
namespace Go.Proofs.Ytkogamgnkccdlaa.ctlStates
open Go.ChangeShapes Go.WideShapes Go.ChangeAt Go.RowKit
set_option linter.unusedVariables false

open Ctl

set_option maxRecDepth 100000 in
set_option maxHeartbeats 8000000 in
theorem walk (c0 c1 c2 c3 : Int) (n : Int) (w : World) (wc0 : (Lit.int .i64 c0).wf = true) (wc1 : (Lit.int .i64 c1).wf = true) (wc2 : (Lit.int .i64 c2).wf = true) (wc3 : (Lit.int .i64 c3).wf = true) (wn : (Lit.int .u8 n).wf = true) :
    Calls Try.prog 8 #[.agg #[.int .i64 c0, .int .i64 c1, .int .i64 c2, .int .i64 c3], .int .u8 n] w fun e w' => e = .returned (.bool true) ∧ Below w.heap.size w w' := by
  revert wc0 wc1 wc2 wc3
  generalize c0 = s
  generalize c1 = c
  generalize c2 = p
  generalize c3 = e
  intro wc0 wc1 wc2 wc3
  have ⟨n1, n2⟩ := bounds_u8 wn
  clear wn wc0 wc1 wc2 wc3
  obtain ⟨f, hf⟩ : ∃ f, n % 8 = f := ⟨_, rfl⟩
  have g1 : 0 ≤ f := by omega
  have g2 : f ≤ 7 := by omega
  by_cases hr : rightB s c p e = true
  · have hr' := of_decide_eq_true (show decide _ = true from hr)
    have b7 : 0 ≤ e := hr'.1
    have b8 : e ≤ 16777215 := hr'.2.1
    rcases (show s = 0 ∨ s = 1 ∨ (s = 2 ∧ ¬ p = f ∧ c = 1 ∧ -1 ≤ p ∧ p ≤ 7) ∨ (s = 2 ∧ ¬ p = f ∧ 2 ≤ c ∧ c ≤ 7 ∧ -1 ≤ p ∧ p ≤ 7) ∨ (s = 2 ∧ p = f ∧ c = 7) ∨ (s = 2 ∧ p = f ∧ c = 1) ∨ (s = 2 ∧ p = f ∧ 2 ≤ c ∧ c ≤ 6) ∨ (s = 3 ∧ c = 0 ∧ -1 ≤ p ∧ p ≤ 7) by omega) with rfl | rfl | ⟨rfl, hp, rfl, b5, b6⟩ | ⟨rfl, hp, b3, b4, b5, b6⟩ | ⟨rfl, rfl, rfl⟩ | ⟨rfl, rfl, rfl⟩ | ⟨rfl, rfl, b3, b4⟩ | ⟨rfl, rfl, b5, b6⟩
    · as_aux_lemma =>
        have HE := Lib.hid (show entV 0 c p e f = ⟨0, 0, 0, 0, 11⟩ by unfold entV; rw [if_pos ⟨hr, g1, g2⟩]; rfl)
        have HL := Lib.hid (show leV 0 c p e = ⟨0, 0, 0, 0, 11⟩ by unfold leV; rw [if_pos hr]; rfl)
        have HO := Lib.hid (show opV 0 c p e = ⟨0, 0, 0, 0, 11⟩ by unfold opV; rw [if_pos hr]; rfl)
        have HH := Lib.hid (show hoV 0 c p e = ⟨0, 0, 0, 0, 11⟩ by unfold hoV; rw [if_pos hr]; rfl)
        clear hr'
        go_enter Try.func8, Try.ntmps8
        have S0 := (St.start w).new 0 c p e 23
        go_wp2_with fail
        refine (lift S0 (shown_any _)).mono ?_
        rintro z w1 ⟨rfl, S1⟩
        clear S0
        obtain ⟨qcl, qca, qcb, qcc, qcd⟩ := S1.get 0 rfl
        go_wp2_with fail
        refine (lift S1 (enter_any _ _ _ _ _ _)).mono ?_
        rintro z w2 ⟨rfl, S2⟩
        rw [HE.out]
        clear qcl qca qcb qcc qcd S1
        obtain ⟨qcl, qca, qcb, qcc, qcd⟩ := S2.get 0 rfl
        go_wp2_with fail
        refine (lift (S2.new 0 0 0 0 23) (leave_any _ _ _ _ _)).mono ?_
        rintro z w3 ⟨rfl, S3⟩
        rw [HL.out]
        clear qcl qca qcb qcc qcd S2
        obtain ⟨qcl, qca, qcb, qcc, qcd⟩ := S3.get 1 rfl
        go_wp2_with fail
        refine (lift (S3.new 0 0 0 0 23) (open_any _ _ _ _ _)).mono ?_
        rintro z w4 ⟨rfl, S4⟩
        rw [HO.out]
        clear qcl qca qcb qcc qcd S3
        obtain ⟨qcl, qca, qcb, qcc, qcd⟩ := S4.get 2 rfl
        go_wp2_with fail
        refine (lift (S4.new 0 0 0 0 23) (hold_any _ _ _ _ _)).mono ?_
        rintro z w5 ⟨rfl, S5⟩
        rw [HH.out]
        clear qcl qca qcb qcc qcd S4
        obtain ⟨qcl, qca, qcb, qcc, qcd⟩ := S5.get 3 rfl
        go_wp2_with fail
        have S5n := S5.new2 0 0 0 0 0 0 0 0 23
        refine (lift S5n (right_any _ _ _ _ _)).mono ?_
        rintro z w6 ⟨rfl, S6⟩
        clear qcl qca qcb qcc qcd S5 S5n
        obtain ⟨qcl, qca, qcb, qcc, qcd⟩ := S6.get 5 rfl
        obtain ⟨qal, qaa, qab, qac, qad⟩ := S6.get 4 rfl
        obtain ⟨qbl, qba, qbb, qbc, qbd⟩ := S6.get 3 rfl
        obtain ⟨qol, qoa, qob, qoc, qod⟩ := S6.get 2 rfl
        obtain ⟨qhl, qha, qhb, qhc, qhd⟩ := S6.get 1 rfl
        obtain ⟨qnl, qna, qnb, qnc, qnd⟩ := S6.get 0 rfl
        go_wp2
        go_ret
        exact ⟨rfl, S6.below⟩
    · as_aux_lemma =>
        have HE := Lib.hid (show entV 1 c p e f = ⟨2, 1, f, e, 0⟩ by unfold entV; rw [if_pos ⟨hr, g1, g2⟩]; rfl)
        have HL := Lib.hid (show leV 1 c p e = ⟨0, 0, 0, 0, 11⟩ by unfold leV; rw [if_pos hr]; rfl)
        have HO := Lib.hid (show opV 1 c p e = ⟨0, 0, 0, 0, 11⟩ by unfold opV; rw [if_pos hr]; rfl)
        have HH := Lib.hid (show hoV 1 c p e = ⟨0, 0, 0, 0, 11⟩ by unfold hoV; rw [if_pos hr]; rfl)
        have r0 : rightB 2 1 f e = true := decide_eq_true (by omega)
        clear hr'
        go_enter Try.func8, Try.ntmps8
        have S0 := (St.start w).new 1 c p e 23
        go_wp2_with fail
        refine (lift S0 (shown_any _)).mono ?_
        rintro z w1 ⟨rfl, S1⟩
        clear S0
        obtain ⟨qcl, qca, qcb, qcc, qcd⟩ := S1.get 0 rfl
        go_wp2_with fail
        refine (lift S1 (enter_any _ _ _ _ _ _)).mono ?_
        rintro z w2 ⟨rfl, S2⟩
        rw [HE.out]
        clear qcl qca qcb qcc qcd S1
        obtain ⟨qcl, qca, qcb, qcc, qcd⟩ := S2.get 0 rfl
        go_wp2_with fail
        refine (lift (S2.new 2 1 f e 23) (leave_any _ _ _ _ _)).mono ?_
        rintro z w3 ⟨rfl, S3⟩
        rw [HL.out]
        clear qcl qca qcb qcc qcd S2
        obtain ⟨qcl, qca, qcb, qcc, qcd⟩ := S3.get 1 rfl
        go_wp2_with fail
        refine (lift (S3.new 0 0 0 0 23) (open_any _ _ _ _ _)).mono ?_
        rintro z w4 ⟨rfl, S4⟩
        rw [HO.out]
        clear qcl qca qcb qcc qcd S3
        obtain ⟨qcl, qca, qcb, qcc, qcd⟩ := S4.get 2 rfl
        go_wp2_with fail
        refine (lift (S4.new 0 0 0 0 23) (hold_any _ _ _ _ _)).mono ?_
        rintro z w5 ⟨rfl, S5⟩
        rw [HH.out]
        clear qcl qca qcb qcc qcd S4
        obtain ⟨qcl, qca, qcb, qcc, qcd⟩ := S5.get 3 rfl
        go_wp2_with fail
        have S5n := S5.new2 0 0 0 0 0 0 0 0 23
        refine (lift S5n (right_any _ _ _ _ _)).mono ?_
        rintro z w6 ⟨rfl, S6⟩
        clear qcl qca qcb qcc qcd S5 S5n
        obtain ⟨qcl, qca, qcb, qcc, qcd⟩ := S6.get 5 rfl
        obtain ⟨qal, qaa, qab, qac, qad⟩ := S6.get 4 rfl
        obtain ⟨qbl, qba, qbb, qbc, qbd⟩ := S6.get 3 rfl
        obtain ⟨qol, qoa, qob, qoc, qod⟩ := S6.get 2 rfl
        obtain ⟨qhl, qha, qhb, qhc, qhd⟩ := S6.get 1 rfl
        obtain ⟨qnl, qna, qnb, qnc, qnd⟩ := S6.get 0 rfl
        go_wp2_with fail
        refine (lift S6 (right_any _ _ _ _ _)).mono ?_
        rintro z w7 ⟨rfl, S7⟩
        clear qcl qca qcb qcc qcd qal qaa qab qac qad qbl qba qbb qbc qbd qol qoa qob qoc qod qhl qha qhb qhc qhd qnl qna qnb qnc qnd S6
        obtain ⟨qcl, qca, qcb, qcc, qcd⟩ := S7.get 5 rfl
        obtain ⟨qal, qaa, qab, qac, qad⟩ := S7.get 4 rfl
        obtain ⟨qbl, qba, qbb, qbc, qbd⟩ := S7.get 3 rfl
        obtain ⟨qol, qoa, qob, qoc, qod⟩ := S7.get 2 rfl
        obtain ⟨qhl, qha, qhb, qhc, qhd⟩ := S7.get 1 rfl
        obtain ⟨qnl, qna, qnb, qnc, qnd⟩ := S7.get 0 rfl
        go_wp2
        go_ret
        exact ⟨rfl, S7.below⟩
    · as_aux_lemma =>
        have HE := Lib.hid (show entV 2 1 p e f = ⟨0, 0, 0, 0, 15⟩ by unfold entV; rw [if_pos ⟨hr, g1, g2⟩]; rw [if_neg (by omega), if_neg (by omega), if_neg (by omega), if_neg hp]; rfl)
        have HL := Lib.hid (show leV 2 1 p e = ⟨3, 0, p, e, 0⟩ by unfold leV; rw [if_pos hr]; rfl)
        have HO := Lib.hid (show opV 2 1 p e = ⟨0, 0, 0, 0, 11⟩ by unfold opV; rw [if_pos hr]; rfl)
        have HH := Lib.hid (show hoV 2 1 p e = ⟨0, 0, 0, 0, 11⟩ by unfold hoV; rw [if_pos hr]; rfl)
        have r1 : rightB 3 0 p e = true := decide_eq_true (by omega)
        clear hr' hp
        go_enter Try.func8, Try.ntmps8
        have S0 := (St.start w).new 2 1 p e 23
        go_wp2_with fail
        refine (lift S0 (shown_any _)).mono ?_
        rintro z w1 ⟨rfl, S1⟩
        clear S0
        obtain ⟨qcl, qca, qcb, qcc, qcd⟩ := S1.get 0 rfl
        go_wp2_with fail
        refine (lift S1 (enter_any _ _ _ _ _ _)).mono ?_
        rintro z w2 ⟨rfl, S2⟩
        rw [HE.out]
        clear qcl qca qcb qcc qcd S1
        obtain ⟨qcl, qca, qcb, qcc, qcd⟩ := S2.get 0 rfl
        go_wp2_with fail
        refine (lift (S2.new 0 0 0 0 23) (leave_any _ _ _ _ _)).mono ?_
        rintro z w3 ⟨rfl, S3⟩
        rw [HL.out]
        clear qcl qca qcb qcc qcd S2
        obtain ⟨qcl, qca, qcb, qcc, qcd⟩ := S3.get 1 rfl
        go_wp2_with fail
        refine (lift (S3.new 3 0 p e 23) (open_any _ _ _ _ _)).mono ?_
        rintro z w4 ⟨rfl, S4⟩
        rw [HO.out]
        clear qcl qca qcb qcc qcd S3
        obtain ⟨qcl, qca, qcb, qcc, qcd⟩ := S4.get 2 rfl
        go_wp2_with fail
        refine (lift (S4.new 0 0 0 0 23) (hold_any _ _ _ _ _)).mono ?_
        rintro z w5 ⟨rfl, S5⟩
        rw [HH.out]
        clear qcl qca qcb qcc qcd S4
        obtain ⟨qcl, qca, qcb, qcc, qcd⟩ := S5.get 3 rfl
        go_wp2_with fail
        have S5n := S5.new2 0 0 0 0 0 0 0 0 23
        refine (lift S5n (right_any _ _ _ _ _)).mono ?_
        rintro z w6 ⟨rfl, S6⟩
        clear qcl qca qcb qcc qcd S5 S5n
        obtain ⟨qcl, qca, qcb, qcc, qcd⟩ := S6.get 5 rfl
        obtain ⟨qal, qaa, qab, qac, qad⟩ := S6.get 4 rfl
        obtain ⟨qbl, qba, qbb, qbc, qbd⟩ := S6.get 3 rfl
        obtain ⟨qol, qoa, qob, qoc, qod⟩ := S6.get 2 rfl
        obtain ⟨qhl, qha, qhb, qhc, qhd⟩ := S6.get 1 rfl
        obtain ⟨qnl, qna, qnb, qnc, qnd⟩ := S6.get 0 rfl
        go_wp2_with fail
        refine (lift S6 (right_any _ _ _ _ _)).mono ?_
        rintro z w7 ⟨rfl, S7⟩
        clear qcl qca qcb qcc qcd qal qaa qab qac qad qbl qba qbb qbc qbd qol qoa qob qoc qod qhl qha qhb qhc qhd qnl qna qnb qnc qnd S6
        obtain ⟨qcl, qca, qcb, qcc, qcd⟩ := S7.get 5 rfl
        obtain ⟨qal, qaa, qab, qac, qad⟩ := S7.get 4 rfl
        obtain ⟨qbl, qba, qbb, qbc, qbd⟩ := S7.get 3 rfl
        obtain ⟨qol, qoa, qob, qoc, qod⟩ := S7.get 2 rfl
        obtain ⟨qhl, qha, qhb, qhc, qhd⟩ := S7.get 1 rfl
        obtain ⟨qnl, qna, qnb, qnc, qnd⟩ := S7.get 0 rfl
        go_wp2
        go_ret
        exact ⟨rfl, S7.below⟩
    · as_aux_lemma =>
        have HE := Lib.hid (show entV 2 c p e f = ⟨0, 0, 0, 0, 15⟩ by unfold entV; rw [if_pos ⟨hr, g1, g2⟩]; rw [if_neg (by omega), if_neg (by omega), if_neg (by omega), if_neg hp]; rfl)
        have HL := Lib.hid (show leV 2 c p e = ⟨2, c - 1, p, e, 0⟩ by unfold leV; rw [if_pos hr]; rw [if_pos rfl, if_neg (by omega)])
        have HO := Lib.hid (show opV 2 c p e = ⟨0, 0, 0, 0, 11⟩ by unfold opV; rw [if_pos hr]; rfl)
        have HH := Lib.hid (show hoV 2 c p e = ⟨0, 0, 0, 0, 11⟩ by unfold hoV; rw [if_pos hr]; rfl)
        have r1 : rightB 2 (c - 1) p e = true := decide_eq_true (by omega)
        clear hr' hp
        go_enter Try.func8, Try.ntmps8
        have S0 := (St.start w).new 2 c p e 23
        go_wp2_with fail
        refine (lift S0 (shown_any _)).mono ?_
        rintro z w1 ⟨rfl, S1⟩
        clear S0
        obtain ⟨qcl, qca, qcb, qcc, qcd⟩ := S1.get 0 rfl
        go_wp2_with fail
        refine (lift S1 (enter_any _ _ _ _ _ _)).mono ?_
        rintro z w2 ⟨rfl, S2⟩
        rw [HE.out]
        clear qcl qca qcb qcc qcd S1
        obtain ⟨qcl, qca, qcb, qcc, qcd⟩ := S2.get 0 rfl
        go_wp2_with fail
        refine (lift (S2.new 0 0 0 0 23) (leave_any _ _ _ _ _)).mono ?_
        rintro z w3 ⟨rfl, S3⟩
        rw [HL.out]
        clear qcl qca qcb qcc qcd S2
        obtain ⟨qcl, qca, qcb, qcc, qcd⟩ := S3.get 1 rfl
        go_wp2_with fail
        refine (lift (S3.new 2 (c - 1) p e 23) (open_any _ _ _ _ _)).mono ?_
        rintro z w4 ⟨rfl, S4⟩
        rw [HO.out]
        clear qcl qca qcb qcc qcd S3
        obtain ⟨qcl, qca, qcb, qcc, qcd⟩ := S4.get 2 rfl
        go_wp2_with fail
        refine (lift (S4.new 0 0 0 0 23) (hold_any _ _ _ _ _)).mono ?_
        rintro z w5 ⟨rfl, S5⟩
        rw [HH.out]
        clear qcl qca qcb qcc qcd S4
        obtain ⟨qcl, qca, qcb, qcc, qcd⟩ := S5.get 3 rfl
        go_wp2_with fail
        have S5n := S5.new2 0 0 0 0 0 0 0 0 23
        refine (lift S5n (right_any _ _ _ _ _)).mono ?_
        rintro z w6 ⟨rfl, S6⟩
        clear qcl qca qcb qcc qcd S5 S5n
        obtain ⟨qcl, qca, qcb, qcc, qcd⟩ := S6.get 5 rfl
        obtain ⟨qal, qaa, qab, qac, qad⟩ := S6.get 4 rfl
        obtain ⟨qbl, qba, qbb, qbc, qbd⟩ := S6.get 3 rfl
        obtain ⟨qol, qoa, qob, qoc, qod⟩ := S6.get 2 rfl
        obtain ⟨qhl, qha, qhb, qhc, qhd⟩ := S6.get 1 rfl
        obtain ⟨qnl, qna, qnb, qnc, qnd⟩ := S6.get 0 rfl
        go_wp2_with fail
        refine (lift S6 (right_any _ _ _ _ _)).mono ?_
        rintro z w7 ⟨rfl, S7⟩
        clear qcl qca qcb qcc qcd qal qaa qab qac qad qbl qba qbb qbc qbd qol qoa qob qoc qod qhl qha qhb qhc qhd qnl qna qnb qnc qnd S6
        obtain ⟨qcl, qca, qcb, qcc, qcd⟩ := S7.get 5 rfl
        obtain ⟨qal, qaa, qab, qac, qad⟩ := S7.get 4 rfl
        obtain ⟨qbl, qba, qbb, qbc, qbd⟩ := S7.get 3 rfl
        obtain ⟨qol, qoa, qob, qoc, qod⟩ := S7.get 2 rfl
        obtain ⟨qhl, qha, qhb, qhc, qhd⟩ := S7.get 1 rfl
        obtain ⟨qnl, qna, qnb, qnc, qnd⟩ := S7.get 0 rfl
        go_wp2
        go_ret
        exact ⟨rfl, S7.below⟩
    · as_aux_lemma =>
        have HE := Lib.hid (show entV 2 7 p e p = ⟨0, 0, 0, 0, 16⟩ by unfold entV; rw [if_pos ⟨hr, g1, g2⟩]; rw [if_neg (by omega), if_neg (by omega), if_neg (by omega), if_pos rfl, if_pos rfl]; rfl)
        have HL := Lib.hid (show leV 2 7 p e = ⟨2, 6, p, e, 0⟩ by unfold leV; rw [if_pos hr]; rfl)
        have HO := Lib.hid (show opV 2 7 p e = ⟨0, 0, 0, 0, 11⟩ by unfold opV; rw [if_pos hr]; rfl)
        have HH := Lib.hid (show hoV 2 7 p e = ⟨0, 0, 0, 0, 11⟩ by unfold hoV; rw [if_pos hr]; rfl)
        have r1 : rightB 2 6 p e = true := decide_eq_true (by omega)
        clear hr'
        go_enter Try.func8, Try.ntmps8
        have S0 := (St.start w).new 2 7 p e 23
        go_wp2_with fail
        refine (lift S0 (shown_any _)).mono ?_
        rintro z w1 ⟨rfl, S1⟩
        clear S0
        obtain ⟨qcl, qca, qcb, qcc, qcd⟩ := S1.get 0 rfl
        go_wp2_with fail
        refine (lift S1 (enter_any _ _ _ _ _ _)).mono ?_
        rintro z w2 ⟨rfl, S2⟩
        rw [HE.out]
        clear qcl qca qcb qcc qcd S1
        obtain ⟨qcl, qca, qcb, qcc, qcd⟩ := S2.get 0 rfl
        go_wp2_with fail
        refine (lift (S2.new 0 0 0 0 23) (leave_any _ _ _ _ _)).mono ?_
        rintro z w3 ⟨rfl, S3⟩
        rw [HL.out]
        clear qcl qca qcb qcc qcd S2
        obtain ⟨qcl, qca, qcb, qcc, qcd⟩ := S3.get 1 rfl
        go_wp2_with fail
        refine (lift (S3.new 2 6 p e 23) (open_any _ _ _ _ _)).mono ?_
        rintro z w4 ⟨rfl, S4⟩
        rw [HO.out]
        clear qcl qca qcb qcc qcd S3
        obtain ⟨qcl, qca, qcb, qcc, qcd⟩ := S4.get 2 rfl
        go_wp2_with fail
        refine (lift (S4.new 0 0 0 0 23) (hold_any _ _ _ _ _)).mono ?_
        rintro z w5 ⟨rfl, S5⟩
        rw [HH.out]
        clear qcl qca qcb qcc qcd S4
        obtain ⟨qcl, qca, qcb, qcc, qcd⟩ := S5.get 3 rfl
        go_wp2_with fail
        have S5n := S5.new2 0 0 0 0 0 0 0 0 23
        refine (lift S5n (right_any _ _ _ _ _)).mono ?_
        rintro z w6 ⟨rfl, S6⟩
        clear qcl qca qcb qcc qcd S5 S5n
        obtain ⟨qcl, qca, qcb, qcc, qcd⟩ := S6.get 5 rfl
        obtain ⟨qal, qaa, qab, qac, qad⟩ := S6.get 4 rfl
        obtain ⟨qbl, qba, qbb, qbc, qbd⟩ := S6.get 3 rfl
        obtain ⟨qol, qoa, qob, qoc, qod⟩ := S6.get 2 rfl
        obtain ⟨qhl, qha, qhb, qhc, qhd⟩ := S6.get 1 rfl
        obtain ⟨qnl, qna, qnb, qnc, qnd⟩ := S6.get 0 rfl
        go_wp2_with fail
        refine (lift S6 (right_any _ _ _ _ _)).mono ?_
        rintro z w7 ⟨rfl, S7⟩
        clear qcl qca qcb qcc qcd qal qaa qab qac qad qbl qba qbb qbc qbd qol qoa qob qoc qod qhl qha qhb qhc qhd qnl qna qnb qnc qnd S6
        obtain ⟨qcl, qca, qcb, qcc, qcd⟩ := S7.get 5 rfl
        obtain ⟨qal, qaa, qab, qac, qad⟩ := S7.get 4 rfl
        obtain ⟨qbl, qba, qbb, qbc, qbd⟩ := S7.get 3 rfl
        obtain ⟨qol, qoa, qob, qoc, qod⟩ := S7.get 2 rfl
        obtain ⟨qhl, qha, qhb, qhc, qhd⟩ := S7.get 1 rfl
        obtain ⟨qnl, qna, qnb, qnc, qnd⟩ := S7.get 0 rfl
        go_wp2
        go_ret
        exact ⟨rfl, S7.below⟩
    · as_aux_lemma =>
        have HE := Lib.hid (show entV 2 1 p e p = ⟨2, 2, p, e, 0⟩ by unfold entV; rw [if_pos ⟨hr, g1, g2⟩]; rw [if_neg (by omega), if_neg (by omega), if_neg (by omega), if_pos rfl, if_neg (by omega)]; rfl)
        have HL := Lib.hid (show leV 2 1 p e = ⟨3, 0, p, e, 0⟩ by unfold leV; rw [if_pos hr]; rfl)
        have HO := Lib.hid (show opV 2 1 p e = ⟨0, 0, 0, 0, 11⟩ by unfold opV; rw [if_pos hr]; rfl)
        have HH := Lib.hid (show hoV 2 1 p e = ⟨0, 0, 0, 0, 11⟩ by unfold hoV; rw [if_pos hr]; rfl)
        have r0 : rightB 2 2 p e = true := decide_eq_true (by omega)
        have r1 : rightB 3 0 p e = true := decide_eq_true (by omega)
        clear hr'
        go_enter Try.func8, Try.ntmps8
        have S0 := (St.start w).new 2 1 p e 23
        go_wp2_with fail
        refine (lift S0 (shown_any _)).mono ?_
        rintro z w1 ⟨rfl, S1⟩
        clear S0
        obtain ⟨qcl, qca, qcb, qcc, qcd⟩ := S1.get 0 rfl
        go_wp2_with fail
        refine (lift S1 (enter_any _ _ _ _ _ _)).mono ?_
        rintro z w2 ⟨rfl, S2⟩
        rw [HE.out]
        clear qcl qca qcb qcc qcd S1
        obtain ⟨qcl, qca, qcb, qcc, qcd⟩ := S2.get 0 rfl
        go_wp2_with fail
        refine (lift (S2.new 2 2 p e 23) (leave_any _ _ _ _ _)).mono ?_
        rintro z w3 ⟨rfl, S3⟩
        rw [HL.out]
        clear qcl qca qcb qcc qcd S2
        obtain ⟨qcl, qca, qcb, qcc, qcd⟩ := S3.get 1 rfl
        go_wp2_with fail
        refine (lift (S3.new 3 0 p e 23) (open_any _ _ _ _ _)).mono ?_
        rintro z w4 ⟨rfl, S4⟩
        rw [HO.out]
        clear qcl qca qcb qcc qcd S3
        obtain ⟨qcl, qca, qcb, qcc, qcd⟩ := S4.get 2 rfl
        go_wp2_with fail
        refine (lift (S4.new 0 0 0 0 23) (hold_any _ _ _ _ _)).mono ?_
        rintro z w5 ⟨rfl, S5⟩
        rw [HH.out]
        clear qcl qca qcb qcc qcd S4
        obtain ⟨qcl, qca, qcb, qcc, qcd⟩ := S5.get 3 rfl
        go_wp2_with fail
        have S5n := S5.new2 0 0 0 0 0 0 0 0 23
        refine (lift S5n (right_any _ _ _ _ _)).mono ?_
        rintro z w6 ⟨rfl, S6⟩
        clear qcl qca qcb qcc qcd S5 S5n
        obtain ⟨qcl, qca, qcb, qcc, qcd⟩ := S6.get 5 rfl
        obtain ⟨qal, qaa, qab, qac, qad⟩ := S6.get 4 rfl
        obtain ⟨qbl, qba, qbb, qbc, qbd⟩ := S6.get 3 rfl
        obtain ⟨qol, qoa, qob, qoc, qod⟩ := S6.get 2 rfl
        obtain ⟨qhl, qha, qhb, qhc, qhd⟩ := S6.get 1 rfl
        obtain ⟨qnl, qna, qnb, qnc, qnd⟩ := S6.get 0 rfl
        go_wp2_with fail
        refine (lift S6 (right_any _ _ _ _ _)).mono ?_
        rintro z w7 ⟨rfl, S7⟩
        clear qcl qca qcb qcc qcd qal qaa qab qac qad qbl qba qbb qbc qbd qol qoa qob qoc qod qhl qha qhb qhc qhd qnl qna qnb qnc qnd S6
        obtain ⟨qcl, qca, qcb, qcc, qcd⟩ := S7.get 5 rfl
        obtain ⟨qal, qaa, qab, qac, qad⟩ := S7.get 4 rfl
        obtain ⟨qbl, qba, qbb, qbc, qbd⟩ := S7.get 3 rfl
        obtain ⟨qol, qoa, qob, qoc, qod⟩ := S7.get 2 rfl
        obtain ⟨qhl, qha, qhb, qhc, qhd⟩ := S7.get 1 rfl
        obtain ⟨qnl, qna, qnb, qnc, qnd⟩ := S7.get 0 rfl
        go_wp2_with fail
        refine (lift S7 (right_any _ _ _ _ _)).mono ?_
        rintro z w8 ⟨rfl, S8⟩
        clear qcl qca qcb qcc qcd qal qaa qab qac qad qbl qba qbb qbc qbd qol qoa qob qoc qod qhl qha qhb qhc qhd qnl qna qnb qnc qnd S7
        obtain ⟨qcl, qca, qcb, qcc, qcd⟩ := S8.get 5 rfl
        obtain ⟨qal, qaa, qab, qac, qad⟩ := S8.get 4 rfl
        obtain ⟨qbl, qba, qbb, qbc, qbd⟩ := S8.get 3 rfl
        obtain ⟨qol, qoa, qob, qoc, qod⟩ := S8.get 2 rfl
        obtain ⟨qhl, qha, qhb, qhc, qhd⟩ := S8.get 1 rfl
        obtain ⟨qnl, qna, qnb, qnc, qnd⟩ := S8.get 0 rfl
        go_wp2
        go_ret
        exact ⟨rfl, S8.below⟩
    · as_aux_lemma =>
        have HE := Lib.hid (show entV 2 c p e p = ⟨2, c + 1, p, e, 0⟩ by unfold entV; rw [if_pos ⟨hr, g1, g2⟩]; rw [if_neg (by omega), if_neg (by omega), if_neg (by omega), if_pos rfl, if_neg (by omega)])
        have HL := Lib.hid (show leV 2 c p e = ⟨2, c - 1, p, e, 0⟩ by unfold leV; rw [if_pos hr]; rw [if_pos rfl, if_neg (by omega)])
        have HO := Lib.hid (show opV 2 c p e = ⟨0, 0, 0, 0, 11⟩ by unfold opV; rw [if_pos hr]; rfl)
        have HH := Lib.hid (show hoV 2 c p e = ⟨0, 0, 0, 0, 11⟩ by unfold hoV; rw [if_pos hr]; rfl)
        have r0 : rightB 2 (c + 1) p e = true := decide_eq_true (by omega)
        have r1 : rightB 2 (c - 1) p e = true := decide_eq_true (by omega)
        clear hr'
        go_enter Try.func8, Try.ntmps8
        have S0 := (St.start w).new 2 c p e 23
        go_wp2_with fail
        refine (lift S0 (shown_any _)).mono ?_
        rintro z w1 ⟨rfl, S1⟩
        clear S0
        obtain ⟨qcl, qca, qcb, qcc, qcd⟩ := S1.get 0 rfl
        go_wp2_with fail
        refine (lift S1 (enter_any _ _ _ _ _ _)).mono ?_
        rintro z w2 ⟨rfl, S2⟩
        rw [HE.out]
        clear qcl qca qcb qcc qcd S1
        obtain ⟨qcl, qca, qcb, qcc, qcd⟩ := S2.get 0 rfl
        go_wp2_with fail
        refine (lift (S2.new 2 (c + 1) p e 23) (leave_any _ _ _ _ _)).mono ?_
        rintro z w3 ⟨rfl, S3⟩
        rw [HL.out]
        clear qcl qca qcb qcc qcd S2
        obtain ⟨qcl, qca, qcb, qcc, qcd⟩ := S3.get 1 rfl
        go_wp2_with fail
        refine (lift (S3.new 2 (c - 1) p e 23) (open_any _ _ _ _ _)).mono ?_
        rintro z w4 ⟨rfl, S4⟩
        rw [HO.out]
        clear qcl qca qcb qcc qcd S3
        obtain ⟨qcl, qca, qcb, qcc, qcd⟩ := S4.get 2 rfl
        go_wp2_with fail
        refine (lift (S4.new 0 0 0 0 23) (hold_any _ _ _ _ _)).mono ?_
        rintro z w5 ⟨rfl, S5⟩
        rw [HH.out]
        clear qcl qca qcb qcc qcd S4
        obtain ⟨qcl, qca, qcb, qcc, qcd⟩ := S5.get 3 rfl
        go_wp2_with fail
        have S5n := S5.new2 0 0 0 0 0 0 0 0 23
        refine (lift S5n (right_any _ _ _ _ _)).mono ?_
        rintro z w6 ⟨rfl, S6⟩
        clear qcl qca qcb qcc qcd S5 S5n
        obtain ⟨qcl, qca, qcb, qcc, qcd⟩ := S6.get 5 rfl
        obtain ⟨qal, qaa, qab, qac, qad⟩ := S6.get 4 rfl
        obtain ⟨qbl, qba, qbb, qbc, qbd⟩ := S6.get 3 rfl
        obtain ⟨qol, qoa, qob, qoc, qod⟩ := S6.get 2 rfl
        obtain ⟨qhl, qha, qhb, qhc, qhd⟩ := S6.get 1 rfl
        obtain ⟨qnl, qna, qnb, qnc, qnd⟩ := S6.get 0 rfl
        go_wp2_with fail
        refine (lift S6 (right_any _ _ _ _ _)).mono ?_
        rintro z w7 ⟨rfl, S7⟩
        clear qcl qca qcb qcc qcd qal qaa qab qac qad qbl qba qbb qbc qbd qol qoa qob qoc qod qhl qha qhb qhc qhd qnl qna qnb qnc qnd S6
        obtain ⟨qcl, qca, qcb, qcc, qcd⟩ := S7.get 5 rfl
        obtain ⟨qal, qaa, qab, qac, qad⟩ := S7.get 4 rfl
        obtain ⟨qbl, qba, qbb, qbc, qbd⟩ := S7.get 3 rfl
        obtain ⟨qol, qoa, qob, qoc, qod⟩ := S7.get 2 rfl
        obtain ⟨qhl, qha, qhb, qhc, qhd⟩ := S7.get 1 rfl
        obtain ⟨qnl, qna, qnb, qnc, qnd⟩ := S7.get 0 rfl
        go_wp2_with fail
        refine (lift S7 (right_any _ _ _ _ _)).mono ?_
        rintro z w8 ⟨rfl, S8⟩
        clear qcl qca qcb qcc qcd qal qaa qab qac qad qbl qba qbb qbc qbd qol qoa qob qoc qod qhl qha qhb qhc qhd qnl qna qnb qnc qnd S7
        obtain ⟨qcl, qca, qcb, qcc, qcd⟩ := S8.get 5 rfl
        obtain ⟨qal, qaa, qab, qac, qad⟩ := S8.get 4 rfl
        obtain ⟨qbl, qba, qbb, qbc, qbd⟩ := S8.get 3 rfl
        obtain ⟨qol, qoa, qob, qoc, qod⟩ := S8.get 2 rfl
        obtain ⟨qhl, qha, qhb, qhc, qhd⟩ := S8.get 1 rfl
        obtain ⟨qnl, qna, qnb, qnc, qnd⟩ := S8.get 0 rfl
        go_wp2
        go_ret
        exact ⟨rfl, S8.below⟩
    · as_aux_lemma =>
        have HE := Lib.hid (show entV 3 0 p e f = ⟨0, 0, 0, 0, 10⟩ by unfold entV; rw [if_pos ⟨hr, g1, g2⟩]; rfl)
        have HL := Lib.hid (show leV 3 0 p e = ⟨0, 0, 0, 0, 11⟩ by unfold leV; rw [if_pos hr]; rfl)
        have HO := Lib.hid (show opV 3 0 p e = ⟨1, 0, -1, (e + 1) % 16777216, 0⟩ by unfold opV; rw [if_pos hr]; rfl)
        have HH := Lib.hid (show hoV 3 0 p e = ⟨2, 1, p, e, 0⟩ by unfold hoV; rw [if_pos hr]; rfl)
        have r2 : rightB 1 0 (-1) ((e + 1) % 16777216) = true := decide_eq_true (by omega)
        have r3 : rightB 2 1 p e = true := decide_eq_true (by omega)
        clear hr'
        go_enter Try.func8, Try.ntmps8
        have S0 := (St.start w).new 3 0 p e 23
        go_wp2_with fail
        refine (lift S0 (shown_any _)).mono ?_
        rintro z w1 ⟨rfl, S1⟩
        clear S0
        obtain ⟨qcl, qca, qcb, qcc, qcd⟩ := S1.get 0 rfl
        go_wp2_with fail
        refine (lift S1 (enter_any _ _ _ _ _ _)).mono ?_
        rintro z w2 ⟨rfl, S2⟩
        rw [HE.out]
        clear qcl qca qcb qcc qcd S1
        obtain ⟨qcl, qca, qcb, qcc, qcd⟩ := S2.get 0 rfl
        go_wp2_with fail
        refine (lift (S2.new 0 0 0 0 23) (leave_any _ _ _ _ _)).mono ?_
        rintro z w3 ⟨rfl, S3⟩
        rw [HL.out]
        clear qcl qca qcb qcc qcd S2
        obtain ⟨qcl, qca, qcb, qcc, qcd⟩ := S3.get 1 rfl
        go_wp2_with fail
        refine (lift (S3.new 0 0 0 0 23) (open_any _ _ _ _ _)).mono ?_
        rintro z w4 ⟨rfl, S4⟩
        rw [HO.out]
        clear qcl qca qcb qcc qcd S3
        obtain ⟨qcl, qca, qcb, qcc, qcd⟩ := S4.get 2 rfl
        go_wp2_with fail
        refine (lift (S4.new 1 0 (-1) ((e + 1) % 16777216) 23) (hold_any _ _ _ _ _)).mono ?_
        rintro z w5 ⟨rfl, S5⟩
        rw [HH.out]
        clear qcl qca qcb qcc qcd S4
        obtain ⟨qcl, qca, qcb, qcc, qcd⟩ := S5.get 3 rfl
        go_wp2_with fail
        have S5n := S5.new2 2 1 p e 0 0 0 0 23
        refine (lift S5n (right_any _ _ _ _ _)).mono ?_
        rintro z w6 ⟨rfl, S6⟩
        clear qcl qca qcb qcc qcd S5 S5n
        obtain ⟨qcl, qca, qcb, qcc, qcd⟩ := S6.get 5 rfl
        obtain ⟨qal, qaa, qab, qac, qad⟩ := S6.get 4 rfl
        obtain ⟨qbl, qba, qbb, qbc, qbd⟩ := S6.get 3 rfl
        obtain ⟨qol, qoa, qob, qoc, qod⟩ := S6.get 2 rfl
        obtain ⟨qhl, qha, qhb, qhc, qhd⟩ := S6.get 1 rfl
        obtain ⟨qnl, qna, qnb, qnc, qnd⟩ := S6.get 0 rfl
        go_wp2_with fail
        refine (lift S6 (right_any _ _ _ _ _)).mono ?_
        rintro z w7 ⟨rfl, S7⟩
        clear qcl qca qcb qcc qcd qal qaa qab qac qad qbl qba qbb qbc qbd qol qoa qob qoc qod qhl qha qhb qhc qhd qnl qna qnb qnc qnd S6
        obtain ⟨qcl, qca, qcb, qcc, qcd⟩ := S7.get 5 rfl
        obtain ⟨qal, qaa, qab, qac, qad⟩ := S7.get 4 rfl
        obtain ⟨qbl, qba, qbb, qbc, qbd⟩ := S7.get 3 rfl
        obtain ⟨qol, qoa, qob, qoc, qod⟩ := S7.get 2 rfl
        obtain ⟨qhl, qha, qhb, qhc, qhd⟩ := S7.get 1 rfl
        obtain ⟨qnl, qna, qnb, qnc, qnd⟩ := S7.get 0 rfl
        go_wp2_with fail
        refine (lift S7 (right_any _ _ _ _ _)).mono ?_
        rintro z w8 ⟨rfl, S8⟩
        clear qcl qca qcb qcc qcd qal qaa qab qac qad qbl qba qbb qbc qbd qol qoa qob qoc qod qhl qha qhb qhc qhd qnl qna qnb qnc qnd S7
        obtain ⟨qcl, qca, qcb, qcc, qcd⟩ := S8.get 5 rfl
        obtain ⟨qal, qaa, qab, qac, qad⟩ := S8.get 4 rfl
        obtain ⟨qbl, qba, qbb, qbc, qbd⟩ := S8.get 3 rfl
        obtain ⟨qol, qoa, qob, qoc, qod⟩ := S8.get 2 rfl
        obtain ⟨qhl, qha, qhb, qhc, qhd⟩ := S8.get 1 rfl
        obtain ⟨qnl, qna, qnb, qnc, qnd⟩ := S8.get 0 rfl
        go_wp2
        go_ret
        exact ⟨rfl, S8.below⟩
  · as_aux_lemma =>
      have HE := Lib.hid (show entV s c p e f = ⟨0, 0, 0, 0, 1⟩ by unfold entV; rw [if_neg (fun h => hr h.1)]; rfl)
      have HL := Lib.hid (show leV s c p e = ⟨0, 0, 0, 0, 1⟩ by unfold leV; rw [if_neg hr]; rfl)
      have HO := Lib.hid (show opV s c p e = ⟨0, 0, 0, 0, 1⟩ by unfold opV; rw [if_neg hr]; rfl)
      have HH := Lib.hid (show hoV s c p e = ⟨0, 0, 0, 0, 1⟩ by unfold hoV; rw [if_neg hr]; rfl)
      have hn : rightB s c p e = false := by simpa using hr
      clear hr
      go_enter Try.func8, Try.ntmps8
      have S0 := (St.start w).new s c p e 23
      go_wp2_with fail
      refine (lift S0 (shown_any _)).mono ?_
      rintro z w1 ⟨rfl, S1⟩
      clear S0
      obtain ⟨qcl, qca, qcb, qcc, qcd⟩ := S1.get 0 rfl
      go_wp2_with fail
      refine (lift S1 (enter_any _ _ _ _ _ _)).mono ?_
      rintro z w2 ⟨rfl, S2⟩
      rw [HE.out]
      clear qcl qca qcb qcc qcd S1
      obtain ⟨qcl, qca, qcb, qcc, qcd⟩ := S2.get 0 rfl
      go_wp2_with fail
      refine (lift (S2.new 0 0 0 0 23) (leave_any _ _ _ _ _)).mono ?_
      rintro z w3 ⟨rfl, S3⟩
      rw [HL.out]
      clear qcl qca qcb qcc qcd S2
      obtain ⟨qcl, qca, qcb, qcc, qcd⟩ := S3.get 1 rfl
      go_wp2_with fail
      refine (lift (S3.new 0 0 0 0 23) (open_any _ _ _ _ _)).mono ?_
      rintro z w4 ⟨rfl, S4⟩
      rw [HO.out]
      clear qcl qca qcb qcc qcd S3
      obtain ⟨qcl, qca, qcb, qcc, qcd⟩ := S4.get 2 rfl
      go_wp2_with fail
      refine (lift (S4.new 0 0 0 0 23) (hold_any _ _ _ _ _)).mono ?_
      rintro z w5 ⟨rfl, S5⟩
      rw [HH.out]
      clear qcl qca qcb qcc qcd S4
      obtain ⟨qcl, qca, qcb, qcc, qcd⟩ := S5.get 3 rfl
      go_wp2_with fail
      have S5n := S5.new2 0 0 0 0 0 0 0 0 23
      refine (lift S5n (right_any _ _ _ _ _)).mono ?_
      rintro z w6 ⟨rfl, S6⟩
      clear qcl qca qcb qcc qcd S5 S5n
      obtain ⟨qcl, qca, qcb, qcc, qcd⟩ := S6.get 5 rfl
      obtain ⟨qal, qaa, qab, qac, qad⟩ := S6.get 4 rfl
      obtain ⟨qbl, qba, qbb, qbc, qbd⟩ := S6.get 3 rfl
      obtain ⟨qol, qoa, qob, qoc, qod⟩ := S6.get 2 rfl
      obtain ⟨qhl, qha, qhb, qhc, qhd⟩ := S6.get 1 rfl
      obtain ⟨qnl, qna, qnb, qnc, qnd⟩ := S6.get 0 rfl
      go_wp2
      go_ret
      exact ⟨rfl, S6.below⟩

set_option maxRecDepth 100000 in
theorem lifted (os : Os) (started : os.Started) (H : Type) (enc : TypeId × Value → H) :
    ReturnsInHanded {} Try.checked os 8 .any (Rows.ctlStatesSpec.pre6 enc Try.prog Try.f8 Rows.ctlStatesRow.domain false) (Rows.ctlStatesSpec.post enc Try.prog Try.f8 false true false false) := by
  refine returnsInHanded_of_change (C := Try.checked) Args.own started (by kernel_rfl) Try.func8
    (ChangeSpec.witness6 (enc := enc) (C := Try.checked) false ⟨#[], #[.agg #[.int .i64 0, .int .i64 0, .int .i64 0, .int .i64 0], .int .u8 0], []⟩ 8 (by kernel_rfl) (by kernel_rfl) (by kernel_rfl) (by kernel_rfl)) ?_
  intro W base args ds gs before hval0 hW hcnd _
  have hval : ∀ (j : Nat) t v, Try.f8.params[j]? = some t → args[j]? = some v → Value.okWide Try.prog W .any base t v := hval0
  have hW' := hW
  obtain ⟨p, q, hA0, hV, rfl, hfz, hnd⟩ := hW
  have hA : DataW.TrodAll enc Try.prog W 0 (fun _ => true) true Try.f8.params.toList args.toList ds p := hA0
  rw [Try.params8] at hA hval
  obtain ⟨v0, vs0, d0, ds0, p0, q0, hargs, rfl, rfl, h0, r0⟩ := trodAll_cons hA
  obtain ⟨v1, vs1, d1, ds1, p1, q1, rfl, rfl, rfl, h1, r1⟩ := trodAll_cons r0
  obtain ⟨rfl, rfl, rfl⟩ := trodAll_nil r1
  obtain rfl : args = #[v0, v1] := by cases args; simp_all
  obtain ⟨rfl, rfl⟩ := trodVars_none hV
  have lt0 := Args.trod_below h0
  obtain ⟨cz, hv0, hc⟩ := Args.rec_in (ks := [.i64, .i64, .i64, .i64]) Try.underlying23 (by kernel_rfl) (by kernel_rfl) (hval 0 23 v0 rfl rfl) h0
  obtain rfl : v0 = .agg #[.int .i64 (cz 0), .int .i64 (cz 1), .int .i64 (cz 2), .int .i64 (cz 3)] := hv0
  have lt1 := Args.trod_below h1
  obtain ⟨n, rfl, rfl, rfl, wn⟩ := open_int Try.underlying5 (hval 1 5 v1 rfl rfl) h1
  clear hA0 hval0
  refine (walk (cz 0) (cz 1) (cz 2) (cz 3) n W (hc 0) (hc 1) (hc 2) (hc 3) wn).mono fun e W' ⟨he, bel⟩ => ?_
  subst he
  exact ⟨_, rfl, _, _, _, [], _, [], hW', trodAll_mk1 (shut_bool Try.underlying4 _), trodAll_cons_mk (Below.trod Args.laidOut (by kernel_rfl) (of_decide_eq_true (by kernel_rfl)) h0 bel lt0) (trodAll_cons_mk (Below.trod Args.laidOut (by kernel_rfl) (of_decide_eq_true (by kernel_rfl)) h1 bel lt1) (trodAll_mk0)), rfl, bel.frame _, fun h => by cases h⟩

theorem over : Rows.ctlStatesRow.holds Try.pinned (OpenSpec.ofChange Rows.ctlStatesSpec) :=
  OpenClaim.holds_of_wide 8 Try.f8 rfl rfl rfl rfl rfl rfl rfl ⟨rfl, rfl, rfl, rfl, rfl⟩ rfl rfl rfl rfl rfl (by kernel_rfl) Try.func8 (by kernel_rfl)
    (of_decide_eq_true (by kernel_rfl)) (by unfold Func.isWrapper; rw [if_neg (of_decide_eq_false (by kernel_rfl))]; exact ⟨rfl, rfl⟩)
    (fun os started H enc _ => lifted os started H enc)

theorem proved : Rows.CtlStatesSaid :=
  over
end Go.Proofs.Ytkogamgnkccdlaa.ctlStates
