/-
  penfoldlaw05.PlanCovers returns true for every four integers (a plan) and every number of 16 bits (a word); no condition.
-/
import Derived.Test.YtgkcaijgonadgaaRows
import Derived.Test.YtgkcaijgonadgaaArgs
import Derived.Test.YtgkcaijgonadgaaPlanD
namespace Go.Proofs.Ytgkcaijgonadgaa.planCovers
open Go.ChangeShapes Go.WideShapes Go.ChangeAt Go.RowKit
set_option linter.unusedVariables false

open Plan Held

theorem at_yes {s t i h a c : Int} (hr : rightB s t i h = true) (a1 : 0 ≤ a) (a2 : a ≤ 4) (c1 : 0 ≤ c) (c2 : c < s) : atV s t i h a c = ⟨64 * c + 8 * a, 0⟩ := by
  unfold atV
  rw [if_pos ⟨hr, decide_eq_true ⟨a1, a2⟩⟩, if_pos (show withinB c 0 (s - 1) = true from decide_eq_true ⟨c1, by omega⟩)]
/-- How many parts of the first j scopes have the place A; of these and the first k parts of the next one. -/
def cO (A : Int) (j : Nat) : Int := if A < 64 * (j : Int) ∧ A % 64 < 40 then 1 else 0
def cI (A : Int) (j k : Nat) : Int := if A < 64 * (j : Int) ∧ A % 64 < 40 ∨ 64 * (j : Int) ≤ A ∧ A < 64 * (j : Int) + 8 * (k : Int) then 1 else 0
theorem cO_yes {A : Int} {j : Nat} (h : A < 64 * (j : Int)) (h' : A % 64 < 40) : cO A j = 1 := if_pos ⟨h, h'⟩
theorem cO_no {A : Int} {j : Nat} (h : ¬ (A < 64 * (j : Int) ∧ A % 64 < 40)) : cO A j = 0 := if_neg h
theorem cI_start (A : Int) (j : Nat) : cO A j = cI A j 0 := by
  unfold cO cI
  by_cases h : A < 64 * (j : Int) ∧ A % 64 < 40
  · rw [if_pos h, if_pos (Or.inl h)]
  · rw [if_neg h, if_neg (by omega)]
theorem cI_end (A : Int) (j : Nat) (h0 : 0 ≤ A) (h8 : A % 8 = 0) : cI A j 5 = cO A (j + 1) := by
  unfold cO cI
  by_cases h : A < 64 * ((j + 1 : Nat) : Int) ∧ A % 64 < 40
  · rw [if_pos h, if_pos (by omega)]
  · rw [if_neg h, if_neg (by omega)]
theorem cI_hit (A : Int) (j k : Nat) (h : 64 * (j : Int) + 8 * (k : Int) = A) : cI A j k + 1 = cI A j (k + 1) := by
  unfold cI
  rw [if_neg (by omega), if_pos (by omega)]
  rfl
theorem cI_miss (A : Int) (j k : Nat) (h0 : 0 ≤ A) (h8 : A % 8 = 0) (h : ¬ 64 * (j : Int) + 8 * (k : Int) = A) : cI A j k = cI A j (k + 1) := by
  unfold cI
  by_cases h' : A < 64 * (j : Int) ∧ A % 64 < 40 ∨ 64 * (j : Int) ≤ A ∧ A < 64 * (j : Int) + 8 * (k : Int)
  · rw [if_pos h', if_pos (by omega)]
  · rw [if_neg h', if_neg (by omega)]
theorem cI_range (A : Int) (j k : Nat) : 0 ≤ cI A j k ∧ cI A j k ≤ 1 := by
  unfold cI
  split <;> decide

set_option maxRecDepth 100000 in
set_option maxHeartbeats 8000000 in
theorem walk (p0 p1 p2 p3 : Int) (n : Int) (w : World) (wp0 : (Lit.int .i64 p0).wf = true) (wp1 : (Lit.int .i64 p1).wf = true) (wp2 : (Lit.int .i64 p2).wf = true) (wp3 : (Lit.int .i64 p3).wf = true) (wn : (Lit.int .u16 n).wf = true) :
    Calls Try.prog 6 #[.agg #[.int .i64 p0, .int .i64 p1, .int .i64 p2, .int .i64 p3], .int .u16 n] w fun e w' => e = .returned (.bool true) ∧ Below w.heap.size w w' := by
  have ⟨n1, n2⟩ := bounds_u16 wn
  clear wn wp0 wp1 wp2 wp3
  obtain ⟨s, t, i, h, ⟨b1, b2, b3, b4, b5, b6, b7, b8, b9, b10⟩, F⟩ := fit_all p0 p1 p2 p3
  obtain ⟨N, rfl⟩ : ∃ N : Nat, s = (N : Int) := ⟨s.toNat, by omega⟩
  have hr : rightB (N : Int) t i h = true := decide_eq_true (by omega)
  have HS : Hid (sizeV (N : Int) t i h = ⟨64 * (N : Int) + i + h, 0⟩) := Lib.hid (by unfold sizeV; rw [if_pos hr])
  have HI : Hid (immV (N : Int) t i h = ⟨64 * (N : Int), i, 0⟩) := Lib.hid (by unfold immV; rw [if_pos hr])
  have HH : Hid (heapV (N : Int) t i h = ⟨64 * (N : Int) + i, h, 0⟩) := Lib.hid (by unfold heapV; rw [if_pos hr])
  have HR := Lib.hid hr
  have g1 : 8 ≤ (64 * (N : Int) + i + h) / 8 := by omega
  have g2 := Int.emod_nonneg n (show (64 * (N : Int) + i + h) / 8 ≠ 0 by omega)
  have g3 := Int.emod_lt_of_pos n (show 0 < (64 * (N : Int) + i + h) / 8 by omega)
  have g4 : 0 ≤ 8 * (n % ((64 * (N : Int) + i + h) / 8)) ∧ 8 * (n % ((64 * (N : Int) + i + h) / 8)) % 8 = 0 ∧ 8 * (n % ((64 * (N : Int) + i + h) / 8)) < 64 * (N : Int) + i + h := by omega
  clear hr
  go_enter Try.func6, Try.ntmps6
  have S0 := (St.start w).new [.int .i64 p0, .int .i64 p1, .int .i64 p2, .int .i64 p3] 23
  go_wp2_with fail
  refine (lift S0 (shown_any _)).mono ?_
  rintro z w1 ⟨rfl, S1⟩
  clear S0
  obtain ⟨qpl, qp0, qp1, qp2, qp3⟩ := S1.get4 0 rfl
  go_wp2_with fail
  refine (lift S1 (F _)).mono ?_
  rintro z w2 ⟨rfl, S2⟩
  clear qpl qp0 qp1 qp2 qp3 S1 F
  go_wp2_with fail
  refine (lift (S2.new [.int .i64 (N : Int), .int .i64 t, .int .i64 i, .int .i64 h] 23) (size_any _ _ _ _ _)).mono ?_
  rintro z w3 ⟨rfl, S3⟩
  rw [HS.out]
  clear S2 HS
  obtain ⟨qfl, qf0, qf1, qf2, qf3⟩ := S3.get4 0 rfl
  go_wp2_with fail
  clear qfl qf0 qf1 qf2 qf3
  obtain ⟨g5, g6, g7⟩ := g4
  generalize 8 * (n % ((64 * (N : Int) + i + h) / 8)) = A at *
  clear g1 g2 g3
  go_loopw [10, 11] (fun r v wr => ∃ j : Nat, j ≤ N ∧ v = .int .i64 j ∧ r = .int .i64 (cO A j) ∧ St w wr [(w2.heap.size, [.int .i64 (N : Int), .int .i64 t, .int .i64 i, .int .i64 h]), (w.heap.size, [.int .i64 p0, .int .i64 p1, .int .i64 p2, .int .i64 p3])]) (fun _ v _ => N - (intOf v).toNat)
  case atStart => exact ⟨0, by omega, rfl, by rw [cO_no (by omega)], S3⟩
  case round =>
    clear S3
    obtain ⟨j, hj, rfl, rfl, S3⟩ := hrel
    obtain ⟨qfl, qf0, qf1, qf2, qf3⟩ := S3.get4 0 rfl
    by_cases hlt : j < N
    · as_aux_lemma =>
        go_wp2_with fail
        clear qfl qf0 qf1 qf2 qf3
        rw [cI_start]
        go_loopw [10, 12] (fun r v wx => ∃ k : Nat, k ≤ 5 ∧ v = .int .i64 k ∧ r = .int .i64 (cI A j k) ∧ St w wx [(w2.heap.size, [.int .i64 (N : Int), .int .i64 t, .int .i64 i, .int .i64 h]), (w.heap.size, [.int .i64 p0, .int .i64 p1, .int .i64 p2, .int .i64 p3])]) (fun _ v _ => 5 - (intOf v).toNat)
        case atStart => exact ⟨0, by omega, rfl, rfl, S3⟩
        case round =>
          clear S3
          obtain ⟨k, hk, rfl, rfl, S3⟩ := hrel
          have ⟨r1, r2⟩ := cI_range A j k
          by_cases hlk : k < 5
          · have HA : Hid (atV (N : Int) t i h (k : Int) (j : Int) = ⟨64 * (j : Int) + 8 * (k : Int), 0⟩) := Lib.hid (at_yes HR.out (by omega) (by omega) (by omega) (by omega))
            obtain ⟨qfl, qf0, qf1, qf2, qf3⟩ := S3.get4 0 rfl
            go_wp2_with fail
            refine (lift S3 (at_any _ _ _ _ _ _ _)).mono ?_
            rintro z w4 ⟨rfl, S4⟩
            rw [HA.out]
            clear qfl qf0 qf1 qf2 qf3 S3
            by_cases he : 64 * (j : Int) + 8 * (k : Int) = A
            · have te : (64 * (j : Int) + 8 * (k : Int) == A) = true := by simpa using he
              have HE := Lib.hid he
              clear he
              go_wp2
              go_roundw
              case rel => exact ⟨k + 1, by omega, by go_num, by rw [cI_hit A j k HE.out], S4⟩
              case measure => simp [intOf]; omega
            · have te : (64 * (j : Int) + 8 * (k : Int) == A) = false := by simpa using he
              have HE := Lib.hid he
              clear he
              go_wp2
              go_roundw
              case rel => exact ⟨k + 1, by omega, by go_num, by rw [cI_miss A j k g5 g6 HE.out], S4⟩
              case measure => simp [intOf]; omega
          · obtain rfl : k = 5 := by omega
            go_wp2
            go_roundw
            case rel => exact ⟨j + 1, by omega, by go_num, by rw [cI_end A j g5 g6], S3⟩
            case measure => simp [intOf]; omega
    · obtain rfl : j = N := by omega
      have hlt2 : ¬ j < j := Nat.lt_irrefl j
      clear hlt
      by_cases h1 : A < 64 * (j : Int)
      · by_cases h2 : A % 64 < 40
        · have HC := Lib.hid (cO_yes h1 h2)
          rw [HC.out]
          as_aux_lemma =>
            go_wp2_with fail
            refine (lift S3 (imm_any _ _ _ _ _)).mono ?_
            rintro z w4 ⟨rfl, S4⟩
            rw [HI.out]
            clear qfl qf0 qf1 qf2 qf3 S3
            obtain ⟨qfl, qf0, qf1, qf2, qf3⟩ := S4.get4 0 rfl
            go_wp2_with fail
            refine (lift (S4.new [.int .i64 (64 * (j : Int)), .int .i64 i] 31) (heap_any _ _ _ _ _)).mono ?_
            rintro z w5 ⟨rfl, S5⟩
            rw [HH.out]
            clear qfl qf0 qf1 qf2 qf3 S4
            obtain ⟨qil, qi0, qi1⟩ := S5.get2 0 rfl
            go_wp2
            go_ret
            exact ⟨rfl, (S5.new _ _).below⟩
        · have HC := Lib.hid (cO_no (j := j) (fun k => h2 k.2))
          rw [HC.out]
          as_aux_lemma =>
            go_wp2_with fail
            refine (lift S3 (imm_any _ _ _ _ _)).mono ?_
            rintro z w4 ⟨rfl, S4⟩
            rw [HI.out]
            clear qfl qf0 qf1 qf2 qf3 S3
            obtain ⟨qfl, qf0, qf1, qf2, qf3⟩ := S4.get4 0 rfl
            go_wp2_with fail
            refine (lift (S4.new [.int .i64 (64 * (j : Int)), .int .i64 i] 31) (heap_any _ _ _ _ _)).mono ?_
            rintro z w5 ⟨rfl, S5⟩
            rw [HH.out]
            clear qfl qf0 qf1 qf2 qf3 S4
            obtain ⟨qil, qi0, qi1⟩ := S5.get2 0 rfl
            go_wp2
            go_ret
            exact ⟨rfl, (S5.new _ _).below⟩
      · by_cases h2 : A < 64 * (j : Int) + i
        · have HC := Lib.hid (cO_no (j := j) (fun k => h1 k.1))
          rw [HC.out]
          as_aux_lemma =>
            go_wp2_with fail
            refine (lift S3 (imm_any _ _ _ _ _)).mono ?_
            rintro z w4 ⟨rfl, S4⟩
            rw [HI.out]
            clear qfl qf0 qf1 qf2 qf3 S3
            obtain ⟨qfl, qf0, qf1, qf2, qf3⟩ := S4.get4 0 rfl
            go_wp2_with fail
            refine (lift (S4.new [.int .i64 (64 * (j : Int)), .int .i64 i] 31) (heap_any _ _ _ _ _)).mono ?_
            rintro z w5 ⟨rfl, S5⟩
            rw [HH.out]
            clear qfl qf0 qf1 qf2 qf3 S4
            obtain ⟨qil, qi0, qi1⟩ := S5.get2 0 rfl
            go_wp2
            go_ret
            exact ⟨rfl, (S5.new _ _).below⟩
        · have HC := Lib.hid (cO_no (j := j) (fun k => h1 k.1))
          rw [HC.out]
          as_aux_lemma =>
            go_wp2_with fail
            refine (lift S3 (imm_any _ _ _ _ _)).mono ?_
            rintro z w4 ⟨rfl, S4⟩
            rw [HI.out]
            clear qfl qf0 qf1 qf2 qf3 S3
            obtain ⟨qfl, qf0, qf1, qf2, qf3⟩ := S4.get4 0 rfl
            go_wp2_with fail
            refine (lift (S4.new [.int .i64 (64 * (j : Int)), .int .i64 i] 31) (heap_any _ _ _ _ _)).mono ?_
            rintro z w5 ⟨rfl, S5⟩
            rw [HH.out]
            clear qfl qf0 qf1 qf2 qf3 S4
            obtain ⟨qil, qi0, qi1⟩ := S5.get2 0 rfl
            go_wp2
            go_ret
            exact ⟨rfl, (S5.new _ _).below⟩

set_option maxRecDepth 100000 in
theorem lifted (os : Os) (started : os.Started) (H : Type) (enc : TypeId × Value → H) :
    ReturnsInHanded {} Try.checked os 6 .any (Rows.planCoversSpec.pre6 enc Try.prog Try.f6 Rows.planCoversRow.domain false) (Rows.planCoversSpec.post enc Try.prog Try.f6 false true false false) := by
  refine returnsInHanded_of_change (C := Try.checked) Args.own started (by kernel_rfl) Try.func6
    (ChangeSpec.witness6 (enc := enc) (C := Try.checked) false ⟨#[], #[.agg #[.int .i64 0, .int .i64 0, .int .i64 0, .int .i64 0], .int .u16 0], []⟩ 8 (by kernel_rfl) (by kernel_rfl) (by kernel_rfl) (by kernel_rfl)) ?_
  intro W base args ds gs before hval0 hW hcnd _
  have hval : ∀ (j : Nat) t v, Try.f6.params[j]? = some t → args[j]? = some v → Value.okWide Try.prog W .any base t v := hval0
  have hW' := hW
  obtain ⟨p, q, hA0, hV, rfl, hfz, hnd⟩ := hW
  have hA : DataW.TrodAll enc Try.prog W 0 (fun _ => true) true Try.f6.params.toList args.toList ds p := hA0
  rw [Try.params6] at hA hval
  obtain ⟨v0, vs0, d0, ds0, p0, q0, hargs, rfl, rfl, h0, r0⟩ := trodAll_cons hA
  obtain ⟨v1, vs1, d1, ds1, p1, q1, rfl, rfl, rfl, h1, r1⟩ := trodAll_cons r0
  obtain ⟨rfl, rfl, rfl⟩ := trodAll_nil r1
  obtain rfl : args = #[v0, v1] := by cases args; simp_all
  obtain ⟨rfl, rfl⟩ := trodVars_none hV
  have lt0 := Args.trod_below h0
  obtain ⟨pz, hv0, hp⟩ := Args.rec_in (ks := [.i64, .i64, .i64, .i64]) Try.underlying23 (by kernel_rfl) (by kernel_rfl) (hval 0 23 v0 rfl rfl) h0
  obtain rfl : v0 = .agg #[.int .i64 (pz 0), .int .i64 (pz 1), .int .i64 (pz 2), .int .i64 (pz 3)] := hv0
  have lt1 := Args.trod_below h1
  obtain ⟨n, rfl, rfl, rfl, wn⟩ := open_int Try.underlying42 (hval 1 42 v1 rfl rfl) h1
  clear hA0 hval0
  refine (walk (pz 0) (pz 1) (pz 2) (pz 3) n W (hp 0) (hp 1) (hp 2) (hp 3) wn).mono fun e W' ⟨he, bel⟩ => ?_
  subst he
  exact ⟨_, rfl, _, _, _, [], _, [], hW', trodAll_mk1 (shut_bool Try.underlying4 _), trodAll_cons_mk (Below.trod Args.laidOut (by kernel_rfl) (of_decide_eq_true (by kernel_rfl)) h0 bel lt0) (trodAll_cons_mk (Below.trod Args.laidOut (by kernel_rfl) (of_decide_eq_true (by kernel_rfl)) h1 bel lt1) (trodAll_mk0)), rfl, bel.frame _, fun h => by cases h⟩

theorem over : Rows.planCoversRow.holds Try.pinned (OpenSpec.ofChange Rows.planCoversSpec) :=
  OpenClaim.holds_of_wide 6 Try.f6 rfl rfl rfl rfl rfl rfl rfl ⟨rfl, rfl, rfl, rfl, rfl⟩ rfl rfl rfl rfl rfl (by kernel_rfl) Try.func6 (by kernel_rfl)
    (of_decide_eq_true (by kernel_rfl)) (by unfold Func.isWrapper; rw [if_neg (of_decide_eq_false (by kernel_rfl))]; exact ⟨rfl, rfl⟩)
    (fun os started H enc _ => lifted os started H enc)

theorem proved : Rows.PlanCoversSaid :=
  over
end Go.Proofs.Ytgkcaijgonadgaa.planCovers
