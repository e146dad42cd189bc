/-
  penfoldlaw14.FoundNew returns true for every four integers (a plan), and changes nothing that was there; no condition.
-/
import Derived.Test.YtbpmnjmegffllaaRows
import Derived.Test.YtbpmnjmegffllaaBase
import Derived.Test.YtbpmnjmegffllaaFouI
namespace Go.Proofs.Ytbpmnjmegffllaa.foundNew
open Go.ChangeShapes Go.WideShapes Go.ChangeAt Go.RowKit
set_option linter.unusedVariables false

open Go.Proofs.Ytbpmnjmegffllaa.Fou Sco Amem
attribute [local go_sem ↓] Go.wp_at_zero Go.wp_at_succ
/-- How many of the first words of a new arena are not 0. -/
def cntN (i : Int) (k : Nat) : Int := if k = 0 then 0 else if k = 1 then 1 else if k = 2 then 2 else if i = 0 then 2 else 3
theorem cnt_step {n : Nat} {i : Int} (n1 : 1 ≤ n) (k : Nat) : cntN i (k + 1) = if Go.Proofs.Ytbpmnjmegffllaa.Fou.newW n i k = 0 then cntN i k else cntN i k + 1 := by
  unfold Go.Proofs.Ytbpmnjmegffllaa.Fou.newW Go.Proofs.Ytbpmnjmegffllaa.Fou.putX
  by_cases h0 : k = 0
  · subst h0
    rw [setF_other _ _ _ _ (by omega), setF_other _ _ _ _ (by omega), setF_same, if_neg (show ¬ Ctl.packV 2 1 (-1) 0 = 0 by decide)]
    rfl
  · by_cases h1 : k = 1
    · subst h1
      rw [setF_other _ _ _ _ (by omega), setF_same, if_neg (by dsimp only; omega)]
      rfl
    · by_cases h2 : k = 2
      · subst h2
        rw [setF_same]
        unfold cntN
        by_cases hi : i = 0
        · simp [hi]
        · simp [hi]
      · rw [setF_other _ _ _ _ (by omega), setF_other _ _ _ _ (by omega), setF_other _ _ _ _ (by omega), if_pos rfl]
        unfold cntN
        rw [if_neg (by omega), if_neg (by omega), if_neg (by omega), if_neg h0, if_neg h1, if_neg h2]
theorem cnt_bd (i : Int) (k : Nat) : 0 ≤ cntN i k ∧ cntN i k ≤ 3 := by
  unfold cntN
  split <;> (try split) <;> (try split) <;> (try split) <;> omega

set_option maxRecDepth 100000 in
set_option maxHeartbeats 8000000 in
theorem walk (p0 p1 p2 p3 : Int) (w : World) (wp0 : (Lit.int .i64 p0).wf = true) (wp1 : (Lit.int .i64 p1).wf = true) (wp2 : (Lit.int .i64 p2).wf = true) (wp3 : (Lit.int .i64 p3).wf = true) :
    Calls Try.prog 3 #[.agg #[.int .i64 p0, .int .i64 p1, .int .i64 p2, .int .i64 p3]] w fun e w' => e = .returned (.bool true) ∧ Below w.heap.size w w' := by
  have S0 := (Held.St.start w).new [.int .i64 p0, .int .i64 p1, .int .i64 p2, .int .i64 p3] 23
  clear wp0 wp1 wp2 wp3
  cases hr : Plan.rightB p0 p1 p2 p3 with
  | false =>
    go_enter Try.func3, Try.ntmps3
    go_wp2_with fail
    refine (shown14_any _).mono ?_
    rintro z w1 ⟨rfl, k1⟩
    have S1 := S0.call k1
    obtain ⟨_, c0, c1, c2, c3⟩ := S1.get4 0 rfl
    go_wp2_with fail
    refine (new_no _ _ _ _ _ hr).mono ?_
    rintro z w2 ⟨rfl, k2⟩
    have S2 := S1.call k2
    clear c0 c1 c2 c3
    obtain ⟨_, c0, c1, c2, c3⟩ := S2.get4 0 rfl
    go_wp2_with fail
    refine (Plan.refright_any _ _ _ _ _).mono ?_
    rintro z w3 ⟨rfl, k3⟩
    rw [hr]
    have S3 := S2.call k3
    go_wp2
    go_ret
    exact ⟨rfl, S3.below⟩
  | true =>
    obtain ⟨b1, b2, b3, b4, b5, b6, b7, b8, b9, b10⟩ := Plan.rbounds hr
    obtain ⟨n, rfl⟩ := Int.eq_ofNat_of_zero_le (show 0 ≤ p0 by omega)
    have HR := Lib.hid hr
    clear hr
    go_enter Try.func3, Try.ntmps3
    go_wp2_with fail
    refine (shown14_any _).mono ?_
    rintro z w1 ⟨rfl, k1⟩
    have S1 := S0.call k1
    obtain ⟨_, c0, c1, c2, c3⟩ := S1.get4 0 rfl
    go_wp2_with fail
    refine (new_ok _ n p1 p2 p3 HR.out).mono ?_
    rintro z w2 ⟨B, g, G, rfl, h2, k2, l1, l2, l3⟩
    have S2 := Wk.start S1 k2 h2 l2 l3
    have R := newpr HR.out B g
    have hN := R.hN
    have fn := cnt_step (n := n) (i := p2) (by omega)
    obtain ⟨N, hNN⟩ : ∃ N, sizeN n p2 p3 = N := ⟨_, rfl⟩
    obtain ⟨f0, hf⟩ : ∃ f0, Go.Proofs.Ytbpmnjmegffllaa.Fou.newW n p2 = f0 := ⟨_, rfl⟩
    obtain ⟨F0, hF⟩ : ∃ F0, Sco.start n (64 * (n : Int) + p2) p3 (64 * (n : Int)) p2 = F0 := ⟨_, rfl⟩
    have f00 : seeV (f0 (8 * 0)) = ⟨2, 1, -1, 0, 0⟩ := by
      rw [← hf, show Go.Proofs.Ytbpmnjmegffllaa.Fou.newW n p2 (8 * 0) = Ctl.packV 2 1 (-1) 0 from rfl]
      exact see_ok (un_pack (by decide)) rfl
    rw [hNN] at R S2 hN
    rw [hf] at S2 fn
    rw [hF] at S2
    have FN := Lib.hid fn
    have F00 := Lib.hid f00
    clear hNN hf hF fn f00 h2
    have hN' : 8 * (N : Int) = 64 * (n : Int) + p2 + p3 := hN
    have q0 : (8 * (N : Int) != 64 * (n : Int) + p2 + p3) = false := by simp; omega
    clear hN
    clear c0 c1 c2 c3
    obtain ⟨_, c0, c1, c2, c3⟩ := S2.st.get4 0 rfl
    go_wp2_with fail
    refine (Plan.refright_any _ _ _ _ _).mono ?_
    rintro z w3 ⟨rfl, k3⟩
    rw [HR.out]
    have S3 := S2.call k3
    clear c0 c1 c2 c3
    have T3 := (S3.st.get4 0 rfl).2
    have D3 := S3.drew
    have TD := (D3.st.get4 0 rfl).2
    go_upto_region 6 with (fail)
    go_region_held3 (fun w' => w'.cell? ⟨w.heap.size, 0, none⟩ = some (.int .i64 (n : Int)) ∧ w'.cell? ⟨w.heap.size, 1, none⟩ = some (.int .i64 p1) ∧ w'.cell? ⟨w.heap.size, 2, none⟩ = some (.int .i64 p2) ∧ w'.cell? ⟨w.heap.size, 3, none⟩ = some (.int .i64 p3))
      (first | with_reducible exact T3 | with_reducible exact TD | with_reducible exact T5)
      (first
        | (go_at_call 11; refine (Arena.len_any _ B g N f0 D3.fd.ar).mono ?_; rintro e w4 ⟨rfl, rfl⟩)
        | (go_at_call 11; refine (Arena.len_any _ B g N f0 S5.fd.ar).mono ?_; rintro e w4 ⟨rfl, rfl⟩)
        | (go_at_call 12; refine (Plan.refsize_any _ _ _ _ _ HR.out).mono ?_; rintro e w5 ⟨rfl, k5⟩; have S5 := D3.call k5; have T5 := (S5.st.get4 0 rfl).2))
    all_goals
      clear T3 TD T5 D3 S3
      go_wp2_with fail
      go_loop [8, 9] (fun c t => ∃ k : Nat, k ≤ N ∧ c = .int .i64 (cntN p2 k) ∧ t = .int .i64 (8 * (k : Int))) (fun _ t => 8 * N - (intOf t).toNat)
      case atStart => exact ⟨0, by omega, rfl, rfl⟩
      case round =>
        obtain ⟨k, hk, rfl, rfl⟩ := hrel
        have AR := S5.fd.ar
        have bc := cnt_bd p2 k
        by_cases hlt : k < N
        · by_cases h0 : f0 k = 0
          · have q1 : (f0 k != 0) = false := by simpa using h0
            have HC := Lib.hid (show cntN p2 (k + 1) = cntN p2 k by rw [FN.out k, if_pos h0])
            clear h0
            go_wp2_with (first
              | (go_at_call 11; refine (Arena.len_any _ B g N f0 AR).mono ?_; rintro e w4 ⟨rfl, rfl⟩)
              | (go_at_call 13; refine (Arena.word_ok _ B g N k f0 _ AR hlt rfl).mono ?_; rintro e w4 ⟨rfl, rfl⟩))
            go_round
            case rel => exact ⟨k + 1, by omega, by rw [HC.out], by go_num⟩
            case measure => simp [intOf]; omega
          · have q1 : (f0 k != 0) = true := by simpa using h0
            have HC := Lib.hid (show cntN p2 (k + 1) = cntN p2 k + 1 by rw [FN.out k, if_neg h0])
            clear h0
            go_wp2_with (first
              | (go_at_call 11; refine (Arena.len_any _ B g N f0 AR).mono ?_; rintro e w4 ⟨rfl, rfl⟩)
              | (go_at_call 13; refine (Arena.word_ok _ B g N k f0 _ AR hlt rfl).mono ?_; rintro e w4 ⟨rfl, rfl⟩))
            go_round
            case rel => exact ⟨k + 1, by omega, by rw [HC.out], by go_num⟩
            case measure => simp [intOf]; omega
        · obtain rfl : N = k := by omega
          have hN8 : 8 ≤ N := by omega
          by_cases h0 : p2 = 0
          · have HC := Lib.hid (show cntN p2 N = 2 by unfold cntN; rw [if_neg (by omega), if_neg (by omega), if_neg (by omega), if_pos h0])
            have q2 : decide (0 < p2) = false := by simp; omega
            as_aux_lemma => 
              clear h0
              rw [HC.out]
              go_wp2_with (first
                | (go_at_call 11; refine (Arena.len_any _ B g N f0 AR).mono ?_; rintro e w4 ⟨rfl, rfl⟩)
                | fail)
              refine (ctl_ok _ R AR 0 (by show 0 < n; omega)).mono ?_
              rintro e w6 ⟨rfl, k6⟩
              rw [F00.out]
              have S6 := (S5.call k6).new [.int .i64 2, .int .i64 1, .int .i64 (-1), .int .i64 0] 37
              obtain ⟨_, d0, d1, d2, d3⟩ := S6.st.get4 0 rfl
              obtain ⟨_, e0, e1, e2, e3⟩ := S6.st.get4 1 rfl
              go_wp2
              go_ret
              exact ⟨rfl, S6.st.below⟩
          · have HC := Lib.hid (show cntN p2 N = 3 by unfold cntN; rw [if_neg (by omega), if_neg (by omega), if_neg (by omega), if_neg h0])
            have q2 : decide (0 < p2) = true := by simp; omega
            as_aux_lemma => 
              clear h0
              rw [HC.out]
              go_wp2_with (first
                | (go_at_call 11; refine (Arena.len_any _ B g N f0 AR).mono ?_; rintro e w4 ⟨rfl, rfl⟩)
                | fail)
              refine (ctl_ok _ R AR 0 (by show 0 < n; omega)).mono ?_
              rintro e w6 ⟨rfl, k6⟩
              rw [F00.out]
              have S6 := (S5.call k6).new [.int .i64 2, .int .i64 1, .int .i64 (-1), .int .i64 0] 37
              obtain ⟨_, d0, d1, d2, d3⟩ := S6.st.get4 0 rfl
              obtain ⟨_, e0, e1, e2, e3⟩ := S6.st.get4 1 rfl
              go_wp2
              go_ret
              exact ⟨rfl, S6.st.below⟩

set_option maxRecDepth 100000 in
theorem lifted (os : Os) (started : os.Started) (H : Type) (enc : TypeId × Value → H) :
    ReturnsInHanded {} Try.checked os 3 .any (Rows.foundNewSpec.pre6 enc Try.prog Try.f3 Rows.foundNewRow.domain false) (Rows.foundNewSpec.post enc Try.prog Try.f3 false true false false) := by
  refine returnsInHanded_of_change (C := Try.checked) Args.own started (by kernel_rfl) Try.func3
    (ChangeSpec.witness6 (enc := enc) (C := Try.checked) false ⟨#[], #[.agg #[.int .i64 0, .int .i64 0, .int .i64 0, .int .i64 0]], []⟩ 8 (by kernel_rfl) (by kernel_rfl) (by kernel_rfl) (by kernel_rfl)) ?_
  intro W base args ds gs before hval0 hW hcnd _
  have hval : ∀ (j : Nat) t v, Try.f3.params[j]? = some t → args[j]? = some v → Value.okWide Try.prog W .any base t v := hval0
  have hW' := hW
  obtain ⟨p, q, hA0, hV, rfl, hfz, hnd⟩ := hW
  have hA : DataW.TrodAll enc Try.prog W 0 (fun _ => true) true Try.f3.params.toList args.toList ds p := hA0
  rw [Try.params3] at hA hval
  obtain ⟨v0, vs0, d0, ds0, p0, q0, hargs, rfl, rfl, h0, r0⟩ := trodAll_cons hA
  obtain ⟨rfl, rfl, rfl⟩ := trodAll_nil r0
  obtain rfl : args = #[v0] := by cases args; simp_all
  obtain ⟨rfl, rfl⟩ := trodVars_none hV
  have lt0 := Args.trod_below h0
  obtain ⟨pz, hv0, hp⟩ := Args.rec_in (ks := [.i64, .i64, .i64, .i64]) Try.underlying23 (by kernel_rfl) (by kernel_rfl) (hval 0 23 v0 rfl rfl) h0
  obtain rfl : v0 = .agg #[.int .i64 (pz 0), .int .i64 (pz 1), .int .i64 (pz 2), .int .i64 (pz 3)] := hv0
  clear hA0 hval0
  refine (walk (pz 0) (pz 1) (pz 2) (pz 3) W (hp 0) (hp 1) (hp 2) (hp 3)).mono fun e W' ⟨he, bel⟩ => ?_
  subst he
  exact ⟨_, rfl, _, _, _, [], _, [], hW', trodAll_mk1 (shut_bool Try.underlying4 _), trodAll_cons_mk (Below.trod Args.laidOut (by kernel_rfl) (of_decide_eq_true (by kernel_rfl)) h0 bel lt0) (trodAll_mk0), rfl, bel.frame _, fun h => by cases h⟩

theorem over : Rows.foundNewRow.holds Try.pinned (OpenSpec.ofChange Rows.foundNewSpec) :=
  OpenClaim.holds_of_wide 3 Try.f3 rfl rfl rfl rfl rfl rfl rfl ⟨rfl, rfl, rfl, rfl, rfl⟩ rfl rfl rfl rfl rfl (by kernel_rfl) Try.func3 (by kernel_rfl)
    (of_decide_eq_true (by kernel_rfl)) (by unfold Func.isWrapper; rw [if_neg (of_decide_eq_false (by kernel_rfl))]; exact ⟨rfl, rfl⟩)
    (fun os started H enc _ => lifted os started H enc)

theorem proved : Rows.FoundNewSaid :=
  over
end Go.Proofs.Ytbpmnjmegffllaa.foundNew
