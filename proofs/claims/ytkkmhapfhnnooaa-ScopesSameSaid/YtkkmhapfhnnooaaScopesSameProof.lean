/-
  penfoldlaw11.ScopesSame returns true for every plan and every slice of things done, and changes nothing that was there; no condition.
-/
import Derived.Test.YtkkmhapfhnnooaaRows
import Derived.Test.YtkkmhapfhnnooaaArgs
import Derived.Test.YtkkmhapfhnnooaaScoV
import Derived.Test.YtkkmhapfhnnooaaScoW
import Derived.Test.YtkkmhapfhnnooaaScoP
import Derived.Test.YtkkmhapfhnnooaaSt
import Derived.Deep.DeepCutAuto
namespace Go.Proofs.Ytkkmhapfhnnooaa.scopesSame
open Go.ChangeShapes Go.WideShapes Go.ChangeAt Go.RowKit
set_option linter.unusedVariables false

open Sco Slic Gm Gr

set_option maxRecDepth 100000 in
set_option maxHeartbeats 8000000 in
theorem walk (q0 q1 q2 q3 : Int) (lA : Option Addr) (ln lc : Nat) (lz : Nat → Nat → Int) (w : World) (wq0 : (Lit.int .i64 q0).wf = true) (wq1 : (Lit.int .i64 q1).wf = true) (wq2 : (Lit.int .i64 q2).wf = true) (wq3 : (Lit.int .i64 q3).wf = true) (hl : Args.Recs [.u8, .i64, .i64] w lA ln lz) :
    Calls Try.prog 9 #[.agg #[.int .i64 q0, .int .i64 q1, .int .i64 q2, .int .i64 q3], .slice lA ln lc] w fun e w' => e = .returned (.bool true) ∧ Below w.heap.size w w' := by
  obtain ⟨s, t, i, h, ⟨b1, b2, b3, b4, b5, b6, b7, b8, b9, b10⟩, FT⟩ := Plan.fit_all q0 q1 q2 q3
  obtain ⟨n, rfl⟩ : ∃ n : Nat, s = n := ⟨s.toNat, by omega⟩
  have n1 : 1 ≤ n := by omega
  have n8 : n ≤ 8 := by omega
  have HR : Hid (Plan.rightB (n : Int) t i h = true) := Lib.hid (decide_eq_true (by omega))
  clear wq0 wq1 wq2 wq3
  have hln := hl.len
  unfold maxLen at hln
  have Q0 : Bt w (w.alloc (.cells #[.int .i64 q0, .int .i64 q1, .int .i64 q2, .int .i64 q3] 23)) w.heap.size [.int .i64 q0, .int .i64 q1, .int .i64 q2, .int .i64 q3] 23 := ⟨Nat.le_refl _, heap_alloc_new w _⟩
  go_enter Try.func9, Try.ntmps9
  go_wp2_with fail
  refine (shown_any _).mono ?_
  rintro z w1 ⟨rfl, k1⟩
  have Q1 := Q0.below k1
  have B1 := (below_one w (.cells #[.int .i64 q0, .int .i64 q1, .int .i64 q2, .int .i64 q3] 23)).trans (k1.mono (by simp))
  have c0 := Q1.cell 0 _ rfl
  have c1 := Q1.cell 1 _ rfl
  have c2 := Q1.cell 2 _ rfl
  have c3 := Q1.cell 3 _ rfl
  clear Q0 Q1 k1
  go_wp2_with fail
  refine (FT _).mono ?_
  rintro z w2 ⟨rfl, k2⟩
  have B2 := B1.trans (k2.mono B1.size)
  have P3 : Bt w (w2.alloc (.cells #[.int .i64 (n : Int), .int .i64 t, .int .i64 i, .int .i64 h] 23)) w2.heap.size [.int .i64 (n : Int), .int .i64 t, .int .i64 i, .int .i64 h] 23 := ⟨B2.size, heap_alloc_new w2 _⟩
  clear c0 c1 c2 c3 FT B1 k2
  go_wp2_with fail
  refine (so_new (B2.alloc B2.size _) (n : Int) t i h HR.out [(w2.heap.size, [.int .i64 (n : Int), .int .i64 t, .int .i64 i, .int .i64 h], 23)] (fun x hx => by rw [List.mem_singleton.1 hx]; exact P3)).mono ?_
  rintro z w3 ⟨B, g, rfl, h3, k3, hB, hg⟩
  rw [Int.toNat_natCast] at h3
  obtain ⟨A, hA⟩ : ∃ A : Int, A = 64 * (n : Int) + i := ⟨_, rfl⟩
  obtain ⟨I, hI⟩ : ∃ I : Int, I = 64 * (n : Int) := ⟨_, rfl⟩
  rw [← hA, ← hI] at h3
  generalize hF0 : Sco.start n A h I i = F0 at *
  obtain ⟨c0, c1, c2, c3⟩ := h3.get4 0 rfl
  go_wp2_with fail
  refine (so_new h3.below (n : Int) t i h HR.out [] (fun x hx => absurd hx List.not_mem_nil)).mono ?_
  rintro z w4 ⟨B', g', rfl, g4, k4, hB', hg'⟩
  rw [Int.toNat_natCast, ← hA, ← hI, hF0] at g4
  have h4 := h3.call k4
  have nB : B ≠ B' := by have := h3.sc.ltB; omega
  have ng : g ≠ g' := by have := h3.sc.ltg; omega
  have np : w2.heap.size ≠ B' ∧ w2.heap.size ≠ g' := by have := (h3.at 0 rfl).lt; omega
  have NX : ∀ x ∈ [(w2.heap.size, [Value.int .i64 (n : Int), .int .i64 t, .int .i64 i, .int .i64 h], 23)], x.1 ≠ B' ∧ x.1 ≠ g' := fun x hx => by rw [List.mem_singleton.1 hx]; exact np
  have NB := Lib.hid nB
  have NG := Lib.hid ng
  clear h3 c0 c1 c2 c3 k3 k4 hB hg hB' hg' P3 B2 hA hI hF0 nB ng np
  go_wp2_with fail
  go_loopw [11] (fun u wr => ∃ (k : Nat) (F : Fo), k ≤ ln ∧ k ≤ 60 ∧ u = .int .i64 (k : Int) ∧ So w wr B g n A h I i F [(w2.heap.size, [.int .i64 (n : Int), .int .i64 t, .int .i64 i, .int .i64 h], 23)] ∧ So w wr B' g' n A h I i F []) (fun u _ => 60 - (intOf u).toNat)
  case atStart => exact ⟨0, F0, by omega, by omega, rfl, h4, g4⟩
  case round =>
    obtain ⟨k, F, hk1, hk2, rfl, SO, TO⟩ := hrel
    by_cases hlt : k < ln ∧ k < 60
    · obtain ⟨hk3, hk4⟩ := hlt
      obtain ⟨b, o, rfl, hb, hcell⟩ := hl.at_ k hk3
      have e0 : wr.cell? ⟨b, o + k * 3, none⟩ = some (.int .u8 (lz k 0)) := (SO.below.cell hb).trans (hcell 0 (by decide))
      have e1 : wr.cell? ⟨b, o + k * 3 + 1, none⟩ = some (.int .i64 (lz k 1)) := (SO.below.cell hb).trans (hcell 1 (by decide))
      have e2 : wr.cell? ⟨b, o + k * 3 + 2, none⟩ = some (.int .i64 (lz k 2)) := (SO.below.cell hb).trans (hcell 2 (by decide))
      have ⟨v0, v0'⟩ := Held.bounds_u8 (hl.wf k 0)
      have ⟨v2, v2'⟩ := Held.bounds_i64 (hl.wf k 2)
      go_wp2_with fail
      refine (doeso_any SO (lz k 0) (lz k 1) (lz k 2) v2 v2' v0 v0').mono ?_
      rintro z w5 ⟨rfl, S5, O5⟩
      have T5 := TO.other O5 SO.sc.tB SO.sc.tg SO.oB SO.og (fun e => NB.out e.symm) (fun e => NG.out e.symm) (fun x hx => absurd hx List.not_mem_nil)
      have HREF := Lib.hid (do_refused F (lz k 0) (lz k 1) (lz k 2))
      have HD := Lib.hid (rfl : doV F (lz k 0) (lz k 1) (lz k 2) = doV F (lz k 0) (lz k 1) (lz k 2))
      have f0 : w5.cell? ⟨b, o + k * 3, none⟩ = some (.int .u8 (lz k 0)) := (S5.below.cell hb).trans (hcell 0 (by decide))
      have f1 : w5.cell? ⟨b, o + k * 3 + 1, none⟩ = some (.int .i64 (lz k 1)) := (S5.below.cell hb).trans (hcell 1 (by decide))
      have f2 : w5.cell? ⟨b, o + k * 3 + 2, none⟩ = some (.int .i64 (lz k 2)) := (S5.below.cell hb).trans (hcell 2 (by decide))
      have DT := doeso_any T5 (lz k 0) (lz k 1) (lz k 2) v2 v2' v0 v0'
      generalize doV F (lz k 0) (lz k 1) (lz k 2) = r at *
      clear hcell e0 e1 e2
      by_cases hx : r.x = 0
      · have q1 : (r.x != 0) = false := by simpa using hx
        clear hx
        go_wp2_with fail
        refine DT.mono ?_
        rintro z w6 ⟨rfl, T6, O6⟩
        have S6 := S5.other O6 T5.sc.tB T5.sc.tg T5.oB T5.og NB.out NG.out NX
        have q2 : (r.v != r.v) = false := by simp
        go_wp2
        go_roundw
        case rel => exact ⟨k + 1, r.F, by omega, by omega, by go_num, S6, T6⟩
        case measure => simp [intOf]; omega
      · have q1 : (r.x != 0) = true := by simpa using hx
        have eF := HREF.out hx
        clear hx
        rw [eF] at S5
        go_wp2
        go_roundw
        case rel => exact ⟨k + 1, F, by omega, by omega, by go_num, S5, T5⟩
        case measure => simp [intOf]; omega
    · have hend : ¬ k < ln ∨ (k < ln ∧ ¬ k < 60) := by omega
      clear hlt
      have hL := SO.inv.lenL
      obtain ⟨CA, hCA⟩ : ∃ CA, CA = allA F.R := ⟨_, rfl⟩
      have HE : ∀ W, (Op.equalIn 10000 63 (.agg CA) (.agg CA)).run Try.prog W = .ok true W := by rw [hCA]; exact same_all F.R
      have HCA := Lib.hid hCA
      clear hCA
      rcases hend with hend | ⟨hend, hend'⟩
      all_goals
        as_aux_lemma =>
          go_wp2_with fail
          refine (so_free SO).mono ?_
          rintro z w5 ⟨V, c, rfl, E5, _, S5, k5⟩
          have T5 := TO.call k5
          go_wp2_with fail
          refine (so_free T5).mono ?_
          rintro z w6 ⟨V', c', rfl, E6, _, T6, k6⟩
          have S6 := S5.call k6
          have E5' := E5.below k6
          go_wp2_with fail
          refine (Gr.same_yes w6 V V' c c' F.L E5' E6 hL).mono ?_
          rintro z w7 ⟨rfl, k7⟩
          have S7 := (S6.call k7).drew
          have T7 := (T6.call k7).drew
          have P7 := S7.get4 0 rfl
          have P7' : w7.cell? ⟨w2.heap.size, 0, none⟩ = some (.int .i64 (n : Int)) ∧ w7.cell? ⟨w2.heap.size, 1, none⟩ = some (.int .i64 t) ∧ w7.cell? ⟨w2.heap.size, 2, none⟩ = some (.int .i64 i) ∧ w7.cell? ⟨w2.heap.size, 3, none⟩ = some (.int .i64 h) := P7
          clear S6 S5 T5 T6 k5 k6 k7 E5 E6 E5' SO TO
          go_wp2_with fail
          go_region_held3 (fun w' => w'.cell? ⟨w2.heap.size, 0, none⟩ = some (.int .i64 (n : Int)) ∧ w'.cell? ⟨w2.heap.size, 1, none⟩ = some (.int .i64 t) ∧ w'.cell? ⟨w2.heap.size, 2, none⟩ = some (.int .i64 i) ∧ w'.cell? ⟨w2.heap.size, 3, none⟩ = some (.int .i64 h))
            (first | with_reducible exact P9 | with_reducible exact P8 | with_reducible exact P7 | with_reducible exact P7')
            (first
              | (go_at_call 34; with_reducible refine (seen_any S7 t i h).mono ?_; rintro z w8 ⟨rfl, k8⟩; rw [← HCA.out]; have S8 := S7.call k8; have T8 := T7.call k8; have P8 := S8.get4 0 rfl)
              | (go_at_call 34; with_reducible refine (seen_any T7 t i h).mono ?_; rintro z w8 ⟨rfl, k8⟩; rw [← HCA.out]; have S8 := S7.call k8; have T8 := T7.call k8; have P8 := S8.get4 0 rfl)
              | (go_at_call 34; with_reducible refine (seen_any S8 t i h).mono ?_; rintro z w9 ⟨rfl, k9⟩; rw [← HCA.out]; have S9 := S8.call k9; have P9 := S9.get4 0 rfl)
              | (go_at_call 34; with_reducible refine (seen_any T8 t i h).mono ?_; rintro z w9 ⟨rfl, k9⟩; rw [← HCA.out]; have S9 := S8.call k9; have P9 := S9.get4 0 rfl))
          all_goals
            go_wp2
            go_ret
            exact ⟨rfl, S9.below⟩

set_option maxRecDepth 100000 in
theorem lifted (os : Os) (started : os.Started) (H : Type) (enc : TypeId × Value → H) :
    ReturnsInHanded {} Try.checked os 9 .any (Rows.scopesSameSpec.pre6 enc Try.prog Try.f9 Rows.scopesSameRow.domain false) (Rows.scopesSameSpec.post enc Try.prog Try.f9 false true false false) := by
  refine returnsInHanded_of_change (C := Try.checked) Args.own started (by kernel_rfl) Try.func9
    (ChangeSpec.witness6 (enc := enc) (C := Try.checked) false ⟨#[], #[.agg #[.int .i64 0, .int .i64 0, .int .i64 0, .int .i64 0], .slice none 0 0], []⟩ 8 (by kernel_rfl) (by kernel_rfl) (by kernel_rfl) (by kernel_rfl)) ?_
  intro W base args ds gs before hval0 hW hcnd _
  have hval : ∀ (j : Nat) t v, Try.f9.params[j]? = some t → args[j]? = some v → Value.okWide Try.prog W .any base t v := hval0
  have hW' := hW
  obtain ⟨p, q, hA0, hV, rfl, hfz, hnd⟩ := hW
  have hA : DataW.TrodAll enc Try.prog W 0 (fun _ => true) true Try.f9.params.toList args.toList ds p := hA0
  rw [Try.params9] at hA hval
  obtain ⟨v0, vs0, d0, ds0, p0, q0, hargs, rfl, rfl, h0, r0⟩ := trodAll_cons hA
  obtain ⟨v1, vs1, d1, ds1, p1, q1, rfl, rfl, rfl, h1, r1⟩ := trodAll_cons r0
  obtain ⟨rfl, rfl, rfl⟩ := trodAll_nil r1
  obtain rfl : args = #[v0, v1] := by cases args; simp_all
  obtain ⟨rfl, rfl⟩ := trodVars_none hV
  have lt0 := Args.trod_below h0
  obtain ⟨qz, hv0, hq⟩ := Args.rec_in (ks := [.i64, .i64, .i64, .i64]) Try.underlying23 (by kernel_rfl) (by kernel_rfl) (hval 0 23 v0 rfl rfl) h0
  obtain rfl : v0 = .agg #[.int .i64 (qz 0), .int .i64 (qz 1), .int .i64 (qz 2), .int .i64 (qz 3)] := hv0
  have lt1 := Args.trod_below h1
  obtain ⟨lA, ln, lc, lz, rfl, hl⟩ := Args.recs_in (ks := [.u8, .i64, .i64]) (e := 34) (by kernel_rfl) Try.underlying34 (by kernel_rfl) (by kernel_rfl) (by decide) (hval 1 24 v1 rfl rfl) h1
  clear hA0 hval0
  refine (walk (qz 0) (qz 1) (qz 2) (qz 3) lA ln lc lz W (hq 0) (hq 1) (hq 2) (hq 3) hl).mono fun e W' ⟨he, bel⟩ => ?_
  subst he
  exact ⟨_, rfl, _, _, _, [], _, [], hW', trodAll_mk1 (shut_bool Try.underlying4 _), trodAll_cons_mk (Below.trod Args.laidOut (by kernel_rfl) (of_decide_eq_true (by kernel_rfl)) h0 bel lt0) (trodAll_cons_mk (Below.trod Args.laidOut (by kernel_rfl) (of_decide_eq_true (by kernel_rfl)) h1 bel lt1) (trodAll_mk0)), rfl, bel.frame _, fun h => by cases h⟩

theorem over : Rows.scopesSameRow.holds Try.pinned (OpenSpec.ofChange Rows.scopesSameSpec) :=
  OpenClaim.holds_of_wide 9 Try.f9 rfl rfl rfl rfl rfl rfl rfl ⟨rfl, rfl, rfl, rfl, rfl⟩ rfl rfl rfl rfl rfl (by kernel_rfl) Try.func9 (by kernel_rfl)
    (of_decide_eq_true (by kernel_rfl)) (by unfold Func.isWrapper; rw [if_neg (of_decide_eq_false (by kernel_rfl))]; exact ⟨rfl, rfl⟩)
    (fun os started H enc _ => lifted os started H enc)

theorem proved : Rows.ScopesSameSaid :=
  over
end Go.Proofs.Ytkkmhapfhnnooaa.scopesSame
