/-
  penfoldlaw11.ScopesOnce returns true for every three bytes, and changes nothing that was there; no condition.
-/
import Derived.Test.YtkkmhapfhnnooaaRows
import Derived.Test.YtkkmhapfhnnooaaArgs
import Derived.Test.YtkkmhapfhnnooaaScoO
import Derived.Test.YtkkmhapfhnnooaaSt
import Derived.Deep.DeepCutAuto
namespace Go.Proofs.Ytkkmhapfhnnooaa.scopesOnce
open Go.ChangeShapes Go.WideShapes Go.ChangeAt Go.RowKit
set_option linter.unusedVariables false

open Sco Slic Gm

set_option maxRecDepth 100000 in
set_option maxHeartbeats 8000000 in
theorem walk (bn : Int) (bf : Int) (bo : Int) (w : World) (wbn : (Lit.int .u8 bn).wf = true) (wbf : (Lit.int .u8 bf).wf = true) (wbo : (Lit.int .u8 bo).wf = true) :
    Calls Try.prog 5 #[.int .u8 bn, .int .u8 bf, .int .u8 bo] w fun e w' => e = .returned (.bool true) ∧ Below w.heap.size w w' := by
  have ⟨n0, n1⟩ := Held.bounds_u8 wbn
  have ⟨f0, f1⟩ := Held.bounds_u8 wbf
  have ⟨o0, o1⟩ := Held.bounds_u8 wbo
  obtain ⟨k, hk⟩ : ∃ k : Nat, (k : Int) = 1 + bn % 9 := ⟨(1 + bn % 9).toNat, by omega⟩
  obtain ⟨a, ha⟩ : ∃ a : Int, a = bf % 8 := ⟨_, rfl⟩
  obtain ⟨d, hd⟩ : ∃ d : Int, d = bo % 8 := ⟨_, rfl⟩
  have tn : Int.tmod bn 9 = bn % 9 := Int.tmod_eq_emod_of_nonneg n0
  have tf : Int.tmod bf 8 = bf % 8 := Int.tmod_eq_emod_of_nonneg f0
  have tq : Int.tmod bo 8 = bo % 8 := Int.tmod_eq_emod_of_nonneg o0
  have k1 : 1 ≤ k := by omega
  have k9 : k ≤ 9 := by omega
  have a0 : 0 ≤ a := by omega
  have a7 : a ≤ 7 := by omega
  have d0 : 0 ≤ d := by omega
  have d7 : d ≤ 7 := by omega
  go_enter Try.func5, Try.ntmps5
  go_wp2_with fail
  refine (shown_any _).mono ?_
  rintro z w1 ⟨rfl, k1'⟩
  go_wp2_with fail
  refine (so_new k1' 8 4 0 256 (by decide) [] (fun x hx => absurd hx List.not_mem_nil)).mono ?_
  rintro z w2 ⟨B, g, rfl, h2, _⟩
  go_wp2_with fail
  refine (so_create h2 100 (by omega) (by omega)).mono ?_
  rintro z w3 ⟨rfl, h3⟩
  rw [once_made] at h3 ⊢
  have hk' : 1 + bn % 9 = (k : Int) := hk.symm
  have ha' : bf % 8 = a := ha.symm
  have hd' : bo % 8 = d := hd.symm
  clear hk ha hd wbn wbf wbo
  go_wp2_with fail
  clear hk' ha' hd' n0 n1 f0 f1 o0 o1 tn tf tq
  go_loopw [15, 16] (fun m t wr => ∃ i q : Nat, i ≤ k ∧ q = min i 7 ∧ t = .int .i64 (i : Int) ∧ m = .int .i64 (q : Int) ∧ So w wr B g 8 512 256 512 0 (GG (Y q a)) []) (fun _ t _ => k - (intOf t).toNat)
  case atStart => exact ⟨0, 0, by omega, by omega, rfl, rfl, h3⟩
  case round =>
    obtain ⟨i, q, hi, hq, rfl, rfl, h⟩ := hrel
    by_cases hlt : i < k
    · by_cases h7 : i < 7
      · obtain rfl : q = i := by omega
        clear hq
        have E := Lib.hid (en_more (m := q) h7 a0 a7)
        go_wp2_with fail
        refine (so_enter h 1 a).mono ?_
        rintro z w4 ⟨rfl, h4⟩
        rw [E.out] at h4 ⊢
        go_wp2
        go_roundw
        case rel => exact ⟨q + 1, q + 1, by omega, by omega, by go_num, by go_num, h4⟩
        case measure => simp [intOf]; omega
      · obtain rfl : q = 7 := by omega
        clear hq
        have E := Lib.hid (en_full a0 a7)
        go_wp2_with fail
        refine (so_enter h 1 a).mono ?_
        rintro z w4 ⟨rfl, h4⟩
        rw [E.out] at h4 ⊢
        go_wp2
        go_roundw
        case rel => exact ⟨i + 1, 7, by omega, by omega, by go_num, rfl, h4⟩
        case measure => simp [intOf]; omega
    · obtain rfl : i = k := by omega
      have q1 : 1 ≤ q := by omega
      have q7 : q ≤ 7 := by omega
      have hmin : min (i : Int) 7 = (q : Int) := by omega
      have hmin2 : (if (7 : Int) < (i : Int) then (7 : Int) else (i : Int)) = (q : Int) := by split <;> omega
      clear hq hi hlt
      have E1 := Lib.hid (gone_in (m := q) (a := a) q1)
      go_wp2_with fail
      refine (so_destroy h 1).mono ?_
      rintro z w5 ⟨rfl, h5⟩
      rw [E1.out] at h5 ⊢
      by_cases hda : d = a
      · subst hda
        go_wp2_with fail
        go_loopw [18] (fun t wz => ∃ j : Nat, j ≤ q ∧ t = .int .i64 (j : Int) ∧ So w wz B g 8 512 256 512 0 (if j = q then GG (Yd d) else GG (Y (q - j) d)) []) (fun t _ => q - (intOf t).toNat)
        case atStart => exact ⟨0, by omega, rfl, by rw [if_neg (by omega)]; exact h5⟩
        case round =>
          obtain ⟨j, hj, rfl, h7⟩ := hrel
          have wq : IntKind.i64.wrap ((q : Int) - 1) = (q : Int) - 1 := IntWalk.i64_in _ (by omega)
          by_cases hl2 : j < q
          · rw [if_neg (by omega)] at h7
            by_cases hlast : j + 1 = q
            · have e1 : q - j = 1 := by omega
              rw [e1] at h7
              have E := Lib.hid (le_last a0 a7)
              have qe : ((j : Int) == (q : Int) - 1) = true := by simp; omega
              go_wp2_with fail
              refine (so_leave h7 1).mono ?_
              rintro z w8 ⟨rfl, h8⟩
              rw [E.out] at h8 ⊢
              go_wp2
              go_roundw
              case rel => exact ⟨j + 1, by omega, by go_num, by rw [if_pos hlast]; exact h8⟩
              case measure => simp [intOf]; omega
            · have E := Lib.hid (le_more (m := q - j) (by omega) (by omega) a0 a7)
              have qe : ((j : Int) == (q : Int) - 1) = false := by simp; omega
              go_wp2_with fail
              refine (so_leave h7 1).mono ?_
              rintro z w8 ⟨rfl, h8⟩
              rw [E.out] at h8 ⊢
              go_wp2
              go_roundw
              case rel => exact ⟨j + 1, by omega, by go_num, by rw [if_neg hlast, show q - (j + 1) = q - j - 1 by omega]; exact h8⟩
              case measure => simp [intOf]; omega
          · obtain rfl : j = q := by omega
            rw [if_pos rfl] at h7
            have W1 := Lib.hid (en_wait a0 a7)
            have W2 := Lib.hid (gone_wait d)
            have W3 := Lib.hid (op_drain a0 a7)
            clear hj hl2
            go_wp2_with fail
            refine (so_enter h7 1 d).mono ?_
            rintro z v1 ⟨rfl, g1⟩
            rw [W1.out] at g1 ⊢
            go_wp2_with fail
            refine (so_destroy g1 1).mono ?_
            rintro z v2 ⟨rfl, g2⟩
            rw [W2.out] at g2 ⊢
            go_wp2_with fail
            refine (so_open g2 1).mono ?_
            rintro z v3 ⟨rfl, g3⟩
            rw [W3.out] at g3 ⊢
            go_wp2_with fail
            refine (so_ctl g3 1).mono ?_
            rintro z v4 ⟨rfl, g4⟩
            rw [see_open]
            have g5 := g4.new [.int .i64 1, .int .i64 0, .int .i64 (-1), .int .i64 1] 42
            go_wp2_with fail
            refine (so_destroy g5 1).mono ?_
            rintro z v5 ⟨rfl, g6⟩
            rw [gone_last] at g6 ⊢
            go_wp2_with fail
            refine (so_create g6 8 (by omega) (by omega)).mono ?_
            rintro z v6 ⟨rfl, g7⟩
            rw [once_again] at g7 ⊢
            go_wp2_with fail
            refine (so_ctl g7 1).mono ?_
            rintro z v7 ⟨rfl, g8⟩
            rw [see_last]
            have g9 := g8.new [.int .i64 1, .int .i64 0, .int .i64 (-1), .int .i64 2] 42
            obtain ⟨c0, c1, c2, c3⟩ := g9.get4 1 rfl
            go_wp2
            go_ret
            exact ⟨rfl, g9.below⟩
      · have E2 := Lib.hid (en_other (m := q) (f := d) q1 q7 a0 a7 d0 d7 hda)
        have qd : (d != a) = true := by simpa using hda
        go_wp2_with fail
        refine (so_enter h5 1 d).mono ?_
        rintro z w6 ⟨rfl, h6⟩
        rw [E2.out] at h6 ⊢
        clear qd
        go_wp2_with fail
        go_loopw [18] (fun t wz => ∃ j : Nat, j ≤ q ∧ t = .int .i64 (j : Int) ∧ So w wz B g 8 512 256 512 0 (if j = q then GG (Yd a) else GG (Y (q - j) a)) []) (fun t _ => q - (intOf t).toNat)
        case atStart => exact ⟨0, by omega, rfl, by rw [if_neg (by omega)]; exact h6⟩
        case round =>
          obtain ⟨j, hj, rfl, h7⟩ := hrel
          have wq : IntKind.i64.wrap ((q : Int) - 1) = (q : Int) - 1 := IntWalk.i64_in _ (by omega)
          by_cases hl2 : j < q
          · rw [if_neg (by omega)] at h7
            by_cases hlast : j + 1 = q
            · have e1 : q - j = 1 := by omega
              rw [e1] at h7
              have E := Lib.hid (le_last a0 a7)
              have qe : ((j : Int) == (q : Int) - 1) = true := by simp; omega
              go_wp2_with fail
              refine (so_leave h7 1).mono ?_
              rintro z w8 ⟨rfl, h8⟩
              rw [E.out] at h8 ⊢
              go_wp2
              go_roundw
              case rel => exact ⟨j + 1, by omega, by go_num, by rw [if_pos hlast]; exact h8⟩
              case measure => simp [intOf]; omega
            · have E := Lib.hid (le_more (m := q - j) (by omega) (by omega) a0 a7)
              have qe : ((j : Int) == (q : Int) - 1) = false := by simp; omega
              go_wp2_with fail
              refine (so_leave h7 1).mono ?_
              rintro z w8 ⟨rfl, h8⟩
              rw [E.out] at h8 ⊢
              go_wp2
              go_roundw
              case rel => exact ⟨j + 1, by omega, by go_num, by rw [if_neg hlast, show q - (j + 1) = q - j - 1 by omega]; exact h8⟩
              case measure => simp [intOf]; omega
          · obtain rfl : j = q := by omega
            rw [if_pos rfl] at h7
            have W1 := Lib.hid (en_wait a0 a7)
            have W2 := Lib.hid (gone_wait a)
            have W3 := Lib.hid (op_drain a0 a7)
            clear hj hl2
            go_wp2_with fail
            refine (so_enter h7 1 a).mono ?_
            rintro z v1 ⟨rfl, g1⟩
            rw [W1.out] at g1 ⊢
            go_wp2_with fail
            refine (so_destroy g1 1).mono ?_
            rintro z v2 ⟨rfl, g2⟩
            rw [W2.out] at g2 ⊢
            go_wp2_with fail
            refine (so_open g2 1).mono ?_
            rintro z v3 ⟨rfl, g3⟩
            rw [W3.out] at g3 ⊢
            go_wp2_with fail
            refine (so_ctl g3 1).mono ?_
            rintro z v4 ⟨rfl, g4⟩
            rw [see_open]
            have g5 := g4.new [.int .i64 1, .int .i64 0, .int .i64 (-1), .int .i64 1] 42
            go_wp2_with fail
            refine (so_destroy g5 1).mono ?_
            rintro z v5 ⟨rfl, g6⟩
            rw [gone_last] at g6 ⊢
            go_wp2_with fail
            refine (so_create g6 8 (by omega) (by omega)).mono ?_
            rintro z v6 ⟨rfl, g7⟩
            rw [once_again] at g7 ⊢
            go_wp2_with fail
            refine (so_ctl g7 1).mono ?_
            rintro z v7 ⟨rfl, g8⟩
            rw [see_last]
            have g9 := g8.new [.int .i64 1, .int .i64 0, .int .i64 (-1), .int .i64 2] 42
            obtain ⟨c0, c1, c2, c3⟩ := g9.get4 1 rfl
            go_wp2
            go_ret
            exact ⟨rfl, g9.below⟩

set_option maxRecDepth 100000 in
theorem lifted (os : Os) (started : os.Started) (H : Type) (enc : TypeId × Value → H) :
    ReturnsInHanded {} Try.checked os 5 .any (Rows.scopesOnceSpec.pre6 enc Try.prog Try.f5 Rows.scopesOnceRow.domain false) (Rows.scopesOnceSpec.post enc Try.prog Try.f5 false true false false) := by
  refine returnsInHanded_of_change (C := Try.checked) Args.own started (by kernel_rfl) Try.func5
    (ChangeSpec.witness6 (enc := enc) (C := Try.checked) false ⟨#[], #[.int .u8 0, .int .u8 0, .int .u8 0], []⟩ 8 (by kernel_rfl) (by kernel_rfl) (by kernel_rfl) (by kernel_rfl)) ?_
  intro W base args ds gs before hval0 hW hcnd _
  have hval : ∀ (j : Nat) t v, Try.f5.params[j]? = some t → args[j]? = some v → Value.okWide Try.prog W .any base t v := hval0
  have hW' := hW
  obtain ⟨p, q, hA0, hV, rfl, hfz, hnd⟩ := hW
  have hA : DataW.TrodAll enc Try.prog W 0 (fun _ => true) true Try.f5.params.toList args.toList ds p := hA0
  rw [Try.params5] at hA hval
  obtain ⟨v0, vs0, d0, ds0, p0, q0, hargs, rfl, rfl, h0, r0⟩ := trodAll_cons hA
  obtain ⟨v1, vs1, d1, ds1, p1, q1, rfl, rfl, rfl, h1, r1⟩ := trodAll_cons r0
  obtain ⟨v2, vs2, d2, ds2, p2, q2, rfl, rfl, rfl, h2, r2⟩ := trodAll_cons r1
  obtain ⟨rfl, rfl, rfl⟩ := trodAll_nil r2
  obtain rfl : args = #[v0, v1, v2] := by cases args; simp_all
  obtain ⟨rfl, rfl⟩ := trodVars_none hV
  have lt0 := Args.trod_below h0
  obtain ⟨bn, rfl, rfl, rfl, wbn⟩ := open_int Try.underlying5 (hval 0 5 v0 rfl rfl) h0
  have lt1 := Args.trod_below h1
  obtain ⟨bf, rfl, rfl, rfl, wbf⟩ := open_int Try.underlying5 (hval 1 5 v1 rfl rfl) h1
  have lt2 := Args.trod_below h2
  obtain ⟨bo, rfl, rfl, rfl, wbo⟩ := open_int Try.underlying5 (hval 2 5 v2 rfl rfl) h2
  clear hA0 hval0
  refine (walk bn bf bo W wbn wbf wbo).mono fun e W' ⟨he, bel⟩ => ?_
  subst he
  exact ⟨_, rfl, _, _, _, [], _, [], hW', trodAll_mk1 (shut_bool Try.underlying4 _), trodAll_cons_mk (Below.trod Args.laidOut (by kernel_rfl) (of_decide_eq_true (by kernel_rfl)) h0 bel lt0) (trodAll_cons_mk (Below.trod Args.laidOut (by kernel_rfl) (of_decide_eq_true (by kernel_rfl)) h1 bel lt1) (trodAll_cons_mk (Below.trod Args.laidOut (by kernel_rfl) (of_decide_eq_true (by kernel_rfl)) h2 bel lt2) (trodAll_mk0))), rfl, bel.frame _, fun h => by cases h⟩

theorem over : Rows.scopesOnceRow.holds Try.pinned (OpenSpec.ofChange Rows.scopesOnceSpec) :=
  OpenClaim.holds_of_wide 5 Try.f5 rfl rfl rfl rfl rfl rfl rfl ⟨rfl, rfl, rfl, rfl, rfl⟩ rfl rfl rfl rfl rfl (by kernel_rfl) Try.func5 (by kernel_rfl)
    (of_decide_eq_true (by kernel_rfl)) (by unfold Func.isWrapper; rw [if_neg (of_decide_eq_false (by kernel_rfl))]; exact ⟨rfl, rfl⟩)
    (fun os started H enc _ => lifted os started H enc)

theorem proved : Rows.ScopesOnceSaid :=
  over
end Go.Proofs.Ytkkmhapfhnnooaa.scopesOnce
