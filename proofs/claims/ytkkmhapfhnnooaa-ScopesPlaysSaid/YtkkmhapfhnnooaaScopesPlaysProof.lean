/-
  penfoldlaw11.ScopesPlays returns true for every plan and every slice of things done, and changes nothing that was there; no condition.
-/
import Derived.Test.YtkkmhapfhnnooaaRows
import Derived.Test.YtkkmhapfhnnooaaArgs
import Derived.Test.YtkkmhapfhnnooaaScoBo
import Derived.Test.YtkkmhapfhnnooaaSt
import Derived.Deep.DeepCutAuto
import Derived.Deep.CutBlock
namespace Go.Proofs.Ytkkmhapfhnnooaa.scopesPlays
open Go.ChangeShapes Go.WideShapes Go.ChangeAt Go.RowKit
set_option linter.unusedVariables false

open Sco Slic Gm Gr

set_option maxRecDepth 100000 in
set_option maxHeartbeats 8000000 in
theorem walk (q0 q1 q2 q3 : Int) (lA : Option Addr) (ln lc : Nat) (lz : Nat → Nat → Int) (w : World) (wq0 : (Lit.int .i64 q0).wf = true) (wq1 : (Lit.int .i64 q1).wf = true) (wq2 : (Lit.int .i64 q2).wf = true) (wq3 : (Lit.int .i64 q3).wf = true) (hl : Args.Recs [.u8, .i64, .i64] w lA ln lz) :
    Calls Try.prog 3 #[.agg #[.int .i64 q0, .int .i64 q1, .int .i64 q2, .int .i64 q3], .slice lA ln lc] w fun e w' => e = .returned (.bool true) ∧ Below w.heap.size w w' := by
  obtain ⟨s, t, i, h, ⟨b1, b2, b3, b4, b5, b6, b7, b8, b9, b10⟩, FT⟩ := Plan.fit_all q0 q1 q2 q3
  obtain ⟨n, rfl⟩ : ∃ n : Nat, s = n := ⟨s.toNat, by omega⟩
  obtain ⟨N, rfl⟩ : ∃ N : Nat, h = 8 * (N : Int) := ⟨(h / 8).toNat, by omega⟩
  have n1 : 1 ≤ n := by omega
  have n8 : n ≤ 8 := by omega
  have HR : Hid (Plan.rightB (n : Int) t i (8 * (N : Int)) = true) := Lib.hid (decide_eq_true (by omega))
  clear wq0 wq1 wq2 wq3
  have hln := hl.len
  unfold maxLen at hln
  have Q0 : Bt w (w.alloc (.cells #[.int .i64 q0, .int .i64 q1, .int .i64 q2, .int .i64 q3] 23)) w.heap.size [.int .i64 q0, .int .i64 q1, .int .i64 q2, .int .i64 q3] 23 := ⟨Nat.le_refl _, heap_alloc_new w _⟩
  go_enter Try.func3, Try.ntmps3
  go_wp2_with fail
  refine (shown_any _).mono ?_
  rintro z w1 ⟨rfl, k1⟩
  have Q1 := Q0.below k1
  have B1 := (below_one w (.cells #[.int .i64 q0, .int .i64 q1, .int .i64 q2, .int .i64 q3] 23)).trans (k1.mono (by simp))
  have c0 := Q1.cell 0 _ rfl
  have c1 := Q1.cell 1 _ rfl
  have c2 := Q1.cell 2 _ rfl
  have c3 := Q1.cell 3 _ rfl
  clear Q0 Q1 k1
  go_wp2_with fail
  refine (FT _).mono ?_
  rintro z w2 ⟨rfl, k2⟩
  have B2 := B1.trans (k2.mono B1.size)
  have P3 : Bt w (w2.alloc (.cells #[.int .i64 (n : Int), .int .i64 t, .int .i64 i, .int .i64 (8 * (N : Int))] 23)) w2.heap.size [.int .i64 (n : Int), .int .i64 t, .int .i64 i, .int .i64 (8 * (N : Int))] 23 := ⟨B2.size, heap_alloc_new w2 _⟩
  clear c0 c1 c2 c3 FT B1 k2
  go_wp2_with fail
  refine (so_new (B2.alloc B2.size _) (n : Int) t i (8 * (N : Int)) HR.out [(w2.heap.size, [.int .i64 (n : Int), .int .i64 t, .int .i64 i, .int .i64 (8 * (N : Int))], 23)] (fun x hx => by rw [List.mem_singleton.1 hx]; exact P3)).mono ?_
  rintro z w3 ⟨B, g, rfl, h3, k3, hB, hg⟩
  rw [Int.toNat_natCast] at h3
  obtain ⟨c0, c1, c2, c3⟩ := h3.get4 0 rfl
  go_wp2_with fail
  refine (bo_new n N t i HR.out h3).mono ?_
  rintro z w4 ⟨P, Y0, rfl, B4⟩
  obtain ⟨A, hA⟩ : ∃ A : Int, A = 64 * (n : Int) + i := ⟨_, rfl⟩
  obtain ⟨I, hI⟩ : ∃ I : Int, I = 64 * (n : Int) := ⟨_, rfl⟩
  rw [← hA, ← hI] at B4
  generalize Sco.start n A (8 * (N : Int)) I i = F0 at *
  clear k3 hB hg P3 B2 hA hI h3 c0 c1 c2 c3
  go_wp2_with fail
  go_loopw [10] (fun u wr => ∃ (k : Nat) (F : Fo) (Y : Nat → Bool), k ≤ ln ∧ k ≤ 60 ∧ u = .int .i64 (k : Int) ∧ Bo w wr B g n N A I i F F P Y) (fun u _ => 60 - (intOf u).toNat)
  case atStart => exact ⟨0, F0, Y0, by omega, by omega, rfl, B4⟩
  case round =>
    clear B4
    obtain ⟨k, F, Y, hk1, hk2, rfl, BO⟩ := hrel
    by_cases hlt : k < ln ∧ k < 60
    · obtain ⟨hk3, hk4⟩ := hlt
      obtain ⟨b, o, rfl, hb, hcell⟩ := hl.at_ k hk3
      have ⟨v0, v0'⟩ := Held.bounds_u8 (hl.wf k 0)
      have ⟨v2, v2'⟩ := Held.bounds_i64 (hl.wf k 2)
      have e0 : wr.cell? ⟨b, o + k * 3, none⟩ = some (.int .u8 (lz k 0)) := (BO.below.cell hb).trans (hcell 0 (by decide))
      have e1 : wr.cell? ⟨b, o + k * 3 + 1, none⟩ = some (.int .i64 (lz k 1)) := (BO.below.cell hb).trans (hcell 1 (by decide))
      have e2 : wr.cell? ⟨b, o + k * 3 + 2, none⟩ = some (.int .i64 (lz k 2)) := (BO.below.cell hb).trans (hcell 2 (by decide))
      have hb1 := (Lo.mk BO.below.size (fun x hx => absurd hx List.not_mem_nil) : Lo w wr []).new [.int .u8 (lz k 0), .int .i64 (lz k 1), .int .i64 (lz k 2)] 34
      have H1 := BO.alloc (.cells #[.int .u8 (lz k 0), .int .i64 (lz k 1), .int .i64 (lz k 2)] 34)
      clear hcell BO
      go_upto_block 2 with (fail)
      have hkd : lz k 0 % 7 = 0 ∨ lz k 0 % 7 = 1 ∨ lz k 0 % 7 = 2 ∨ lz k 0 % 7 = 3 ∨ lz k 0 % 7 = 4 ∨ lz k 0 % 7 = 5 ∨ lz k 0 % 7 = 6 := by omega
      have HKD := Lib.hid hkd
      clear e0 e1 e2 hkd
      generalize wr.alloc (.cells #[.int .u8 (lz k 0), .int .i64 (lz k 1), .int .i64 (lz k 2)] 34) = W1 at *
      go_cut [12, 13, 14, 15, 16, 17, 18, 19] (fun _ _ _ _ _ _ _ _ wx => ∃ (F' : Fo) (Y' : Nat → Bool), Bo w wx B g n N A I i F' F' P Y' ∧ Bt w wx wr.heap.size [.int .u8 (lz k 0), .int .i64 (lz k 1), .int .i64 (lz k 2)] 34)
      case first =>
        generalize lz k 0 % 7 = kd at *
        rcases HKD.out with rfl | rfl | rfl | rfl | rfl | rfl | rfl
        · as_aux_lemma =>
            obtain ⟨c0, c1, c2⟩ := hb1.get3 0 rfl
            go_wp2_with fail
            refine (bp_create H1 (lz k 2) v2 v2').mono ?_
            rintro e w2 ⟨rfl, H2, o2⟩
            have hb2 := H1.box (hb1.box _ List.mem_cons_self) o2
            have d1 := hb2.cell 1 _ rfl
            have d2 := hb2.cell 2 _ rfl
            go_wp2_with fail
            refine (br_create H2 (lz k 2) v2 v2').mono ?_
            rintro e w3 ⟨rfl, ⟨Y3, H3⟩, o3⟩
            have hb3 := H2.boxr hb2 o3
            go_wp2_with fail
            go_meet
            exact ⟨_, Y3, H3, hb3⟩
        · as_aux_lemma =>
            obtain ⟨c0, c1, c2⟩ := hb1.get3 0 rfl
            go_wp2_with fail
            have D1 := H1.drew
            have hd1 := (hb1.box _ List.mem_cons_self).below (Below.refl _ _).drew
            go_region_held3 (fun w' => w'.cell? ⟨wr.heap.size, 1, none⟩ = some (.int .i64 (lz k 1)))
              (first | with_reducible exact c1 | with_reducible exact d1 | with_reducible exact f1 | exact c1)
              (first
                | (go_at_call 16; with_reducible refine (bp_destroy D1 (lz k 1)).mono ?_; rintro e w2 ⟨rfl, H2, o2⟩; have hb2 := D1.box hd1 o2; have d1 := hb2.cell 1 _ rfl; have d2 := hb2.cell 2 _ rfl)
                | (go_at_call 17; with_reducible refine (br_destroy H2 (lz k 1)).mono ?_; rintro e w3 ⟨rfl, ⟨Y3, H3⟩, o3⟩; have hb3 := H2.boxr hb2 o3; have f1 := hb3.cell 1 _ rfl; have f2 := hb3.cell 2 _ rfl))
            all_goals
              go_wp2_with fail
              go_meet
              exact ⟨_, Y3, H3, hb3⟩
        · as_aux_lemma =>
            obtain ⟨c0, c1, c2⟩ := hb1.get3 0 rfl
            go_wp2_with fail
            have D1 := H1.drew
            have hd1 := (hb1.box _ List.mem_cons_self).below (Below.refl _ _).drew
            go_region_held3 (fun w' => w'.cell? ⟨wr.heap.size, 1, none⟩ = some (.int .i64 (lz k 1)) ∧ w'.cell? ⟨wr.heap.size, 2, none⟩ = some (.int .i64 (lz k 2)))
              (first | with_reducible exact ⟨c1, c2⟩ | with_reducible exact ⟨d1, d2⟩ | with_reducible exact ⟨f1, f2⟩ | exact ⟨c1, c2⟩)
              (first
                | (go_at_call 24; with_reducible refine (bp_enter D1 (lz k 1) (lz k 2)).mono ?_; rintro e w2 ⟨rfl, H2, o2⟩; have hb2 := D1.box hd1 o2; have d1 := hb2.cell 1 _ rfl; have d2 := hb2.cell 2 _ rfl)
                | (go_at_call 25; with_reducible refine (br_enter H2 (lz k 1) (lz k 2)).mono ?_; rintro e w3 ⟨rfl, ⟨Y3, H3⟩, o3⟩; have hb3 := H2.boxr hb2 o3; have f1 := hb3.cell 1 _ rfl; have f2 := hb3.cell 2 _ rfl))
            all_goals
              go_wp2_with fail
              go_meet
              exact ⟨_, Y3, H3, hb3⟩
        · as_aux_lemma =>
            obtain ⟨c0, c1, c2⟩ := hb1.get3 0 rfl
            go_wp2_with fail
            have D1 := H1.drew
            have hd1 := (hb1.box _ List.mem_cons_self).below (Below.refl _ _).drew
            go_region_held3 (fun w' => w'.cell? ⟨wr.heap.size, 1, none⟩ = some (.int .i64 (lz k 1)) ∧ w'.cell? ⟨wr.heap.size, 2, none⟩ = some (.int .i64 (lz k 2)))
              (first | with_reducible exact ⟨c1, c2⟩ | with_reducible exact ⟨d1, d2⟩ | with_reducible exact ⟨f1, f2⟩ | exact ⟨c1, c2⟩)
              (first
                | (go_at_call 24; with_reducible refine (bp_enter D1 (lz k 1) (lz k 2)).mono ?_; rintro e w2 ⟨rfl, H2, o2⟩; have hb2 := D1.box hd1 o2; have d1 := hb2.cell 1 _ rfl; have d2 := hb2.cell 2 _ rfl)
                | (go_at_call 25; with_reducible refine (br_enter H2 (lz k 1) (lz k 2)).mono ?_; rintro e w3 ⟨rfl, ⟨Y3, H3⟩, o3⟩; have hb3 := H2.boxr hb2 o3; have f1 := hb3.cell 1 _ rfl; have f2 := hb3.cell 2 _ rfl))
            all_goals
              go_wp2_with fail
              go_meet
              exact ⟨_, Y3, H3, hb3⟩
        · as_aux_lemma =>
            obtain ⟨c0, c1, c2⟩ := hb1.get3 0 rfl
            go_wp2_with fail
            refine (bp_leave H1 (lz k 1)).mono ?_
            rintro e w2 ⟨rfl, H2, o2⟩
            have hb2 := H1.box (hb1.box _ List.mem_cons_self) o2
            have d1 := hb2.cell 1 _ rfl
            have d2 := hb2.cell 2 _ rfl
            go_wp2_with fail
            refine (br_leave H2 (lz k 1)).mono ?_
            rintro e w3 ⟨rfl, ⟨Y3, H3⟩, o3⟩
            have hb3 := H2.boxr hb2 o3
            go_wp2_with fail
            go_meet
            exact ⟨_, Y3, H3, hb3⟩
        · as_aux_lemma =>
            obtain ⟨c0, c1, c2⟩ := hb1.get3 0 rfl
            go_wp2_with fail
            have D1 := H1.drew
            have hd1 := (hb1.box _ List.mem_cons_self).below (Below.refl _ _).drew
            go_region_held3 (fun w' => w'.cell? ⟨wr.heap.size, 1, none⟩ = some (.int .i64 (lz k 1)))
              (first | with_reducible exact c1 | with_reducible exact d1 | with_reducible exact f1 | exact c1)
              (first
                | (go_at_call 20; with_reducible refine (bp_open D1 (lz k 1)).mono ?_; rintro e w2 ⟨rfl, H2, o2⟩; have hb2 := D1.box hd1 o2; have d1 := hb2.cell 1 _ rfl; have d2 := hb2.cell 2 _ rfl)
                | (go_at_call 21; with_reducible refine (br_open H2 (lz k 1)).mono ?_; rintro e w3 ⟨rfl, ⟨Y3, H3⟩, o3⟩; have hb3 := H2.boxr hb2 o3; have f1 := hb3.cell 1 _ rfl; have f2 := hb3.cell 2 _ rfl))
            all_goals
              go_wp2_with fail
              go_meet
              exact ⟨_, Y3, H3, hb3⟩
        · as_aux_lemma =>
            obtain ⟨c0, c1, c2⟩ := hb1.get3 0 rfl
            go_wp2_with fail
            have D1 := H1.drew
            have hd1 := (hb1.box _ List.mem_cons_self).below (Below.refl _ _).drew
            go_region_held3 (fun w' => w'.cell? ⟨wr.heap.size, 1, none⟩ = some (.int .i64 (lz k 1)))
              (first | with_reducible exact c1 | with_reducible exact d1 | with_reducible exact f1 | exact c1)
              (first
                | (go_at_call 22; with_reducible refine (bp_hold D1 (lz k 1)).mono ?_; rintro e w2 ⟨rfl, H2, o2⟩; have hb2 := D1.box hd1 o2; have d1 := hb2.cell 1 _ rfl; have d2 := hb2.cell 2 _ rfl)
                | (go_at_call 23; with_reducible refine (br_hold H2 (lz k 1)).mono ?_; rintro e w3 ⟨rfl, ⟨Y3, H3⟩, o3⟩; have hb3 := H2.boxr hb2 o3; have f1 := hb3.cell 1 _ rfl; have f2 := hb3.cell 2 _ rfl))
            all_goals
              go_wp2_with fail
              go_meet
              exact ⟨_, Y3, H3, hb3⟩
      case rest =>
        obtain ⟨F', Y', H4, hb4⟩ := hcut
        have L4 : Lo w _ [(wr.heap.size, [.int .u8 (lz k 0), .int .i64 (lz k 1), .int .i64 (lz k 2)], 34)] := ⟨H4.below.size, fun x hx => by rw [List.mem_singleton.1 hx]; exact hb4⟩
        obtain ⟨r, hr⟩ : ∃ r, seeC F'.R (lz k 1) = r := ⟨_, rfl⟩
        obtain ⟨xa, xz, xe, hx⟩ : ∃ xa xz xe, seeX F'.R (lz k 1) = (xa, xz, xe) := ⟨_, _, _, rfl⟩
        have HR1 := Lib.hid hr
        have HX1 := Lib.hid hx
        have HLL := Lib.hid H4.iF.lenL
        clear hr hx hb4 hb1 H1 HKD
        obtain ⟨c0, c1, c2⟩ := L4.get3 0 rfl
        go_wp2_with fail
        refine (bo_ctl H4 (lz k 1)).mono ?_
        rintro e w5 ⟨rfl, k5⟩
        rw [HR1.out]
        have H5 := (H4.call k5).alloc (.cells #[.int .i64 r.s, .int .i64 r.c, .int .i64 r.p, .int .i64 r.e] 42)
        have L5 := (L4.call k5).new [.int .i64 r.s, .int .i64 r.c, .int .i64 r.p, .int .i64 r.e] 42
        clear c0 c1 c2 L4 H4 k5
        obtain ⟨c0, c1, c2⟩ := L5.get3 1 rfl
        go_wp2_with fail
        refine (bo_rctl H5 (lz k 1)).mono ?_
        rintro e w6 ⟨rfl, k6⟩
        rw [HR1.out]
        have H6 := (H5.call k6).alloc (.cells #[.int .i64 r.s, .int .i64 r.c, .int .i64 r.p, .int .i64 r.e] 42)
        have L6 := (L5.call k6).new [.int .i64 r.s, .int .i64 r.c, .int .i64 r.p, .int .i64 r.e] 42
        clear c0 c1 c2 L5 H5 k6
        obtain ⟨c0, c1, c2⟩ := L6.get3 2 rfl
        go_wp2_with fail
        refine (bo_ext H6 (lz k 1)).mono ?_
        rintro e w7 ⟨rfl, k7⟩
        rw [HX1.out]
        have H7 := (H6.call k7).alloc (.cells #[.int .i64 xa, .int .i64 xz] 46)
        have L7 := (L6.call k7).new [.int .i64 xa, .int .i64 xz] 46
        clear c0 c1 c2 L6 H6 k7
        obtain ⟨c0, c1, c2⟩ := L7.get3 3 rfl
        go_wp2_with fail
        refine (bo_rext H7 (lz k 1)).mono ?_
        rintro e w8 ⟨rfl, k8⟩
        rw [HX1.out]
        have H8 := (H7.call k8).alloc (.cells #[.int .i64 xa, .int .i64 xz] 46)
        have L8 := (L7.call k8).new [.int .i64 xa, .int .i64 xz] 46
        clear c0 c1 c2 L7 H7 k8
        go_wp2_with fail
        generalize w8.alloc (.cells #[.int .i64 xa, .int .i64 xz] 46) = W8 at *
        have D8 := H8.drew
        have M8 := L8.drew
        have T8 := H8.rs.c2
        go_region_held3 (fun w' => w'.cell? ⟨P.D, 2, none⟩ = some (.pointer (some ⟨P.C, 0, none⟩)))
          (first | with_reducible exact T8 | with_reducible exact T9 | with_reducible exact T10 | with_reducible exact T11 | exact T8)
          (first
            | (go_at_call 31; refine (bo_free D8).mono ?_; rintro e w9 ⟨V, cv, rfl, E9, n9, k9⟩; have H9 := D8.call k9; have M9 := M8.call k9; have T9 := H9.rs.c2)
            | (go_at_call 32; refine (bo_rfree H9).mono ?_; rintro e w10 ⟨V', cv', rfl, E10, n10, k10⟩; have H10 := H9.call k10; have M10 := M9.call k10; have E9' := E9.below k10; have T10 := H10.rs.c2)
            | (go_at_call 30; refine (Gr.same_yes w10 V V' cv cv' _ E9' E10 HLL.out).mono ?_; rintro e w11 ⟨rfl, k11⟩; have H11 := H10.call k11; have M11 := M10.call k11; have T11 := H11.rs.c2))
        all_goals
          obtain ⟨d0, d1, d2, d3⟩ := M11.get4 2 rfl
          obtain ⟨f0, f1, f2, f3⟩ := M11.get4 3 rfl
          obtain ⟨g0, g1⟩ := M11.get2 0 rfl
          obtain ⟨h0, h1⟩ := M11.get2 1 rfl
          go_wp2
          go_roundw
          case rel => exact ⟨k + 1, F', Y', by omega, by omega, by go_num, H11⟩
          case measure => simp [intOf]; omega
    · have hend : ¬ k < ln ∨ (k < ln ∧ ¬ k < 60) := by omega
      clear hlt
      rcases hend with hend | ⟨hend, hend'⟩
      all_goals
        go_wp2
        go_ret
        exact ⟨rfl, BO.below⟩

set_option maxRecDepth 100000 in
theorem lifted (os : Os) (started : os.Started) (H : Type) (enc : TypeId × Value → H) :
    ReturnsInHanded {} Try.checked os 3 .any (Rows.scopesPlaysSpec.pre6 enc Try.prog Try.f3 Rows.scopesPlaysRow.domain false) (Rows.scopesPlaysSpec.post enc Try.prog Try.f3 false true false false) := by
  refine returnsInHanded_of_change (C := Try.checked) Args.own started (by kernel_rfl) Try.func3
    (ChangeSpec.witness6 (enc := enc) (C := Try.checked) false ⟨#[], #[.agg #[.int .i64 0, .int .i64 0, .int .i64 0, .int .i64 0], .slice none 0 0], []⟩ 8 (by kernel_rfl) (by kernel_rfl) (by kernel_rfl) (by kernel_rfl)) ?_
  intro W base args ds gs before hval0 hW hcnd _
  have hval : ∀ (j : Nat) t v, Try.f3.params[j]? = some t → args[j]? = some v → Value.okWide Try.prog W .any base t v := hval0
  have hW' := hW
  obtain ⟨p, q, hA0, hV, rfl, hfz, hnd⟩ := hW
  have hA : DataW.TrodAll enc Try.prog W 0 (fun _ => true) true Try.f3.params.toList args.toList ds p := hA0
  rw [Try.params3] at hA hval
  obtain ⟨v0, vs0, d0, ds0, p0, q0, hargs, rfl, rfl, h0, r0⟩ := trodAll_cons hA
  obtain ⟨v1, vs1, d1, ds1, p1, q1, rfl, rfl, rfl, h1, r1⟩ := trodAll_cons r0
  obtain ⟨rfl, rfl, rfl⟩ := trodAll_nil r1
  obtain rfl : args = #[v0, v1] := by cases args; simp_all
  obtain ⟨rfl, rfl⟩ := trodVars_none hV
  have lt0 := Args.trod_below h0
  obtain ⟨qz, hv0, hq⟩ := Args.rec_in (ks := [.i64, .i64, .i64, .i64]) Try.underlying23 (by kernel_rfl) (by kernel_rfl) (hval 0 23 v0 rfl rfl) h0
  obtain rfl : v0 = .agg #[.int .i64 (qz 0), .int .i64 (qz 1), .int .i64 (qz 2), .int .i64 (qz 3)] := hv0
  have lt1 := Args.trod_below h1
  obtain ⟨lA, ln, lc, lz, rfl, hl⟩ := Args.recs_in (ks := [.u8, .i64, .i64]) (e := 34) (by kernel_rfl) Try.underlying34 (by kernel_rfl) (by kernel_rfl) (by decide) (hval 1 24 v1 rfl rfl) h1
  clear hA0 hval0
  refine (walk (qz 0) (qz 1) (qz 2) (qz 3) lA ln lc lz W (hq 0) (hq 1) (hq 2) (hq 3) hl).mono fun e W' ⟨he, bel⟩ => ?_
  subst he
  exact ⟨_, rfl, _, _, _, [], _, [], hW', trodAll_mk1 (shut_bool Try.underlying4 _), trodAll_cons_mk (Below.trod Args.laidOut (by kernel_rfl) (of_decide_eq_true (by kernel_rfl)) h0 bel lt0) (trodAll_cons_mk (Below.trod Args.laidOut (by kernel_rfl) (of_decide_eq_true (by kernel_rfl)) h1 bel lt1) (trodAll_mk0)), rfl, bel.frame _, fun h => by cases h⟩

theorem over : Rows.scopesPlaysRow.holds Try.pinned (OpenSpec.ofChange Rows.scopesPlaysSpec) :=
  OpenClaim.holds_of_wide 3 Try.f3 rfl rfl rfl rfl rfl rfl rfl ⟨rfl, rfl, rfl, rfl, rfl⟩ rfl rfl rfl rfl rfl (by kernel_rfl) Try.func3 (by kernel_rfl)
    (of_decide_eq_true (by kernel_rfl)) (by unfold Func.isWrapper; rw [if_neg (of_decide_eq_false (by kernel_rfl))]; exact ⟨rfl, rfl⟩)
    (fun os started H enc _ => lifted os started H enc)

theorem proved : Rows.ScopesPlaysSaid :=
  over
end Go.Proofs.Ytkkmhapfhnnooaa.scopesPlays
