/-
  penfoldlaw11.ScopesLeast returns true for every plan and every slice of things done, and changes nothing that was there; no condition.
-/
import Derived.Test.YtkkmhapfhnnooaaRows
import Derived.Test.YtkkmhapfhnnooaaArgs
import Derived.Test.YtkkmhapfhnnooaaScoL
import Derived.Test.YtkkmhapfhnnooaaSt
import Derived.Deep.DeepCutAuto
namespace Go.Proofs.Ytkkmhapfhnnooaa.scopesLeast
open Go.ChangeShapes Go.WideShapes Go.ChangeAt Go.RowKit
set_option linter.unusedVariables false

open Sco Slic Gm Gr

set_option maxRecDepth 100000 in
set_option maxHeartbeats 8000000 in
theorem walk (q0 q1 q2 q3 : Int) (lA : Option Addr) (ln lc : Nat) (lz : Nat → Nat → Int) (w : World) (wq0 : (Lit.int .i64 q0).wf = true) (wq1 : (Lit.int .i64 q1).wf = true) (wq2 : (Lit.int .i64 q2).wf = true) (wq3 : (Lit.int .i64 q3).wf = true) (hl : Args.Recs [.u8, .i64, .i64] w lA ln lz) :
    Calls Try.prog 6 #[.agg #[.int .i64 q0, .int .i64 q1, .int .i64 q2, .int .i64 q3], .slice lA ln lc] w fun e w' => e = .returned (.bool true) ∧ Below w.heap.size w w' := by
  obtain ⟨s, t, i, h, ⟨b1, b2, b3, b4, b5, b6, b7, b8, b9, b10⟩, FT⟩ := Plan.fit_all q0 q1 q2 q3
  obtain ⟨n, rfl⟩ : ∃ n : Nat, s = n := ⟨s.toNat, by omega⟩
  have n1 : 1 ≤ n := by omega
  have n8 : n ≤ 8 := by omega
  have HR : Hid (Plan.rightB (n : Int) t i h = true) := Lib.hid (decide_eq_true (by omega))
  clear wq0 wq1 wq2 wq3
  have hln := hl.len
  unfold maxLen at hln
  have Q0 : Bt w (w.alloc (.cells #[.int .i64 q0, .int .i64 q1, .int .i64 q2, .int .i64 q3] 23)) w.heap.size [.int .i64 q0, .int .i64 q1, .int .i64 q2, .int .i64 q3] 23 := ⟨Nat.le_refl _, heap_alloc_new w _⟩
  go_enter Try.func6, Try.ntmps6
  go_wp2_with fail
  refine (shown_any _).mono ?_
  rintro z w1 ⟨rfl, k1⟩
  have Q1 := Q0.below k1
  have B1 := (below_one w (.cells #[.int .i64 q0, .int .i64 q1, .int .i64 q2, .int .i64 q3] 23)).trans (k1.mono (by simp))
  have c0 := Q1.cell 0 _ rfl
  have c1 := Q1.cell 1 _ rfl
  have c2 := Q1.cell 2 _ rfl
  have c3 := Q1.cell 3 _ rfl
  clear Q0 Q1 k1
  go_wp2_with fail
  refine (FT _).mono ?_
  rintro z w2 ⟨rfl, k2⟩
  have B2 := B1.trans (k2.mono B1.size)
  have P3 : Bt w (w2.alloc (.cells #[.int .i64 (n : Int), .int .i64 t, .int .i64 i, .int .i64 h] 23)) w2.heap.size [.int .i64 (n : Int), .int .i64 t, .int .i64 i, .int .i64 h] 23 := ⟨B2.size, heap_alloc_new w2 _⟩
  clear c0 c1 c2 c3 FT B1 k2
  go_wp2_with fail
  refine (so_new (B2.alloc B2.size _) (n : Int) t i h HR.out [(w2.heap.size, [.int .i64 (n : Int), .int .i64 t, .int .i64 i, .int .i64 h], 23)] (fun x hx => by rw [List.mem_singleton.1 hx]; exact P3)).mono ?_
  rintro z w3 ⟨B, g, rfl, h3, k3, hB, hg⟩
  rw [Int.toNat_natCast] at h3
  obtain ⟨A, hA⟩ : ∃ A : Int, A = 64 * (n : Int) + i := ⟨_, rfl⟩
  obtain ⟨I, hI⟩ : ∃ I : Int, I = 64 * (n : Int) := ⟨_, rfl⟩
  rw [← hA, ← hI] at h3
  generalize hF0 : Sco.start n A h I i = F0 at *
  clear k3 hB hg P3 B2 hA hF0
  have HI := Lib.hid hI
  clear hI
  go_wp2_with fail
  go_loopw [9] (fun u wr => ∃ (k : Nat) (F : Fo), k ≤ ln ∧ k ≤ 60 ∧ u = .int .i64 (k : Int) ∧ So w wr B g n A h I i F [(w2.heap.size, [.int .i64 (n : Int), .int .i64 t, .int .i64 i, .int .i64 h], 23)]) (fun u _ => 60 - (intOf u).toNat)
  case atStart => exact ⟨0, F0, by omega, by omega, rfl, h3⟩
  case round =>
    obtain ⟨k, F, hk1, hk2, rfl, SO⟩ := hrel
    by_cases hlt : k < ln ∧ k < 60
    · obtain ⟨hk3, hk4⟩ := hlt
      obtain ⟨b, o, rfl, hb, hcell⟩ := hl.at_ k hk3
      have ⟨v0, v0'⟩ := Held.bounds_u8 (hl.wf k 0)
      have ⟨v2, v2'⟩ := Held.bounds_i64 (hl.wf k 2)
      have HL := Lib.hid SO.inv.lenL
      obtain ⟨p0, p1, p2, p3⟩ := SO.get4 0 rfl
      go_wp2_with fail
      with_reducible refine (seen_any SO t i h).mono ?_
      rintro z w5 ⟨rfl, k5⟩
      have S5 := SO.call k5
      have hs := allA_size F.R
      have h1 := allA_one F.R
      generalize hCA : allA F.R = CA at *
      have HCA := Lib.hid hCA
      have S6 := S5.whole cs48 CA 63 (by rw [cs48_size, hs])
      clear hCA p0 p1 p2 p3
      go_wp2_with (first
        | (with_reducible refine wpList_a48 (o := ⟨some 10, _, _, _, _, _⟩) rfl rfl ?_)
        | (with_reducible refine wpList_s48 (o := ⟨none, _, _, _, _, _⟩) rfl (.tmp 10) (.tmp 53) rfl w5.heap.size CA cs48 rfl rfl (heap_alloc_new _ _) cs48_size hs h1 ?_))
      have HZ6 : Hid (((w5.alloc (.cells cs48 63)).setRow w5.heap.size CA).heap.size = w5.heap.size + 1) := Lib.hid (by simp [World.setRow])
      generalize (w5.alloc (.cells cs48 63)).setRow w5.heap.size CA = W6 at *
      refine (so_free (S6.alloc _)).mono ?_
      rintro z w7 ⟨V, c, rfl, E7, N7, S7, k7⟩
      have ht : Gr.Tight w7 (.slice (some ⟨W6.heap.size, 0, none⟩) 0 0) [] := .inr ⟨W6.heap.size, rfl, by have := k7.size; simp at this; omega, fun i hi => by simp at hi⟩
      obtain ⟨v1, w8, r1, E8, g8, hat⟩ := Gr.app1 w7 ht E7.sr (by have := HL.out; simp; omega)
      rw [List.nil_append] at E8
      obtain ⟨V1, c1, rfl⟩ := E8.form
      have S8 := S7.call (Gr.below_only g8)
      have e0 : w8.cell? ⟨b, o + k * 3, none⟩ = some (.int .u8 (lz k 0)) := (S8.below.cell hb).trans (hcell 0 (by decide))
      have e1 : w8.cell? ⟨b, o + k * 3 + 1, none⟩ = some (.int .i64 (lz k 1)) := (S8.below.cell hb).trans (hcell 1 (by decide))
      have e2 : w8.cell? ⟨b, o + k * 3 + 2, none⟩ = some (.int .i64 (lz k 2)) := (S8.below.cell hb).trans (hcell 2 (by decide))
      have kB := S6.sc.ltB
      have kg := S6.sc.ltg
      have k7s : W6.heap.size < w7.heap.size := by have := k7.size; simp at this; omega
      have far : ∀ q, (Value.slice V1 F.L.length c1).ownBlock = some q → q ∉ [B, g] := by
        intro q hq
        rcases hat q hq with e | e
        · have e' : W6.heap.size = q := by simpa [Value.ownBlock] using e
          simp; omega
        · simp; omega
      have FAR := Lib.hid far
      clear far hat N7
      go_upto_region 11 with (at_builtin; refine Gr.wpList_run rfl (.tmp 54) (.tmp 56) 50 rfl (.slice (some ⟨W6.heap.size, 0, none⟩) 0 0) (.slice V F.L.length c) (by simp [Act.eval, HZ6.out]) (by simp [Act.eval]) r1 ?_)
      go_wp2_with fail
      refine (doeso_any S8 (lz k 0) (lz k 1) (lz k 2) v2 v2' v0 v0').mono ?_
      rintro z w9 ⟨rfl, S9, O9⟩
      have E9 := E8.keep O9.size (fun q hq => O9.block q (E8.lt hq) (FAR.out q hq))
      have INV := Lib.hid SO.inv
      have hlen := SO.inv.len
      have h8 : F.R.length ≤ 8 := by omega
      have HDO : Hid (lz k 0 % 7 = 0 → doV F (lz k 0) (lz k 1) (lz k 2) = createV F (lz k 2)) := Lib.hid (fun hk => by unfold doV; rw [if_pos hk])
      have HCS : Hid (∀ (j : Nat) (x : Cx), F.R[j]? = some x → CA[j * 4]? = some (.int .i64 x.s) ∧ CA[j * 4 + 3]? = some (.int .i64 x.e)) := Lib.hid (fun j x hx => by have := all_c hx h8; rw [HCA.out] at this; exact ⟨this.1, this.2.2.2⟩)
      have HST := Lib.hid (fun (j : Nat) => fr_step SO.inv (j := j))
      have hf1 := SO.inv.fr_pos
      have hfn : F.R.findIdx fr ≤ n := by have : F.R.findIdx fr ≤ F.R.length := List.findIdx_le_length; omega
      have HCC := Lib.hid (create_cases SO.inv (lz k 2))
      generalize doV F (lz k 0) (lz k 1) (lz k 2) = r at *
      generalize F.R.findIdx fr = fi at *
      have e0 : w9.cell? ⟨b, o + k * 3, none⟩ = some (.int .u8 (lz k 0)) := (S9.below.cell hb).trans (hcell 0 (by decide))
      have e2 : w9.cell? ⟨b, o + k * 3 + 2, none⟩ = some (.int .i64 (lz k 2)) := (S9.below.cell hb).trans (hcell 2 (by decide))
      clear E7 E8 FAR S7 S6 S5 S8 SO g8 ht k7 k5 r1 O9 e1 hlen h8 hcell
      obtain ⟨p0, p1, p2, p3⟩ := S9.get4 1 rfl
      by_cases hk7 : lz k 0 % 7 = 0
      rotate_left
      · have q7 : (lz k 0 % 7 != 0) = true := by simpa using hk7
        clear hk7
        go_wp2
        go_roundw
        case rel => exact ⟨k + 1, _, by omega, by omega, by go_num, S9.drop 1⟩
        case measure => simp [intOf]; omega
      · have q7 : (lz k 0 % 7 != 0) = false := by simpa using hk7
        have HR1 := Lib.hid (HDO.out hk7)
        clear hk7 HDO
        go_wp2_with fail
        go_loop [14] (fun u => ∃ j : Nat, 1 ≤ j ∧ j ≤ fi ∧ u = .int .i64 (j : Int)) (fun u => fi - (intOf u).toNat)
        case atStart => exact ⟨1, by omega, by omega, rfl⟩
        case round =>
          obtain ⟨j, hj1, hj2, rfl⟩ := hrel
          by_cases hj : j < fi
          · have hjn : j < n := by omega
            obtain ⟨x, hx, hc⟩ := HST.out j (by omega) hjn
            have hs : x.s ≠ 0 := by
              rcases hc with ⟨_, e⟩ | ⟨e, _⟩
              · omega
              · exact e
            have qs : (x.s != 0) = true := by simpa using hs
            have cs : w9.cell? ⟨w5.heap.size, j * 4, none⟩ = some (.int .i64 x.s) := (S9.at 0 rfl).cell (j * 4) _ (by rw [Array.getElem?_toList]; exact (HCS.out j x hx).1)
            clear hc hs hx
            go_wp2
            go_round
            case rel => exact ⟨j + 1, by omega, by omega, by go_num⟩
            case measure => simp [intOf]; omega
          · obtain rfl : j = fi := by omega
            clear hj hj2 hj1
            go_upto_region 14 with (fail)
            go_cut [85] (fun s85 wx => s85 = .bool false ∧ w9 = wx)
            case first =>
              by_cases hjn : j < n
              · obtain ⟨x, hx, hc⟩ := HST.out j (Nat.le_refl _) hjn
                have hs : x.s = 0 := by
                  rcases hc with ⟨e, _⟩ | ⟨_, e⟩
                  · exact e
                  · omega
                have cs : w9.cell? ⟨w5.heap.size, j * 4, none⟩ = some (.int .i64 0) := (S9.at 0 rfl).cell (j * 4) _ (by rw [Array.getElem?_toList, (HCS.out j x hx).1, hs])
                clear hc hs hx
                go_wp2_with fail
                go_meet
                exact ⟨rfl, rfl⟩
              · go_wp2_with fail
                go_meet
                exact ⟨rfl, rfl⟩
            case rest =>
              obtain ⟨rfl, rfl⟩ := hcut
              obtain ⟨sa, sb, sc, m1, m2, m3, m4, U1, U2⟩ := up_sizes (lz k 2) v2 v2'
              have U1 := Lib.hid U1
              have U2 := Lib.hid U2
              go_upto_if 102 with (fail)
              go_cut [15] (fun s15 wx => ∃ z, s15 = .int .i64 z ∧ Hid (1 ≤ lz k 2 ∧ lz k 2 ≤ 8192 → z = upz (lz k 2)) ∧ w9 = wx)
              case first =>
                by_cases hm : lz k 2 % 8 = 0
                · have qm : (lz k 2 % 8 == 0) = true := by simpa using hm
                  have U := Lib.hid (fun h => U2.out h hm)
                  clear hm
                  go_wp2_with fail
                  go_meet
                  exact ⟨_, rfl, U, rfl⟩
                · have qm : (lz k 2 % 8 == 0) = false := by simpa using hm
                  have U := Lib.hid (fun h => U1.out h hm)
                  clear hm
                  go_wp2_with fail
                  go_meet
                  exact ⟨_, rfl, U, rfl⟩
              case rest =>
                obtain ⟨z, rfl, HZ, rfl⟩ := hcut
                clear m1 m2 m3 m4 U1 U2
                go_wp2_with fail
                go_loop [16, 17] (fun u t => ∃ y : Nat, y ≤ F.L.length ∧ t = .int .i64 (y : Int) ∧ u = .bool (roomB z F.L y)) (fun _ t => F.L.length - (intOf t).toNat)
                case atStart => exact ⟨0, by omega, rfl, rfl⟩
                case round =>
                  obtain ⟨y, hy, rfl, rfl⟩ := hrel
                  by_cases hlt : y < F.L.length
                  · obtain ⟨q, rfl, ql, x0, x1⟩ := E9.cell hlt
                    have hnx := Lib.hid (room_next z hlt)
                    have hLl := HL.out
                    generalize roomB z F.L y = ry at *
                    cases ry with
                    | true =>
                      go_wp2_with fail
                      go_round
                      case rel => exact ⟨y + 1, by omega, by go_num, by rw [hnx.out]; rfl⟩
                      case measure => simp [intOf]; omega
                    | false =>
                      go_wp2_with fail
                      go_round
                      case rel => exact ⟨y + 1, by omega, by go_num, by rw [hnx.out]; rfl⟩
                      case measure => simp [intOf]; omega
                  · obtain rfl : y = F.L.length := by omega
                    have hfit := Lib.hid (room_all z F.L)
                    generalize roomB z F.L F.L.length = rb at *
                    clear hlt hy
                    rcases HCC.out with ⟨hz, hcr⟩ | ⟨z1, z2, hfi, hcr⟩ | ⟨z1, z2, hfi, hfits, hcr⟩ | ⟨ep, ea, G, yx, z1, z2, hfi, hfits, hcr, hG, hyx, hep⟩
                    · have hr := HR1.out.trans hcr
                      subst hr
                      clear HCC hcr HR1
                      have hz' : (lz k 2 < 1) ∨ (¬ lz k 2 < 1 ∧ 8192 < lz k 2) := by omega
                      clear hz
                      rcases hz' with hz | ⟨hz, hz'⟩
                      all_goals
                        go_wp2
                        go_roundw
                        case rel => exact ⟨k + 1, _, by omega, by omega, by go_num, S9.drop 1⟩
                        case measure => simp [intOf]; omega
                    · have hr := HR1.out.trans hcr
                      subst hr
                      clear HCC hcr HR1
                      subst hfi
                      go_wp2
                      go_roundw
                      case rel => exact ⟨k + 1, _, by omega, by omega, by go_num, S9.drop 1⟩
                      case measure => simp [intOf]; omega
                    · have hr := HR1.out.trans hcr
                      subst hr
                      clear HCC hcr HR1
                      have hrb : rb = false := by rw [hfit.out, HZ.out ⟨z1, z2⟩]; exact hfits
                      subst hrb
                      clear hfits hfit
                      have qn : ((j : Int) == (n : Int)) = false := by simp; omega
                      go_wp2
                      go_roundw
                      case rel => exact ⟨k + 1, _, by omega, by omega, by go_num, S9.drop 1⟩
                      case measure => simp [intOf]; omega
                    · have hr := HR1.out.trans hcr
                      subst hr
                      clear HCC hcr HR1
                      have hrb : rb = true := by rw [hfit.out, HZ.out ⟨z1, z2⟩]; exact hfits
                      subst hrb
                      have hz := HZ.out ⟨z1, z2⟩
                      rw [← hz] at hG
                      have HG1 := Lib.hid (see_in hG)
                      have c3 : CA[j * 4 + 3]? = some (.int .i64 ep) := by rw [(HCS.out j yx hyx).2, hep]
                      clear hfits hfit hz hG hep hyx
                      have qn : ((j : Int) == (n : Int)) = false := by simp; omega
                      go_wp2_with fail
                      refine (so_ctl S9 (j : Int)).mono ?_
                      rintro e w10 ⟨rfl, S10⟩
                      rw [HG1.out.1]
                      have S11 := S10.new [.int .i64 1, .int .i64 0, .int .i64 (-1), .int .i64 ep] 42
                      go_wp2_with fail
                      refine (so_ext S11 (j : Int)).mono ?_
                      rintro e w12 ⟨rfl, S12⟩
                      rw [HG1.out.2]
                      have S13 := S12.new [.int .i64 ea, .int .i64 z] 46
                      have k3 := (S13.at 2 rfl).cell (j * 4 + 3) _ (by rw [Array.getElem?_toList]; exact c3)
                      obtain ⟨d0, d1, d2, d3⟩ := S13.get4 1 rfl
                      obtain ⟨d4, d5⟩ := S13.get2 0 rfl
                      clear c3 S9 S10 S11 S12 p0 p1 p2 p3 e0 e2 E9
                      go_wp2_with fail
                      go_region
                      all_goals
                        go_wp2
                        go_roundw
                        case rel => exact ⟨k + 1, _, by omega, by omega, by go_num, S13.drew.drop 3⟩
                        case measure => simp [intOf]; omega
    · have hend : ¬ k < ln ∨ (k < ln ∧ ¬ k < 60) := by omega
      clear hlt
      rcases hend with hend | ⟨hend, hend'⟩
      all_goals
        go_wp2
        go_ret
        exact ⟨rfl, SO.below⟩

set_option maxRecDepth 100000 in
theorem lifted (os : Os) (started : os.Started) (H : Type) (enc : TypeId × Value → H) :
    ReturnsInHanded {} Try.checked os 6 .any (Rows.scopesLeastSpec.pre6 enc Try.prog Try.f6 Rows.scopesLeastRow.domain false) (Rows.scopesLeastSpec.post enc Try.prog Try.f6 false true false false) := by
  refine returnsInHanded_of_change (C := Try.checked) Args.own started (by kernel_rfl) Try.func6
    (ChangeSpec.witness6 (enc := enc) (C := Try.checked) false ⟨#[], #[.agg #[.int .i64 0, .int .i64 0, .int .i64 0, .int .i64 0], .slice none 0 0], []⟩ 8 (by kernel_rfl) (by kernel_rfl) (by kernel_rfl) (by kernel_rfl)) ?_
  intro W base args ds gs before hval0 hW hcnd _
  have hval : ∀ (j : Nat) t v, Try.f6.params[j]? = some t → args[j]? = some v → Value.okWide Try.prog W .any base t v := hval0
  have hW' := hW
  obtain ⟨p, q, hA0, hV, rfl, hfz, hnd⟩ := hW
  have hA : DataW.TrodAll enc Try.prog W 0 (fun _ => true) true Try.f6.params.toList args.toList ds p := hA0
  rw [Try.params6] at hA hval
  obtain ⟨v0, vs0, d0, ds0, p0, q0, hargs, rfl, rfl, h0, r0⟩ := trodAll_cons hA
  obtain ⟨v1, vs1, d1, ds1, p1, q1, rfl, rfl, rfl, h1, r1⟩ := trodAll_cons r0
  obtain ⟨rfl, rfl, rfl⟩ := trodAll_nil r1
  obtain rfl : args = #[v0, v1] := by cases args; simp_all
  obtain ⟨rfl, rfl⟩ := trodVars_none hV
  have lt0 := Args.trod_below h0
  obtain ⟨qz, hv0, hq⟩ := Args.rec_in (ks := [.i64, .i64, .i64, .i64]) Try.underlying23 (by kernel_rfl) (by kernel_rfl) (hval 0 23 v0 rfl rfl) h0
  obtain rfl : v0 = .agg #[.int .i64 (qz 0), .int .i64 (qz 1), .int .i64 (qz 2), .int .i64 (qz 3)] := hv0
  have lt1 := Args.trod_below h1
  obtain ⟨lA, ln, lc, lz, rfl, hl⟩ := Args.recs_in (ks := [.u8, .i64, .i64]) (e := 34) (by kernel_rfl) Try.underlying34 (by kernel_rfl) (by kernel_rfl) (by decide) (hval 1 24 v1 rfl rfl) h1
  clear hA0 hval0
  refine (walk (qz 0) (qz 1) (qz 2) (qz 3) lA ln lc lz W (hq 0) (hq 1) (hq 2) (hq 3) hl).mono fun e W' ⟨he, bel⟩ => ?_
  subst he
  exact ⟨_, rfl, _, _, _, [], _, [], hW', trodAll_mk1 (shut_bool Try.underlying4 _), trodAll_cons_mk (Below.trod Args.laidOut (by kernel_rfl) (of_decide_eq_true (by kernel_rfl)) h0 bel lt0) (trodAll_cons_mk (Below.trod Args.laidOut (by kernel_rfl) (of_decide_eq_true (by kernel_rfl)) h1 bel lt1) (trodAll_mk0)), rfl, bel.frame _, fun h => by cases h⟩

theorem over : Rows.scopesLeastRow.holds Try.pinned (OpenSpec.ofChange Rows.scopesLeastSpec) :=
  OpenClaim.holds_of_wide 6 Try.f6 rfl rfl rfl rfl rfl rfl rfl ⟨rfl, rfl, rfl, rfl, rfl⟩ rfl rfl rfl rfl rfl (by kernel_rfl) Try.func6 (by kernel_rfl)
    (of_decide_eq_true (by kernel_rfl)) (by unfold Func.isWrapper; rw [if_neg (of_decide_eq_false (by kernel_rfl))]; exact ⟨rfl, rfl⟩)
    (fun os started H enc _ => lifted os started H enc)

theorem proved : Rows.ScopesLeastSaid :=
  over
end Go.Proofs.Ytkkmhapfhnnooaa.scopesLeast
