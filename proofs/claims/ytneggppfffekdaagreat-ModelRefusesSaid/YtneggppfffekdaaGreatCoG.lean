/-
  Contract of package model: alloc.
-/
import Derived.Test.YtneggppfffekdaaGreatCoF
namespace Go.Proofs.YtneggppfffekdaaGreat.Mod
open Go.ChangeShapes Go.WideShapes Go.ChangeAt Go.RowKit
open Slic Sco
set_option linter.unusedVariables false
set_option linter.unusedSimpArgs false
set_option maxRecDepth 8000
attribute [local go_sem ↓] Go.wp_at_zero Go.wp_at_succ
section
variable {w0 w w' : World} {Z : Fx} {m : Mo} {bx : Bx} {k : Nat}
set_option maxHeartbeats 2000000 in
theorem alloc_any (h : Mw w0 w Z m bx) (v : Iv Z k m) {t : Nat} (ht : t < Z.nt) (c : Ca) (p0 : 0 ≤ c.r) (p4 : c.r < 4) (hk : k ≤ 100000) : Calls Tryz.prog 101 #[doV Z t c] w (Did w0 Z bx (allocV m t c)) := by
  obtain ⟨op, r, hh, vv, a, b, cc⟩ := c
  have b0 := (show Ca.r ⟨op, r, hh, vv, a, b, cc⟩ = r from rfl)
  obtain ⟨H, h⟩ := h
  have h1 := h.new (doA Z t ⟨op, r, hh, vv, a, b, cc⟩) doT
  have h2 := h1.new #[.int .i64 0, .int .i64 0, nil0] anT
  obtain ⟨d0, d1, d2, d3, d4, d5, d6, d7, d8⟩ := do_cells h2.mw 1 rfl
  by_cases he : Heads.mayB a b = true
  · obtain ⟨a0, a6, b1, b2⟩ := of_decide_eq_true he
    obtain ⟨n, rfl⟩ := Int.eq_ofNat_of_zero_le a0
    have mk : ∀ W : World, (Instr.makeSlice 48 (.int .i64 (n : Int)) (.int .i64 (n : Int))).run Tryz.prog W = .ok (.slice (some ⟨W.heap.size, 0, none⟩) n n) (W.alloc (.cells (madeCells #[.int .u64 0] n) 50)) := by
      obtain ⟨i0, hi, hz0, hz1, hz2⟩ := info_parts Fina.kU.info
      exact run_make_row 48 50 i0 (.int .u64 0) Fina.kU.under hi hz0 hz1 rfl .i64 .i64 n (by rw [hz2]; show 8 * n ≤ _; omega) (by omega)
    have WE := Lib.hid (show Heads.wordsV (n : Int) b = ⟨2 + (n : Int) + (b + 7) / 8, 0⟩ from if_pos he)
    obtain ⟨wn, hwn⟩ : ∃ wn, wn = 2 + (n : Int) + (b + 7) / 8 := ⟨_, rfl⟩
    have wn0 : 2 ≤ wn ∧ wn ≤ 100 := by omega
    rw [← hwn] at WE
    have HWN := Lib.hid hwn
    clear hwn
    cases hc : Ctl.withinB cc 0 7 with
    | true =>
      have hc' : 0 ≤ cc ∧ cc ≤ 7 := of_decide_eq_true hc
      obtain ⟨x, ar, s0, sn, hx, ha, hst⟩ := v.area ht
      obtain ⟨l1, l2, l3, l4, l5, l6, l7, l8⟩ := v.live hx hst
      obtain ⟨g1, u1, u2, u3, u4⟩ := v.are _ x ar hx ha
      have ea : m.ar (Chain.areaV (m.ents t)) = ar := ar_of ha
      have wm : IntKind.i64.wrap (wn * 8) = wn * 8 := IntWalk.i64_in _ (by omega)
      obtain ⟨s, hsd⟩ : ∃ s, s = Chain.areaV (m.ents t) := ⟨_, rfl⟩
      have SE := Lib.hid hsd.symm
      rw [← hsd] at s0 sn hx ha ea l8
      clear hsd
      by_cases hr : roomX m s (wn * 8) = 0
      · have HX := Lib.hid hr
        have hr' : ¬ (ar.u + wn * 8 > x.z) := by
          intro c
          unfold roomX at hr
          rw [seeX_of s0 hx, ea, if_pos c] at hr
          exact absurd hr (by decide)
        have HR := Lib.hid (show roomR m s (wn * 8) = (s, x.e, x.a + ar.u) by unfold roomR roomA; rw [if_pos hr, seeC_of s0 hx, seeX_of s0 hx, ea])
        have RB : Refs.rightB s x.e (x.a + ar.u) = true := decide_eq_true (by omega)
        obtain ⟨hd, hhd⟩ : ∃ hd, hd = Refs.handle s x.e (x.a + ar.u) := ⟨_, rfl⟩
        have PN := Lib.hid (show (Refs.packV s x.e (x.a + ar.u)).n = hd by rw [Refs.pack_yes RB, hhd])
        have PE := Lib.hid (show (Refs.packV s x.e (x.a + ar.u)).err = 0 by rw [Refs.pack_yes RB])
        have HD := Lib.hid hhd
        have HV := Lib.hid (show allocV m t ⟨op, r, hh, vv, (n : Int), b, cc⟩ = give (putOb m ⟨s, x.e, x.a + ar.u, List.replicate n 0, cc, false⟩ (wn * 8)) t r hd by
          unfold allocV
          rw [if_neg (by show ¬ ((Heads.wordsV (n : Int) b).err ≠ 0 ∨ ¬ (0 ≤ cc ∧ cc ≤ 7)); rw [WE.out]; simp; exact hc'), SE.out]
          show (if roomX m s ((Heads.wordsV (n : Int) b).n * 8) ≠ 0 then _ else give (putOb m (newOb m s ⟨op, r, hh, vv, (n : Int), b, cc⟩) ((Heads.wordsV (n : Int) b).n * 8)) t r (newOb m s ⟨op, r, hh, vv, (n : Int), b, cc⟩).h) = _
          rw [WE.out, if_neg (by show ¬ (roomX m s (wn * 8) ≠ 0); rw [hr]; simp)]
          have en : newOb m s ⟨op, r, hh, vv, (n : Int), b, cc⟩ = ⟨s, x.e, x.a + ar.u, List.replicate n 0, cc, false⟩ := by
            unfold newOb roomA
            rw [seeC_of s0 hx, seeX_of s0 hx, ea]
            rfl
          rw [en, show Ob.h ⟨s, x.e, x.a + ar.u, List.replicate n 0, cc, false⟩ = hd from hhd.symm])
        have HNE : Hid (∀ o ∈ m.O, o.h ≠ hd) := Lib.hid fun o ho e => by
          obtain ⟨o0, x', a', q1, q2, q3, q4, q5, q6, _⟩ := v.obj o ho
          have e1 := v.rt.un ho
          rw [e, hhd, un_handle RB] at e1
          injection e1 with c1 c2 c3
          rw [← c1, hx] at q1
          rw [← c1, ha] at q2
          injection q1 with q1
          injection q2 with q2
          subst q1 q2
          omega
        have HWF : Hid (wf64 hd) := Lib.hid (by
          rw [hhd]
          obtain ⟨c1, c2, c3, c4, c5, c6, c7⟩ := Refs.rbounds RB
          unfold wf64 Refs.handle
          omega)
        clear hr hhd
        go_enter Tryz.func101, Tryz.ntmps101
        go_wp2_with (go_at_call 127; refine (Heads.words_any _ b _).mono ?_; rintro e wq ⟨rfl, rfl⟩; rw [WE.out])
        refine (Ctl.within_any _ _ _ _).mono ?_
        rintro e wq ⟨rfl, rfl⟩
        rw [hc]
        obtain ⟨x3, ⟨_, _, _, _, r3⟩, f3, O3, _⟩ := h2.mw.thr ht
        go_wp2_with (go_at_call 123; refine (Chain.area_any _ (sl3 x3) (m.ents t) O3.sr).mono ?_; rintro e wq ⟨rfl, rfl⟩; rw [SE.out])
        refine (room_any h2.mw v.n8 s (wn * 8) s0 sn hx (by rw [ea]; exact u1) (by rw [ea]; omega) (by omega) (by omega) (by omega) (by omega)).mono ?_
        rintro e w3 ⟨rfl, k3⟩
        have h3 := h2.call k3
        rw [HR.out, HX.out]
        have n3 := h3.new #[.int .i64 s, .int .i64 x.e, .int .i64 (x.a + ar.u)] 95
        obtain ⟨rc, _⟩ := n3.mw.cell 0 rfl
        have rc0 := rc 0 _ rfl
        have rc1 := rc 1 _ rfl
        have rc2 := rc 2 _ rfl
        clear rc
        go_wp2_with fail
        refine (Refs.pack_any s x.e (x.a + ar.u) _).mono ?_
        rintro e w4 ⟨rfl, k4⟩
        rw [PN.out, PE.out]
        have h4 := n3.call k4
        obtain ⟨d0, d1, d2, d3, d4, d5, d6, d7, d8⟩ := do_cells h4.mw 2 rfl
        obtain ⟨rc, _⟩ := h4.mw.cell 0 rfl
        have rc0 := rc 0 _ rfl
        have rc1 := rc 1 _ rfl
        have rc2 := rc 2 _ rfl
        clear rc
        obtain ⟨_, _, mc6, mc7⟩ := h4.mw.cells
        obtain ⟨W2, hW2⟩ : ∃ W2, W2 = ((w4.alloc (.cells (madeCells #[.int .u64 0] n) 50)).alloc (.cells #[.int .i64 s, .int .i64 x.e, .int .i64 (x.a + ar.u), .slice (some ⟨w4.heap.size, 0, none⟩) n n, .int .i64 cc, .bool false] 142)).drew := ⟨_, rfl⟩
        have kW : Below w4.heap.size w4 W2 := by
          subst hW2
          exact (((Below.refl _ _).alloc (Nat.le_refl _) _).alloc (by simp) _).drew
        have hO2 : W2.heap[w4.heap.size + 1]? = some (.cells (obV ⟨s, x.e, x.a + ar.u, List.replicate n 0, cc, false⟩ (some ⟨w4.heap.size, 0, none⟩, n, n)).toArray 142 (0, 0)) := by
          subst hW2
          have := heap_alloc_new (w4.alloc (.cells (madeCells #[.int .u64 0] n) 50)) (.cells #[.int .i64 s, .int .i64 x.e, .int .i64 (x.a + ar.u), .slice (some ⟨w4.heap.size, 0, none⟩) n n, .int .i64 cc, .bool false] 142)
          rw [World.size_alloc] at this
          exact this
        have hS2 : Own Fina.kU W2 0 (sl3 (some ⟨w4.heap.size, 0, none⟩, n, n)) (List.replicate n 0) := by
          subst hW2
          exact (made_own w4 n (by omega)).below ((below_one _ _).drew)
        obtain ⟨w5, hr5, mp5, gr5⟩ := ((h4.call kW).map).put (k := hd) (by have := v.cnt; omega) HWF.out (blk_none _ _ _ HNE.out) (w4.heap.size + 1)
        have hr5' : (Instr.mapUpdate 116 (.map (some Z.bm)) (.int .u64 hd) (.pointer (some ⟨w4.heap.size + 1, 0, none⟩))).run Tryz.prog ((w4.alloc (.cells (madeCells #[.int .u64 0] n) 50)).alloc (.cells #[.int .i64 s, .int .i64 x.e, .int .i64 (x.a + ar.u), .slice (some ⟨w4.heap.size, 0, none⟩) n n, .int .i64 cc, .bool false] 142)).drew = .ok () w5 := by
          rw [← hW2]
          exact hr5
        clear hr5 hW2
        have h5 := ((h4.newob kW ⟨s, x.e, x.a + ar.u, List.replicate n 0, cc, false⟩ (w4.heap.size + 1) (some ⟨w4.heap.size, 0, none⟩, n, n) (by omega) hO2 hS2 (fun q e => by have e' : some w4.heap.size = some q := e; injection e' with e'; omega)).mapped gr5 mp5)
        clear hO2 hS2 gr5 mp5 kW
        have T5 : w5.cell? ⟨w.heap.size, 0, none⟩ = some (.pointer (some ⟨Z.B, 0, none⟩)) ∧ w5.cell? ⟨w.heap.size, 6, none⟩ = some (.int .i64 (n : Int)) ∧ w5.cell? ⟨w.heap.size, 8, none⟩ = some (.int .i64 cc) ∧ w5.cell? ⟨w3.heap.size, 0, none⟩ = some (.int .i64 s) ∧ w5.cell? ⟨w3.heap.size, 1, none⟩ = some (.int .i64 x.e) ∧ w5.cell? ⟨w3.heap.size, 2, none⟩ = some (.int .i64 (x.a + ar.u)) ∧ w5.cell? ⟨Z.B, 7, none⟩ = some (.map (some Z.bm)) :=
          ⟨(h5.dcells 2 rfl).1, (h5.dcells 2 rfl).2.2.2.2.2.2.1, (h5.dcells 2 rfl).2.2.2.2.2.2.2.2, cell_of (h5.at 0 rfl) 0 _ rfl, cell_of (h5.at 0 rfl) 1 _ rfl, cell_of (h5.at 0 rfl) 2 _ rfl, h5.md.cells.2.2.2⟩
        go_wp2_with fail
        go_region_held3 (fun w' => w'.cell? ⟨w.heap.size, 0, none⟩ = some (.pointer (some ⟨Z.B, 0, none⟩)) ∧ w'.cell? ⟨w.heap.size, 6, none⟩ = some (.int .i64 (n : Int)) ∧ w'.cell? ⟨w.heap.size, 8, none⟩ = some (.int .i64 cc) ∧ w'.cell? ⟨w3.heap.size, 0, none⟩ = some (.int .i64 s) ∧ w'.cell? ⟨w3.heap.size, 1, none⟩ = some (.int .i64 x.e) ∧ w'.cell? ⟨w3.heap.size, 2, none⟩ = some (.int .i64 (x.a + ar.u)) ∧ w'.cell? ⟨Z.B, 7, none⟩ = some (.map (some Z.bm)))
          (first | exact ⟨d0, d6, d8, rc0, rc1, rc2, mc7⟩ | exact T5 | go_keep) (fail)
        obtain ⟨y, hy, ac0, ac1, ac2, af, oy⟩ := h5.acells (s := s.toNat) (a := ar) ha
        obtain ⟨_, _, mc6, _⟩ := h5.md.cells
        have wu : IntKind.i64.wrap (ar.u + wn * 8) = ar.u + wn * 8 := IntWalk.i64_in _ (by omega)
        have af1 := af (s.toNat * 3 + 1)
        have af2 := af (s.toNat * 3 + 2)
        have h6 := h5.are s.toNat (show _ from ha) 1 (by decide) ⟨ar.g, ar.u + wn * 8⟩ (.int .i64 (ar.u + wn * 8)) (fun _ => rfl)
        have sz6 : (w5.setCell ⟨Z.ba, s.toNat * 3 + 1, none⟩ (.int .i64 (ar.u + wn * 8))).heap.size = w5.heap.size := by simp [World.setCell]
        have S6 := (Own.lit (K := Fina.kU) (w5.setCell ⟨Z.ba, s.toNat * 3 + 1, none⟩ (.int .i64 (ar.u + wn * 8))) 0 (Nat.zero_le _) [hd] #[.int .u64 hd] rfl (by show 1 ≤ maxLen; decide) 1 rfl).sr
        rw [sz6] at S6
        have hl6 : (hs s.toNat m.O).length ≤ 100000 := by
          have := v.cnt
          have := List.length_filter_le (fun o : Ob => decide (o.s = ((s.toNat : Nat) : Int))) m.O
          unfold hs
          rw [List.length_map]
          omega
        have h6' := h6.alloc (.cells #[.int .u64 hd] 50)
        have oy6 : Own Fina.kU _ 0 (sl3 y) (hs s.toNat m.O) := h6'.md.hnd s.toNat y hy
        clear sz6
        obtain ⟨y', hy', _, _, q2, qf, _⟩ := h6'.acells (s := s.toNat) (a := ⟨ar.g, ar.u + wn * 8⟩) (set_at ha)
        obtain rfl : y = y' := Option.some.inj (hy.symm.trans hy')
        go_wp2_with (
          refine wpList_app3 (K := Fina.kU) (v := sl3 y) (y := .slice (some ⟨w5.heap.size, 0, none⟩) 1 1) rfl (.tmp 94) (.tmp 96) rfl rfl rfl rfl oy6 S6 (by show (hs s.toNat m.O).length + 1 ≤ _; omega) (Nat.zero_le _) ?_
          intro v7 w7 O7 g7 r7
          obtain ⟨x7, rfl⟩ := own_tri O7
          have c7 := (h6'.ba_only hy g7 (s.toNat * 3 + 2)).1.trans q2
          have f7 := (h6'.ba_only hy g7 (s.toNat * 3 + 2)).2.trans (qf _)
          have h7 := h6'.hand s.toNat (a := ⟨ar.g, ar.u + wn * 8⟩) (set_at ha) hy g7 O7 r7
          obtain ⟨d0, d1, d2, d3, d4, d5, d6, d7, d8⟩ := h7.dcells 2 rfl)
        have eg := gs_put (o := ⟨s, x.e, x.a + ar.u, List.replicate n 0, cc, false⟩) s0 (wn * 8) H.om (w4.heap.size + 1, (some ⟨w4.heap.size, 0, none⟩, n, n)) h.oml (fun q hq e => HNE.out q hq (e.trans HD.out.symm))
        rw [show Ob.h ⟨s, x.e, x.a + ar.u, List.replicate n 0, cc, false⟩ = hd from HD.out.symm, ea] at eg
        have hm7 := (show ∀ W bq, Mh w0 W Z ⟨H.tm, H.am.set s.toNat x7, H.om ++ [(w4.heap.size + 1, (some ⟨w4.heap.size, 0, none⟩, n, n))]⟩ ⟨m.F, m.A.set s.toNat ⟨ar.g, ar.u + wn * 8⟩, m.T, m.O ++ [⟨s, x.e, x.a + ar.u, List.replicate n 0, cc, false⟩], fun y => if y = hd then some (w4.heap.size + 1) else blk m.O H.om y, fun i => if i = s.toNat then hs s.toNat m.O ++ [hd] else hs i m.O, m.O.length + 1⟩ bq → Mw w0 W Z (putOb m ⟨s, x.e, x.a + ar.u, List.replicate n 0, cc, false⟩ (wn * 8)) bq from fun W bq q => ⟨⟨H.tm, H.am.set s.toNat x7, H.om ++ [(w4.heap.size + 1, (some ⟨w4.heap.size, 0, none⟩, n, n))]⟩, by
          show Mh w0 W Z _ ((putOb m ⟨s, x.e, x.a + ar.u, List.replicate n 0, cc, false⟩ (wn * 8)).gs (H.om ++ [(w4.heap.size + 1, (some ⟨w4.heap.size, 0, none⟩, n, n))])) bq
          rw [eg]
          exact q⟩) _ _ h7
        refine (give_any hm7 ht ⟨op, r, hh, vv, (n : Int), b, cc⟩ p0 p4 hd).mono ?_
        rintro e w8 ⟨v8, rfl, sd, h8⟩
        obtain ⟨A8, n8, rfl, _, _⟩ := sd.form
        simp only [World.size_alloc] at h8
        obtain ⟨k0, k1, k2, f0, f1, f2⟩ := ans_cells h8 1 rfl
        go_wp2
        refine bodyPost_ret (v := anV 0 (IntKind.i64.wrap hd) (.slice A8 0 n8)) (by simp [results, Tryz.results101, go_sem, k0, k1, k2]; first | done | exact ⟨rfl, rfl, rfl⟩ | rfl) rfl ?_
        rw [HV.out]
        exact ⟨_, rfl, sr_empty sd, (((h8.put 1 rfl rfl 0 _).put 1 rfl rfl 1 _).put 1 rfl rfl 2 _).drop 3⟩
      · have HV := Lib.hid (show allocV m t ⟨op, r, hh, vv, (n : Int), b, cc⟩ = (no (roomX m s (wn * 8)), m) by unfold allocV; rw [if_neg (by show ¬ ((Heads.wordsV (n : Int) b).err ≠ 0 ∨ ¬ (0 ≤ cc ∧ cc ≤ 7)); rw [WE.out]; simp; exact hc'), SE.out]; show (if roomX m s ((Heads.wordsV (n : Int) b).n * 8) ≠ 0 then _ else _) = _; rw [WE.out]; exact if_pos hr)
        have z : (roomX m s (wn * 8) != 0) = true := bne_iff_ne.2 hr
        go_enter Tryz.func101, Tryz.ntmps101
        go_wp2_with (go_at_call 127; refine (Heads.words_any _ b _).mono ?_; rintro e wq ⟨rfl, rfl⟩; rw [WE.out])
        refine (Ctl.within_any _ _ _ _).mono ?_
        rintro e wq ⟨rfl, rfl⟩
        rw [hc]
        obtain ⟨x3, ⟨_, _, _, _, r3⟩, f3, O3, _⟩ := h2.mw.thr ht
        go_wp2_with (go_at_call 123; refine (Chain.area_any _ (sl3 x3) (m.ents t) O3.sr).mono ?_; rintro e wq ⟨rfl, rfl⟩; rw [SE.out])
        refine (room_any h2.mw v.n8 s (wn * 8) s0 sn hx (by rw [ea]; exact u1) (by rw [ea]; omega) (by omega) (by omega) (by omega) (by omega)).mono ?_
        rintro e w3 ⟨rfl, k3⟩
        have h3 := h2.call k3
        have n3 := h3.new #[.int .i64 (roomR m s (wn * 8)).1, .int .i64 (roomR m s (wn * 8)).2.1, .int .i64 (roomR m s (wn * 8)).2.2] 95
        go_wp2_with fail
        refine (refused_any _ (roomX m s (wn * 8))).mono ?_
        rintro e wz ⟨rfl, kz⟩
        have hz := n3.mw.call kz
        simp only [World.size_alloc] at hz
        obtain ⟨k0, k1, k2, f0, f1, f2⟩ := ans_cells hz 1 rfl
        go_wp2
        refine bodyPost_ret (v := anV (roomX m s (wn * 8)) 0 nil0) (by simp [results, Tryz.results101, go_sem, k0, k1, k2]) rfl ?_
        rw [HV.out]
        exact Did.plain rfl ((((hz.put 1 rfl rfl 0 _).put 1 rfl rfl 1 _).put 1 rfl rfl 2 _).drop 3)
    | false =>
      have hc' : ¬ (0 ≤ cc ∧ cc ≤ 7) := of_decide_eq_false hc
      have HV := Lib.hid (show allocV m t ⟨op, r, hh, vv, (n : Int), b, cc⟩ = (no 1, m) from if_pos (.inr hc'))
      go_enter Tryz.func101, Tryz.ntmps101
      go_wp2_with (go_at_call 127; refine (Heads.words_any _ b _).mono ?_; rintro e wq ⟨rfl, rfl⟩; rw [WE.out])
      refine (Ctl.within_any _ _ _ _).mono ?_
      rintro e wq ⟨rfl, rfl⟩
      rw [hc]
      go_wp2_with fail
      refine (refused_any _ 1).mono ?_
      rintro e wz ⟨rfl, kz⟩
      have hz := h2.mw.call kz
      simp only [World.size_alloc] at hz
      obtain ⟨k0, k1, k2, f0, f1, f2⟩ := ans_cells hz 0 rfl
      go_wp2
      refine bodyPost_ret (v := anV 1 0 nil0) (by simp [results, Tryz.results101, go_sem, k0, k1, k2]) rfl ?_
      rw [HV.out]
      exact Did.plain rfl ((((hz.put 0 rfl rfl 0 _).put 0 rfl rfl 1 _).put 0 rfl rfl 2 _).drop 2)
  · have WE := Lib.hid (show Heads.wordsV a b = ⟨0, 1⟩ from if_neg he)
    have HV := Lib.hid (show allocV m t ⟨op, r, hh, vv, a, b, cc⟩ = (no 1, m) from if_pos (.inl (by show (Heads.wordsV a b).err ≠ 0; rw [WE.out]; show ¬ (1 : Int) = 0; decide)))
    go_enter Tryz.func101, Tryz.ntmps101
    go_wp2_with (go_at_call 127; refine (Heads.words_any _ b _).mono ?_; rintro e wq ⟨rfl, rfl⟩; rw [WE.out])
    refine (refused_any _ 1).mono ?_
    rintro e wz ⟨rfl, kz⟩
    have hz := h2.mw.call kz
    simp only [World.size_alloc] at hz
    obtain ⟨k0, k1, k2, f0, f1, f2⟩ := ans_cells hz 0 rfl
    go_wp2
    refine bodyPost_ret (v := anV 1 0 nil0) (by simp [results, Tryz.results101, go_sem, k0, k1, k2]) rfl ?_
    rw [HV.out]
    exact Did.plain rfl ((((hz.put 0 rfl rfl 0 _).put 0 rfl rfl 1 _).put 0 rfl rfl 2 _).drop 2)
end
end Go.Proofs.YtneggppfffekdaaGreat.Mod
