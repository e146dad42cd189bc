/-
  Contracts of package model: load, store, look, gate.
-/
import Derived.Test.YtneggppfffekdaaGreatInv
namespace Go.Proofs.YtneggppfffekdaaGreat.Mod
open Go.ChangeShapes Go.WideShapes Go.ChangeAt Go.RowKit
open Slic Sco
set_option linter.unusedVariables false
set_option linter.unusedSimpArgs false
set_option maxRecDepth 8000
attribute [local go_sem ↓] Go.wp_at_zero Go.wp_at_succ
section
variable {w0 w w' : World} {Z : Fx} {m : Mo} {bx : Bx} {k : Nat}
theorem hold_obs {L : List Chain.E} {x b : Int} (h : holdX m L x b = 0) : ∃ o, m.obs x = some o ∧ 0 ≤ b ∧ b < (o.sl.length : Int) := by
  unfold holdX at h
  split at h
  · rename_i c
    exact absurd h c
  · cases ho : m.obs x with
    | none =>
      rw [ho] at h
      exact absurd h (by show ¬ (18 : Int) = 0; decide)
    | some o =>
      rw [ho] at h
      simp only at h
      split at h
      · rename_i c
        have := of_decide_eq_true c
        exact ⟨o, rfl, this.1, this.2⟩
      · exact absurd h (by decide)
theorem sr_empty {α : Type} {K : Kd α} {w w' : World} {v : Value} (h : Sr K w v []) : Sr K w' v [] := by
  obtain ⟨A, c, e, h1, h2, h3, _⟩ := h
  exact ⟨A, c, e, h1, h2, h3, fun hl => absurd hl (by simp)⟩
theorem slot_at {h b : Int} {o : Ob} (ho : m.obs h = some o) (hb : b.toNat < o.sl.length) : slotOf m h b = o.sl[b.toNat] := by
  unfold slotOf
  rw [ho]
  simp only
  rw [List.getD_eq_getElem?_getD, List.getElem?_eq_getElem hb]
  rfl
theorem blk_map {g : Ob → Ob} (hg : ∀ o, (g o).h = o.h) : ∀ (O : List Ob) (M : List (Nat × Tri)) (x : Int), blk (O.map g) M x = blk O M x
  | [], M, x => by cases M <;> rfl
  | o :: O, [], x => rfl
  | o :: O, p :: M, x => by
    rw [List.map_cons]
    unfold blk
    rw [hg, blk_map hg O M x]
theorem hs_map {g : Ob → Ob} (hg : ∀ o, (g o).h = o.h) (hs' : ∀ o, (g o).s = o.s) (s : Nat) : ∀ (O : List Ob), hs s (O.map g) = hs s O
  | [] => rfl
  | o :: O => by
    have ih := hs_map hg hs' s O
    unfold hs at *
    rw [List.map_cons, List.filter_cons, List.filter_cons, hs']
    by_cases c : decide (o.s = (s : Int)) = true
    · rw [if_pos c, if_pos c, List.map_cons, List.map_cons, hg, ih]
    · rw [if_neg c, if_neg c, ih]
theorem put_h (h : Int) (b : Nat) (v : Int) (o : Ob) : (putSlot h b v o).h = o.h := by
  unfold putSlot
  split <;> rfl
theorem put_s (h : Int) (b : Nat) (v : Int) (o : Ob) : (putSlot h b v o).s = o.s := by
  unfold putSlot
  split <;> rfl
theorem map_one {O : List Ob} (hd : O.Pairwise fun o p => o.h ≠ p.h) {i : Nat} {o : Ob} (ho : O[i]? = some o) {g : Ob → Ob} (hg : ∀ q, q.h ≠ o.h → g q = q) : O.map g = O.set i (g o) := by
  apply List.ext_getElem?
  intro j
  rw [List.getElem?_map, List.getElem?_set]
  have hi := (List.getElem?_eq_some_iff.1 ho).1
  split
  · rename_i e
    subst e
    rw [ho]
    rfl
  · rename_i e
    cases hj : O[j]? with
    | none => rfl
    | some q =>
      show some (g q) = some q
      rw [hg q (pair_get (fun h e => h e.symm) hd hj ho (fun q => e q.symm))]
/-- A word is stored into a slot. -/
theorem Mh.putSlot {H : Hp} (h : Mh w0 w Z H (m.gs H.om) bx) (hd : m.O.Pairwise fun o p => o.h ≠ p.h) {i : Nat} {o : Ob} {p : Nat × Tri} (ho : m.O[i]? = some o) (hp : H.om[i]? = some p) {g n : Nat} (hg : sl3 p.2 = .slice (some ⟨g, 0, none⟩) o.sl.length n) {b : Nat} (hb : b < o.sl.length) (v : Int) :
    Mw w0 (w.setCell ⟨g, b, none⟩ (.int .u64 v)) Z ⟨m.F, m.O.map (Mod.putSlot o.h b v), m.A, m.T⟩ bx := by
  have eg : ob p.2 = some g := by
    show (sl3 p.2).ownBlock = some g
    rw [hg]
    rfl
  have K1 : Only [g] w (w.setCell ⟨g, b, none⟩ (.int .u64 v)) := Only.put w g _ _ (List.mem_singleton.2 rfl)
  have O0 := h.md.slo i o p ho hp
  have ob0 := h.md.obj i o p ho hp
  have ne : p.1 ≠ g := ((isT.of ob0).no (show (142 == 50) = false by decide)).ne (own_isT O0 eg)
  have O1 : Own Fina.kU (w.setCell ⟨g, b, none⟩ (.int .u64 v)) 0 (sl3 p.2) (o.sl.set b v) := by
    have O0' := O0
    rw [hg] at O0' ⊢
    have := own_put O0' b 0 (List.getElem?_eq_getElem hb) (show 0 < 1 by decide) v (.int .u64 v) rfl
    rwa [show b * Fina.kU.m + 0 = b from by simp [Fina.kU]] at this
  have d := h.md.objs ho hp K1 (fun x hx => .inr (by rw [List.mem_singleton.1 hx]; exact eg)) ⟨o.s, o.e, o.a, o.sl.set b v, o.tag, o.d⟩ p.2
    ((K1.block p.1 (isT.of ob0).lt (by simpa using ne)).trans ob0) O1 (fun q e => .inl e)
  have e1 : H.om.set i (p.1, p.2) = H.om := set_same hp
  have e2 : m.O.map (Mod.putSlot o.h b v) = m.O.set i ⟨o.s, o.e, o.a, o.sl.set b v, o.tag, o.d⟩ := by
    rw [map_one hd ho (g := Mod.putSlot o.h b v) (fun q hq => if_neg hq)]
    unfold Mod.putSlot
    rw [if_pos rfl]
  have e3 : (⟨m.F, m.O.map (Mod.putSlot o.h b v), m.A, m.T⟩ : Mo).gs H.om = ⟨m.F, m.A, m.T, m.O.set i ⟨o.s, o.e, o.a, o.sl.set b v, o.tag, o.d⟩, blk m.O H.om, fun s => hs s m.O, m.O.length⟩ := by
    unfold Mo.gs
    simp only [Gs.mk.injEq, true_and]
    refine ⟨e2, ?_, ?_, List.length_map _⟩
    · funext x
      exact blk_map (put_h _ _ _) m.O H.om x
    · funext s
      exact hs_map (put_h _ _ _) (put_s _ _ _) s m.O
  refine ⟨H, ?_⟩
  rw [e3]
  rw [e1] at d
  exact h.step K1 (fun x hx => by rw [List.mem_singleton.1 hx]; exact wr_sl hp eg) d fun b hb => .inl hb
theorem Mw.putPort (h : Mw w0 w Z m bx) {i : Int} (h0 : 0 ≤ i) (h1 : i < (Z.n : Int)) (v : Int) : Mw w0 (w.setCell ⟨Z.ba, i.toNat * 3, none⟩ (.int .u64 v)) Z ⟨m.F, m.O, m.A.set i.toNat ⟨v, (m.ar i).u⟩, m.T⟩ bx := by
  obtain ⟨_, _, e⟩ := h.are h0 h1
  obtain ⟨H, h⟩ := h
  have d := h.md.are i.toNat (show (m.gs H.om).A[i.toNat]? = some _ from e) 0 (by decide) ⟨v, (m.ar i).u⟩ (.int .u64 v) (fun x => rfl)
  exact ⟨H, h.step (Only.put w Z.ba _ _ (List.mem_singleton.2 rfl)) (fun x hx => .inr (.inr (.inr (.inl (List.mem_singleton.1 hx))))) d fun b hb => .inl hb⟩
theorem getD_of {L : List Int} {i : Nat} (h : i < L.length) : L[i]? = some (L.getD i 0) := by
  rw [List.getElem?_eq_getElem h, List.getD_eq_getElem?_getD, List.getElem?_eq_getElem h]
  rfl
/-- A word of a row of words. -/
theorem word_at {w : World} {x : Tri} {L : List Int} (h : Own Fina.kU w 0 (sl3 x) L) {i : Nat} (hi : i < L.length) : ∃ g c, sl3 x = .slice (some ⟨g, 0, none⟩) L.length c ∧ g < w.heap.size ∧ w.cell? ⟨g, i, none⟩ = some (.int .u64 L[i]) ∧ w.frozen? ⟨g, i, none⟩ = false := by
  obtain ⟨g, c, e, _, hg, _, _, hf, hc⟩ := h.form (by omega)
  refine ⟨g, c, e, hg, ?_, hf _⟩
  have := hc i 0 (.int .u64 L[i]) hi rfl
  rwa [show i * Fina.kU.m + 0 = i from by simp [Fina.kU]] at this
set_option maxHeartbeats 2000000 in
theorem load_any (h : Mw w0 w Z m bx) (v : Iv Z k m) {t : Nat} (ht : t < Z.nt) (c : Ca) (s0 : 0 ≤ c.r) (s4 : c.r < 4) (r0 : 0 ≤ c.h) (r4 : c.h < 4) : Calls Tryz.prog 102 #[doV Z t c] w (Did w0 Z bx (loadV m t c)) := by
  obtain ⟨H, h⟩ := h
  have h1 := h.new (doA Z t c) doT
  have h2 := h1.new #[.int .i64 0, .int .i64 0, nil0] anT
  by_cases hh : holdX m (m.ents t) (m.reg t c.h) c.b = 0
  · obtain ⟨o, ho, b0, b1⟩ := hold_obs hh
    obtain ⟨i, p, e1, e2, e3, e4, e5, e6⟩ := h.objAt ho
    have HO := Lib.hid (show ptrO (hoO m (m.ents t) H.om (m.reg t c.h) c.b) = .pointer (some ⟨p.1, 0, none⟩) by unfold hoO; rw [if_pos hh, e4]; rfl)
    have HH := Lib.hid hh
    have hbl : c.b.toNat < o.sl.length := by omega
    have HS := Lib.hid (slot_at ho hbl)
    have HV := Lib.hid (show loadV m t c = give m t c.r (slotOf m (m.reg t c.h) c.b) from if_neg (by rw [hh]; simp))
    clear hh
    go_enter Tryz.func102, Tryz.ntmps102
    go_wp2_with fail
    refine (holder_any h2 v.n8 ht c r0 r4 (v.wreg ht _) v.sl).mono ?_
    rintro e w3 ⟨rfl, k3⟩
    have h3 := h2.call k3
    rw [HO.out, HH.out]
    obtain ⟨d0, d1, d2, d3, d4, d5, d6, d7, d8⟩ := do_cells h3.mw 1 rfl
    have q5 := h3.md.obj i o p e1 e2
    have q6 := h3.md.slo i o p e1 e2
    obtain ⟨_, q3, _⟩ := obj_cells q5
    obtain ⟨g, n, hg, _, gc, _⟩ := word_at q6 hbl
    rw [hg] at q3
    go_wp2_with fail
    go_region_with ((go_at_call 130; refine (give_any h3.mw.drew ht c s0 s4 _).mono ?_; rintro e w4 ⟨v4, rfl, sd, h4⟩
                     obtain ⟨A4, n4, rfl, _, _⟩ := sd.form
                     simp only [World.size_alloc] at h4
                     obtain ⟨k0, k1, k2, f0, f1, f2⟩ := ans_cells h4 0 rfl))
    all_goals
      go_wp2
      refine bodyPost_ret (v := anV 0 (IntKind.i64.wrap o.sl[c.b.toNat]) (.slice A4 0 n4)) (by simp [results, Tryz.results102, go_sem, k0, k1, k2]; first | done | exact ⟨rfl, rfl, rfl⟩ | rfl) rfl ?_
      rw [HV.out, HS.out]
      exact ⟨_, rfl, sr_empty sd, (((h4.put 0 rfl rfl 0 _).put 0 rfl rfl 1 _).put 0 rfl rfl 2 _).drop 2⟩
  · have HV := Lib.hid (show loadV m t c = (no (holdX m (m.ents t) (m.reg t c.h) c.b), m) from if_pos hh)
    have HO := Lib.hid (show ptrO (hoO m (m.ents t) H.om (m.reg t c.h) c.b) = .pointer none by unfold hoO; rw [if_neg hh]; rfl)
    have z : (holdX m (m.ents t) (m.reg t c.h) c.b != 0) = true := bne_iff_ne.2 hh
    go_enter Tryz.func102, Tryz.ntmps102
    go_wp2_with fail
    refine (holder_any h2 v.n8 ht c r0 r4 (v.wreg ht _) v.sl).mono ?_
    rintro e w3 ⟨rfl, k3⟩
    have h3 := h2.call k3
    rw [HO.out]
    go_wp2_with fail
    refine (refused_any w3 (holdX m (m.ents t) (m.reg t c.h) c.b)).mono ?_
    rintro e wz ⟨rfl, kz⟩
    have hz := h3.mw.call kz
    simp only [World.size_alloc] at hz
    obtain ⟨k0, k1, k2, f0, f1, f2⟩ := ans_cells hz 0 rfl
    go_wp2
    refine bodyPost_ret (v := anV (holdX m (m.ents t) (m.reg t c.h) c.b) 0 nil0) (by simp [results, Tryz.results102, go_sem, k0, k1, k2]) rfl ?_
    rw [HV.out]
    exact Did.plain rfl ((((hz.put 0 rfl rfl 0 _).put 0 rfl rfl 1 _).put 0 rfl rfl 2 _).drop 2)
set_option maxHeartbeats 2000000 in
theorem store_any (h : Mw w0 w Z m bx) (v : Iv Z k m) {t : Nat} (ht : t < Z.nt) (c : Ca) (s0 : 0 ≤ c.v) (s4 : c.v < 4) (r0 : 0 ≤ c.h) (r4 : c.h < 4) : Calls Tryz.prog 103 #[doV Z t c] w (Did w0 Z bx (storeV m t c)) := by
  obtain ⟨H, h⟩ := h
  have h1 := h.new (doA Z t c) doT
  have h2 := h1.new #[.int .i64 0, .int .i64 0, nil0] anT
  by_cases hh : holdX m (m.ents t) (m.reg t c.h) c.b = 0
  · obtain ⟨o, ho, b0, b1⟩ := hold_obs hh
    obtain ⟨i, p, e1, e2, e3, e4, e5, e6⟩ := h.objAt ho
    have hbl : c.b.toNat < o.sl.length := by omega
    have HO := Lib.hid (show ptrO (hoO m (m.ents t) H.om (m.reg t c.h) c.b) = .pointer (some ⟨p.1, 0, none⟩) by unfold hoO; rw [if_pos hh, e4]; rfl)
    have HH := Lib.hid hh
    have hu : (Refs.unV (m.reg t c.h)).s = o.s := by rw [← e3, v.rt.un (List.mem_of_getElem? e1)]
    by_cases hf : m.fits (m.ents t) (m.reg t c.v) o.s = 0
    · have HF := Lib.hid hf
      have HV := Lib.hid (show storeV m t c = (no 0, ⟨m.F, m.O.map (putSlot o.h c.b.toNat (m.reg t c.v)), m.A, m.T⟩) by unfold storeV; rw [if_neg (by rw [hh]; simp), hu, if_neg (by rw [hf]; simp), e3])
      clear hh hf hu
      go_enter Tryz.func103, Tryz.ntmps103
      go_wp2_with fail
      refine (holder_any h2 v.n8 ht c r0 r4 (v.wreg ht _) v.sl).mono ?_
      rintro e w3 ⟨rfl, k3⟩
      have h3 := h2.call k3
      rw [HO.out, HH.out]
      obtain ⟨d0, d1, d2, d3, d4, d5, d6, d7, d8⟩ := do_cells h3.mw 1 rfl
      have q5 := h3.md.obj i o p e1 e2
      obtain ⟨q0, q3, _⟩ := obj_cells q5
      go_wp2_with fail
      go_region_with ((go_at_call 132; refine (fits_any h3.drew v.n8 ht c s0 s4 (v.wreg ht _) v.rt _).mono ?_; rintro e w4 ⟨rfl, k4⟩
                       have h4 := h3.drew.call k4))
      all_goals
        rw [HF.out]
        obtain ⟨_, d1, _, _, _, d5, _, d7, _⟩ := do_cells h4.mw 1 rfl
        have q5 := h4.md.obj i o p e1 e2
        have q6 := h4.md.slo i o p e1 e2
        obtain ⟨_, q3, _⟩ := obj_cells q5
        obtain ⟨g, n, hg, _, gc, gf⟩ := word_at q6 hbl
        obtain ⟨rc, _⟩ := h4.mw.regAt ht s0 s4
        rw [hg] at q3
        go_wp2_with fail
        go_region
        all_goals
          have h5 := (h4.putSlot v.hne e1 e2 hg hbl (m.reg t c.v)).drew
          generalize (w4.setCell ⟨g, c.b.toNat, none⟩ (.int .u64 (m.reg t c.v))).drew = W at h5 ⊢
          simp only [World.size_alloc] at h5
          obtain ⟨k0, k1, k2, f0, f1, f2⟩ := ans_cells h5 0 rfl
          go_wp2
          refine bodyPost_ret (v := anV 0 0 nil0) (by simp [results, Tryz.results103, go_sem, k0, k1, k2]) rfl ?_
          rw [HV.out]
          exact Did.plain rfl ((((h5.put 0 rfl rfl 0 _).put 0 rfl rfl 1 _).put 0 rfl rfl 2 _).drop 2)
    · have HV := Lib.hid (show storeV m t c = (no (m.fits (m.ents t) (m.reg t c.v) o.s), m) by unfold storeV; rw [if_neg (by rw [hh]; simp), hu, if_pos hf])
      have z : (m.fits (m.ents t) (m.reg t c.v) o.s != 0) = true := bne_iff_ne.2 hf
      clear hh hf hu
      go_enter Tryz.func103, Tryz.ntmps103
      go_wp2_with fail
      refine (holder_any h2 v.n8 ht c r0 r4 (v.wreg ht _) v.sl).mono ?_
      rintro e w3 ⟨rfl, k3⟩
      have h3 := h2.call k3
      rw [HO.out, HH.out]
      obtain ⟨d0, d1, d2, d3, d4, d5, d6, d7, d8⟩ := do_cells h3.mw 1 rfl
      have q5 := h3.md.obj i o p e1 e2
      obtain ⟨q0, q3, _⟩ := obj_cells q5
      go_wp2_with fail
      go_region_with ((go_at_call 132; refine (fits_any h3.drew v.n8 ht c s0 s4 (v.wreg ht _) v.rt _).mono ?_; rintro e w4 ⟨rfl, k4⟩
                       have h4 := h3.drew.call k4))
      all_goals
        go_wp2_with fail
        refine (refused_any w4 (m.fits (m.ents t) (m.reg t c.v) o.s)).mono ?_
        rintro e wz ⟨rfl, kz⟩
        have hz := h4.mw.call kz
        simp only [World.size_alloc] at hz
        obtain ⟨k0, k1, k2, f0, f1, f2⟩ := ans_cells hz 0 rfl
        go_wp2
        refine bodyPost_ret (v := anV (m.fits (m.ents t) (m.reg t c.v) o.s) 0 nil0) (by simp [results, Tryz.results103, go_sem, k0, k1, k2]) rfl ?_
        rw [HV.out]
        exact Did.plain rfl ((((hz.put 0 rfl rfl 0 _).put 0 rfl rfl 1 _).put 0 rfl rfl 2 _).drop 2)
  · have HV := Lib.hid (show storeV m t c = (no (holdX m (m.ents t) (m.reg t c.h) c.b), m) from if_pos hh)
    have HO := Lib.hid (show ptrO (hoO m (m.ents t) H.om (m.reg t c.h) c.b) = .pointer none by unfold hoO; rw [if_neg hh]; rfl)
    have z : (holdX m (m.ents t) (m.reg t c.h) c.b != 0) = true := bne_iff_ne.2 hh
    go_enter Tryz.func103, Tryz.ntmps103
    go_wp2_with fail
    refine (holder_any h2 v.n8 ht c r0 r4 (v.wreg ht _) v.sl).mono ?_
    rintro e w3 ⟨rfl, k3⟩
    have h3 := h2.call k3
    rw [HO.out]
    go_wp2_with fail
    refine (refused_any w3 (holdX m (m.ents t) (m.reg t c.h) c.b)).mono ?_
    rintro e wz ⟨rfl, kz⟩
    have hz := h3.mw.call kz
    simp only [World.size_alloc] at hz
    obtain ⟨k0, k1, k2, f0, f1, f2⟩ := ans_cells hz 0 rfl
    go_wp2
    refine bodyPost_ret (v := anV (holdX m (m.ents t) (m.reg t c.h) c.b) 0 nil0) (by simp [results, Tryz.results103, go_sem, k0, k1, k2]) rfl ?_
    rw [HV.out]
    exact Did.plain rfl ((((hz.put 0 rfl rfl 0 _).put 0 rfl rfl 1 _).put 0 rfl rfl 2 _).drop 2)
theorem reach_in {L : List Chain.E} {i : Int} (h : reachX m L i = 0) : 0 ≤ i ∧ i < (m.A.length : Int) := by
  unfold reachX at h
  split at h
  · exact absurd h (by decide)
  · rename_i c
    have c : scopeB m i = true := by simpa using c
    have := of_decide_eq_true c
    omega
set_option maxHeartbeats 2000000 in
theorem look_any (h : Mw w0 w Z m bx) (v : Iv Z k m) {t : Nat} (ht : t < Z.nt) (c : Ca) (s0 : 0 ≤ c.r) (s4 : c.r < 4) : Calls Tryz.prog 104 #[doV Z t c] w (Did w0 Z bx (lookV m t c)) := by
  obtain ⟨H, h⟩ := h
  have hA := h.mw.nA
  have h1 := h.new (doA Z t c) doT
  have h2 := h1.new #[.int .i64 0, .int .i64 0, nil0] anT
  by_cases hh : reachX m (m.ents t) c.a = 0
  · obtain ⟨a1, a2⟩ := reach_in hh
    rw [hA] at a2
    have HH := Lib.hid hh
    have HV := Lib.hid (show lookV m t c = give m t c.r (m.ar c.a).g from if_neg (by rw [hh]; simp))
    clear hh
    go_enter Tryz.func104, Tryz.ntmps104
    go_wp2_with fail
    refine (reached_any h2 v.n8 ht c).mono ?_
    rintro e w3 ⟨rfl, k3⟩
    have h3 := h2.call k3
    rw [HH.out]
    obtain ⟨d0, d1, d2, d3, d4, d5, d6, d7, d8⟩ := do_cells h3.mw 1 rfl
    obtain ⟨_, _, mc, _⟩ := h3.mw.cells
    obtain ⟨⟨gc, _⟩, _, _⟩ := h3.mw.are a1 a2
    go_wp2_with fail
    go_region_with ((go_at_call 130; refine (give_any h3.mw.drew ht c s0 s4 _).mono ?_; rintro e w4 ⟨v4, rfl, sd, h4⟩
                     obtain ⟨A4, n4, rfl, _, _⟩ := sd.form
                     simp only [World.size_alloc] at h4
                     obtain ⟨k0, k1, k2, f0, f1, f2⟩ := ans_cells h4 0 rfl))
    all_goals
      go_wp2
      refine bodyPost_ret (v := anV 0 (IntKind.i64.wrap (m.ar c.a).g) (.slice A4 0 n4)) (by simp [results, Tryz.results104, go_sem, k0, k1, k2]; first | done | exact ⟨rfl, rfl, rfl⟩ | rfl) rfl ?_
      rw [HV.out]
      exact ⟨_, rfl, sr_empty sd, (((h4.put 0 rfl rfl 0 _).put 0 rfl rfl 1 _).put 0 rfl rfl 2 _).drop 2⟩
  · have HV := Lib.hid (show lookV m t c = (no (reachX m (m.ents t) c.a), m) from if_pos hh)
    have z : (reachX m (m.ents t) c.a != 0) = true := bne_iff_ne.2 hh
    go_enter Tryz.func104, Tryz.ntmps104
    go_wp2_with fail
    refine (reached_any h2 v.n8 ht c).mono ?_
    rintro e w3 ⟨rfl, k3⟩
    have h3 := h2.call k3
    go_wp2_with fail
    refine (refused_any w3 (reachX m (m.ents t) c.a)).mono ?_
    rintro e wz ⟨rfl, kz⟩
    have hz := h3.mw.call kz
    simp only [World.size_alloc] at hz
    obtain ⟨k0, k1, k2, f0, f1, f2⟩ := ans_cells hz 0 rfl
    go_wp2
    refine bodyPost_ret (v := anV (reachX m (m.ents t) c.a) 0 nil0) (by simp [results, Tryz.results104, go_sem, k0, k1, k2]) rfl ?_
    rw [HV.out]
    exact Did.plain rfl ((((hz.put 0 rfl rfl 0 _).put 0 rfl rfl 1 _).put 0 rfl rfl 2 _).drop 2)
set_option maxHeartbeats 2000000 in
theorem gate_any (h : Mw w0 w Z m bx) (v : Iv Z k m) {t : Nat} (ht : t < Z.nt) (c : Ca) (s0 : 0 ≤ c.v) (s4 : c.v < 4) : Calls Tryz.prog 105 #[doV Z t c] w (Did w0 Z bx (gateV m t c)) := by
  obtain ⟨H, h⟩ := h
  have hA := h.mw.nA
  have h1 := h.new (doA Z t c) doT
  have h2 := h1.new #[.int .i64 0, .int .i64 0, nil0] anT
  by_cases hh : reachX m (m.ents t) c.a = 0
  · obtain ⟨a1, a2⟩ := reach_in hh
    rw [hA] at a2
    have HH := Lib.hid hh
    by_cases hf : m.fits (m.ents t) (m.reg t c.v) c.a = 0
    · have HF := Lib.hid hf
      have HV := Lib.hid (show gateV m t c = (no 0, ⟨m.F, m.O, m.A.set c.a.toNat ⟨m.reg t c.v, (m.ar c.a).u⟩, m.T⟩) by unfold gateV; rw [if_neg (by rw [hh]; simp), if_neg (by rw [hf]; simp)])
      clear hh hf
      go_enter Tryz.func105, Tryz.ntmps105
      go_wp2_with fail
      refine (reached_any h2 v.n8 ht c).mono ?_
      rintro e w3 ⟨rfl, k3⟩
      have h3 := h2.call k3
      rw [HH.out]
      obtain ⟨d0, d1, d2, d3, d4, d5, d6, d7, d8⟩ := do_cells h3.mw 1 rfl
      go_wp2_with fail
      refine (fits_any h3 v.n8 ht c s0 s4 (v.wreg ht _) v.rt _).mono ?_
      rintro e w4 ⟨rfl, k4⟩
      have h4 := h3.call k4
      rw [HF.out]
      obtain ⟨d0, d1, _, _, _, d5, d6, _, _⟩ := do_cells h4.mw 1 rfl
      obtain ⟨_, _, mc, _⟩ := h4.mw.cells
      obtain ⟨⟨gc, _⟩, gf, _⟩ := h4.mw.are a1 a2
      have gf0 := gf (c.a.toNat * 3)
      obtain ⟨rc, _⟩ := h4.mw.regAt ht s0 s4
      go_wp2_with fail
      go_region
      all_goals
        have h5 := (h4.mw.putPort a1 a2 (m.reg t c.v)).drew
        generalize (w4.setCell ⟨Z.ba, c.a.toNat * 3, none⟩ (.int .u64 (m.reg t c.v))).drew = W at h5 ⊢
        simp only [World.size_alloc] at h5
        obtain ⟨k0, k1, k2, f0, f1, f2⟩ := ans_cells h5 0 rfl
        go_wp2
        refine bodyPost_ret (v := anV 0 0 nil0) (by simp [results, Tryz.results105, go_sem, k0, k1, k2]) rfl ?_
        rw [HV.out]
        exact Did.plain rfl ((((h5.put 0 rfl rfl 0 _).put 0 rfl rfl 1 _).put 0 rfl rfl 2 _).drop 2)
    · have HV := Lib.hid (show gateV m t c = (no (m.fits (m.ents t) (m.reg t c.v) c.a), m) by unfold gateV; rw [if_neg (by rw [hh]; simp), if_pos hf])
      have z : (m.fits (m.ents t) (m.reg t c.v) c.a != 0) = true := bne_iff_ne.2 hf
      clear hh hf
      go_enter Tryz.func105, Tryz.ntmps105
      go_wp2_with fail
      refine (reached_any h2 v.n8 ht c).mono ?_
      rintro e w3 ⟨rfl, k3⟩
      have h3 := h2.call k3
      rw [HH.out]
      obtain ⟨d0, d1, d2, d3, d4, d5, d6, d7, d8⟩ := do_cells h3.mw 1 rfl
      go_wp2_with fail
      refine (fits_any h3 v.n8 ht c s0 s4 (v.wreg ht _) v.rt _).mono ?_
      rintro e w4 ⟨rfl, k4⟩
      have h4 := h3.call k4
      go_wp2_with fail
      refine (refused_any w4 (m.fits (m.ents t) (m.reg t c.v) c.a)).mono ?_
      rintro e wz ⟨rfl, kz⟩
      have hz := h4.mw.call kz
      simp only [World.size_alloc] at hz
      obtain ⟨k0, k1, k2, f0, f1, f2⟩ := ans_cells hz 0 rfl
      go_wp2
      refine bodyPost_ret (v := anV (m.fits (m.ents t) (m.reg t c.v) c.a) 0 nil0) (by simp [results, Tryz.results105, go_sem, k0, k1, k2]) rfl ?_
      rw [HV.out]
      exact Did.plain rfl ((((hz.put 0 rfl rfl 0 _).put 0 rfl rfl 1 _).put 0 rfl rfl 2 _).drop 2)
  · have HV := Lib.hid (show gateV m t c = (no (reachX m (m.ents t) c.a), m) from if_pos hh)
    have z : (reachX m (m.ents t) c.a != 0) = true := bne_iff_ne.2 hh
    go_enter Tryz.func105, Tryz.ntmps105
    go_wp2_with fail
    refine (reached_any h2 v.n8 ht c).mono ?_
    rintro e w3 ⟨rfl, k3⟩
    have h3 := h2.call k3
    go_wp2_with fail
    refine (refused_any w3 (reachX m (m.ents t) c.a)).mono ?_
    rintro e wz ⟨rfl, kz⟩
    have hz := h3.mw.call kz
    simp only [World.size_alloc] at hz
    obtain ⟨k0, k1, k2, f0, f1, f2⟩ := ans_cells hz 0 rfl
    go_wp2
    refine bodyPost_ret (v := anV (reachX m (m.ents t) c.a) 0 nil0) (by simp [results, Tryz.results105, go_sem, k0, k1, k2]) rfl ?_
    rw [HV.out]
    exact Did.plain rfl ((((hz.put 0 rfl rfl 0 _).put 0 rfl rfl 1 _).put 0 rfl rfl 2 _).drop 2)
end
end Go.Proofs.YtneggppfffekdaaGreat.Mod
