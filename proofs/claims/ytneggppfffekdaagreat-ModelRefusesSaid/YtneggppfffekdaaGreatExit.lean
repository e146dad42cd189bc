/-
  Contract of package model: exit.
-/
import Derived.Test.YtneggppfffekdaaGreatLeav
namespace Go.Proofs.YtneggppfffekdaaGreat.Mod
open Go.ChangeShapes Go.WideShapes Go.ChangeAt Go.RowKit Go.Shelf
open Slic Sco
set_option linter.unusedVariables false
set_option linter.unusedSimpArgs false
set_option maxRecDepth 8000
attribute [local go_sem] Oper.semAt_some

theorem exit_leave (FF : List (List Fina.O)) (m : Mo) (t : Nat) : exitV FF m t =
    if Chain.popE (m.ents t) ≠ 0 then (no (Chain.popE (m.ents t)), m)
    else if (Chain.lastV (m.ents t)).2 = false then (no 0, m.setEnt t (m.ents t).dropLast)
    else if (leaveV FF m (Chain.lastV (m.ents t)).1).1.c = 0 then ((leaveV FF m (Chain.lastV (m.ents t)).1).1, (leaveV FF m (Chain.lastV (m.ents t)).1).2.setEnt t (m.ents t).dropLast)
    else leaveV FF m (Chain.lastV (m.ents t)).1 := by
  unfold exitV
  split
  · rfl
  · split
    · rfl
    · generalize (Chain.lastV (m.ents t)).1 = s
      unfold leaveV lastV
      by_cases hx : (turnV m.F s leF).x = 0
      · rw [if_neg (by simpa using hx)]
        cases hd : (turnV m.F s leF).d with
        | false => simp [hx, no]
        | true =>
          cases hh : finHeld FF s m.O with
          | false => simp [hx]
          | true => simp [hx]
      · have e : (turnV m.F s leF).F = m.F := by
          unfold turnV at hx ⊢
          split
          · rfl
          · rename_i x hl
            rw [hl] at hx
            dsimp only at hx
            split
            · rename_i c
              rw [if_pos c] at hx
              exact absurd rfl hx
            · rfl
        rw [if_pos hx, e]
        simp [hx, no]
section
variable {w0 w w' : World} {Z : Fx} {H : Hp} {G : Gs} {m : Mo} {bx : Bx} {k : Nat}
theorem Mh.less {bx' : Bx} (h : Mh w0 w Z H G bx) (hs : bx'.Sublist bx) : Mh w0 w Z H G bx' := ⟨h.md, h.below, h.own, fun x hx => h.box x (hs.subset hx), h.nd.sublist (hs.map _)⟩
theorem Mw.less {bx' : Bx} (h : Mw w0 w Z m bx) (hs : bx'.Sublist bx) : Mw w0 w Z m bx' := let ⟨H, h⟩ := h; ⟨H, h.less hs⟩
theorem Did.less {bx' : Bx} {r : Re2} {e : Ending} (h : Did w0 Z bx r e w') (hs : bx'.Sublist bx) : Did w0 Z bx' r e w' := let ⟨v, a, b, c⟩ := h; ⟨v, a, b, c.less hs⟩
/-- A row that a call made is kept beside the model as a local block. -/
theorem Mw.noteRow {α : Type} {K : Kd α} {w1 : World} (h : Mw w0 w Z m bx) {y : Tri} {L : List α} (O : Slic.Own K w1 w.heap.size (sl3 y) L) (k : Below w.heap.size w w1) :
    ∃ ex : Bx, Mw w0 w1 Z m (bx ++ ex) ∧ ∀ (m' : Mo) (w' : World) (cx : Bx), Mw w0 w' Z m' cx → (∀ x ∈ ex, x ∈ cx) → Slic.Own K w' 0 (sl3 y) L := by
  obtain ⟨H, h⟩ := h
  have h1 := h.call k
  cases hb : ob y with
  | none => exact ⟨[], ⟨H, by rw [List.append_nil]; exact h1⟩, fun m' w' cx _ _ => own_keep (own_zero O) fun b e => by cases hb.symm.trans e⟩
  | some b =>
    obtain ⟨cs, hT⟩ := own_isT O hb
    have hl := (World.ownsRow.lt O b hb).1
    refine ⟨[(b, .cells cs K.T (0, 0))], ⟨H, ⟨h1.md, h1.below, h1.own, fun x hx => ?_, ?_⟩⟩, fun m' w' cx h' hm => ?_⟩
    · rcases List.mem_append.1 hx with hx | hx
      · exact h1.box x hx
      · rw [List.mem_singleton.1 hx]
        refine ⟨hT, fun e => ?_, ?_⟩
        · have := h.md.wr_lt e
          omega
        · have := h.below.size
          show w0.heap.size ≤ b
          omega
    · rw [List.map_append]
      refine List.nodup_append.2 ⟨h.nd, by simp, fun a ha c hc e => ?_⟩
      obtain ⟨q, hq, rfl⟩ := List.mem_map.1 ha
      have hc : c = b := by simpa using hc
      have := h.ltb hq
      omega
    · obtain ⟨H', h'⟩ := h'
      have := (h'.box _ (hm _ (List.mem_singleton.2 rfl))).1
      exact own_keep (own_zero O) fun q e => by
        have e := hb.symm.trans e
        injection e with e
        subst e
        exact this.trans hT.symm
set_option maxHeartbeats 4000000 in
theorem exit_anyM (h : Mw w0 w Z m bx) (v : Iv Z k m) (hk : k ≤ 10000) (ff : Fok Z.FF) {t : Nat} (ht : t < Z.nt) (c : Ca) : Calls Tryz.prog 99 #[doV Z t c] w (DidO w0 Z bx (exitV Z.FF m t)) := by
  have h1 := h.new (doA Z t c) doT
  have h2 := h1.new #[.int .i64 0, .int .i64 0, nil0] anT
  have hl6 := v.l6 ht
  obtain ⟨_, p1, _, _, _, _, _, _, _⟩ := do_cells h2 1 rfl
  obtain ⟨x3, ⟨_, _, _, _, r3⟩, f3, O3, _⟩ := h2.thr ht
  by_cases hp : Chain.popE (m.ents t) = 0
  · have P0 := Lib.hid hp
    cases hc : (Chain.lastV (m.ents t)).2 with
    | false =>
      have L0 := Lib.hid hc
      have HV := Lib.hid (show exitV Z.FF m t = (no 0, m.setEnt t (m.ents t).dropLast) by rw [exit_leave, if_neg (by rw [hp]; simp), if_pos hc])
      clear hp hc
      go_enter Tryz.func99, Tryz.ntmps99
      go_wp2_with fail
      refine (Chain.pop_any _ (sl3 x3) (m.ents t) O3.sr (by omega)).mono ?_
      rintro e w3 ⟨v3, rfl, O4, k3⟩
      obtain ⟨y, rfl⟩ := own_tri (K := kE) O4
      rw [P0.out, L0.out]
      have h3 := h2.call k3
      have h4 := h3.new #[.int .i64 (Chain.lastV (m.ents t)).1, .bool false] 91
      have h5 := h4.new #[.int .i64 0, .int .i64 0, nil0] anT
      have O5 := own_types (X := []) (own_zero (K := kE) O4) (Only.below ((below_one w3 (.cells #[.int .i64 (Chain.lastV (m.ents t)).1, .bool false] 91)).trans ((below_one _ (.cells #[.int .i64 0, .int .i64 0, nil0] anT)).mono (by simp)))) (fun x hx => absurd hx List.not_mem_nil)
      obtain ⟨_, p1, _, _, _, _, _, _, _⟩ := do_cells h5 3 rfl
      obtain ⟨z3, ⟨_, _, _, _, r3⟩, f3, _, _⟩ := h5.thr ht
      have ff := f3 (t * 5 + 4)
      have h6 := h5.putEnt ht y O5
      simp only [World.size_alloc] at h6
      obtain ⟨k0, k1, k2, f0, f1, f2⟩ := ans_cells h6 2 rfl
      obtain ⟨a0, a1, a2, b0, b1, b2⟩ := ans_cells h6 0 rfl
      have d0 := cell_of (h4.at 0 rfl) 0 _ rfl
      have d1 := cell_of (h4.at 0 rfl) 1 _ rfl
      go_wp2
      refine bodyPost_ret (v := anV 0 0 nil0) (by simp [results, Tryz.results99, go_sem, k0, k1, k2]) rfl ?_
      rw [HV.out]
      exact DidO.plain rfl ((((h6.put 2 rfl rfl 0 _).put 2 rfl rfl 1 _).put 2 rfl rfl 2 _).drop 4)
    | true =>
      have L0 := Lib.hid hc
      obtain ⟨sn, hsn, hs1⟩ : ∃ sn : Nat, (Chain.lastV (m.ents t)).1 = (sn : Int) ∧ sn < Z.n := by
        have hl : 0 < (m.ents t).length := by
          rcases Nat.eq_zero_or_pos (m.ents t).length with e | e
          · rw [List.eq_nil_of_length_eq_zero e] at hp
            exact absurd hp (by decide)
          · exact e
        have hm : Chain.lastV (m.ents t) ∈ m.ents t := by
          rw [Chain.last_at hl]
          exact List.getElem_mem _
        obtain ⟨q1, q2⟩ := (v.ent _ (v.th_mem ht)).2.2 _ hm
        exact ⟨(Chain.lastV (m.ents t)).1.toNat, by omega, by omega⟩
      have HV := Lib.hid (show exitV Z.FF m t = if (leaveV Z.FF m sn).1.c = 0 then ((leaveV Z.FF m sn).1, (leaveV Z.FF m sn).2.setEnt t (m.ents t).dropLast) else leaveV Z.FF m sn by rw [exit_leave, if_neg (by rw [hp]; simp), if_neg (by rw [hc]; simp), hsn])
      have HS := Lib.hid hsn
      clear hp hc hsn
      go_enter Tryz.func99, Tryz.ntmps99
      go_wp2_with fail
      refine (Chain.pop_any _ (sl3 x3) (m.ents t) O3.sr (by omega)).mono ?_
      rintro e w3 ⟨v3, rfl, O4, k3⟩
      obtain ⟨y, rfl⟩ := own_tri (K := kE) O4
      rw [P0.out, L0.out, HS.out]
      obtain ⟨ex, h3, kr⟩ := h2.noteRow (K := kE) O4 k3
      have h4 := h3.new #[.int .i64 (sn : Int), .bool true] 91
      have h5 := h4.new #[.int .i64 0, .int .i64 0, nil0] anT
      obtain ⟨p0, p1, _, _, _, _, _, _, _⟩ := do_cells h5 3 rfl
      obtain ⟨e0, e1⟩ : _ ∧ _ := ⟨cell_of (h5.at 1 rfl) 0 _ rfl, cell_of (h5.at 1 rfl) 1 _ rfl⟩
      go_wp2_with fail
      refine (leave_anyM h5 v.lv hk ff sn hs1).mono ?_
      rintro e w6 ⟨x6, rfl, S6, h6⟩
      generalize leaveV Z.FF m sn = r at S6 h6 HV ⊢
      obtain ⟨⟨cc, nn, sa⟩, m6⟩ := r
      dsimp only at S6 h6 ⊢
      simp only [World.size_alloc] at h6
      obtain ⟨a0, a1, a2, b0, b1, b2⟩ := ans_cells h6 0 rfl
      have h7 := ((h6.put 0 rfl rfl 0 (.int .i64 cc)).put 0 rfl rfl 1 (.int .i64 nn)).put 0 rfl rfl 2 (sl3 x6)
      have S7 := own_local S6 (h6.at 0 rfl) rfl (put3 (.int .i64 cc) (.int .i64 nn) (sl3 x6))
      have Y7 : Chain.Own _ 0 (sl3 y) (m.ents t).dropLast := kr _ _ _ h7 (fun x hx => by simp [hx])
      obtain ⟨_, q1, _, _, _, _, _, _, _⟩ := do_cells h7 3 rfl
      obtain ⟨z3, ⟨_, _, _, _, r3⟩, f3, _, _⟩ := h7.thr ht
      have ff := f3 (t * 5 + 4)
      by_cases hcc : cc = 0
      · subst hcc
        have h8 := h7.putEnt ht y Y7
        have S8 := own_types S7 (Only.put _ Z.bt (t * 5 + 4) (sl3 y) (List.mem_singleton.2 rfl)) (fun x hx => by rw [List.mem_singleton.1 hx]; exact h7.choose_spec.md.tt.no rfl)
        obtain ⟨k0, k1, k2, f0, f1, f2⟩ := ans_cells h8 2 rfl
        obtain ⟨l0, l1, l2, g0, g1, g2⟩ := ans_cells h8 0 rfl
        have h9 := ((h8.put 2 rfl rfl 0 (.int .i64 0)).put 2 rfl rfl 1 (.int .i64 nn)).put 2 rfl rfl 2 (sl3 x6)
        have S9 := own_local S8 (h8.at 2 rfl) rfl (put3 (.int .i64 0) (.int .i64 nn) (sl3 x6))
        go_wp2
        refine bodyPost_ret (v := anV 0 nn (sl3 x6)) (by simp [results, Tryz.results99, go_sem, k0, k1, k2]) rfl ?_
        rw [HV.out]
        exact ⟨x6, rfl, S9, (h9.drop 4).less (List.sublist_append_left ..)⟩
      · have z : (cc == 0) = false := beq_eq_false_iff_ne.2 hcc
        obtain ⟨k0, k1, k2, f0, f1, f2⟩ := ans_cells h7 2 rfl
        obtain ⟨l0, l1, l2, g0, g1, g2⟩ := ans_cells h7 0 rfl
        have h9 := ((h7.put 2 rfl rfl 0 (.int .i64 cc)).put 2 rfl rfl 1 (.int .i64 nn)).put 2 rfl rfl 2 (sl3 x6)
        have S9 := own_local S7 (h7.at 2 rfl) rfl (put3 (.int .i64 cc) (.int .i64 nn) (sl3 x6))
        go_wp2
        refine bodyPost_ret (v := anV cc nn (sl3 x6)) (by simp [results, Tryz.results99, go_sem, k0, k1, k2]) rfl ?_
        rw [HV.out, if_neg hcc]
        exact ⟨x6, rfl, S9, (h9.drop 4).less (List.sublist_append_left ..)⟩
  · have HV := Lib.hid (show exitV Z.FF m t = (no (Chain.popE (m.ents t)), m) by rw [exit_leave, if_pos hp])
    have z : (Chain.popE (m.ents t) != 0) = true := bne_iff_ne.2 hp
    go_enter Tryz.func99, Tryz.ntmps99
    go_wp2_with fail
    refine (Chain.pop_any _ (sl3 x3) (m.ents t) O3.sr (by omega)).mono ?_
    rintro e w3 ⟨v3, rfl, O4, k3⟩
    obtain ⟨y, rfl⟩ := own_tri (K := kE) O4
    have h3 := h2.call k3
    have h4 := h3.new #[.int .i64 (Chain.lastV (m.ents t)).1, .bool (Chain.lastV (m.ents t)).2] 91
    go_wp2_with fail
    refine (refused_any _ (Chain.popE (m.ents t))).mono ?_
    rintro e wz ⟨rfl, kz⟩
    have hz := h4.call kz
    simp only [World.size_alloc] at hz
    obtain ⟨k0, k1, k2, f0, f1, f2⟩ := ans_cells hz 1 rfl
    go_wp2
    refine bodyPost_ret (v := anV (Chain.popE (m.ents t)) 0 nil0) (by simp [results, Tryz.results99, go_sem, k0, k1, k2]) rfl ?_
    rw [HV.out]
    exact DidO.plain rfl ((((hz.put 1 rfl rfl 0 _).put 1 rfl rfl 1 _).put 1 rfl rfl 2 _).drop 3)
end
end Go.Proofs.YtneggppfffekdaaGreat.Mod
