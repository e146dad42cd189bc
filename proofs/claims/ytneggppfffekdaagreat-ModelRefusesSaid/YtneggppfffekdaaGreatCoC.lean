/-
  Contracts of package model: enter, in.
-/
import Derived.Test.YtneggppfffekdaaGreatCoB
namespace Go.Proofs.YtneggppfffekdaaGreat.Mod
open Go.ChangeShapes Go.WideShapes Go.ChangeAt Go.RowKit
open Slic Sco
set_option linter.unusedVariables false
set_option linter.unusedSimpArgs false
set_option maxRecDepth 8000
attribute [local go_sem ↓] Go.wp_at_zero Go.wp_at_succ
section
variable {w0 w w' : World} {Z : Fx} {m : Mo} {bx : Bx}
theorem own_tri {α : Type} {K : Kd α} {w : World} {b : Nat} {v : Value} {L : List α} (h : Own K w b v L) : ∃ x : Tri, v = sl3 x := by
  obtain ⟨A, c, e, _⟩ := h.sr
  exact ⟨(A, L.length, c), e⟩
theorem own_zero {α : Type} {K : Kd α} {w : World} {b : Nat} {v : Value} {L : List α} (h : Own K w b v L) : Own K w 0 v L := h.zero (Nat.zero_le _)
theorem Mw.own_forest {α : Type} {K : Kd α} (h : Mw w0 w Z m bx) {b : Nat} {v : Value} {L : List α} (O : Own K w b v L) (k : Only [Z.B, Z.g] w w') (h1 : (118 == K.T) = false) (h2 : (157 == K.T) = false) : Own K w' b v L := by
  obtain ⟨H, h⟩ := h
  refine own_types O k fun x hx => ?_
  simp at hx
  rcases hx with rfl | rfl
  · exact h.md.tB.no h1
  · exact h.md.tg.no h2
theorem Mw.bt_cell (h : Mw w0 w Z m bx) (k : Only [Z.B, Z.g] w w') (o : Nat) : w'.cell? ⟨Z.bt, o, none⟩ = w.cell? ⟨Z.bt, o, none⟩ := by
  obtain ⟨H, h⟩ := h
  refine k.cell h.md.tt.lt (fun hx => ?_) o
  simp at hx
  rcases hx with e | e
  · exact (h.md.tB.no (show (118 == 123) = false by decide)).ne h.md.tt e.symm
  · exact (h.md.tg.no (show (157 == 123) = false by decide)).ne h.md.tt e.symm
theorem Mw.bt_lt (h : Mw w0 w Z m bx) : Z.bt < w.heap.size := by
  obtain ⟨H, h⟩ := h
  exact h.md.tt.lt
theorem fo_enterO (h : Mw w0 w Z m bx) (n8 : Z.n ≤ 8) (i f : Int) :
    Calls Tryz.prog 122 #[ptr Z.B, .int .i64 i, .int .i64 f] w fun e w' => e = .returned (.int .i64 (turnV m.F i (enF f)).x) ∧ Mw w0 w' Z ⟨(turnV m.F i (enF f)).F, m.O, m.A, m.T⟩ bx ∧ Only [Z.B, Z.g] w w' :=
  (enter_any h.sc n8 i f).mono fun e w' ⟨he, hs, ho⟩ => ⟨he, h.forest hs (ho.mono (by simp)), ho.mono (by simp)⟩
theorem push_len {L : List Chain.E} {e : Chain.E} (h : Chain.pushE L = 0) : Chain.pushL L e = L ++ [e] := by
  unfold Chain.pushE at h
  unfold Chain.pushL
  split at h
  · cases h
  · rename_i c
    rw [if_neg c]
theorem turn_bad {F : Fo} {i : Int} {f : Cx → Ctl.R} (h : (turnV F i f).x ≠ 0) : (turnV F i f).F = F := by
  revert h
  unfold turnV
  cases Sco.look F.R i with
  | none => exact fun _ => rfl
  | some x =>
    by_cases h0 : (f x).x = 0
    · simp [h0]
    · simp [h0]
theorem Mw.turn_same {i : Int} {f : Cx → Ctl.R} (h : Mw w0 w Z ⟨(turnV m.F i f).F, m.O, m.A, m.T⟩ bx) (he : (turnV m.F i f).x ≠ 0) : Mw w0 w Z m bx := by
  rw [turn_bad he] at h
  exact h
set_option maxHeartbeats 2000000 in
theorem enter_anyM (h : Mw w0 w Z m bx) (n8 : Z.n ≤ 8) {t : Nat} (ht : t < Z.nt) (c : Ca) : Calls Tryz.prog 98 #[doV Z t c] w (Did w0 Z bx (enterV m t c.a)) := by
  have h1 := h.new (doA Z t c) doT
  have h2 := h1.new #[.int .i64 0, .int .i64 0, nil0] anT
  by_cases hs : scopeB m c.a = true
  · by_cases hp : Chain.pushE (m.ents t) = 0
    · have P0 := Lib.hid hp
      have PL := Lib.hid (push_len (e := (c.a, true)) hp)
      by_cases he : (turnV m.F c.a (enF (Chain.areaV (m.ents t)))).x = 0
      · have HE := Lib.hid he
        have HV := Lib.hid (show enterV m t c.a = (no 0, Mo.setEnt ⟨(turnV m.F c.a (enF (Chain.areaV (m.ents t)))).F, m.O, m.A, m.T⟩ t (m.ents t ++ [(c.a, true)])) by unfold enterV; rw [if_neg (by rw [hs]; simp), if_neg (by rw [hp]; simp), if_neg (by rw [he]; simp)])
        clear he hp
        go_enter Tryz.func98, Tryz.ntmps98
        go_wp2_with fail
        refine (isS_any h2 n8 t c).mono ?_
        rintro e w3 ⟨rfl, k3⟩
        rw [hs]
        have h3 := h2.call k3
        obtain ⟨_, p1, _, _, _, _, p6, _, _⟩ := do_cells h3 1 rfl
        obtain ⟨x3, ⟨_, _, _, _, r3⟩, f3, O3, _⟩ := h3.thr ht
        go_wp2_with fail
        go_region_held3 (fun w' => w'.cell? ⟨w.heap.size, 1, none⟩ = some (.pointer (some ⟨Z.bt, t * 5, none⟩)) ∧ w'.cell? ⟨w.heap.size, 6, none⟩ = some (.int .i64 c.a) ∧ w'.cell? ⟨Z.bt, t * 5 + 4, none⟩ = some (sl3 x3))
          (first | exact ⟨p1, p6, r3⟩ | exact T4)
          ((go_at_call 121; refine (Chain.push_any w3.drew (sl3 x3) (m.ents t) c.a true O3.drew.sr).mono ?_; rintro e w4 ⟨v4, rfl, O4, k4⟩
            have h4 := h3.drew.call k4
            have T4 : w4.cell? ⟨w.heap.size, 1, none⟩ = some (.pointer (some ⟨Z.bt, t * 5, none⟩)) ∧ w4.cell? ⟨w.heap.size, 6, none⟩ = some (.int .i64 c.a) ∧ w4.cell? ⟨Z.bt, t * 5 + 4, none⟩ = some (sl3 x3) := ⟨(do_cells h4 1 rfl).2.1, (do_cells h4 1 rfl).2.2.2.2.2.2.1, (k4.cell (p := ⟨Z.bt, t * 5 + 4, none⟩) h3.bt_lt).trans r3⟩))
        all_goals
          rw [P0.out]
          rw [PL.out] at O4
          obtain ⟨y, rfl⟩ := own_tri (K := kE) O4
          obtain ⟨q0, q1, _, _, _, _, q6, _, _⟩ := do_cells h4 1 rfl
          have r4 := T4.2.2
          have S4 := ((O3.drew).below k4).sr
          go_wp2_with fail
          go_region_held3 (fun w' => w'.cell? ⟨w.heap.size, 0, none⟩ = some (.pointer (some ⟨Z.B, 0, none⟩)) ∧ w'.cell? ⟨w.heap.size, 1, none⟩ = some (.pointer (some ⟨Z.bt, t * 5, none⟩)) ∧ w'.cell? ⟨w.heap.size, 6, none⟩ = some (.int .i64 c.a) ∧ w'.cell? ⟨Z.bt, t * 5 + 4, none⟩ = some (sl3 x3))
            (first | exact ⟨q0, q1, q6, r4⟩ | exact T5)
            (first
              | (go_at_call 123; refine (Chain.area_any w4.drew (sl3 x3) (m.ents t) S4.drew).mono ?_; rintro e w5 ⟨rfl, rfl⟩)
              | (go_at_call 122; refine (fo_enterO h4.drew n8 c.a (Chain.areaV (m.ents t))).mono ?_; rintro e w5 ⟨rfl, h5, o5⟩
                 have T5 : w5.cell? ⟨w.heap.size, 0, none⟩ = some (.pointer (some ⟨Z.B, 0, none⟩)) ∧ w5.cell? ⟨w.heap.size, 1, none⟩ = some (.pointer (some ⟨Z.bt, t * 5, none⟩)) ∧ w5.cell? ⟨w.heap.size, 6, none⟩ = some (.int .i64 c.a) ∧ w5.cell? ⟨Z.bt, t * 5 + 4, none⟩ = some (sl3 x3) := ⟨(do_cells h5 1 rfl).1, (do_cells h5 1 rfl).2.1, (do_cells h5 1 rfl).2.2.2.2.2.2.1, (h4.drew.bt_cell o5 _).trans r4⟩))
          all_goals
            rw [HE.out]
            have O5 : Chain.Own w5 0 (sl3 y) (m.ents t ++ [(c.a, true)]) := own_zero (K := kE) (h4.drew.own_forest (K := kE) (O4.drew) o5 (by decide) (by decide))
            obtain ⟨_, p51, _, _, _, _, _, _, _⟩ := do_cells h5 1 rfl
            have g4 := T5.2.2.2
            have ff := (h5.thr ht).choose_spec.2.1 (t * 5 + 4)
            have h6 := h5.putEnt ht y O5
            simp only [World.size_alloc] at h6
            obtain ⟨k0, k1, k2, f0, f1, f2⟩ := ans_cells h6 0 rfl
            go_wp2
            refine bodyPost_ret (v := anV 0 0 nil0) (by simp [results, Tryz.results98, go_sem, k0, k1, k2]) rfl ?_
            rw [HV.out]
            exact Did.plain rfl ((((h6.put 0 rfl rfl 0 _).put 0 rfl rfl 1 _).put 0 rfl rfl 2 _).drop 2)
      · have HV := Lib.hid (show enterV m t c.a = (no (turnV m.F c.a (enF (Chain.areaV (m.ents t)))).x, m) by unfold enterV; rw [if_neg (by rw [hs]; simp), if_neg (by rw [hp]; simp), if_pos he])
        have z : ((turnV m.F c.a (enF (Chain.areaV (m.ents t)))).x != 0) = true := bne_iff_ne.2 he
        have HN := Lib.hid he
        clear hp he
        go_enter Tryz.func98, Tryz.ntmps98
        go_wp2_with fail
        refine (isS_any h2 n8 t c).mono ?_
        rintro e w3 ⟨rfl, k3⟩
        rw [hs]
        have h3 := h2.call k3
        obtain ⟨_, p1, _, _, _, _, p6, _, _⟩ := do_cells h3 1 rfl
        obtain ⟨x3, ⟨_, _, _, _, r3⟩, f3, O3, _⟩ := h3.thr ht
        go_wp2_with fail
        go_region_held3 (fun w' => w'.cell? ⟨w.heap.size, 1, none⟩ = some (.pointer (some ⟨Z.bt, t * 5, none⟩)) ∧ w'.cell? ⟨w.heap.size, 6, none⟩ = some (.int .i64 c.a) ∧ w'.cell? ⟨Z.bt, t * 5 + 4, none⟩ = some (sl3 x3))
          (first | exact ⟨p1, p6, r3⟩ | exact T4)
          ((go_at_call 121; refine (Chain.push_any w3.drew (sl3 x3) (m.ents t) c.a true O3.drew.sr).mono ?_; rintro e w4 ⟨v4, rfl, O4, k4⟩
            have h4 := h3.drew.call k4
            have T4 : w4.cell? ⟨w.heap.size, 1, none⟩ = some (.pointer (some ⟨Z.bt, t * 5, none⟩)) ∧ w4.cell? ⟨w.heap.size, 6, none⟩ = some (.int .i64 c.a) ∧ w4.cell? ⟨Z.bt, t * 5 + 4, none⟩ = some (sl3 x3) := ⟨(do_cells h4 1 rfl).2.1, (do_cells h4 1 rfl).2.2.2.2.2.2.1, (k4.cell (p := ⟨Z.bt, t * 5 + 4, none⟩) h3.bt_lt).trans r3⟩))
        all_goals
          rw [P0.out]
          rw [PL.out] at O4
          obtain ⟨y, rfl⟩ := own_tri (K := kE) O4
          obtain ⟨q0, q1, _, _, _, _, q6, _, _⟩ := do_cells h4 1 rfl
          have r4 := T4.2.2
          have S4 := ((O3.drew).below k4).sr
          go_wp2_with fail
          go_region_held3 (fun w' => w'.cell? ⟨w.heap.size, 0, none⟩ = some (.pointer (some ⟨Z.B, 0, none⟩)) ∧ w'.cell? ⟨w.heap.size, 1, none⟩ = some (.pointer (some ⟨Z.bt, t * 5, none⟩)) ∧ w'.cell? ⟨w.heap.size, 6, none⟩ = some (.int .i64 c.a) ∧ w'.cell? ⟨Z.bt, t * 5 + 4, none⟩ = some (sl3 x3))
            (first | exact ⟨q0, q1, q6, r4⟩ | exact T5)
            (first
              | (go_at_call 123; refine (Chain.area_any w4.drew (sl3 x3) (m.ents t) S4.drew).mono ?_; rintro e w5 ⟨rfl, rfl⟩)
              | (go_at_call 122; refine (fo_enterO h4.drew n8 c.a (Chain.areaV (m.ents t))).mono ?_; rintro e w5 ⟨rfl, h5, o5⟩
                 have T5 : w5.cell? ⟨w.heap.size, 0, none⟩ = some (.pointer (some ⟨Z.B, 0, none⟩)) ∧ w5.cell? ⟨w.heap.size, 1, none⟩ = some (.pointer (some ⟨Z.bt, t * 5, none⟩)) ∧ w5.cell? ⟨w.heap.size, 6, none⟩ = some (.int .i64 c.a) ∧ w5.cell? ⟨Z.bt, t * 5 + 4, none⟩ = some (sl3 x3) := ⟨(do_cells h5 1 rfl).1, (do_cells h5 1 rfl).2.1, (do_cells h5 1 rfl).2.2.2.2.2.2.1, (h4.drew.bt_cell o5 _).trans r4⟩))
          all_goals
            have h6 := h5.turn_same HN.out
            go_wp2_with fail
            refine (refused_any w5 (turnV m.F c.a (enF (Chain.areaV (m.ents t)))).x).mono ?_
            rintro e wz ⟨rfl, kz⟩
            have hz := h6.call kz
            simp only [World.size_alloc] at hz
            obtain ⟨k0, k1, k2, f0, f1, f2⟩ := ans_cells hz 0 rfl
            go_wp2
            refine bodyPost_ret (v := anV (turnV m.F c.a (enF (Chain.areaV (m.ents t)))).x 0 nil0) (by simp [results, Tryz.results98, go_sem, k0, k1, k2]) rfl ?_
            rw [HV.out]
            exact Did.plain rfl ((((hz.put 0 rfl rfl 0 _).put 0 rfl rfl 1 _).put 0 rfl rfl 2 _).drop 2)
    · have HV := Lib.hid (show enterV m t c.a = (no (Chain.pushE (m.ents t)), m) by unfold enterV; rw [if_neg (by rw [hs]; simp), if_pos hp])
      have z : (Chain.pushE (m.ents t) != 0) = true := bne_iff_ne.2 hp
      go_enter Tryz.func98, Tryz.ntmps98
      go_wp2_with fail
      refine (isS_any h2 n8 t c).mono ?_
      rintro e w3 ⟨rfl, k3⟩
      rw [hs]
      have h3 := h2.call k3
      obtain ⟨_, p1, _, _, _, _, p6, _, _⟩ := do_cells h3 1 rfl
      obtain ⟨x3, ⟨_, _, _, _, r3⟩, f3, O3, _⟩ := h3.thr ht
      go_wp2_with fail
      go_region_held3 (fun w' => w'.cell? ⟨w.heap.size, 1, none⟩ = some (.pointer (some ⟨Z.bt, t * 5, none⟩)) ∧ w'.cell? ⟨w.heap.size, 6, none⟩ = some (.int .i64 c.a) ∧ w'.cell? ⟨Z.bt, t * 5 + 4, none⟩ = some (sl3 x3))
        (first | exact ⟨p1, p6, r3⟩ | exact T4)
        ((go_at_call 121; refine (Chain.push_any w3.drew (sl3 x3) (m.ents t) c.a true O3.drew.sr).mono ?_; rintro e w4 ⟨v4, rfl, O4, k4⟩
          have h4 := h3.drew.call k4
          have T4 : w4.cell? ⟨w.heap.size, 1, none⟩ = some (.pointer (some ⟨Z.bt, t * 5, none⟩)) ∧ w4.cell? ⟨w.heap.size, 6, none⟩ = some (.int .i64 c.a) ∧ w4.cell? ⟨Z.bt, t * 5 + 4, none⟩ = some (sl3 x3) := ⟨(do_cells h4 1 rfl).2.1, (do_cells h4 1 rfl).2.2.2.2.2.2.1, (k4.cell (p := ⟨Z.bt, t * 5 + 4, none⟩) h3.bt_lt).trans r3⟩))
      all_goals
        go_wp2_with fail
        refine (refused_any w4 (Chain.pushE (m.ents t))).mono ?_
        rintro e wz ⟨rfl, kz⟩
        have hz := h4.call kz
        simp only [World.size_alloc] at hz
        obtain ⟨k0, k1, k2, f0, f1, f2⟩ := ans_cells hz 0 rfl
        go_wp2
        refine bodyPost_ret (v := anV (Chain.pushE (m.ents t)) 0 nil0) (by simp [results, Tryz.results98, go_sem, k0, k1, k2]) rfl ?_
        rw [HV.out]
        exact Did.plain rfl ((((hz.put 0 rfl rfl 0 _).put 0 rfl rfl 1 _).put 0 rfl rfl 2 _).drop 2)
  · have hs : scopeB m c.a = false := by simpa using hs
    have HV := Lib.hid (show enterV m t c.a = (no 11, m) by unfold enterV; rw [if_pos hs])
    go_enter Tryz.func98, Tryz.ntmps98
    go_wp2_with fail
    refine (isS_any h2 n8 t c).mono ?_
    rintro e w3 ⟨rfl, k3⟩
    rw [hs]
    have h3 := h2.call k3
    go_wp2_with fail
    refine (refused_any w3 11).mono ?_
    rintro e wz ⟨rfl, kz⟩
    have hz := h3.call kz
    simp only [World.size_alloc] at hz
    obtain ⟨k0, k1, k2, f0, f1, f2⟩ := ans_cells hz 0 rfl
    go_wp2
    refine bodyPost_ret (v := anV 11 0 nil0) (by simp [results, Tryz.results98, go_sem, k0, k1, k2]) rfl ?_
    rw [HV.out]
    exact Did.plain rfl ((((hz.put 0 rfl rfl 0 _).put 0 rfl rfl 1 _).put 0 rfl rfl 2 _).drop 2)
set_option maxHeartbeats 2000000 in
theorem in_anyM (h : Mw w0 w Z m bx) (n8 : Z.n ≤ 8) {t : Nat} (ht : t < Z.nt) (c : Ca) : Calls Tryz.prog 100 #[doV Z t c] w (Did w0 Z bx (inV m t c.a)) := by
  have h1 := h.new (doA Z t c) doT
  have h2 := h1.new #[.int .i64 0, .int .i64 0, nil0] anT
  obtain ⟨d0, _, _, _, _, _, d6, _, _⟩ := do_cells h2 1 rfl
  have hA := h.nA
  by_cases hi : inN c.a Z.n = true
  · have hi' : decide (0 ≤ c.a ∧ c.a < (m.A.length : Int)) = true := by rw [hA]; exact hi
    by_cases hr : Chain.reachV (m.ents t) c.a = true
    · by_cases hp : Chain.pushE (m.ents t) = 0
      · have P0 := Lib.hid hp
        have PL := Lib.hid (push_len (e := (c.a, false)) hp)
        have HV := Lib.hid (show inV m t c.a = (no 0, m.setEnt t (m.ents t ++ [(c.a, false)])) by unfold inV; rw [if_neg (by rw [hi']; simp), if_neg (by rw [hr]; simp), if_neg (by rw [hp]; simp)])
        clear hp
        go_enter Tryz.func100, Tryz.ntmps100
        go_wp2_with (go_at_call 57; refine (hasS_any h2 n8 c.a).mono ?_; rintro e wq ⟨rfl, rfl⟩; rw [hi])
        obtain ⟨_, p1, _, _, _, _, p6, _, _⟩ := do_cells h2 1 rfl
        obtain ⟨x3, ⟨_, _, _, _, r3⟩, f3, O3, _⟩ := h2.thr ht
        go_region_held3 (fun w' => w'.cell? ⟨w.heap.size, 1, none⟩ = some (.pointer (some ⟨Z.bt, t * 5, none⟩)) ∧ w'.cell? ⟨w.heap.size, 6, none⟩ = some (.int .i64 c.a) ∧ w'.cell? ⟨Z.bt, t * 5 + 4, none⟩ = some (sl3 x3))
          (first | exact ⟨p1, p6, r3⟩ | exact T3)
          ((go_at_call 126; refine (Chain.reach_any _ (sl3 x3) (m.ents t) c.a O3.drew.sr).mono ?_; rintro e w3 ⟨rfl, k3⟩
            rw [hr]
            have h3 := h2.drew.call k3
            have T3 : w3.cell? ⟨w.heap.size, 1, none⟩ = some (.pointer (some ⟨Z.bt, t * 5, none⟩)) ∧ w3.cell? ⟨w.heap.size, 6, none⟩ = some (.int .i64 c.a) ∧ w3.cell? ⟨Z.bt, t * 5 + 4, none⟩ = some (sl3 x3) := ⟨(do_cells h3 1 rfl).2.1, (do_cells h3 1 rfl).2.2.2.2.2.2.1, (k3.cell (p := ⟨Z.bt, t * 5 + 4, none⟩) h2.bt_lt).trans r3⟩))
        all_goals
          have O33 := O3.drew.below k3
          obtain ⟨p1, p6, r3⟩ := T3
          go_wp2_with fail
          go_region_held3 (fun w' => w'.cell? ⟨w.heap.size, 1, none⟩ = some (.pointer (some ⟨Z.bt, t * 5, none⟩)) ∧ w'.cell? ⟨w.heap.size, 6, none⟩ = some (.int .i64 c.a) ∧ w'.cell? ⟨Z.bt, t * 5 + 4, none⟩ = some (sl3 x3))
            (first | exact ⟨p1, p6, r3⟩ | exact T4)
            ((go_at_call 121; refine (Chain.push_any w3.drew (sl3 x3) (m.ents t) c.a false O33.drew.sr).mono ?_; rintro e w4 ⟨v4, rfl, O4, k4⟩
              have h4 := h3.drew.call k4
              have T4 : w4.cell? ⟨w.heap.size, 1, none⟩ = some (.pointer (some ⟨Z.bt, t * 5, none⟩)) ∧ w4.cell? ⟨w.heap.size, 6, none⟩ = some (.int .i64 c.a) ∧ w4.cell? ⟨Z.bt, t * 5 + 4, none⟩ = some (sl3 x3) := ⟨(do_cells h4 1 rfl).2.1, (do_cells h4 1 rfl).2.2.2.2.2.2.1, (k4.cell (p := ⟨Z.bt, t * 5 + 4, none⟩) h3.bt_lt).trans r3⟩))
          all_goals
            rw [P0.out]
            rw [PL.out] at O4
            obtain ⟨y, rfl⟩ := own_tri (K := kE) O4
            obtain ⟨_, q1, _, _, _, _, q6, _, _⟩ := do_cells h4 1 rfl
            have r4 := T4.2.2
            have ff := (h4.thr ht).choose_spec.2.1 (t * 5 + 4)
            have h6 := h4.putEnt ht y (own_zero (K := kE) O4)
            simp only [World.size_alloc] at h6
            obtain ⟨k0, k1, k2, f0, f1, f2⟩ := ans_cells h6 0 rfl
            go_wp2
            refine bodyPost_ret (v := anV 0 0 nil0) (by simp [results, Tryz.results100, go_sem, k0, k1, k2]) rfl ?_
            rw [HV.out]
            exact Did.plain rfl ((((h6.put 0 rfl rfl 0 _).put 0 rfl rfl 1 _).put 0 rfl rfl 2 _).drop 2)
      · have HV := Lib.hid (show inV m t c.a = (no (Chain.pushE (m.ents t)), m) by unfold inV; rw [if_neg (by rw [hi']; simp), if_neg (by rw [hr]; simp), if_pos hp])
        have z : (Chain.pushE (m.ents t) != 0) = true := bne_iff_ne.2 hp
        go_enter Tryz.func100, Tryz.ntmps100
        go_wp2_with (go_at_call 57; refine (hasS_any h2 n8 c.a).mono ?_; rintro e wq ⟨rfl, rfl⟩; rw [hi])
        obtain ⟨_, p1, _, _, _, _, p6, _, _⟩ := do_cells h2 1 rfl
        obtain ⟨x3, ⟨_, _, _, _, r3⟩, f3, O3, _⟩ := h2.thr ht
        go_region_held3 (fun w' => w'.cell? ⟨w.heap.size, 1, none⟩ = some (.pointer (some ⟨Z.bt, t * 5, none⟩)) ∧ w'.cell? ⟨w.heap.size, 6, none⟩ = some (.int .i64 c.a) ∧ w'.cell? ⟨Z.bt, t * 5 + 4, none⟩ = some (sl3 x3))
          (first | exact ⟨p1, p6, r3⟩ | exact T3)
          ((go_at_call 126; refine (Chain.reach_any _ (sl3 x3) (m.ents t) c.a O3.drew.sr).mono ?_; rintro e w3 ⟨rfl, k3⟩
            rw [hr]
            have h3 := h2.drew.call k3
            have T3 : w3.cell? ⟨w.heap.size, 1, none⟩ = some (.pointer (some ⟨Z.bt, t * 5, none⟩)) ∧ w3.cell? ⟨w.heap.size, 6, none⟩ = some (.int .i64 c.a) ∧ w3.cell? ⟨Z.bt, t * 5 + 4, none⟩ = some (sl3 x3) := ⟨(do_cells h3 1 rfl).2.1, (do_cells h3 1 rfl).2.2.2.2.2.2.1, (k3.cell (p := ⟨Z.bt, t * 5 + 4, none⟩) h2.bt_lt).trans r3⟩))
        all_goals
          have O33 := O3.drew.below k3
          obtain ⟨p1, p6, r3⟩ := T3
          go_wp2_with fail
          go_region_held3 (fun w' => w'.cell? ⟨w.heap.size, 1, none⟩ = some (.pointer (some ⟨Z.bt, t * 5, none⟩)) ∧ w'.cell? ⟨w.heap.size, 6, none⟩ = some (.int .i64 c.a) ∧ w'.cell? ⟨Z.bt, t * 5 + 4, none⟩ = some (sl3 x3))
            (first | exact ⟨p1, p6, r3⟩ | exact T4)
            ((go_at_call 121; refine (Chain.push_any w3.drew (sl3 x3) (m.ents t) c.a false O33.drew.sr).mono ?_; rintro e w4 ⟨v4, rfl, O4, k4⟩
              have h4 := h3.drew.call k4
              have T4 : w4.cell? ⟨w.heap.size, 1, none⟩ = some (.pointer (some ⟨Z.bt, t * 5, none⟩)) ∧ w4.cell? ⟨w.heap.size, 6, none⟩ = some (.int .i64 c.a) ∧ w4.cell? ⟨Z.bt, t * 5 + 4, none⟩ = some (sl3 x3) := ⟨(do_cells h4 1 rfl).2.1, (do_cells h4 1 rfl).2.2.2.2.2.2.1, (k4.cell (p := ⟨Z.bt, t * 5 + 4, none⟩) h3.bt_lt).trans r3⟩))
          all_goals
            go_wp2_with fail
            refine (refused_any w4 (Chain.pushE (m.ents t))).mono ?_
            rintro e wz ⟨rfl, kz⟩
            have hz := h4.call kz
            simp only [World.size_alloc] at hz
            obtain ⟨k0, k1, k2, f0, f1, f2⟩ := ans_cells hz 0 rfl
            go_wp2
            refine bodyPost_ret (v := anV (Chain.pushE (m.ents t)) 0 nil0) (by simp [results, Tryz.results100, go_sem, k0, k1, k2]) rfl ?_
            rw [HV.out]
            exact Did.plain rfl ((((hz.put 0 rfl rfl 0 _).put 0 rfl rfl 1 _).put 0 rfl rfl 2 _).drop 2)
    · have hr : Chain.reachV (m.ents t) c.a = false := by simpa using hr
      have HV := Lib.hid (show inV m t c.a = (no 20, m) by unfold inV; rw [if_neg (by rw [hi']; simp), if_pos hr])
      go_enter Tryz.func100, Tryz.ntmps100
      go_wp2_with (go_at_call 57; refine (hasS_any h2 n8 c.a).mono ?_; rintro e wq ⟨rfl, rfl⟩; rw [hi])
      obtain ⟨_, p1, _, _, _, _, p6, _, _⟩ := do_cells h2 1 rfl
      obtain ⟨x3, ⟨_, _, _, _, r3⟩, f3, O3, _⟩ := h2.thr ht
      go_region_held3 (fun w' => w'.cell? ⟨w.heap.size, 1, none⟩ = some (.pointer (some ⟨Z.bt, t * 5, none⟩)) ∧ w'.cell? ⟨w.heap.size, 6, none⟩ = some (.int .i64 c.a) ∧ w'.cell? ⟨Z.bt, t * 5 + 4, none⟩ = some (sl3 x3))
        (first | exact ⟨p1, p6, r3⟩ | exact T3)
        ((go_at_call 126; refine (Chain.reach_any _ (sl3 x3) (m.ents t) c.a O3.drew.sr).mono ?_; rintro e w3 ⟨rfl, k3⟩
          rw [hr]
          have h3 := h2.drew.call k3
          have T3 : w3.cell? ⟨w.heap.size, 1, none⟩ = some (.pointer (some ⟨Z.bt, t * 5, none⟩)) ∧ w3.cell? ⟨w.heap.size, 6, none⟩ = some (.int .i64 c.a) ∧ w3.cell? ⟨Z.bt, t * 5 + 4, none⟩ = some (sl3 x3) := ⟨(do_cells h3 1 rfl).2.1, (do_cells h3 1 rfl).2.2.2.2.2.2.1, (k3.cell (p := ⟨Z.bt, t * 5 + 4, none⟩) h2.bt_lt).trans r3⟩))
      all_goals
        go_wp2_with fail
        refine (refused_any w3 20).mono ?_
        rintro e wz ⟨rfl, kz⟩
        have hz := h3.call kz
        simp only [World.size_alloc] at hz
        obtain ⟨k0, k1, k2, f0, f1, f2⟩ := ans_cells hz 0 rfl
        go_wp2
        refine bodyPost_ret (v := anV 20 0 nil0) (by simp [results, Tryz.results100, go_sem, k0, k1, k2]) rfl ?_
        rw [HV.out]
        exact Did.plain rfl ((((hz.put 0 rfl rfl 0 _).put 0 rfl rfl 1 _).put 0 rfl rfl 2 _).drop 2)
  · have hi : inN c.a Z.n = false := by simpa using hi
    have hi' : decide (0 ≤ c.a ∧ c.a < (m.A.length : Int)) = false := by rw [hA]; exact hi
    have HV := Lib.hid (show inV m t c.a = (no 11, m) by unfold inV; rw [if_pos hi'])
    go_enter Tryz.func100, Tryz.ntmps100
    go_wp2_with (go_at_call 57; refine (hasS_any h2 n8 c.a).mono ?_; rintro e wq ⟨rfl, rfl⟩; rw [hi])
    refine (refused_any _ 11).mono ?_
    rintro e wz ⟨rfl, kz⟩
    have hz := h2.call kz
    simp only [World.size_alloc] at hz
    obtain ⟨k0, k1, k2, f0, f1, f2⟩ := ans_cells hz 0 rfl
    go_wp2
    refine bodyPost_ret (v := anV 11 0 nil0) (by simp [results, Tryz.results100, go_sem, k0, k1, k2]) rfl ?_
    rw [HV.out]
    exact Did.plain rfl ((((hz.put 0 rfl rfl 0 _).put 0 rfl rfl 1 _).put 0 rfl rfl 2 _).drop 2)
end
end Go.Proofs.YtneggppfffekdaaGreat.Mod
