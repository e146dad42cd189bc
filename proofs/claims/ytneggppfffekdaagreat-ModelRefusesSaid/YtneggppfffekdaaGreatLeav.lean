/-
  Contract of package model: leave, exit.
-/
import Derived.Test.YtneggppfffekdaaGreatEmpt
namespace Go.Proofs.YtneggppfffekdaaGreat.Mod
open Go.ChangeShapes Go.WideShapes Go.ChangeAt Go.RowKit Go.Shelf
open Slic Sco
set_option linter.unusedVariables false
set_option linter.unusedSimpArgs false
set_option maxRecDepth 8000
attribute [local go_sem] Oper.semAt_some

def leaveV (FF : List (List Fina.O)) (m : Mo) (s : Int) : Re2 :=
  if (turnV m.F s leF).x ≠ 0 ∨ (turnV m.F s leF).d = false then (no (turnV m.F s leF).x, ⟨(turnV m.F s leF).F, m.O, m.A, m.T⟩)
  else if finHeld FF s m.O = true then (⟨25, ((todoL FF s m.O).length : Int), finSaid FF s m.O⟩, ⟨(turnV (turnV m.F s leF).F s hoF).F, m.O.map (fin1 FF s), m.A, m.T⟩)
  else (⟨0, ((todoL FF s m.O).length : Int), finSaid FF s m.O⟩, ⟨(turnV (turnV m.F s leF).F s opF).F, m.O.filter (fun o => !decide (o.s = s)), m.A.set s.toNat ar0, m.T⟩)
theorem fin1_h (FF : List (List Fina.O)) (s : Int) (o : Ob) : (fin1 FF s o).h = o.h ∧ (fin1 FF s o).s = o.s ∧ (fin1 FF s o).e = o.e ∧ (fin1 FF s o).a = o.a ∧ (fin1 FF s o).sl.length = o.sl.length := by
  unfold fin1
  split
  · exact ⟨rfl, rfl, rfl, rfl, (Fina.walk_len _ _ _).1⟩
  · exact ⟨rfl, rfl, rfl, rfl, rfl⟩
theorem fin1_drop (FF : List (List Fina.O)) (s : Int) (O : List Ob) : (O.map (fin1 FF s)).filter (fun o => !decide (o.s = s)) = O.filter (fun o => !decide (o.s = s)) := by
  induction O with
  | nil => rfl
  | cons o O ih =>
    rw [List.map_cons, List.filter_cons, List.filter_cons, (fin1_h FF s o).2.1, ih]
    split
    · rename_i c
      congr 1
      unfold fin1 todo
      have : ¬ o.s = s := by simpa using c
      rw [if_neg (by simp [this])]
    · rfl
theorem turn_len (F : Fo) (i : Int) (f : Cx → Ctl.R) : (turnV F i f).F.R.length = F.R.length := by
  unfold turnV
  split
  · rfl
  · split
    · exact List.length_set ..
    · rfl
section
variable {w0 w w' : World} {Z : Fx} {H : Hp} {G : Gs} {m : Mo} {bx : Bx} {k : Nat}
theorem Lv.forest (v : Lv Z k m) (i : Int) (f : Cx → Ctl.R) : Lv Z k ⟨(turnV m.F i f).F, m.O, m.A, m.T⟩ := ⟨v.n8, (turn_len _ _ _).trans v.lenR, v.nA, v.cnt, v.hne, v.rt, v.sl6⟩
theorem Lv.fins (v : Lv Z k m) (FF : List (List Fina.O)) (s : Int) : Lv Z k ⟨m.F, m.O.map (fin1 FF s), m.A, m.T⟩ where
  n8 := v.n8
  lenR := v.lenR
  nA := v.nA
  cnt := by rw [List.length_map]; exact v.cnt
  hne := by
    refine pair_of_map (O := m.O) ?_ v.hne
    rw [List.map_map]
    exact List.map_congr_left fun o _ => (fin1_h FF s o).1
  rt := fun o ho => by
    obtain ⟨q, hq, rfl⟩ := List.mem_map.1 ho
    obtain ⟨_, e1, e2, e3, _⟩ := fin1_h FF s q
    rw [e1, e2, e3]
    exact v.rt q hq
  sl6 := fun o ho => by
    obtain ⟨q, hq, rfl⟩ := List.mem_map.1 ho
    rw [(fin1_h FF s q).2.2.2.2]
    exact v.sl6 q hq
theorem fo_holdO (h : Mw w0 w Z m bx) (n8 : Z.n ≤ 8) (i : Int) :
    Calls Tryz.prog 151 #[ptr Z.B, .int .i64 i] w fun e w' => e = .returned (.int .i64 (turnV m.F i hoF).x) ∧ Mw w0 w' Z ⟨(turnV m.F i hoF).F, m.O, m.A, m.T⟩ bx ∧ Only [Z.B, Z.g] w w' :=
  (hold_any h.sc n8 i).mono fun e w' ⟨he, hs, ho⟩ => ⟨he, h.forest hs (ho.mono (by simp)), ho.mono (by simp)⟩
theorem fo_openO (h : Mw w0 w Z m bx) (n8 : Z.n ≤ 8) (i : Int) :
    Calls Tryz.prog 153 #[ptr Z.B, .int .i64 i] w fun e w' => e = .returned (.int .i64 (turnV m.F i opF).x) ∧ Mw w0 w' Z ⟨(turnV m.F i opF).F, m.O, m.A, m.T⟩ bx ∧ Only [Z.B, Z.g] w w' :=
  (open_any h.sc n8 i).mono fun e w' ⟨he, hs, ho⟩ => ⟨he, h.forest hs (ho.mono (by simp)), ho.mono (by simp)⟩
theorem DidO.plain {c n : Int} {e : Ending} (he : e = .returned (anV c n nil0)) (h : Mw w0 w' Z m bx) : DidO w0 Z bx (⟨c, n, []⟩, m) e w' := ⟨(none, 0, 0), he, Slic.Own.nil _ _, h⟩
/-- A row of what was said stays when a local block is stored into. -/
theorem own_local {b : Nat} {cs : Array Value} {t : TypeId} {W W' : World} {v : Value} {L : List Int} (o : Slic.Own Fina.kI W 0 v L) (hb : W.heap[b]? = some (.cells cs t (0, 0))) (ht : (t == Fina.kI.T) = false) (k : Only [b] W W') : Slic.Own Fina.kI W' 0 v L :=
  own_types o k fun x hx => by rw [List.mem_singleton.1 hx]; exact (isT.of hb).no ht
theorem put3 {W : World} {b : Nat} (x y z : Value) : Only [b] W (((W.setCell ⟨b, 0, none⟩ x).setCell ⟨b, 1, none⟩ y).setCell ⟨b, 2, none⟩ z) := ((Only.put W _ _ _ (by simp)).trans (Only.put _ _ _ _ (by simp))).trans (Only.put _ b _ _ (by simp))
set_option maxHeartbeats 4000000 in
theorem leave_anyM (h : Mw w0 w Z m bx) (v : Lv Z k m) (hk : k ≤ 10000) (ff : Fok Z.FF) (s : Nat) (hs1 : s < Z.n) :
    Calls Tryz.prog 125 #[ptr Z.B, .int .i64 (s : Int)] w (DidO w0 Z bx (leaveV Z.FF m s)) := by
  have h1 := h.new #[.int .i64 0, .int .i64 0, nil0] anT
  by_cases hx : (turnV m.F s leF).x = 0
  · have X0 := Lib.hid hx
    cases hd : (turnV m.F s leF).d with
    | true =>
      have D0 := Lib.hid hd
      have v1 := v.forest s leF
      have v2 := v1.fins Z.FF s
      cases hh : finHeld Z.FF s m.O with
      | true =>
        have HV := Lib.hid (show leaveV Z.FF m s = (⟨25, ((todoL Z.FF s m.O).length : Int), finSaid Z.FF s m.O⟩, ⟨(turnV (turnV m.F s leF).F s hoF).F, m.O.map (fin1 Z.FF s), m.A, m.T⟩) by
          unfold leaveV
          rw [if_neg (by rw [hx, hd]; simp), if_pos hh])
        have HF := Lib.hid (show finV Z.FF s ⟨(turnV m.F s leF).F, m.O, m.A, m.T⟩ = (⟨25, ((todoL Z.FF s m.O).length : Int), finSaid Z.FF s m.O⟩, ⟨(turnV m.F s leF).F, m.O.map (fin1 Z.FF s), m.A, m.T⟩) by unfold finV; simp only [hh]; rfl)
        clear hh hx hd
        go_enter Tryz.func125, Tryz.ntmps125
        go_wp2_with fail
        refine (fo_leave h1 v.n8 s).mono ?_
        rintro e w2 ⟨rfl, h2⟩
        rw [X0.out, D0.out]
        go_wp2_with fail
        refine (finalize_any h2 v1 hk ff s hs1).mono ?_
        rintro e w3 ⟨x3, rfl, S3, h3⟩
        rw [HF.out] at S3 h3 ⊢
        dsimp only at S3 h3 ⊢
        generalize (todoL Z.FF s m.O).length = nn at HV ⊢
        generalize finSaid Z.FF s m.O = sa at HV S3
        have h5 := h3.new #[.int .i64 25, .int .i64 (nn : Int), sl3 x3] anT
        obtain ⟨k0, k1, k2, f0, f1, f2⟩ := ans_cells h5 0 rfl
        have S5 := own_types S3 (Only.below (X := []) (below_one w3 (.cells #[.int .i64 25, .int .i64 (nn : Int), sl3 x3] anT))) (fun x hx => absurd hx List.not_mem_nil)
        go_wp2_with fail
        refine (fo_holdO h5 v.n8 s).mono ?_
        rintro e w6 ⟨rfl, h6, k6⟩
        have S6 := h5.own_forest S5 k6 rfl rfl
        obtain ⟨q0, q1, q2, g0, g1, g2⟩ := ans_cells h6 0 rfl
        obtain ⟨r0, r1, r2, i0, i1, i2⟩ := ans_cells h6 1 rfl
        have h7 := ((h6.put 1 rfl rfl 0 (.int .i64 25)).put 1 rfl rfl 1 (.int .i64 (nn : Int))).put 1 rfl rfl 2 (sl3 x3)
        have S7 := own_local S6 (h6.at 1 rfl) rfl (put3 (.int .i64 25) (.int .i64 (nn : Int)) (sl3 x3))
        go_wp2
        refine bodyPost_ret (v := anV 25 (nn : Int) (sl3 x3)) (by simp [results, Tryz.results125, go_sem, r0, r1, r2]) rfl ?_
        rw [HV.out]
        exact ⟨x3, rfl, S7, h7.drop 2⟩
      | false =>
        have HV := Lib.hid (show leaveV Z.FF m s = (⟨0, ((todoL Z.FF s m.O).length : Int), finSaid Z.FF s m.O⟩, ⟨(turnV (turnV m.F s leF).F s opF).F, m.O.filter (fun o => !decide (o.s = (s : Int))), m.A.set s ar0, m.T⟩) by
          unfold leaveV
          rw [if_neg (by rw [hx, hd]; simp), if_neg (by rw [hh]; simp)]
          rfl)
        have HF := Lib.hid (show finV Z.FF s ⟨(turnV m.F s leF).F, m.O, m.A, m.T⟩ = (⟨0, ((todoL Z.FF s m.O).length : Int), finSaid Z.FF s m.O⟩, ⟨(turnV m.F s leF).F, m.O.map (fin1 Z.FF s), m.A, m.T⟩) by unfold finV; simp only [hh]; rfl)
        have HE := Lib.hid (show emptyV ⟨(turnV m.F s leF).F, m.O.map (fin1 Z.FF s), m.A, m.T⟩ (s : Int) = ⟨(turnV m.F s leF).F, m.O.filter (fun o => !decide (o.s = (s : Int))), m.A.set s ar0, m.T⟩ by unfold emptyV; rw [fin1_drop]; rfl)
        clear hh hx hd
        go_enter Tryz.func125, Tryz.ntmps125
        go_wp2_with fail
        refine (fo_leave h1 v.n8 s).mono ?_
        rintro e w2 ⟨rfl, h2⟩
        rw [X0.out, D0.out]
        go_wp2_with fail
        refine (finalize_any h2 v1 hk ff s hs1).mono ?_
        rintro e w3 ⟨x3, rfl, S3, h3⟩
        rw [HF.out] at S3 h3 ⊢
        dsimp only at S3 h3 ⊢
        generalize (todoL Z.FF s m.O).length = nn at HV ⊢
        generalize finSaid Z.FF s m.O = sa at HV S3
        have h5 := h3.new #[.int .i64 0, .int .i64 (nn : Int), sl3 x3] anT
        obtain ⟨k0, k1, k2, f0, f1, f2⟩ := ans_cells h5 0 rfl
        have S5 := own_types S3 (Only.below (X := []) (below_one w3 (.cells #[.int .i64 0, .int .i64 (nn : Int), sl3 x3] anT))) (fun x hx => absurd hx List.not_mem_nil)
        go_wp2_with fail
        refine (empty_any h5 v2 hk s hs1).mono ?_
        rintro e w6 ⟨rfl, h6, K6⟩
        have S6 := K6 _ _ S5
        rw [HE.out] at h6
        go_wp2_with fail
        refine (fo_openO h6 v.n8 s).mono ?_
        rintro e w7 ⟨rfl, h7, k7⟩
        have S7 := h6.own_forest S6 k7 rfl rfl
        obtain ⟨q0, q1, q2, g0, g1, g2⟩ := ans_cells h7 0 rfl
        obtain ⟨r0, r1, r2, i0, i1, i2⟩ := ans_cells h7 1 rfl
        have h8 := ((h7.put 1 rfl rfl 0 (.int .i64 0)).put 1 rfl rfl 1 (.int .i64 (nn : Int))).put 1 rfl rfl 2 (sl3 x3)
        have S8 := own_local S7 (h7.at 1 rfl) rfl (put3 (.int .i64 0) (.int .i64 (nn : Int)) (sl3 x3))
        go_wp2
        refine bodyPost_ret (v := anV 0 (nn : Int) (sl3 x3)) (by simp [results, Tryz.results125, go_sem, r0, r1, r2]) rfl ?_
        rw [HV.out]
        exact ⟨x3, rfl, S8, h8.drop 2⟩
    | false =>
      have HV := Lib.hid (show leaveV Z.FF m s = (no 0, ⟨(turnV m.F s leF).F, m.O, m.A, m.T⟩) by
        unfold leaveV
        rw [if_pos (.inr hd), hx])
      have D0 := Lib.hid hd
      clear hx hd
      go_enter Tryz.func125, Tryz.ntmps125
      go_wp2_with fail
      refine (fo_leave h1 v.n8 s).mono ?_
      rintro e w2 ⟨rfl, h2⟩
      rw [X0.out, D0.out]
      obtain ⟨k0, k1, k2, f0, f1, f2⟩ := ans_cells h2 0 rfl
      go_wp2
      refine bodyPost_ret (v := anV 0 0 nil0) (by simp [results, Tryz.results125, go_sem, k0, k1, k2]) rfl ?_
      rw [HV.out]
      exact DidO.plain rfl ((((h2.put 0 rfl rfl 0 _).put 0 rfl rfl 1 _).put 0 rfl rfl 2 _).drop 1)
  · have HV := Lib.hid (show leaveV Z.FF m s = (no (turnV m.F s leF).x, ⟨(turnV m.F s leF).F, m.O, m.A, m.T⟩) by
      unfold leaveV
      rw [if_pos (.inl hx)])
    have z : ((turnV m.F s leF).x != 0) = true := bne_iff_ne.2 hx
    go_enter Tryz.func125, Tryz.ntmps125
    go_wp2_with fail
    refine (fo_leave h1 v.n8 s).mono ?_
    rintro e w2 ⟨rfl, h2⟩
    obtain ⟨k0, k1, k2, f0, f1, f2⟩ := ans_cells h2 0 rfl
    go_wp2
    refine bodyPost_ret (v := anV (turnV m.F s leF).x 0 nil0) (by simp [results, Tryz.results125, go_sem, k0, k1, k2]) rfl ?_
    rw [HV.out]
    exact DidO.plain rfl ((((h2.put 0 rfl rfl 0 _).put 0 rfl rfl 1 _).put 0 rfl rfl 2 _).drop 1)
end
end Go.Proofs.YtneggppfffekdaaGreat.Mod
