/-
  Contracts of package model: registers and entries told; a number that is given; calls that do nothing, set, make and unmake.
-/
import Derived.Test.YtneggppfffekdaaGreatCoA
import Derived.Lib.SliceRun
namespace Go.Proofs.YtneggppfffekdaaGreat.Mod
open Go.ChangeShapes Go.WideShapes Go.ChangeAt Go.RowKit
open Slic Sco
set_option linter.unusedVariables false
set_option linter.unusedSimpArgs false
set_option maxRecDepth 8000
attribute [local go_sem ↓] Go.wp_at_zero Go.wp_at_succ

set_option maxHeartbeats 1000000 in
theorem cloneE_any (w : World) (v : Value) {S : List _} (h : Sr kE w v S) (hS : S.length ≤ 100000) : Calls Tryz.prog 55 #[v] w fun e w' => ∃ v', e = .returned v' ∧ Own kE w' w.heap.size v' S ∧ Below w.heap.size w w' := by
  have h' := h
  obtain ⟨A, c, rfl, h1, h2, h3, h4⟩ := h
  clear h4
  have q : ∀ (W : World) (a : Option Addr) (n c : Nat), (binOp .eql 57 (.slice a n c) (.slice none 0 0)).run Tryz.prog W = .ok (.bool a.isNone) W := fun W a n c => Lib.run_eql_slice_nil W _ _ a n c 0 0 kE.under
  rcases A with _ | x
  · have hc := h3 rfl
    subst hc
    have e : S = [] := List.eq_nil_of_length_eq_zero (by omega)
    subst e
    clear h' h1 h2 h3
    go_enter Tryz.func55, Tryz.ntmps55
    go_wp2
    go_ret
    exact ⟨_, rfl, Own.nil _ _, Below.refl _ _⟩
  · clear h3
    go_enter Tryz.func55, Tryz.ntmps55
    go_wp2_with (
      refine wpList_app (K := kE) rfl (.tmp 5) (.tmp 6) rfl rfl rfl rfl (Own.empty w w.heap.size (Nat.le_refl _)) (h'.alloc _) (by simp; omega) (by simp) ?_
      intro v' w' O' g' G')
    go_ret
    exact ⟨_, rfl, O', G'.below _ _ (Nat.le_refl _) (below_one _ _)⟩
set_option maxHeartbeats 1000000 in
theorem cloneF_any (w : World) (v : Value) {S : List _} (h : Sr Fina.kF w v S) (hS : S.length ≤ 100000) : Calls Tryz.prog 68 #[v] w fun e w' => ∃ v', e = .returned v' ∧ Own Fina.kF w' w.heap.size v' S ∧ Below w.heap.size w w' := by
  have h' := h
  obtain ⟨A, c, rfl, h1, h2, h3, h4⟩ := h
  clear h4
  have q : ∀ (W : World) (a : Option Addr) (n c : Nat), (binOp .eql 87 (.slice a n c) (.slice none 0 0)).run Tryz.prog W = .ok (.bool a.isNone) W := fun W a n c => Lib.run_eql_slice_nil W _ _ a n c 0 0 Fina.kF.under
  rcases A with _ | x
  · have hc := h3 rfl
    subst hc
    have e : S = [] := List.eq_nil_of_length_eq_zero (by omega)
    subst e
    clear h' h1 h2 h3
    go_enter Tryz.func68, Tryz.ntmps68
    go_wp2
    go_ret
    exact ⟨_, rfl, Own.nil _ _, Below.refl _ _⟩
  · clear h3
    go_enter Tryz.func68, Tryz.ntmps68
    go_wp2_with (
      refine wpList_app (K := Fina.kF) rfl (.tmp 5) (.tmp 6) rfl rfl rfl rfl (Own.empty w w.heap.size (Nat.le_refl _)) (h'.alloc _) (by simp; omega) (by simp) ?_
      intro v' w' O' g' G')
    go_ret
    exact ⟨_, rfl, O', G'.below _ _ (Nat.le_refl _) (below_one _ _)⟩

section
variable {w0 w w' : World} {Z : Fx} {m : Mo} {bx : Bx}
def regL (th : Th) : List Int := [th.r 0, th.r 1, th.r 2, th.r 3]
def regsV (m : Mo) (nt : Nat) (i : Int) : List Int := if inN i nt = true then regL (m.th i.toNat) else []
def entsV (m : Mo) (nt : Nat) (i : Int) : List Chain.E := if inN i nt = true then m.ents i.toNat else []
theorem regs_sr {w : World} {b o : Nat} {th : Th} (hb : b < w.heap.size) (h0 : w.cell? ⟨b, o, none⟩ = some (.int .u64 (th.r 0))) (h1 : w.cell? ⟨b, o + 1, none⟩ = some (.int .u64 (th.r 1))) (h2 : w.cell? ⟨b, o + 2, none⟩ = some (.int .u64 (th.r 2))) (h3 : w.cell? ⟨b, o + 3, none⟩ = some (.int .u64 (th.r 3))) :
    Sr Fina.kU w (.slice (some ⟨b, o, none⟩) 4 4) (regL th) := by
  refine ⟨_, 4, rfl, Nat.le_refl _, by decide, fun e => (by cases e), fun _ => ⟨b, o, rfl, hb, fun i j u hi hu => ?_⟩⟩
  have hj : j = 0 := by
    rcases Nat.eq_zero_or_pos j with e | e
    · exact e
    · rw [List.getElem?_eq_none (by rw [Fina.kU.len]; exact e)] at hu
      cases hu
  subst hj
  have hu' : u = .int .u64 ((regL th)[i]) := by
    have : (Fina.kU.enc (regL th)[i])[0]? = some (.int .u64 ((regL th)[i])) := rfl
    rw [this] at hu
    exact (Option.some.inj hu).symm
  subst hu'
  have hi4 : i < 4 := hi
  have : i = 0 ∨ i = 1 ∨ i = 2 ∨ i = 3 := by omega
  rcases this with rfl | rfl | rfl | rfl
  · exact h0
  · exact h1
  · exact h2
  · exact h3
set_option maxHeartbeats 1000000 in
theorem regs_any (h : Mw w0 w Z m bx) (hn : Z.nt ≤ 1000) (i : Int) : Calls Tryz.prog 23 #[ptr Z.B, .int .i64 i] w fun e w' => ∃ v, e = .returned v ∧ Own Fina.kU w' w.heap.size v (regsV m Z.nt i) ∧ Below w.heap.size w w' := by
  obtain ⟨_, c0, _, _⟩ := h.cells
  by_cases hi : inN i Z.nt = true
  · have HV := Lib.hid (show regsV m Z.nt i = regL (m.th i.toNat) from if_pos hi)
    obtain ⟨i1, i2⟩ : 0 ≤ i ∧ i < (Z.nt : Int) := of_decide_eq_true hi
    obtain ⟨x, ⟨r0, r1, r2, r3, _⟩, _, _, _⟩ := h.thr (t := i.toNat) (by omega)
    have hlt : Z.bt < w.heap.size := by
      obtain ⟨H, h⟩ := h
      exact h.md.tt.lt
    have S := regs_sr hlt r0 r1 r2 r3
    clear r0 r1 r2 r3
    go_enter Tryz.func23, Tryz.ntmps23
    go_wp2_with (first
      | (go_at_call 42; refine (hasT_any h hn i).mono ?_; rintro e w' ⟨rfl, rfl⟩; rw [hi])
      | (go_at_call 54; refine (Fina.clone_any w _ _ S (by simp [regL])).mono ?_; rintro e w' ⟨v, rfl, O, k⟩))
    go_ret
    exact ⟨v, rfl, by rw [HV.out]; exact O, k⟩
  · have HV := Lib.hid (show regsV m Z.nt i = [] from if_neg hi)
    have hi : inN i Z.nt = false := by simpa using hi
    go_enter Tryz.func23, Tryz.ntmps23
    go_wp2_with (go_at_call 42; refine (hasT_any h hn i).mono ?_; rintro e w' ⟨rfl, rfl⟩; rw [hi])
    go_ret
    exact ⟨.slice none 0 0, rfl, by rw [HV.out]; exact Own.nil _ _, Below.refl _ _⟩
set_option maxHeartbeats 1000000 in
theorem entries_any (h : Mw w0 w Z m bx) (hn : Z.nt ≤ 1000) (hl : ∀ t : Nat, t < Z.nt → (m.ents t).length ≤ 6) (i : Int) : Calls Tryz.prog 25 #[ptr Z.B, .int .i64 i] w fun e w' => ∃ v, e = .returned v ∧ Own kE w' w.heap.size v (entsV m Z.nt i) ∧ Below w.heap.size w w' := by
  obtain ⟨_, c0, _, _⟩ := h.cells
  by_cases hi : inN i Z.nt = true
  · have HV := Lib.hid (show entsV m Z.nt i = m.ents i.toNat from if_pos hi)
    obtain ⟨i1, i2⟩ : 0 ≤ i ∧ i < (Z.nt : Int) := of_decide_eq_true hi
    obtain ⟨x, ⟨_, _, _, _, r4⟩, _, O0, _⟩ := h.thr (t := i.toNat) (by omega)
    have l6 := hl i.toNat (by omega)
    have S : Sr kE w (sl3 x) (m.ents i.toNat) := Own.sr (K := kE) O0
    go_enter Tryz.func25, Tryz.ntmps25
    go_wp2_with (first
      | (go_at_call 42; refine (hasT_any h hn i).mono ?_; rintro e w' ⟨rfl, rfl⟩; rw [hi])
      | (go_at_call 55; refine (cloneE_any w _ S (by omega)).mono ?_; rintro e w' ⟨v, rfl, O, k⟩))
    go_ret
    exact ⟨v, rfl, by rw [HV.out]; exact O, k⟩
  · have HV := Lib.hid (show entsV m Z.nt i = [] from if_neg hi)
    have hi : inN i Z.nt = false := by simpa using hi
    go_enter Tryz.func25, Tryz.ntmps25
    go_wp2_with (go_at_call 42; refine (hasT_any h hn i).mono ?_; rintro e w' ⟨rfl, rfl⟩; rw [hi])
    go_ret
    exact ⟨.slice none 0 0, rfl, by rw [HV.out]; exact Own.nil _ _, Below.refl _ _⟩

/-- A register, as a walk loads and stores it. -/
theorem Mw.regAt (h : Mw w0 w Z m bx) {t : Nat} (ht : t < Z.nt) {i : Int} (h0 : 0 ≤ i) (h4 : i < 4) : w.cell? ⟨Z.bt, t * 5 + i.toNat, none⟩ = some (.int .u64 (m.reg t i)) ∧ w.frozen? ⟨Z.bt, t * 5 + i.toNat, none⟩ = false := by
  obtain ⟨x, ⟨r0, r1, r2, r3, _⟩, f, _, _⟩ := h.thr ht
  have : i = 0 ∨ i = 1 ∨ i = 2 ∨ i = 3 := by omega
  rcases this with rfl | rfl | rfl | rfl
  · exact ⟨r0, f _⟩
  · exact ⟨r1, f _⟩
  · exact ⟨r2, f _⟩
  · exact ⟨r3, f _⟩
theorem Mw.putReg (h : Mw w0 w Z m bx) {t : Nat} (ht : t < Z.nt) {i : Int} (h0 : 0 ≤ i) (h4 : i < 4) (v : Int) : Mw w0 (w.setCell ⟨Z.bt, t * 5 + i.toNat, none⟩ (.int .u64 v)) Z (m.setReg t i v) bx := by
  obtain ⟨x, _, _, _, e⟩ := h.thr ht
  obtain ⟨H, h⟩ := h
  have d := h.md.reg t (show (m.gs H.om).T[t]? = some _ from e) i.toNat (by omega) v
  exact ⟨H, h.step (Only.put w Z.bt _ _ (List.mem_singleton.2 rfl)) (fun x hx => .inr (.inr (.inl (List.mem_singleton.1 hx)))) d fun b hb => .inl hb⟩
theorem Mw.putEnt (h : Mw w0 w Z m bx) {t : Nat} (ht : t < Z.nt) (x : Tri) {L : List Chain.E} (hL : Chain.Own w 0 (sl3 x) L) : Mw w0 (w.setCell ⟨Z.bt, t * 5 + 4, none⟩ (sl3 x)) Z (m.setEnt t L) bx := by
  obtain ⟨_, _, _, _, e⟩ := h.thr ht
  obtain ⟨H, h⟩ := h
  have d := h.md.ents t (show (m.gs H.om).T[t]? = some _ from e) x hL
  exact ⟨_, h.step (Only.put w Z.bt _ _ (List.mem_singleton.2 rfl)) (fun x hx => .inr (.inr (.inl (List.mem_singleton.1 hx)))) d fun b hb => .inl hb⟩
/-- The forest is another one. -/
theorem Mw.forest (h : Mw w0 w Z m bx) {F : Fo} (s : Sc w' Z.fr Z.B Z.g Z.B Z.n Z.A Z.S F) (k : Only [Z.B, Z.g] w w') : Mw w0 w' Z ⟨F, m.O, m.A, m.T⟩ bx := by
  obtain ⟨H, h⟩ := h
  exact ⟨H, h.step k (fun x hx => by
    simp at hx
    rcases hx with rfl | rfl
    · exact .inl rfl
    · exact .inr (.inl rfl)) (h.md.forest k s) fun b hb => .inl hb⟩
/-- What a call of the model tells. -/
def Did (w0 : World) (Z : Fx) (bx : Bx) (r : Re2) (e : Ending) (w' : World) : Prop := ∃ v, e = .returned (anV r.1.c r.1.n v) ∧ Sr Fina.kI w' v r.1.said ∧ Mw w0 w' Z r.2 bx
theorem Did.plain {w0 w' : World} {Z : Fx} {bx : Bx} {c n : Int} {m : Mo} {e : Ending} (he : e = .returned (anV c n nil0)) (h : Mw w0 w' Z m bx) : Did w0 Z bx (⟨c, n, []⟩, m) e w' := ⟨nil0, he, Sr.nil _, h⟩
theorem ans_cells (h : Mw w0 w Z m bx) {b : Nat} {x y z : Value} (i : Nat) (e : bx[i]? = some (b, .cells #[x, y, z] anT (0, 0))) :
    w.cell? ⟨b, 0, none⟩ = some x ∧ w.cell? ⟨b, 1, none⟩ = some y ∧ w.cell? ⟨b, 2, none⟩ = some z ∧ w.frozen? ⟨b, 0, none⟩ = false ∧ w.frozen? ⟨b, 1, none⟩ = false ∧ w.frozen? ⟨b, 2, none⟩ = false := by
  obtain ⟨cc, ff⟩ := h.cell i e
  exact ⟨cc 0 _ rfl, cc 1 _ rfl, cc 2 _ rfl, ff 0, ff 1, ff 2⟩
theorem do_two (h : Mw w0 w Z m bx) {t : Nat} {c : Ca} {b : Nat} (i : Nat) (e : bx[i]? = some (b, .cells (doA Z t c) doT (0, 0))) : w.cell? ⟨b, 0, none⟩ = some (.pointer (some ⟨Z.B, 0, none⟩)) ∧ w.cell? ⟨b, 6, none⟩ = some (.int .i64 c.a) :=
  ⟨(do_cells h i e).1, (do_cells h i e).2.2.2.2.2.2.1⟩
theorem nothing_any (h : Mw w0 w Z m bx) (t : Nat) (c : Ca) : Calls Tryz.prog 94 #[doV Z t c] w (Did w0 Z bx (no 0, m)) := by
  have h1 := h.new (doA Z t c) doT
  go_enter Tryz.func94, Tryz.ntmps94
  go_wp2
  refine bodyPost_ret (v := anV 0 0 nil0) (by simp [results, Tryz.results94, go_sem]) rfl (Did.plain rfl ?_)
  exact (h1.drop 1).alloc _
set_option maxHeartbeats 1000000 in
theorem set_any (h : Mw w0 w Z m bx) {t : Nat} (ht : t < Z.nt) (c : Ca) (r0 : 0 ≤ c.r) (r4 : c.r < 4) : Calls Tryz.prog 95 #[doV Z t c] w (Did w0 Z bx (no 0, m.setReg t c.r (IntKind.u64.wrap c.a))) := by
  have h1 := h.new (doA Z t c) doT
  have h2 := h1.new #[.int .i64 0, .int .i64 0, nil0] anT
  obtain ⟨_, c1, _, c3, _, _, c6, _, _⟩ := do_cells h2 1 rfl
  obtain ⟨q1, q2⟩ := h2.regAt ht r0 r4
  obtain ⟨cc, ff⟩ := h2.cell 0 rfl
  go_enter Tryz.func95, Tryz.ntmps95
  go_wp2_with fail
  go_region
  have h3 := (h2.putReg ht r0 r4 (IntKind.u64.wrap c.a)).drew
  simp only [World.size_alloc] at h3
  generalize (((w.alloc (.cells (doA Z t c) 125)).alloc (.cells #[.int .i64 0, .int .i64 0, .slice none 0 0] 42)).setCell ⟨Z.bt, t * 5 + c.r.toNat, none⟩ (.int .u64 (IntKind.u64.wrap c.a))).drew = W at h3 ⊢
  obtain ⟨k0, k1, k2, f0, f1, f2⟩ := ans_cells h3 0 rfl
  go_wp2
  refine bodyPost_ret (v := anV 0 0 nil0) (by simp [results, Tryz.results95, go_sem, k0, k1, k2]) rfl (Did.plain rfl ?_)
  exact (((h3.put 0 rfl rfl 0 _).put 0 rfl rfl 1 _).put 0 rfl rfl 2 _).drop 2
set_option maxHeartbeats 1000000 in
theorem give_any (h : Mw w0 w Z m bx) {t : Nat} (ht : t < Z.nt) (c : Ca) (r0 : 0 ≤ c.r) (r4 : c.r < 4) (v : Int) : Calls Tryz.prog 130 #[doV Z t c, .int .u64 v] w (Did w0 Z bx (give m t c.r v)) := by
  have h1 := h.new (doA Z t c) doT
  have h2 := h1.new #[.int .i64 0, .int .i64 0, nil0] anT
  obtain ⟨_, c1, _, c3, _, _, _, _, _⟩ := do_cells h2 1 rfl
  obtain ⟨q1, q2⟩ := h2.regAt ht r0 r4
  go_enter Tryz.func130, Tryz.ntmps130
  go_wp2_with fail
  go_region
  have h3 := (h2.putReg ht r0 r4 v).drew
  simp only [World.size_alloc] at h3
  generalize (((w.alloc (.cells (doA Z t c) 125)).alloc (.cells #[.int .i64 0, .int .i64 0, .slice none 0 0] 42)).setCell ⟨Z.bt, t * 5 + c.r.toNat, none⟩ (.int .u64 v)).drew = W at h3 ⊢
  obtain ⟨k0, k1, k2, f0, f1, f2⟩ := ans_cells h3 0 rfl
  go_wp2
  refine bodyPost_ret (v := anV 0 (IntKind.i64.wrap v) nil0) (by simp [results, Tryz.results130, go_sem, k0, k1, k2]; exact (IntWalk.i64_left v).symm) rfl (Did.plain rfl ?_)
  exact (((h3.put 0 rfl rfl 0 _).put 0 rfl rfl 1 _).put 0 rfl rfl 2 _).drop 2
/-! The forest's calls, over what a walk carries. -/
theorem fo_create (h : Mw w0 w Z m bx) (n8 : Z.n ≤ 8) (ok : Gm.Ok Z.A Z.S m.F.L) (z : Int) (z1 : -9223372036854775808 ≤ z) (z2 : z ≤ 9223372036854775807) :
    Calls Tryz.prog 118 #[ptr Z.B, .int .i64 z] w fun e w' => e = .returned (.tuple #[.int .i64 (createV m.F z).v, .int .i64 (createV m.F z).x]) ∧ Mw w0 w' Z ⟨(createV m.F z).F, m.O, m.A, m.T⟩ bx :=
  (create_any h.sc n8 ok h.sc.ltB z z1 z2).mono fun e w' ⟨he, hs, ho⟩ => ⟨he, h.forest hs ho⟩
theorem fo_destroy (h : Mw w0 w Z m bx) {I J : Int} (v : Inv Z.n Z.A Z.S I J m.F) (i : Int) :
    Calls Tryz.prog 119 #[ptr Z.B, .int .i64 i] w fun e w' => e = .returned (.int .i64 (destroyV m.F i).x) ∧ Mw w0 w' Z ⟨(destroyV m.F i).F, m.O, m.A, m.T⟩ bx :=
  (destroy_any h.sc v h.sc.ltB i).mono fun e w' ⟨he, hs, ho⟩ => ⟨he, h.forest hs ho⟩
theorem fo_open (h : Mw w0 w Z m bx) (n8 : Z.n ≤ 8) (i : Int) :
    Calls Tryz.prog 153 #[ptr Z.B, .int .i64 i] w fun e w' => e = .returned (.int .i64 (turnV m.F i opF).x) ∧ Mw w0 w' Z ⟨(turnV m.F i opF).F, m.O, m.A, m.T⟩ bx :=
  (open_any h.sc n8 i).mono fun e w' ⟨he, hs, ho⟩ => ⟨he, h.forest hs (ho.mono (by simp))⟩
theorem fo_hold (h : Mw w0 w Z m bx) (n8 : Z.n ≤ 8) (i : Int) :
    Calls Tryz.prog 151 #[ptr Z.B, .int .i64 i] w fun e w' => e = .returned (.int .i64 (turnV m.F i hoF).x) ∧ Mw w0 w' Z ⟨(turnV m.F i hoF).F, m.O, m.A, m.T⟩ bx :=
  (hold_any h.sc n8 i).mono fun e w' ⟨he, hs, ho⟩ => ⟨he, h.forest hs (ho.mono (by simp))⟩
theorem fo_enter (h : Mw w0 w Z m bx) (n8 : Z.n ≤ 8) (i f : Int) :
    Calls Tryz.prog 122 #[ptr Z.B, .int .i64 i, .int .i64 f] w fun e w' => e = .returned (.int .i64 (turnV m.F i (enF f)).x) ∧ Mw w0 w' Z ⟨(turnV m.F i (enF f)).F, m.O, m.A, m.T⟩ bx :=
  (enter_any h.sc n8 i f).mono fun e w' ⟨he, hs, ho⟩ => ⟨he, h.forest hs (ho.mono (by simp))⟩
theorem fo_leave (h : Mw w0 w Z m bx) (n8 : Z.n ≤ 8) (i : Int) :
    Calls Tryz.prog 149 #[ptr Z.B, .int .i64 i] w fun e w' => e = .returned (.tuple #[.bool (turnV m.F i leF).d, .int .i64 (turnV m.F i leF).x]) ∧ Mw w0 w' Z ⟨(turnV m.F i leF).F, m.O, m.A, m.T⟩ bx :=
  (leave_any h.sc n8 i).mono fun e w' ⟨he, hs, ho⟩ => ⟨he, h.forest hs (ho.mono (by simp))⟩
set_option maxHeartbeats 1000000 in
theorem createM_any (h : Mw w0 w Z m bx) (n8 : Z.n ≤ 8) (ok : Gm.Ok Z.A Z.S m.F.L) (t : Nat) (c : Ca) (z1 : -9223372036854775808 ≤ c.a) (z2 : c.a ≤ 9223372036854775807) : Calls Tryz.prog 96 #[doV Z t c] w (Did w0 Z bx (createM m c.a)) := by
  have h1 := h.new (doA Z t c) doT
  have h2 := (h1.new #[.int .i64 0, .int .i64 0, nil0] anT)
  obtain ⟨c0, _, _, _, _, _, c6, _, _⟩ := do_cells h2 1 rfl
  go_enter Tryz.func96, Tryz.ntmps96
  go_wp2_with fail
  go_region_held3 (fun w' => w'.cell? ⟨w.heap.size, 0, none⟩ = some (.pointer (some ⟨Z.B, 0, none⟩)) ∧ w'.cell? ⟨w.heap.size, 6, none⟩ = some (.int .i64 c.a))
    (first | exact ⟨c0, c6⟩ | exact T3)
    ((go_at_call 118; refine (fo_create h2.drew n8 ok c.a z1 z2).mono ?_; rintro e w3 ⟨rfl, h3⟩
      have T3 : w3.cell? ⟨w.heap.size, 0, none⟩ = some (.pointer (some ⟨Z.B, 0, none⟩)) ∧ w3.cell? ⟨w.heap.size, 6, none⟩ = some (.int .i64 c.a) := ⟨(do_cells h3 1 rfl).1, (do_cells h3 1 rfl).2.2.2.2.2.2.1⟩))
  all_goals
    simp only [World.size_alloc] at h3
    obtain ⟨k0, k1, k2, f0, f1, f2⟩ := ans_cells h3 0 rfl
    go_wp2
    refine bodyPost_ret (v := anV (createV m.F c.a).x (createV m.F c.a).v nil0) (by simp [results, Tryz.results96, go_sem, k0, k1, k2]) rfl (Did.plain rfl ?_)
    exact (((h3.put 0 rfl rfl 0 _).put 0 rfl rfl 1 _).put 0 rfl rfl 2 _).drop 2
set_option maxHeartbeats 1000000 in
theorem destroyM_any (h : Mw w0 w Z m bx) {I J : Int} (v : Inv Z.n Z.A Z.S I J m.F) (t : Nat) (c : Ca) : Calls Tryz.prog 97 #[doV Z t c] w (Did w0 Z bx (destroyM m c.a)) := by
  have h1 := h.new (doA Z t c) doT
  have h2 := (h1.new #[.int .i64 0, .int .i64 0, nil0] anT)
  obtain ⟨c0, _, _, _, _, _, c6, _, _⟩ := do_cells h2 1 rfl
  go_enter Tryz.func97, Tryz.ntmps97
  go_wp2_with fail
  go_region_held3 (fun w' => w'.cell? ⟨w.heap.size, 0, none⟩ = some (.pointer (some ⟨Z.B, 0, none⟩)) ∧ w'.cell? ⟨w.heap.size, 6, none⟩ = some (.int .i64 c.a))
    (first | exact ⟨c0, c6⟩ | exact T3 | exact T4 _ _ _)
    ((go_at_call 119; refine (fo_destroy h2.drew v c.a).mono ?_; rintro e w3 ⟨rfl, h3⟩
      have T3 : w3.cell? ⟨w.heap.size, 0, none⟩ = some (.pointer (some ⟨Z.B, 0, none⟩)) ∧ w3.cell? ⟨w.heap.size, 6, none⟩ = some (.int .i64 c.a) := ⟨(do_cells h3 1 rfl).1, (do_cells h3 1 rfl).2.2.2.2.2.2.1⟩
      simp only [World.size_alloc] at h3
      obtain ⟨k0, k1, k2, f0, f1, f2⟩ := ans_cells h3 0 rfl
      have T4 := fun x y z => do_two (((h3.put 0 rfl rfl 0 x).put 0 rfl rfl 1 y).put 0 rfl rfl 2 z) 1 rfl))
  all_goals
    go_wp2
    refine bodyPost_ret (v := anV (destroyV m.F c.a).x 0 nil0) (by simp [results, Tryz.results97, go_sem, k0, k1, k2]) rfl (Did.plain rfl ?_)
    exact (((h3.put 0 rfl rfl 0 _).put 0 rfl rfl 1 _).put 0 rfl rfl 2 _).drop 2
end
end Go.Proofs.YtneggppfffekdaaGreat.Mod
