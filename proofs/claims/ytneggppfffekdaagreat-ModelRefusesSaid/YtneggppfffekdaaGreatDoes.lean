/-
  Contract of package model: answer, Do.
-/
import Derived.Test.YtneggppfffekdaaGreatWays
namespace Go.Proofs.YtneggppfffekdaaGreat.Mod
open Go.ChangeShapes Go.WideShapes Go.ChangeAt Go.RowKit Go.Shelf
open Slic Sco
set_option linter.unusedVariables false
set_option linter.unusedSimpArgs false
set_option maxRecDepth 8000
attribute [local go_sem] Oper.semAt_some

/-- A call's numbers, as the program has them. -/
structure Cok (c : Ca) : Prop where
  op : 0 ≤ c.op
  r : 0 ≤ c.r
  h : 0 ≤ c.h
  v : 0 ≤ c.v
  a1 : -9223372036854775808 ≤ c.a
  a2 : c.a ≤ 9223372036854775807
/-- What was said, as a row of one's own; or nothing was. -/
def SrO (w : World) (v : Value) (L : List Int) : Prop := Slic.Own Fina.kI w 0 v L ∨ (L = [] ∧ Sr Fina.kI w v L)
theorem SrO.sr {w : World} {v : Value} {L : List Int} (h : SrO w v L) : Sr Fina.kI w v L := h.elim (fun o => o.sr) (fun o => o.2)
theorem SrO.local {W W' : World} {b : Nat} {cs : Array Value} {t : TypeId} {v : Value} {L : List Int} (o : SrO W v L) (hb : W.heap[b]? = some (.cells cs t (0, 0))) (ht : (t == Fina.kI.T) = false) (k : Only [b] W W') : SrO W' v L := by
  rcases o with o | ⟨rfl, o⟩
  · exact .inl (own_local o hb ht k)
  · exact .inr ⟨rfl, sr_empty o⟩
/-- An answer. -/
def Did2 (w0 : World) (Z : Fx) (bx : Bx) (r : Re2) (e : Ending) (w' : World) : Prop := ∃ v, e = .returned (anV r.1.c r.1.n v) ∧ SrO w' v r.1.said ∧ Mw w0 w' Z r.2 bx
theorem Did2.did {w0 w' : World} {Z : Fx} {bx : Bx} {r : Re2} {e : Ending} (h : Did2 w0 Z bx r e w') : Did w0 Z bx r e w' := let ⟨v, a, b, c⟩ := h; ⟨v, a, b.sr, c⟩
theorem Did.two {P : Program} {f : FuncId} {xs : Array Value} {w w0 : World} {Z : Fx} {bx : Bx} {r : Re2} (h : Calls P f xs w (Did w0 Z bx r)) (hs : r.1.said = []) : Calls P f xs w (Did2 w0 Z bx r) := h.mono fun e w' ⟨v, a, b, c⟩ => ⟨v, a, .inr ⟨hs, b⟩, c⟩
theorem DidO.two {P : Program} {f : FuncId} {xs : Array Value} {w w0 : World} {Z : Fx} {bx : Bx} {r : Re2} (h : Calls P f xs w (DidO w0 Z bx r)) : Calls P f xs w (Did2 w0 Z bx r) := h.mono fun e w' ⟨v, a, b, c⟩ => ⟨_, a, .inl b, c⟩
theorem Did2.plain {w0 w' : World} {Z : Fx} {bx : Bx} {c n : Int} {m : Mo} {e : Ending} (he : e = .returned (anV c n nil0)) (h : Mw w0 w' Z m bx) : Did2 w0 Z bx (⟨c, n, []⟩, m) e w' := ⟨nil0, he, .inl (Slic.Own.nil _ _), h⟩
theorem enter_nil (m : Mo) (t : Nat) (i : Int) : (enterV m t i).1.said = [] := by unfold enterV; repeat' split
                                                                                  all_goals rfl
theorem in_nil (m : Mo) (t : Nat) (i : Int) : (inV m t i).1.said = [] := by unfold inV; repeat' split
                                                                            all_goals rfl
theorem alloc_nil (m : Mo) (t : Nat) (c : Ca) : (allocV m t c).1.said = [] := by unfold allocV; repeat' split
                                                                                 all_goals rfl
theorem load_nil (m : Mo) (t : Nat) (c : Ca) : (loadV m t c).1.said = [] := by unfold loadV; repeat' split
                                                                               all_goals rfl
theorem store_nil (m : Mo) (t : Nat) (c : Ca) : (storeV m t c).1.said = [] := by unfold storeV; repeat' split
                                                                                 all_goals rfl
theorem look_nil (m : Mo) (t : Nat) (c : Ca) : (lookV m t c).1.said = [] := by unfold lookV; repeat' split
                                                                               all_goals rfl
theorem gate_nil (m : Mo) (t : Nat) (c : Ca) : (gateV m t c).1.said = [] := by unfold gateV; repeat' split
                                                                               all_goals rfl
section
variable {w0 w w' : World} {Z : Fx} {H : Hp} {G : Gs} {m : Mo} {bx : Bx} {k : Nat}
/-- What the function that a call names does. -/
theorem does_any (h : Mw w0 w Z m bx) (v : Iv Z k m) (hk : k ≤ 10000) (ff : Fok Z.FF) {t : Nat} (ht : t < Z.nt) {c : Ca} (hc : Cok c) (hb : badC c = false) (f : FuncId) (hf : wayF Z t c = .func (.func f) #[doV Z t c] #[]) :
    Calls Tryz.prog f #[doV Z t c] w (Did2 w0 Z bx (doM Z.FF m t c)) := by
  have hb' := hb
  unfold badC badR at hb'
  by_cases h0 : c.op = 0
  · have D : doM Z.FF m t c = (no 0, m) := by unfold doM; simp [hb, h0]
    have F : f = 94 := by
      unfold wayF at hf
      simp only [h0] at hf
      simpa using hf.symm
    subst F
    rw [D]
    exact Did.two (nothing_any h t c) (rfl)
  by_cases h1 : c.op = 1
  · have D : doM Z.FF m t c = (no 0, m.setReg t c.r (IntKind.u64.wrap c.a)) := by unfold doM; simp [hb, h1]
    have F : f = 95 := by
      unfold wayF at hf
      simp only [h1] at hf
      simpa using hf.symm
    subst F
    rw [D]
    have q : c.r < 4 := by
      simp [h1] at hb'
      omega
    exact Did.two (set_any h ht c hc.r q) (rfl)
  by_cases h2 : c.op = 2
  · have D : doM Z.FF m t c = createM m c.a := by unfold doM; simp [hb, h2]
    have F : f = 96 := by
      unfold wayF at hf
      simp only [h2] at hf
      simpa using hf.symm
    subst F
    rw [D]
    exact Did.two (createM_any h v.n8 v.f.ok t c hc.a1 hc.a2) (rfl)
  by_cases h3 : c.op = 3
  · have D : doM Z.FF m t c = destroyM m c.a := by unfold doM; simp [hb, h3]
    have F : f = 97 := by
      unfold wayF at hf
      simp only [h3] at hf
      simpa using hf.symm
    subst F
    rw [D]
    exact Did.two (destroyM_any h v.f t c) (rfl)
  by_cases h4 : c.op = 4
  · have D : doM Z.FF m t c = enterV m t c.a := by unfold doM; simp [hb, h4]
    have F : f = 98 := by
      unfold wayF at hf
      simp only [h4] at hf
      simpa using hf.symm
    subst F
    rw [D]
    exact Did.two (enter_anyM h v.n8 ht c) (enter_nil m t c.a)
  by_cases h5 : c.op = 5
  · have D : doM Z.FF m t c = exitV Z.FF m t := by unfold doM; simp [hb, h5]
    have F : f = 99 := by
      unfold wayF at hf
      simp only [h5] at hf
      simpa using hf.symm
    subst F
    rw [D]
    exact DidO.two (exit_anyM h v hk ff ht c)
  by_cases h6 : c.op = 6
  · have D : doM Z.FF m t c = inV m t c.a := by unfold doM; simp [hb, h6]
    have F : f = 100 := by
      unfold wayF at hf
      simp only [h6] at hf
      simpa using hf.symm
    subst F
    rw [D]
    exact Did.two (in_anyM h v.n8 ht c) (in_nil m t c.a)
  by_cases h7 : c.op = 7
  · have D : doM Z.FF m t c = allocV m t c := by unfold doM; simp [hb, h7]
    have F : f = 101 := by
      unfold wayF at hf
      simp only [h7] at hf
      simpa using hf.symm
    subst F
    rw [D]
    have q : c.r < 4 := by
      simp [h7] at hb'
      omega
    exact Did.two (alloc_any h v ht c hc.r q (by omega)) (alloc_nil m t c)
  by_cases h8 : c.op = 8
  · have D : doM Z.FF m t c = loadV m t c := by unfold doM; simp [hb, h8]
    have F : f = 102 := by
      unfold wayF at hf
      simp only [h8] at hf
      simpa using hf.symm
    subst F
    rw [D]
    have q : c.r < 4 ∧ c.h < 4 := by
      simp [h8] at hb'
      omega
    exact Did.two (load_any h v ht c hc.r q.1 hc.h q.2) (load_nil m t c)
  by_cases h9 : c.op = 9
  · have D : doM Z.FF m t c = storeV m t c := by unfold doM; simp [hb, h9]
    have F : f = 103 := by
      unfold wayF at hf
      simp only [h9] at hf
      simpa using hf.symm
    subst F
    rw [D]
    have q : c.h < 4 ∧ c.v < 4 := by
      simp [h9] at hb'
      omega
    exact Did.two (store_any h v ht c hc.v q.2 hc.h q.1) (store_nil m t c)
  by_cases h10 : c.op = 10
  · have D : doM Z.FF m t c = lookV m t c := by unfold doM; simp [hb, h10]
    have F : f = 104 := by
      unfold wayF at hf
      simp only [h10] at hf
      simpa using hf.symm
    subst F
    rw [D]
    have q : c.r < 4 := by
      simp [h10] at hb'
      omega
    exact Did.two (look_any h v ht c hc.r q) (look_nil m t c)
  by_cases h11 : c.op = 11
  · have D : doM Z.FF m t c = gateV m t c := by unfold doM; simp [hb, h11]
    have F : f = 105 := by
      unfold wayF at hf
      simp only [h11] at hf
      simpa using hf.symm
    subst F
    rw [D]
    have q : c.v < 4 := by
      simp [h11] at hb'
      omega
    exact Did.two (gate_any h v ht c hc.v q) (gate_nil m t c)
  exfalso
  unfold wayF at hf
  simp only [h0, h1, h2, h3, h4, h5, h6, h7, h8, h9, h10, h11, if_false] at hf
  cases hf
/-- No such call, or a register that is none. -/
theorem do_bad {c : Ca} (t : Nat) (hb : badC c = true ∨ wayF Z t c = .nilFunc) : doM Z.FF m t c = (no 1, m) := by
  unfold doM
  rcases hb with hb | hb
  · rw [if_pos hb]
  · unfold wayF at hb
    by_cases h0 : c.op = 0
    · rw [if_pos h0] at hb
      cases hb
    rw [if_neg h0] at hb
    by_cases h1 : c.op = 1
    · rw [if_pos h1] at hb
      cases hb
    rw [if_neg h1] at hb
    by_cases h2 : c.op = 2
    · rw [if_pos h2] at hb
      cases hb
    rw [if_neg h2] at hb
    by_cases h3 : c.op = 3
    · rw [if_pos h3] at hb
      cases hb
    rw [if_neg h3] at hb
    by_cases h4 : c.op = 4
    · rw [if_pos h4] at hb
      cases hb
    rw [if_neg h4] at hb
    by_cases h5 : c.op = 5
    · rw [if_pos h5] at hb
      cases hb
    rw [if_neg h5] at hb
    by_cases h6 : c.op = 6
    · rw [if_pos h6] at hb
      cases hb
    rw [if_neg h6] at hb
    by_cases h7 : c.op = 7
    · rw [if_pos h7] at hb
      cases hb
    rw [if_neg h7] at hb
    by_cases h8 : c.op = 8
    · rw [if_pos h8] at hb
      cases hb
    rw [if_neg h8] at hb
    by_cases h9 : c.op = 9
    · rw [if_pos h9] at hb
      cases hb
    rw [if_neg h9] at hb
    by_cases h10 : c.op = 10
    · rw [if_pos h10] at hb
      cases hb
    rw [if_neg h10] at hb
    by_cases h11 : c.op = 11
    · rw [if_pos h11] at hb
      cases hb
    rw [if_neg h11] at hb
    split
    · rfl
    · simp only [h0, h1, h2, h3, h4, h5, h6, h7, h8, h9, h10, h11, if_false]
theorem way_cases (Z : Fx) (t : Nat) (c : Ca) : wayF Z t c = .nilFunc ∨ ∃ f, wayF Z t c = .func (.func f) #[doV Z t c] #[] ∧ ∀ (a : Array Value) (w : World), (callFunc f a).run Tryz.prog w = .ok (.enter f a) w := by
  unfold wayF
  by_cases h0 : c.op = 0
  · rw [if_pos h0]
    exact .inr ⟨_, rfl, fun a w => by kernel_rfl⟩
  rw [if_neg h0]
  by_cases h1 : c.op = 1
  · rw [if_pos h1]
    exact .inr ⟨_, rfl, fun a w => by kernel_rfl⟩
  rw [if_neg h1]
  by_cases h2 : c.op = 2
  · rw [if_pos h2]
    exact .inr ⟨_, rfl, fun a w => by kernel_rfl⟩
  rw [if_neg h2]
  by_cases h3 : c.op = 3
  · rw [if_pos h3]
    exact .inr ⟨_, rfl, fun a w => by kernel_rfl⟩
  rw [if_neg h3]
  by_cases h4 : c.op = 4
  · rw [if_pos h4]
    exact .inr ⟨_, rfl, fun a w => by kernel_rfl⟩
  rw [if_neg h4]
  by_cases h5 : c.op = 5
  · rw [if_pos h5]
    exact .inr ⟨_, rfl, fun a w => by kernel_rfl⟩
  rw [if_neg h5]
  by_cases h6 : c.op = 6
  · rw [if_pos h6]
    exact .inr ⟨_, rfl, fun a w => by kernel_rfl⟩
  rw [if_neg h6]
  by_cases h7 : c.op = 7
  · rw [if_pos h7]
    exact .inr ⟨_, rfl, fun a w => by kernel_rfl⟩
  rw [if_neg h7]
  by_cases h8 : c.op = 8
  · rw [if_pos h8]
    exact .inr ⟨_, rfl, fun a w => by kernel_rfl⟩
  rw [if_neg h8]
  by_cases h9 : c.op = 9
  · rw [if_pos h9]
    exact .inr ⟨_, rfl, fun a w => by kernel_rfl⟩
  rw [if_neg h9]
  by_cases h10 : c.op = 10
  · rw [if_pos h10]
    exact .inr ⟨_, rfl, fun a w => by kernel_rfl⟩
  rw [if_neg h10]
  by_cases h11 : c.op = 11
  · rw [if_pos h11]
    exact .inr ⟨_, rfl, fun a w => by kernel_rfl⟩
  rw [if_neg h11]
  exact .inl rfl
theorem nil_nil (w : World) : (binOp BinOp.eql 126 .nilFunc .nilFunc).run Tryz.prog w = .ok (.bool true) w := by kernel_rfl
theorem fun_nil (w : World) (f : FuncId) (a : Array Value) : (binOp BinOp.eql 126 (.func (.func f) a #[]) .nilFunc).run Tryz.prog w = .ok (.bool false) w := by kernel_rfl
set_option maxHeartbeats 4000000 in
theorem answer_any (h : Mw w0 w Z m bx) (v : Iv Z k m) (hk : k ≤ 10000) (ff : Fok Z.FF) {t : Nat} (ht : t < Z.nt) {c : Ca} (hc : Cok c) : Calls Tryz.prog 43 #[doV Z t c] w (Did2 w0 Z bx (doM Z.FF m t c)) := by
  have h1 := h.new (doA Z t c) doT
  have h2 := h1.new #[.int .i64 0, .int .i64 0, nil0] anT
  have nn := nil_nil
  have nf := fun_nil
  have hl : (regsC c).length ≤ 1000000 := by
    have : (regsC c).length ≤ 2 := by
      unfold regsC
      repeat' split
      all_goals simp
    omega
  rcases way_cases Z t c with hn | ⟨f, hf, hcall⟩
  · have HV := Lib.hid (do_bad (Z := Z) (m := m) t (.inr hn))
    have HN := Lib.hid hn
    clear hn
    go_enter Tryz.func43, Tryz.ntmps43
    go_wp2_with fail
    refine (way_any _ Z t c).mono ?_
    rintro e w3 ⟨v3, rfl, S3, k3⟩
    rw [HN.out]
    have h3 := h2.call k3
    go_wp2_with fail
    refine (refused_any _ 1).mono ?_
    rintro e w4 ⟨rfl, k4⟩
    have h4 := h3.call k4
    simp only [World.size_alloc] at h4
    obtain ⟨k0, k1, k2, f0, f1, f2⟩ := ans_cells h4 0 rfl
    go_wp2
    refine bodyPost_ret (v := anV 1 0 nil0) (by simp [results, Tryz.results43, go_sem, k0, k1, k2]) rfl ?_
    rw [HV.out]
    exact Did2.plain rfl ((((h4.put 0 rfl rfl 0 _).put 0 rfl rfl 1 _).put 0 rfl rfl 2 _).drop 2)
  · cases hb : badC c with
    | true =>
      have HV := Lib.hid (do_bad (Z := Z) (m := m) t (.inl hb))
      have HN := Lib.hid hf
      have HB := Lib.hid ((regs_bad c).trans hb)
      clear hf hb
      go_enter Tryz.func43, Tryz.ntmps43
      go_wp2_with fail
      refine (way_any _ Z t c).mono ?_
      rintro e w3 ⟨v3, rfl, S3, k3⟩
      rw [HN.out]
      obtain ⟨A3, n3, rfl, _, _⟩ := S3.form
      have h3 := h2.call k3
      go_wp2_with fail
      refine (contB_any _ A3 n3 (regsC c) S3 hl).mono ?_
      rintro e w4 ⟨rfl, rfl⟩
      rw [HB.out]
      go_wp2_with fail
      refine (refused_any _ 1).mono ?_
      rintro e w5 ⟨rfl, k5⟩
      have h5 := h3.call k5
      simp only [World.size_alloc] at h5
      obtain ⟨k0, k1, k2, f0, f1, f2⟩ := ans_cells h5 0 rfl
      go_wp2
      refine bodyPost_ret (v := anV 1 0 nil0) (by simp [results, Tryz.results43, go_sem, k0, k1, k2]) rfl ?_
      rw [HV.out]
      exact Did2.plain rfl ((((h5.put 0 rfl rfl 0 _).put 0 rfl rfl 1 _).put 0 rfl rfl 2 _).drop 2)
    | false =>
      have HN := Lib.hid hf
      have HB := Lib.hid ((regs_bad c).trans hb)
      go_enter Tryz.func43, Tryz.ntmps43
      go_wp2_with fail
      refine (way_any _ Z t c).mono ?_
      rintro e w3 ⟨v3, rfl, S3, k3⟩
      rw [HN.out]
      obtain ⟨A3, n3, rfl, _, _⟩ := S3.form
      have h3 := h2.call k3
      go_wp2_with fail
      refine (contB_any _ A3 n3 (regsC c) S3 hl).mono ?_
      rintro e w4 ⟨rfl, rfl⟩
      rw [HB.out]
      go_wp2_with fail
      refine (does_any h3 v hk ff ht hc hb f hf).mono ?_
      rintro e w6 ⟨v6, rfl, S6, h6⟩
      simp only [World.size_alloc] at h6
      obtain ⟨⟨⟨rc, rn, rs⟩, rm⟩, hr⟩ : ∃ r, doM Z.FF m t c = r := ⟨_, rfl⟩
      rw [hr] at S6 h6 ⊢
      have HR := Lib.hid hr
      clear hr
      dsimp only at S6 h6 ⊢
      obtain ⟨A6, n6, e6, _, _⟩ := S6.sr.form
      subst e6
      obtain ⟨k0, k1, k2, f0, f1, f2⟩ := ans_cells h6 0 rfl
      have S7 := S6.local (h6.at 0 rfl) rfl (put3 (.int .i64 rc) (.int .i64 rn) (.slice A6 rs.length n6))
      go_wp2
      refine bodyPost_ret (v := anV rc rn (.slice A6 rs.length n6)) (by simp [results, Tryz.results43, go_sem, k0, k1, k2]) rfl ?_
      have h7 := (((h6.put 0 rfl rfl 0 (.int .i64 rc)).put 0 rfl rfl 1 (.int .i64 rn)).put 0 rfl rfl 2 (.slice A6 rs.length n6)).drop 2
      rw [HR.out]
      exact ⟨_, rfl, S7, h7⟩
/-- A call as a value. -/
abbrev caA (c : Ca) : Array Value := #[.int .u8 c.op, .int .u8 c.r, .int .u8 c.h, .int .u8 c.v, .int .i64 c.a, .int .i64 c.b, .int .i64 c.c]
/-- What Do tells: an answer, and whether there is such a thread. -/
def doX (FF : List (List Fina.O)) (m : Mo) (nt : Nat) (i : Int) (c : Ca) : Re2 × Int := if inN i nt = true then (doM FF m i.toNat c, 0) else ((no 0, m), 2)
def DidX (w0 : World) (Z : Fx) (bx : Bx) (r : Re2 × Int) (e : Ending) (w' : World) : Prop := ∃ v, e = .returned (.tuple #[anV r.1.1.c r.1.1.n v, .int .i64 r.2]) ∧ SrO w' v r.1.1.said ∧ Mw w0 w' Z r.1.2 bx
set_option maxHeartbeats 4000000 in
theorem do_any (h : Mw w0 w Z m bx) (v : Iv Z k m) (hk : k ≤ 10000) (ff : Fok Z.FF) {c : Ca} (hc : Cok c) (i : Int) : Calls Tryz.prog 19 #[ptr Z.B, .int .i64 i, .agg (caA c)] w (DidX w0 Z bx (doX Z.FF m Z.nt i c)) := by
  have h1 := h.new (caA c) 37
  have h2 := h1.new #[.int .i64 0, .int .i64 0, nil0] anT
  have hn4 : Z.nt ≤ 1000 := by have := v.nt; omega
  by_cases hi : inN i Z.nt = true
  · obtain ⟨t, rfl, ht⟩ : ∃ t : Nat, i = (t : Int) ∧ t < Z.nt := by
      have := of_decide_eq_true hi
      exact ⟨i.toNat, by omega, by omega⟩
    have HV := Lib.hid (show doX Z.FF m Z.nt (t : Int) c = (doM Z.FF m t c, 0) by unfold doX; rw [if_pos hi]; rfl)
    obtain ⟨_, c0, _, _⟩ := h2.cells
    have e0 := cell_of (h2.at 1 rfl) 0 _ rfl
    have e1 := cell_of (h2.at 1 rfl) 1 _ rfl
    have e2 := cell_of (h2.at 1 rfl) 2 _ rfl
    have e3 := cell_of (h2.at 1 rfl) 3 _ rfl
    have e4 := cell_of (h2.at 1 rfl) 4 _ rfl
    have e5 := cell_of (h2.at 1 rfl) 5 _ rfl
    have e6 := cell_of (h2.at 1 rfl) 6 _ rfl
    go_enter Tryz.func19, Tryz.ntmps19
    go_wp2_with fail
    refine (hasT_any h2 hn4 (t : Int)).mono ?_
    rintro e wq ⟨rfl, rfl⟩
    rw [hi]
    go_wp2_with fail
    go_region_with ((go_at_call 43; refine (answer_any h2.drew v hk ff ht hc).mono ?_; rintro e w4 ⟨v4, rfl, S4, h4⟩
                     generalize doM Z.FF m t c = r at S4 h4 HV ⊢
                     obtain ⟨⟨rc, rn, rs⟩, rm⟩ := r
                     obtain ⟨A4, n4, e4, _, _⟩ := S4.sr.form
                     subst e4
                     simp only [World.size_alloc] at h4
                     obtain ⟨k0, k1, k2, f0, f1, f2⟩ := ans_cells h4 0 rfl))
    all_goals
      have S7 := S4.local (h4.at 0 rfl) rfl (put3 (.int .i64 rc) (.int .i64 rn) (.slice A4 rs.length n4))
      have h7 := (((h4.put 0 rfl rfl 0 (.int .i64 rc)).put 0 rfl rfl 1 (.int .i64 rn)).put 0 rfl rfl 2 (.slice A4 rs.length n4)).drop 2
      go_wp2
      refine bodyPost_ret (v := .tuple #[anV rc rn (.slice A4 rs.length n4), .int .i64 0]) (by simp [results, Tryz.results19, go_sem, k0, k1, k2]; first | done | exact ⟨rfl, rfl, rfl⟩ | rfl) rfl ?_
      rw [HV.out]
      exact ⟨_, rfl, S7, h7⟩
  · have hi : inN i Z.nt = false := by simpa using hi
    have HV := Lib.hid (show doX Z.FF m Z.nt i c = ((no 0, m), 2) by unfold doX; rw [if_neg (by rw [hi]; simp)])
    go_enter Tryz.func19, Tryz.ntmps19
    go_wp2_with fail
    refine (hasT_any h2 hn4 i).mono ?_
    rintro e wq ⟨rfl, rfl⟩
    rw [hi]
    simp only [World.size_alloc] at h2
    obtain ⟨k0, k1, k2, f0, f1, f2⟩ := ans_cells h2 0 rfl
    go_wp2
    refine bodyPost_ret (v := .tuple #[anV 0 0 nil0, .int .i64 2]) (by simp [results, Tryz.results19, go_sem, k0, k1, k2]) rfl ?_
    rw [HV.out]
    exact ⟨nil0, rfl, .inl (Slic.Own.nil _ _), h2.drop 2⟩
end
end Go.Proofs.YtneggppfffekdaaGreat.Mod
