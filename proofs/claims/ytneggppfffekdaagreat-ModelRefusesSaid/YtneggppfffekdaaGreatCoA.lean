/-
  Contracts of package model: what only looks (threads, scopes, words, portals, how much is used), answers that are refused, registers.
-/
import Derived.Test.YtneggppfffekdaaGreatMemC
import Derived.Deep.DeepCutAuto
namespace Go.Proofs.YtneggppfffekdaaGreat.Mod
open Go.ChangeShapes Go.WideShapes Go.ChangeAt Go.RowKit
open Slic Sco
set_option linter.unusedVariables false
set_option linter.unusedSimpArgs false
set_option maxRecDepth 8000
attribute [local go_sem ↓] Go.wp_at_zero Go.wp_at_succ

/-- A call as a value, and a call of a thread of a model. -/
def caL (c : Ca) : List Value := [.int .u8 c.op, .int .u8 c.r, .int .u8 c.h, .int .u8 c.v, .int .i64 c.a, .int .i64 c.b, .int .i64 c.c]
abbrev caV (c : Ca) : Value := .agg #[.int .u8 c.op, .int .u8 c.r, .int .u8 c.h, .int .u8 c.v, .int .i64 c.a, .int .i64 c.b, .int .i64 c.c]
abbrev doA (Z : Fx) (t : Nat) (c : Ca) : Array Value := #[.pointer (some ⟨Z.B, 0, none⟩), .pointer (some ⟨Z.bt, t * 5, none⟩), .int .u8 c.op, .int .u8 c.r, .int .u8 c.h, .int .u8 c.v, .int .i64 c.a, .int .i64 c.b, .int .i64 c.c]
abbrev doV (Z : Fx) (t : Nat) (c : Ca) : Value := .agg (doA Z t c)
abbrev doT : TypeId := 125
abbrev anT : TypeId := 42
/-- An answer as a value: its code, number, and what was said. -/
abbrev anV (c n : Int) (v : Value) : Value := .agg #[.int .i64 c, .int .i64 n, v]
abbrev nil0 : Value := .slice none 0 0

theorem refused_any (w : World) (c : Int) : Calls Tryz.prog 75 #[.int .i64 c] w fun e w' => e = .returned (anV c 0 nil0) ∧ Below w.heap.size w w' := by
  go_enter Tryz.func75, Tryz.ntmps75
  go_wp2
  refine bodyPost_ret (v := anV c 0 nil0) (by simp [results, Tryz.results75, go_sem]) rfl ⟨rfl, ?_⟩
  exact (Below.refl _ _).alloc (Nat.le_refl _) _

section
variable {w0 w w' : World} {Z : Fx} {m : Mo} {bx : Bx}
def inN (i : Int) (n : Nat) : Bool := decide (0 ≤ i ∧ i < (n : Int))
theorem within_n {i : Int} {n : Nat} : Ctl.withinB i 0 ((n : Int) - 1) = inN i n := decide_eq_decide.2 (by omega)
theorem Mw.sc (h : Mw w0 w Z m bx) : Sc w Z.fr Z.B Z.g Z.B Z.n Z.A Z.S m.F := let ⟨_, h⟩ := h; h.md.sc
theorem Mw.nA (h : Mw w0 w Z m bx) : m.A.length = Z.n := let ⟨_, h⟩ := h; h.md.nA
theorem Mw.nT (h : Mw w0 w Z m bx) : m.T.length = Z.nt := let ⟨_, h⟩ := h; h.md.nT
theorem Mw.cells (h : Mw w0 w Z m bx) : w.cell? ⟨Z.B, 4, none⟩ = some (sl3 Z.fv) ∧ w.cell? ⟨Z.B, 5, none⟩ = some (.slice (some ⟨Z.bt, 0, none⟩) Z.nt Z.nt) ∧ w.cell? ⟨Z.B, 6, none⟩ = some (.slice (some ⟨Z.ba, 0, none⟩) Z.n Z.n) ∧ w.cell? ⟨Z.B, 7, none⟩ = some (.map (some Z.bm)) := let ⟨_, h⟩ := h; h.md.cells
/-- A thread's registers and entries. -/
theorem Mw.thr (h : Mw w0 w Z m bx) {t : Nat} (ht : t < Z.nt) : ∃ x : Tri, (w.cell? ⟨Z.bt, t * 5, none⟩ = some (.int .u64 ((m.th t).r 0)) ∧ w.cell? ⟨Z.bt, t * 5 + 1, none⟩ = some (.int .u64 ((m.th t).r 1)) ∧ w.cell? ⟨Z.bt, t * 5 + 2, none⟩ = some (.int .u64 ((m.th t).r 2)) ∧ w.cell? ⟨Z.bt, t * 5 + 3, none⟩ = some (.int .u64 ((m.th t).r 3)) ∧ w.cell? ⟨Z.bt, t * 5 + 4, none⟩ = some (sl3 x)) ∧ (∀ o, w.frozen? ⟨Z.bt, o, none⟩ = false) ∧ Chain.Own w 0 (sl3 x) (m.ents t) ∧ m.T[t]? = some (m.th t) := by
  obtain ⟨H, h⟩ := h
  obtain ⟨th, x, h1, h2⟩ := h.md.thAt ht
  have e : m.th t = th := by
    have h1' : m.T[t]? = some th := h1
    simp [Mo.th, h1']
  obtain ⟨c, f⟩ := own_at h.md.thr t (zip_get h1 h2)
  rw [e]
  refine ⟨x, ⟨c 0 _ rfl, c 1 _ rfl, c 2 _ rfl, c 3 _ rfl, c 4 _ rfl⟩, f, ?_, h1⟩
  show Chain.Own w 0 (sl3 x) (m.th t).c
  rw [e]
  exact h.md.ent t th x h1 h2
/-- What a scope has beside the forest. -/
theorem Mw.are (h : Mw w0 w Z m bx) {i : Int} (h0 : 0 ≤ i) (hi : i < (Z.n : Int)) : (w.cell? ⟨Z.ba, i.toNat * 3, none⟩ = some (.int .u64 (m.ar i).g) ∧ w.cell? ⟨Z.ba, i.toNat * 3 + 1, none⟩ = some (.int .i64 (m.ar i).u)) ∧ (∀ o, w.frozen? ⟨Z.ba, o, none⟩ = false) ∧ m.A[i.toNat]? = some (m.ar i) := by
  have hA := h.nA
  obtain ⟨H, h⟩ := h
  have h1 : m.A[i.toNat]? = some (m.ar i) := by
    have : i.toNat < m.A.length := by omega
    simp [Mo.ar, List.getElem?_eq_getElem this]
  obtain ⟨x, hx⟩ := get_zip (show (m.gs H.om).A[i.toNat]? = some _ from h1) (by rw [h.md.aml, h.md.nA])
  obtain ⟨c, f⟩ := own_at h.md.ars i.toNat (zip_get (show (m.gs H.om).A[i.toNat]? = some _ from h1) hx)
  exact ⟨⟨c 0 _ rfl, c 1 _ rfl⟩, f, h1⟩
theorem hasT_any (h : Mw w0 w Z m bx) (hn : Z.nt ≤ 1000) (i : Int) : Calls Tryz.prog 42 #[ptr Z.B, .int .i64 i] w fun e w' => e = .returned (.bool (inN i Z.nt)) ∧ w = w' := by
  obtain ⟨_, c0, _, _⟩ := h.cells
  have wr : IntKind.i64.wrap ((Z.nt : Int) - 1) = (Z.nt : Int) - 1 := IntWalk.i64_in _ (by omega)
  go_enter Tryz.func42, Tryz.ntmps42
  go_wp2_with (go_at_call 61; refine (Ctl.within_any _ _ _ _).mono ?_; rintro e w' ⟨rfl, rfl⟩; rw [within_n])
  go_ret
  exact ⟨rfl, rfl⟩
theorem hasS_any (h : Mw w0 w Z m bx) (hn : Z.n ≤ 8) (i : Int) : Calls Tryz.prog 57 #[ptr Z.B, .int .i64 i] w fun e w' => e = .returned (.bool (inN i Z.n)) ∧ w = w' := by
  obtain ⟨_, _, c0, _⟩ := h.cells
  have wr : IntKind.i64.wrap ((Z.n : Int) - 1) = (Z.n : Int) - 1 := IntWalk.i64_in _ (by omega)
  go_enter Tryz.func57, Tryz.ntmps57
  go_wp2_with (go_at_call 61; refine (Ctl.within_any _ _ _ _).mono ?_; rintro e w' ⟨rfl, rfl⟩; rw [within_n])
  go_ret
  exact ⟨rfl, rfl⟩
theorem ctlM_any (h : Mw w0 w Z m bx) (n8 : Z.n ≤ 8) (i : Int) : Calls Tryz.prog 26 #[ptr Z.B, .int .i64 i] w fun e w' => e = tellR (seeC m.F.R i) ∧ Below w.heap.size w w' := by
  have s := h.sc
  go_enter Tryz.func26, Tryz.ntmps26
  go_wp2_with fail
  refine (ctl_any (s.alloc' _) n8 i).mono ?_
  rintro e w1 ⟨rfl, k1⟩
  have k0 := (below_one w (.cells #[.int .i64 0, .int .i64 0, .int .i64 0, .int .i64 0] 64)).trans (k1.mono (by simp))
  have c0 : w1.cell? ⟨w.heap.size, 0, none⟩ = some (.int .i64 0) := (k1.cell (p := ⟨w.heap.size, 0, none⟩) (by simp)).trans (by simp [go_sem])
  have c1 : w1.cell? ⟨w.heap.size, 1, none⟩ = some (.int .i64 0) := (k1.cell (p := ⟨w.heap.size, 1, none⟩) (by simp)).trans (by simp [go_sem])
  have c2 : w1.cell? ⟨w.heap.size, 2, none⟩ = some (.int .i64 0) := (k1.cell (p := ⟨w.heap.size, 2, none⟩) (by simp)).trans (by simp [go_sem])
  have c3 : w1.cell? ⟨w.heap.size, 3, none⟩ = some (.int .i64 0) := (k1.cell (p := ⟨w.heap.size, 3, none⟩) (by simp)).trans (by simp [go_sem])
  have f0 : ∀ k, w1.frozen? ⟨w.heap.size, k, none⟩ = false := fun k => (k1.frozen (p := ⟨w.heap.size, k, none⟩) (by simp)).trans (by simp [go_sem])
  have f00 := f0 0
  have f01 := f0 1
  have f02 := f0 2
  have f03 := f0 3
  clear f0
  go_wp2
  refine bodyPost_ret (v := .tuple #[.agg #[.int .i64 (seeC m.F.R i).s, .int .i64 (seeC m.F.R i).c, .int .i64 (seeC m.F.R i).p, .int .i64 (seeC m.F.R i).e], .int .i64 (seeC m.F.R i).x]) (by simp [results, Tryz.results26, go_sem, c0, c1, c2, c3]) rfl ⟨rfl, ?_⟩
  exact (((k0.setCell (Nat.le_refl _) _).setCell (Nat.le_refl _) _).setCell (Nat.le_refl _) _).setCell (Nat.le_refl _) _
theorem do_cells (h : Mw w0 w Z m bx) {t : Nat} {c : Ca} {b : Nat} (i : Nat) (e : bx[i]? = some (b, .cells (doA Z t c) doT (0, 0))) :
    w.cell? ⟨b, 0, none⟩ = some (.pointer (some ⟨Z.B, 0, none⟩)) ∧ w.cell? ⟨b, 1, none⟩ = some (.pointer (some ⟨Z.bt, t * 5, none⟩)) ∧ w.cell? ⟨b, 2, none⟩ = some (.int .u8 c.op) ∧ w.cell? ⟨b, 3, none⟩ = some (.int .u8 c.r) ∧ w.cell? ⟨b, 4, none⟩ = some (.int .u8 c.h) ∧
    w.cell? ⟨b, 5, none⟩ = some (.int .u8 c.v) ∧ w.cell? ⟨b, 6, none⟩ = some (.int .i64 c.a) ∧ w.cell? ⟨b, 7, none⟩ = some (.int .i64 c.b) ∧ w.cell? ⟨b, 8, none⟩ = some (.int .i64 c.c) := by
  obtain ⟨cc, _⟩ := h.cell i e
  exact ⟨cc 0 _ rfl, cc 1 _ rfl, cc 2 _ rfl, cc 3 _ rfl, cc 4 _ rfl, cc 5 _ rfl, cc 6 _ rfl, cc 7 _ rfl, cc 8 _ rfl⟩
def portV (m : Mo) (n : Nat) (i : Int) : Int := if inN i n = true then (m.ar i).g else 0
def usedV (m : Mo) (n : Nat) (i : Int) : Int := if inN i n = true then (m.ar i).u else 0
theorem port_any (h : Mw w0 w Z m bx) (n8 : Z.n ≤ 8) (i : Int) : Calls Tryz.prog 27 #[ptr Z.B, .int .i64 i] w fun e w' => e = .returned (.int .u64 (portV m Z.n i)) ∧ w = w' := by
  obtain ⟨_, _, c0, _⟩ := h.cells
  by_cases hi : inN i Z.n = true
  · have HV := Lib.hid (show portV m Z.n i = (m.ar i).g from if_pos hi)
    obtain ⟨i1, i2⟩ : 0 ≤ i ∧ i < (Z.n : Int) := of_decide_eq_true hi
    obtain ⟨⟨c1, _⟩, _⟩ := h.are i1 i2
    go_enter Tryz.func27, Tryz.ntmps27
    go_wp2_with (go_at_call 57; refine (hasS_any h n8 i).mono ?_; rintro e w' ⟨rfl, rfl⟩; rw [hi])
    go_ret
    exact ⟨by rw [HV.out]; rfl, rfl⟩
  · have HV := Lib.hid (show portV m Z.n i = 0 from if_neg hi)
    have hi : inN i Z.n = false := by simpa using hi
    go_enter Tryz.func27, Tryz.ntmps27
    go_wp2_with (go_at_call 57; refine (hasS_any h n8 i).mono ?_; rintro e w' ⟨rfl, rfl⟩; rw [hi])
    go_ret
    exact ⟨by rw [HV.out]; rfl, rfl⟩
theorem used_any (h : Mw w0 w Z m bx) (n8 : Z.n ≤ 8) (i : Int) : Calls Tryz.prog 28 #[ptr Z.B, .int .i64 i] w fun e w' => e = .returned (.int .i64 (usedV m Z.n i)) ∧ w = w' := by
  obtain ⟨_, _, c0, _⟩ := h.cells
  by_cases hi : inN i Z.n = true
  · have HV := Lib.hid (show usedV m Z.n i = (m.ar i).u from if_pos hi)
    obtain ⟨i1, i2⟩ : 0 ≤ i ∧ i < (Z.n : Int) := of_decide_eq_true hi
    obtain ⟨⟨_, c1⟩, _⟩ := h.are i1 i2
    go_enter Tryz.func28, Tryz.ntmps28
    go_wp2_with (go_at_call 57; refine (hasS_any h n8 i).mono ?_; rintro e w' ⟨rfl, rfl⟩; rw [hi])
    go_ret
    exact ⟨by rw [HV.out]; rfl, rfl⟩
  · have HV := Lib.hid (show usedV m Z.n i = 0 from if_neg hi)
    have hi : inN i Z.n = false := by simpa using hi
    go_enter Tryz.func28, Tryz.ntmps28
    go_wp2_with (go_at_call 57; refine (hasS_any h n8 i).mono ?_; rintro e w' ⟨rfl, rfl⟩; rw [hi])
    go_ret
    exact ⟨by rw [HV.out]; rfl, rfl⟩
theorem isS_any (h : Mw w0 w Z m bx) (n8 : Z.n ≤ 8) (t : Nat) (c : Ca) : Calls Tryz.prog 120 #[doV Z t c] w fun e w' => e = .returned (.bool (scopeB m c.a)) ∧ Below w.heap.size w w' := by
  have h1 := h.new (doA Z t c) doT
  obtain ⟨c0, _, _, _, _, _, c6, _, _⟩ := do_cells h1 0 rfl
  have hA := h.nA
  by_cases hz : c.a = 0
  · have HV := Lib.hid (show scopeB m c.a = false from decide_eq_false (by omega))
    go_enter Tryz.func120, Tryz.ntmps120
    go_wp2
    go_ret
    exact ⟨by rw [HV.out]; rfl, below_one _ _⟩
  · have HV := Lib.hid (show inN c.a Z.n = scopeB m c.a from decide_eq_decide.2 (by omega))
    have z : (c.a != 0) = true := bne_iff_ne.2 hz
    go_enter Tryz.func120, Tryz.ntmps120
    go_wp2_with (go_at_call 57; refine (hasS_any h1 n8 c.a).mono ?_; rintro e w' ⟨rfl, rfl⟩)
    go_ret
    exact ⟨by rw [HV.out]; rfl, below_one _ _⟩
end
end Go.Proofs.YtneggppfffekdaaGreat.Mod
