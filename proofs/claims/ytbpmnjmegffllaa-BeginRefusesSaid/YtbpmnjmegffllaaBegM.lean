/-
  What the laws of stage 13 carry: a Run that was made, in a block of one's own, beside others.
-/
import Derived.Test.YtbpmnjmegffllaaBegL
import Derived.Deep.DeepCutAuto
namespace Go.Proofs.Ytbpmnjmegffllaa.Beg
open Go.ChangeShapes Go.WideShapes Go.ChangeAt Go.RowKit
open Go.Proofs.Ytbpmnjmegffllaa.Mod Slic
set_option linter.unusedVariables false
set_option linter.unusedSimpArgs false
set_option maxRecDepth 100000
attribute [local go_sem ↓] Go.wp_at_zero Go.wp_at_succ

theorem below_fill {B b : Nat} (hb : B ≤ b) : ∀ (us : List Value) (o : Nat) {a w : World}, Below B a w → Below B a (w.setCells b o us)
  | [], _, _, _, h => h
  | v :: r, o, _, _, h => below_fill hb r (o + 1) (h.setCell (p := ⟨b, o, none⟩) hb v)
theorem late_below {w wq : World} {o : Obj} {us : List Value} (k : Below w.drew.heap.size w.drew wq) : Below w.heap.size w ((wq.alloc o).setCells wq.heap.size 0 us) :=
  below_fill k.size us 0 ((((Below.refl _ w).drew).trans k).alloc k.size o)
theorem early_below {w wq : World} {o : Obj} {us : List Value} (k : Below (w.drew.alloc o).heap.size (w.drew.alloc o) wq) : Below w.heap.size w (wq.setCells w.drew.heap.size 0 us) :=
  below_fill (Nat.le_refl _) us 0 (((((Below.refl _ w).drew).alloc (Nat.le_refl _) o)).trans (k.mono (by simp [World.size_alloc])))
theorem late_sr {wq : World} {o : Obj} {us : List Value} {v : Value} {L : List Chain.E} (h : Sr kE wq v L) : Sr kE ((wq.alloc o).setCells wq.heap.size 0 us) v L :=
  h.below (below_fill (Nat.le_refl _) us 0 (below_one wq o))
theorem early_sr {w wq : World} {o : Obj} {us : List Value} {v : Value} {L : List Chain.E} (h : Sr kE wq v L) (hb : ∀ g, v.ownBlock = some g → (w.drew.alloc o).heap.size ≤ g) : Sr kE (wq.setCells w.drew.heap.size 0 us) v L :=
  sr_set h us fun g e => by
    have := hb g e
    rw [World.size_alloc] at this
    omega
/-- A Run that was made, in a block of one's own, beside others. -/
def RunB (w wr : World) (M : List (Nat × List Value)) (R : Value → Ru) (L : List Chain.E) (s : Value) (wx : World) : Prop := ∃ g ch, s = ptr g ∧ Held.St w wx ((g, (R ch).cells) :: M) ∧ Sr kE wx ch L ∧ Below wr.heap.size wr wx
theorem of_one {c : Ca} {be : Be} {ar ha va : Int} {A : Option Addr} {n d : Nat} : ∀ u ∈ (ofR c be ar ha va (.slice A n d)).cells, u.oneCell' = true := cells_one rfl rfl rfl rfl
/-- A Run that was told. -/
def ofT (c : Ca) (be : Be) (ar ha va code n : Int) (ch li sa as_ : Value) : Ru := ⟨c, be.pc, ar, ha, va, ch, 0, 0, 0, 0, li, 0, sa, 0, false, true, true, code, n, as_⟩
theorem tell_ofR (c : Ca) (be : Be) (ar ha va code n : Int) (c0 ch li sa as_ : Value) : runV ⟨(ofR c be ar ha va c0).c, (ofR c be ar ha va c0).pc, (ofR c be ar ha va c0).area, (ofR c be ar ha va c0).hand, (ofR c be ar ha va c0).val, ch, (ofR c be ar ha va c0).word, (ofR c be ar ha va c0).next, (ofR c be ar ha va c0).at_, (ofR c be ar ha va c0).top, li, (ofR c be ar ha va c0).op, sa, (ofR c be ar ha va c0).n, (ofR c be ar ha va c0).held, true, true, code, n, as_⟩ = runV (ofT c be ar ha va code n ch li sa as_) := rfl
theorem keep11 {w0 w1 W : World} {p q : Nat} {n t i j code m : Int} {s : Value} {op r h y a b d : Int} (P : Held.At w0 W p [.int .i64 n, .int .i64 t, .int .i64 i, .int .i64 j]) (C : Held.At w1 W q [s, .int .u8 op, .int .u8 r, .int .u8 h, .int .u8 y, .int .i64 a, .int .i64 b, .int .i64 d, .int .i64 code, .int .i64 m]) :
    ((W.cell? ⟨p, 0, none⟩ = some (.int .i64 n) ∧ W.cell? ⟨p, 1, none⟩ = some (.int .i64 t) ∧ W.cell? ⟨p, 2, none⟩ = some (.int .i64 i) ∧ W.cell? ⟨p, 3, none⟩ = some (.int .i64 j)) ∧ W.cell? ⟨q, 1, none⟩ = some (.int .u8 op) ∧ W.cell? ⟨q, 2, none⟩ = some (.int .u8 r) ∧ W.cell? ⟨q, 3, none⟩ = some (.int .u8 h) ∧ W.cell? ⟨q, 4, none⟩ = some (.int .u8 y) ∧ W.cell? ⟨q, 5, none⟩ = some (.int .i64 a) ∧ W.cell? ⟨q, 6, none⟩ = some (.int .i64 b) ∧ W.cell? ⟨q, 7, none⟩ = some (.int .i64 d)) :=
  ⟨plan4 P, C.cell 1 _ rfl, C.cell 2 _ rfl, C.cell 3 _ rfl, C.cell 4 _ rfl, C.cell 5 _ rfl, C.cell 6 _ rfl, C.cell 7 _ rfl⟩
/-- Only the two registers that are named count. -/
theorem reg_eq {f g : Nat → Int} {h y : Int} (h0 : 0 ≤ h) (y0 : 0 ≤ y) (e : ∀ j : Nat, j < 4 → ((j : Int) = h ∨ (j : Int) = y) → f j = g j) : regA [f 0, f 1, f 2, f 3] h = regA [g 0, g 1, g 2, g 3] h ∧ regA [f 0, f 1, f 2, f 3] y = regA [g 0, g 1, g 2, g 3] y := by
  have one : ∀ z : Int, 0 ≤ z → (z = h ∨ z = y) → regA [f 0, f 1, f 2, f 3] z = regA [g 0, g 1, g 2, g 3] z := fun z z0 hz => by
    unfold regA
    by_cases hl : z < 4
    · rw [if_pos hl, if_pos hl]
      have ej := e z.toNat (by omega) (by omega)
      have : z.toNat = 0 ∨ z.toNat = 1 ∨ z.toNat = 2 ∨ z.toNat = 3 := by omega
      rcases this with q | q | q | q <;> rw [q] at ej ⊢ <;> exact ej
    · rw [if_neg hl, if_neg hl]
  exact ⟨one h h0 (.inl rfl), one y y0 (.inr rfl)⟩
theorem reg_cell {g0 g1 g2 g3 : Int} {k : Nat} (h : k < 4) : [Value.int .u64 g0, .int .u64 g1, .int .u64 g2, .int .u64 g3][k]? = some (.int .u64 (regA [g0, g1, g2, g3] (k : Int))) := by
  have : k = 0 ∨ k = 1 ∨ k = 2 ∨ k = 3 := by omega
  rcases this with rfl | rfl | rfl | rfl <;> rfl
theorem reg_none {R : List Int} {k : Nat} (h : ¬ k < 4) : regA R (k : Int) = 0 := by
  unfold regA
  rw [if_neg (by omega)]
theorem area_q {w : World} {v : Value} {LL : List Chain.E} {ar : Int} {n : Nat} (h : Chain.Sr w v LL) (e : Chain.areaV LL = ar) : Calls Try.prog 81 #[v] (w.drewN n) fun e w' => e = .returned (.int .i64 ar) ∧ w' = w.drewN n := by
  subst e
  exact (Chain.refarea_any _ v LL (h.below (Held.below_drewN (Below.refl _ _) n))).mono fun e w' ⟨a, b⟩ => ⟨a, b.symm⟩
theorem run_ref (s e a : Int) (W : World) : (Op.equalIn 10000 164 (.agg #[.int .i64 s, .int .i64 e, .int .i64 a]) (.agg #[.int .i64 s, .int .i64 e, .int .i64 a])).run Try.prog W = .ok true W := by
  simp [go_sem]
theorem range_get {w0 W : World} {b : Nat} {vs : List Value} (A : Held.At w0 W b vs) : W.rangeAt b 0 vs := fun j v hv => by
  rw [Nat.zero_add]
  exact A.cell j v hv
theorem fit_len (L : List Chain.E) : (Chain.fitV L).length ≤ 100000 := by
  have := (Chain.fit_fits L).2
  omega
end Go.Proofs.Ytbpmnjmegffllaa.Beg
