/-
  How a scope lives: what becomes of each by something that is done.
-/
import Derived.Test.YtkkmhapfhnnooaaScoL
namespace Go.Proofs.Ytkkmhapfhnnooaa.Sco
open Gm
set_option linter.unusedVariables false
set_option linter.unusedSimpArgs false

/-- How a scope changes by something of a kind. -/
def Chg (kd : Int) (x y : Cx) : Prop :=
  (kd = 0 ∧ x.s = 0 ∧ y.s = 1 ∧ y.e = x.e) ∨
  (kd = 1 ∧ x.s = 1 ∧ y.s = 0 ∧ y.e = (x.e + 1) % 16777216) ∨
  ((kd = 2 ∨ kd = 3) ∧ x.s = 1 ∧ y.s = 2 ∧ y.e = x.e ∧ y.a = x.a ∧ y.z = x.z) ∨
  ((kd = 2 ∨ kd = 3) ∧ x.s = 2 ∧ y.s = 2 ∧ y.c ≠ x.c ∧ y.e = x.e ∧ y.a = x.a ∧ y.z = x.z) ∨
  (kd = 4 ∧ x.s = 2 ∧ y.s = 2 ∧ y.c ≠ x.c ∧ y.e = x.e ∧ y.a = x.a ∧ y.z = x.z) ∨
  (kd = 4 ∧ x.s = 2 ∧ y.s = 3 ∧ y.e = x.e ∧ y.a = x.a ∧ y.z = x.z) ∨
  (kd = 5 ∧ x.s = 3 ∧ y.s = 1 ∧ y.e = (x.e + 1) % 16777216 ∧ y.a = x.a ∧ y.z = x.z) ∨
  (kd = 6 ∧ x.s = 3 ∧ y.s = 2 ∧ y.e = x.e ∧ y.a = x.a ∧ y.z = x.z)
/-- A change of a scope of a number: all others stay. -/
theorem turn_life {F : Fo} (i : Int) {f : Cx → Ctl.R} {kd : Int} (hf : ∀ x : Cx, F.R[i.toNat]? = some x → (f x).x = 0 → Chg kd x (x.turn (f x))) (m : Nat) (x : Cx) (hx : F.R[m]? = some x) :
    ∃ y, (turnV F i f).F.R[m]? = some y ∧ (y = x ∨ ((turnV F i f).x = 0 ∧ (m : Int) = i ∧ Chg kd x y)) := by
  unfold turnV
  cases hl : look F.R i with
  | none => exact ⟨x, hx, .inl rfl⟩
  | some u =>
    obtain ⟨h1, h2, h3⟩ := look_in hl
    by_cases h0 : (f u).x = 0
    · simp only [h0, if_true]
      by_cases hm : m = i.toNat
      · subst hm
        rw [h3] at hx
        injection hx with hx
        subst hx
        exact ⟨_, set_get (by omega), .inr ⟨trivial, by omega, hf _ h3 h0⟩⟩
      · exact ⟨x, by rw [set_other hm]; exact hx, .inl rfl⟩
    · simp only [h0, if_false]
      exact ⟨x, hx, .inl rfl⟩
section
variable {n : Nat} {A S I J : Int} {F : Fo}
theorem lif_en (h : Inv n A S I J F) (f : Int) (kd : Int) (hk : kd = 2 ∨ kd = 3) (i : Nat) (x : Cx) (hx : F.R[i]? = some x) (h0 : (enF f x).x = 0) : Chg kd x (x.turn (enF f x)) := by
  have := rightI (h.right _ x hx)
  have e : (enF f x) = Ctl.entV x.s x.c x.p x.e f := rfl
  rw [e] at h0 ⊢
  rcases Ctl.ent_cases x.s x.c x.p x.e f with ⟨hr, he⟩ | ⟨hr, hf, he⟩ | ⟨hr, f1, f2, h1, he⟩ | ⟨hr, f1, f2, h1, he⟩ | ⟨hr, f1, f2, h1, he⟩ | ⟨hr, f1, f2, h1, hp, he⟩ | ⟨hr, f1, f2, h1, h2, h3, he⟩ | ⟨hr, f1, f2, h1, h2, hc1, hc2, he⟩
  all_goals rw [he] at h0 ⊢
  all_goals first
    | (exact absurd h0 (by show ¬ (1 : Int) = 0; decide))
    | (exact absurd h0 (by show ¬ (11 : Int) = 0; decide))
    | (exact absurd h0 (by show ¬ (10 : Int) = 0; decide))
    | (exact absurd h0 (by show ¬ (15 : Int) = 0; decide))
    | (exact absurd h0 (by show ¬ (16 : Int) = 0; decide))
    | (exact .inr (.inr (.inl ⟨hk, by omega, rfl, rfl, rfl, rfl⟩)))
    | (exact .inr (.inr (.inr (.inl ⟨hk, by omega, rfl, (by show ¬ x.c + 1 = x.c; omega), rfl, rfl, rfl⟩))))
theorem lif_le (h : Inv n A S I J F) (i : Nat) (x : Cx) (hx : F.R[i]? = some x) (h0 : (leF x).x = 0) : Chg 4 x (x.turn (leF x)) := by
  have hr := h.right _ x hx
  have := rightI hr
  have e : leF x = if x.s = 2 then (if x.c = 1 then ⟨3, 0, x.p, x.e, 0⟩ else ⟨2, x.c - 1, x.p, x.e, 0⟩) else Ctl.no 11 := by
    show Ctl.leV x.s x.c x.p x.e = _
    unfold Ctl.leV; rw [if_pos hr]
  rw [e] at h0 ⊢
  by_cases h2 : x.s = 2
  · rw [if_pos h2]
    by_cases h1 : x.c = 1
    · rw [if_pos h1]
      exact .inr (.inr (.inr (.inr (.inr (.inl ⟨rfl, h2, rfl, rfl, rfl, rfl⟩)))))
    · rw [if_neg h1]
      exact .inr (.inr (.inr (.inr (.inl ⟨rfl, h2, rfl, (by show ¬ x.c - 1 = x.c; omega), rfl, rfl, rfl⟩))))
  · rw [if_neg h2] at h0
    exact absurd h0 (by show ¬ (11 : Int) = 0; decide)
theorem lif_op (h : Inv n A S I J F) (i : Nat) (x : Cx) (hx : F.R[i]? = some x) (h0 : (opF x).x = 0) : Chg 5 x (x.turn (opF x)) := by
  have hr := h.right _ x hx
  have e : opF x = if x.s = 3 then ⟨1, 0, -1, (x.e + 1) % 16777216, 0⟩ else Ctl.no 11 := by
    show Ctl.opV x.s x.c x.p x.e = _
    unfold Ctl.opV; rw [if_pos hr]
  rw [e] at h0 ⊢
  by_cases h2 : x.s = 3
  · rw [if_pos h2]
    exact .inr (.inr (.inr (.inr (.inr (.inr (.inl ⟨rfl, h2, rfl, rfl, rfl, rfl⟩))))))
  · rw [if_neg h2] at h0
    exact absurd h0 (by show ¬ (11 : Int) = 0; decide)
theorem lif_ho (h : Inv n A S I J F) (i : Nat) (x : Cx) (hx : F.R[i]? = some x) (h0 : (hoF x).x = 0) : Chg 6 x (x.turn (hoF x)) := by
  have hr := h.right _ x hx
  have e : hoF x = if x.s = 3 then ⟨2, 1, x.p, x.e, 0⟩ else Ctl.no 11 := by
    show Ctl.hoV x.s x.c x.p x.e = _
    unfold Ctl.hoV; rw [if_pos hr]
  rw [e] at h0 ⊢
  by_cases h2 : x.s = 3
  · rw [if_pos h2]
    exact .inr (.inr (.inr (.inr (.inr (.inr (.inr ⟨rfl, h2, rfl, rfl, rfl, rfl⟩))))))
  · rw [if_neg h2] at h0
    exact absurd h0 (by show ¬ (11 : Int) = 0; decide)
theorem destroy_life (i : Int) (m : Nat) (x : Cx) (hx : F.R[m]? = some x) :
    ∃ y, (destroyV F i).F.R[m]? = some y ∧ (y = x ∨ ((destroyV F i).x = 0 ∧ (m : Int) = i ∧ Chg 1 x y)) := by
  unfold destroyV
  cases hl : look F.R i with
  | none => exact ⟨x, hx, .inl rfl⟩
  | some u =>
    obtain ⟨h1, h2, h3⟩ := look_in hl
    by_cases s0 : u.s = 0
    · simp only [s0, if_true]
      exact ⟨x, hx, .inl rfl⟩
    · by_cases s1 : u.s = 1
      · simp only [s1, if_true]
        simp only [show ¬ ((1 : Int) = 0) by decide, if_false]
        by_cases hm : m = i.toNat
        · subst hm
          rw [h3] at hx
          injection hx with hx
          subst hx
          exact ⟨_, set_get (by omega), .inr ⟨trivial, by omega, .inr (.inl ⟨rfl, s1, rfl, rfl⟩)⟩⟩
        · exact ⟨x, by rw [set_other hm]; exact hx, .inl rfl⟩
      · simp only [s0, s1, if_false]
        exact ⟨x, hx, .inl rfl⟩
theorem create_life (z : Int) (m : Nat) (x : Cx) (hx : F.R[m]? = some x) :
    ∃ y, (createV F z).F.R[m]? = some y ∧ (y = x ∨ ((createV F z).x = 0 ∧ (m : Int) = (createV F z).v ∧ Chg 0 x y)) := by
  unfold createV
  by_cases hz : z < 1 ∨ 8192 < z
  · rw [if_pos hz]
    exact ⟨x, hx, .inl rfl⟩
  · rw [if_neg hz]
    cases hl : F.R[F.R.findIdx fr]? with
    | none => exact ⟨x, hx, .inl rfl⟩
    | some u =>
      have hk := (List.getElem?_eq_some_iff.1 hl).1
      have hs := fr_at hl
      by_cases hb : Gr.carveB (upz z) F.L = true
      · simp only [hb, if_true]
        by_cases hm : m = F.R.findIdx fr
        · rw [hm] at hx ⊢
          rw [hl] at hx
          injection hx with hx
          subst hx
          exact ⟨_, set_get hk, .inr ⟨trivial, rfl, .inl ⟨rfl, hs, rfl, rfl⟩⟩⟩
        · exact ⟨x, by rw [set_other hm]; exact hx, .inl rfl⟩
      · simp only [hb]
        exact ⟨x, hx, .inl rfl⟩
/-- Which scope a thing done is of. -/
def whichV (F : Fo) (k s z : Int) : Int := if k % 7 = 0 then (doV F k s z).v else s
theorem do_life (h : Inv n A S I J F) (k s z : Int) (m : Nat) (x : Cx) (hx : F.R[m]? = some x) :
    ∃ y, (doV F k s z).F.R[m]? = some y ∧ (y = x ∨ ((doV F k s z).x = 0 ∧ (m : Int) = whichV F k s z ∧ Chg (k % 7) x y)) := by
  unfold whichV
  rcases do_cases F k s z with ⟨hk, E⟩ | ⟨hk, E⟩ | ⟨hk, E⟩ | ⟨hk, E⟩ | ⟨hk, E⟩ | ⟨hk, E⟩ | ⟨hk, E⟩
  all_goals rw [E, hk]
  · rw [if_pos rfl]
    exact create_life z m x hx
  all_goals rw [if_neg (by decide)]
  · exact destroy_life s m x hx
  · exact turn_life s (fun u hu => lif_en h z 2 (.inl rfl) _ u hu) m x hx
  · exact turn_life s (fun u hu => lif_en h z 3 (.inr rfl) _ u hu) m x hx
  · exact turn_life s (fun u hu => lif_le h _ u hu) m x hx
  · exact turn_life s (fun u hu => lif_op h _ u hu) m x hx
  · exact turn_life s (fun u hu => lif_ho h _ u hu) m x hx
/-- One epoch on, counted round. -/
theorem one_more {e : Int} (e0 : 0 ≤ e) (e1 : e ≤ 16777215) : ∃ d : Int, IntKind.i64.wrap ((e + 1) % 16777216 - e) = d ∧ bits .and .i64 d 16777215 = 1 := by
  refine ⟨_, rfl, ?_⟩
  have m := Ctl.mask_i64 24 (by decide) (IntKind.i64.wrap ((e + 1) % 16777216 - e))
  simp only [Int.reducePow, Int.reduceSub] at m
  rw [m, IntKind.wrap_i64]
  omega
theorem none_more (e : Int) : IntKind.i64.wrap (e - e) = 0 ∧ bits .and .i64 0 16777215 = 0 := by
  refine ⟨by rw [Int.sub_self]; rfl, ?_⟩
  have m := Ctl.mask_i64 24 (by decide) 0
  simp only [Int.reducePow, Int.reduceSub] at m
  rw [m]
  rfl
end
theorem all_six {R : List Cx} {i : Nat} {x : Cx} (hx : R[i]? = some x) (h8 : R.length ≤ 8) : (allA R)[i * 4]? = some (.int .i64 x.s) ∧ (allA R)[i * 4 + 1]? = some (.int .i64 x.c) ∧ (allA R)[i * 4 + 2]? = some (.int .i64 x.p) ∧ (allA R)[i * 4 + 3]? = some (.int .i64 x.e) ∧ (allA R)[32 + i * 2]? = some (.int .i64 x.a) ∧ (allA R)[32 + i * 2 + 1]? = some (.int .i64 x.z) :=
  ⟨(all_c hx h8).1, (all_c hx h8).2.1, (all_c hx h8).2.2.1, (all_c hx h8).2.2.2, (all_x hx h8).1, (all_x hx h8).2⟩
theorem six_cells {w0 w : World} {b : Nat} {C : Array Value} {t : TypeId} {i : Nat} {x : Cx} (h : Bt w0 w b C.toList t) (hc : C[i * 4]? = some (.int .i64 x.s) ∧ C[i * 4 + 1]? = some (.int .i64 x.c) ∧ C[i * 4 + 2]? = some (.int .i64 x.p) ∧ C[i * 4 + 3]? = some (.int .i64 x.e) ∧ C[32 + i * 2]? = some (.int .i64 x.a) ∧ C[32 + i * 2 + 1]? = some (.int .i64 x.z)) :
    w.cell? ⟨b, i * 4, none⟩ = some (.int .i64 x.s) ∧ w.cell? ⟨b, i * 4 + 1, none⟩ = some (.int .i64 x.c) ∧ w.cell? ⟨b, i * 4 + 2, none⟩ = some (.int .i64 x.p) ∧ w.cell? ⟨b, i * 4 + 3, none⟩ = some (.int .i64 x.e) ∧ w.cell? ⟨b, 32 + i * 2, none⟩ = some (.int .i64 x.a) ∧ w.cell? ⟨b, 32 + i * 2 + 1, none⟩ = some (.int .i64 x.z) :=
  ⟨h.cell _ _ (by rw [Array.getElem?_toList]; exact hc.1), h.cell _ _ (by rw [Array.getElem?_toList]; exact hc.2.1), h.cell _ _ (by rw [Array.getElem?_toList]; exact hc.2.2.1), h.cell _ _ (by rw [Array.getElem?_toList]; exact hc.2.2.2.1), h.cell _ _ (by rw [Array.getElem?_toList]; exact hc.2.2.2.2.1), h.cell _ _ (by rw [Array.getElem?_toList]; exact hc.2.2.2.2.2)⟩
end Go.Proofs.Ytkkmhapfhnnooaa.Sco
