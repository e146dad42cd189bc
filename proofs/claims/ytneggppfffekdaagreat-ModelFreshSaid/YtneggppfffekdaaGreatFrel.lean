/-
  ModelFresh in plain mathematics: what one call tells of an object that it made.
-/
import Derived.Test.YtneggppfffekdaaGreatOwnl
namespace Go.Proofs.YtneggppfffekdaaGreat.Mod
open Go.ChangeShapes Go.WideShapes Go.ChangeAt Go.RowKit
open Slic Sco
set_option linter.unusedVariables false
set_option linter.unusedSimpArgs false
section
variable {w0 w w' : World} {Z : Fx} {FF : List (List Fina.O)} {n nt k : Nat} {m : Mo} {bx : Bx}
/-- What is told of an object that was made. -/
structure Made (m m' : Mo) (t : Nat) (c : Ca) (y : Int) (n : Nat) (s : Nat) (e a sc sp u : Int) : Prop where
  area : Chain.areaV (m.ents t) = s
  sn : s < n
  y0 : 0 ≤ y
  y1 : y ≤ 9223372036854775807
  un : Refs.unV y = ⟨s, e, a, 0⟩
  see : seeC m'.F.R s = ⟨2, sc, sp, e, 0⟩
  sl : slotsV m' y = (List.replicate c.a.toNat 0, true)
  reg : (m'.th t).r c.r.toNat = y
  r4 : c.r < 4
  a0 : 0 ≤ c.a
  a6 : c.a ≤ 6
  b0 : 0 ≤ c.b
  b1 : c.b ≤ 512
  us : (m.ar s).u = u
  us' : (m'.ar s).u = u + 8 * (2 + c.a + (c.b + 7) / 8)
theorem doX_doM {FF : List (List Fina.O)} {m m' : Mo} {nt t : Nat} {c : Ca} {a : An} {z : Int} (R : doX FF m nt (t : Int) c = ((a, m'), z)) (ht : t < nt) : doM FF m t c = (a, m') := by
  unfold doX at R
  rw [if_pos (show inN (t : Int) nt = true from decide_eq_true (by omega)), Int.toNat_natCast] at R
  exact congrArg (fun q => q.1) R
theorem Ms.told (h : Ms w0 w Z FF n nt k m bx) {L : List Int} (T : Told m k L) (hk : k ≤ 1000) {t : Nat} (ht : t < nt) {c : Ca} {a : An} {m' : Mo} {z : Int} (R : doX FF m nt (t : Int) c = ((a, m'), z)) : Told m' (k + 1) L := by
  have e := doX_doM R ht
  have u := T.up h.iv (h.iv.up FF (by rw [h.et]; exact ht) c (fun i x hx => by have := T.ep i x hx; omega))
  rw [e] at u
  exact u
theorem Ms.made (h : Ms w0 w Z FF n nt k m bx) {L : List Int} (T : Told m k L) (hk : k ≤ 1000) {t : Nat} (ht : t < nt) {c : Ca} {x y : Int} {Ls : List Int} {m' : Mo} {z : Int} (R : doX FF m nt (t : Int) c = ((⟨x, y, Ls⟩, m'), z)) (h7 : c.op = 7) (h0 : x = 0) :
    ∃ (s : Nat) (e a sc sp u : Int), Made m m' t c y n s e a sc sp u ∧ y ∉ L ∧ Told m' (k + 1) (L ++ [y]) := by
  have T' := h.told T hk ht R
  have e := doX_doM R ht
  have tt : t < Z.nt := by rw [h.et]; exact ht
  obtain ⟨ea, er⟩ := do_alloc (FF := FF) (m := m) (t := t) h7 (by rw [e]; exact h0)
  rw [e] at ea
  obtain ⟨s, cx, a, c1, c2, c3, c4, c5, c6, c7, c8, c9, c10, c11⟩ := h.iv.alloc_ok tt (c := c) (by rw [← ea]; exact h0)
  rw [c11] at ea
  injection ea with ea em
  injection ea with _ ey _
  subst ey em
  have rb := Refs.rbounds c9
  have asq : (m.ar (s : Int)) = a := by
    unfold Mo.ar
    rw [Int.toNat_natCast, List.getD_eq_getElem?_getD, c3]
    rfl
  have hs : s < n := by
    have := (List.getElem?_eq_some_iff.1 c3).1
    have := h.iv.nA
    have := h.en
    omega
  obtain ⟨n1, n2⟩ := T.add h.iv c2 c3 c9 (o := ⟨s, cx.e, cx.a + a.u, List.replicate c.a.toNat 0, c.c, false⟩) (by' := 8 * (2 + c.a + (c.b + 7) / 8)) (r := c.r) (t := t) rfl (by omega) T'
  refine ⟨s, cx.e, cx.a + a.u, cx.c, cx.p, a.u, ⟨c1, hs, ?_, ?_, un_handle c9, ?_, ?_, ?_, ?_, c5, c6, c7, c8, by rw [asq], ?_⟩, n1, n2⟩
  · unfold Refs.handle; omega
  · unfold Refs.handle; omega
  · have := (see_in c2).1
    rw [c4] at this
    exact this
  · unfold slotsV Mo.obs
    show (match (m.O ++ [_]).find? _ with | none => _ | some o => _) = _
    rw [List.find?_append, List.find?_eq_none.2 (fun o ho => by simpa using c10 o ho)]
    simp [Ob.h]
  · unfold Mo.setReg Mo.th
    show ((m.T.set t _).getD t th0).r _ = _
    rw [List.getD_eq_getElem?_getD, List.getElem?_set, if_pos rfl, if_pos (by rw [h.iv.nT]; exact tt)]
    show setR _ _ _ _ = _
    unfold setR
    rw [if_pos rfl]
  · have : ¬ (4 ≤ c.r) := of_decide_eq_false er
    omega
  · show ((m.A.set (s : Int).toNat ⟨(m.ar (s : Int)).g, (m.ar (s : Int)).u + 8 * (2 + c.a + (c.b + 7) / 8)⟩).getD (s : Int).toNat ar0).u = _
    rw [List.getD_eq_getElem?_getD, List.getElem?_set, if_pos rfl, if_pos (by rw [Int.toNat_natCast]; exact (List.getElem?_eq_some_iff.1 c3).1), asq]
    rfl
theorem told0 : Told sh0 0 [] := ⟨fun i x hx => by
  have h : ∀ x ∈ sh0.F.R, x.e ≤ 0 := by
    intro x hx
    rcases List.mem_cons.1 hx with rfl | hx
    · exact Int.le_refl 0
    · rw [List.eq_of_mem_replicate hx]
      exact Int.le_refl 0
  exact h x (List.mem_of_getElem? hx), fun h hh => absurd hh List.not_mem_nil⟩
/-- Where a thread allocates is a scope. -/
theorem Ms.areaB (h : Ms w0 w Z FF n nt k m bx) {t : Nat} (ht : t < nt) : 0 ≤ Chain.areaV (m.ents t) ∧ Chain.areaV (m.ents t) < (n : Int) := by
  obtain ⟨x, a, h1, h2, _⟩ := h.iv.area (t := t) (by rw [h.et]; exact ht)
  rw [h.en] at h2
  exact ⟨h1, h2⟩
/-- The sums of what an object takes. -/
theorem need_steps {A B : Nat} {u v : Int} (hA : A ≤ 6) (hB : B ≤ 512) (h0 : 0 ≤ u) (h1 : u ≤ 65536) (hv : v = u + 8 * (2 + (A : Int) + ((B : Int) + 7) / 8)) :
    ∃ n1 n2 n3 n4 n5 : Int, IntKind.i64.wrap (2 + (A : Int)) = n1 ∧ IntKind.i64.wrap ((B : Int) + 7) = n2 ∧ Int.tdiv n2 8 = n3 ∧ IntKind.i64.wrap n3 = n3 ∧ IntKind.i64.wrap (n1 + n3) = n4 ∧ IntKind.i64.wrap (8 * n4) = n5 ∧ IntKind.i64.wrap (u + n5) = v := by
  have e1 : IntKind.i64.wrap (2 + (A : Int)) = 2 + A := IntWalk.i64_in _ (by omega)
  have e2 : IntKind.i64.wrap ((B : Int) + 7) = B + 7 := IntWalk.i64_in _ (by omega)
  have e3 : Int.tdiv ((B : Int) + 7) 8 = ((B : Int) + 7) / 8 := Int.tdiv_eq_ediv_of_nonneg (by omega)
  have e4 : IntKind.i64.wrap (((B : Int) + 7) / 8) = ((B : Int) + 7) / 8 := IntWalk.i64_in _ (by omega)
  have e5 : IntKind.i64.wrap (2 + (A : Int) + ((B : Int) + 7) / 8) = 2 + (A : Int) + ((B : Int) + 7) / 8 := IntWalk.i64_in _ (by omega)
  have e6 : IntKind.i64.wrap (8 * (2 + (A : Int) + ((B : Int) + 7) / 8)) = 8 * (2 + (A : Int) + ((B : Int) + 7) / 8) := IntWalk.i64_in _ (by omega)
  have e7 : IntKind.i64.wrap (u + 8 * (2 + (A : Int) + ((B : Int) + 7) / 8)) = v := by rw [hv]; exact IntWalk.i64_in _ (by omega)
  exact ⟨_, _, _, _, _, e1, e2, e3, e4, e5, e6, e7⟩
theorem regL_at (th : Th) {i : Nat} (h : i < 4) : (regL th)[i]? = some (th.r i) := by
  rcases (show i = 0 ∨ i = 1 ∨ i = 2 ∨ i = 3 by omega) with rfl | rfl | rfl | rfl <;> rfl
end
end Go.Proofs.YtneggppfffekdaaGreat.Mod
