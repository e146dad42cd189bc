/-
  More of a law's walk: entries, scopes' words, finalizers that are made such as may be.
-/
import Derived.Test.YtneggppfffekdaaGreatLaws
import Derived.Test.YtneggppfffekdaaGreatFres
import Derived.Test.YtneggppfffekdaaGreatFinr
namespace Go.Proofs.YtneggppfffekdaaGreat.Mod
open Go.ChangeShapes Go.WideShapes Go.ChangeAt Go.RowKit
open Slic Sco
set_option linter.unusedVariables false
set_option linter.unusedSimpArgs false
section
variable {w0 w w' : World} {Z : Fx} {FF : List (List Fina.O)} {n nt k : Nat} {m : Mo} {bx : Bx}
theorem ms_ents (h : Ms w0 w Z FF n nt k m bx) (t : Nat) (ht : t < nt) : Calls Tryz.prog 25 #[ptr Z.B, .int .i64 (t : Int)] w fun e w' =>
    ∃ A c, e = .returned (.slice A (m.ents t).length c) ∧ Slic.Own kE w' w.heap.size (.slice A (m.ents t).length c) (m.ents t) ∧ Ms w0 w' Z FF n nt k m bx ∧ Below w.heap.size w w' := by
  refine (entries_any h.mw (by have := h.nt4; omega) (fun t ht => h.iv.l6 ht) (t : Int)).mono ?_
  rintro e w' ⟨v, rfl, O, q⟩
  have hr : entsV m Z.nt (t : Int) = m.ents t := by
    unfold entsV
    rw [if_pos (show inN (t : Int) Z.nt = true from decide_eq_true (by have := h.et; omega)), Int.toNat_natCast]
  rw [hr] at O
  obtain ⟨A, c, rfl, _⟩ := O.sr
  exact ⟨A, c, rfl, O, h.call q, q⟩
theorem ms_ctl (h : Ms w0 w Z FF n nt k m bx) (i : Int) {s c p e x : Int} (hs : seeC m.F.R i = ⟨s, c, p, e, x⟩) : Calls Tryz.prog 26 #[ptr Z.B, .int .i64 i] w fun z w' =>
    z = .returned (.tuple #[.agg #[.int .i64 s, .int .i64 c, .int .i64 p, .int .i64 e], .int .i64 x]) ∧ Ms w0 w' Z FF n nt k m bx ∧ Below w.heap.size w w' := by
  refine (ctlM_any h.mw h.n8 i).mono ?_
  rintro z w' ⟨rfl, q⟩
  rw [hs]
  exact ⟨rfl, h.call q, q⟩
theorem ms_used (h : Ms w0 w Z FF n nt k m bx) {i : Int} (h0 : 0 ≤ i) (hi : i < (n : Int)) {u : Int} (hu : (m.ar i).u = u) : Calls Tryz.prog 28 #[ptr Z.B, .int .i64 i] w fun z w' => z = .returned (.int .i64 u) ∧ w = w' := by
  refine (used_any h.mw h.n8 i).mono ?_
  rintro z w' ⟨rfl, rfl⟩
  refine ⟨?_, rfl⟩
  unfold usedV
  rw [if_pos (show inN i Z.n = true from decide_eq_true (by have := h.en; omega)), hu]
theorem ms_port (h : Ms w0 w Z FF n nt k m bx) {i : Int} (h0 : 0 ≤ i) (hi : i < (n : Int)) {u : Int} (hu : (m.ar i).g = u) : Calls Tryz.prog 27 #[ptr Z.B, .int .i64 i] w fun z w' => z = .returned (.int .u64 u) ∧ w = w' := by
  refine (port_any h.mw h.n8 i).mono ?_
  rintro z w' ⟨rfl, rfl⟩
  refine ⟨?_, rfl⟩
  unfold portV
  rw [if_pos (show inN i Z.n = true from decide_eq_true (by have := h.en; omega)), hu]
end
theorem fitted {w w' : World} {LL : List (List Fina.O)} {e : Ending} (h : Fina.Fitted w LL e w') : ∃ A c, e = .returned (.slice A LL.length c) ∧ Fina.Rows w' (.slice A LL.length c) LL ∧ Below w.heap.size w w' := by
  obtain ⟨v, Hs, rfl, O, hl, R, k⟩ := h
  have hr : Fina.Rows w' v LL := ⟨Hs, O.sr, hl, fun i h h' => (R i h h').sr⟩
  obtain ⟨A, c, rfl, _⟩ := hr.form
  exact ⟨A, c, rfl, hr, k⟩
theorem fitL_ok {LL : List (List Fina.O)} (h : Fina.okOs LL) : Fina.okOs (Fina.fitL LL) ∧ Fina.rightB (Fina.fitL LL) = true := by
  have each : ∀ L ∈ Fina.fitL LL, Fina.okO L ∧ Fina.progB L = true := fun L hL => by
    unfold Fina.fitL at hL
    obtain ⟨M, hM, rfl⟩ := List.mem_map.1 hL
    have := Fina.fitp_ok (h M (List.mem_of_mem_take hM))
    exact ⟨this.1, this.2.2.1⟩
  refine ⟨fun L hL => (each L hL).1, ?_⟩
  unfold Fina.rightB
  rw [Bool.and_eq_true]
  refine ⟨decide_eq_true ?_, List.all_eq_true.2 fun L hL => (each L hL).2⟩
  unfold Fina.fitL
  rw [List.length_map, List.length_take]
  omega
/-- What is counted, thread by thread. -/
theorem cou_take {T : List Th} {i : Int} {t : Nat} (h : t < T.length) : cou (T.take (t + 1)) i = cou (T.take t) i + (T.getD t th0).c.countP (Chain.hit i) := by
  rw [List.take_succ_eq_append_getElem h, List.getD_eq_getElem?_getD, List.getElem?_eq_getElem h]
  unfold cou
  rw [List.map_append, List.sum_append]
  simp
theorem cnt_take {L : List Chain.E} {i : Int} {j : Nat} (h : j < L.length) : (L.take (j + 1)).countP (Chain.hit i) = (L.take j).countP (Chain.hit i) + (if Chain.hit i L[j] = true then 1 else 0) := by
  rw [List.take_succ_eq_append_getElem h, cnt_snoc]
/-- An entry as it lies. -/
theorem ent_at {w : World} {A : Option Addr} {n c : Nat} {L : List Chain.E} (h : Slic.Sr kE w (.slice A n c) L) {j : Nat} (hj : j < L.length) : ∃ g o, A = some ⟨g, o, none⟩ ∧ g < w.heap.size ∧ w.cell? ⟨g, o + j * 2, none⟩ = some (.int .i64 (L[j]).1) ∧ w.cell? ⟨g, o + j * 2 + 1, none⟩ = some (.bool (L[j]).2) := by
  obtain ⟨g, o, rfl, hg, hc⟩ := h.at j hj
  refine ⟨g, o, rfl, hg, hc 0 _ rfl, ?_⟩
  have := hc 1 _ rfl
  rw [show o + (j * kE.m + 1) = o + j * 2 + 1 by show o + (j * 2 + 1) = _; omega] at this
  exact this
/-- What is counted, in the walk's words. -/
theorem Ms.cnt {w0 w : World} {Z : Fx} {FF : List (List Fina.O)} {n nt k : Nat} {m : Mo} {bx : Bx} (h : Ms w0 w Z FF n nt k m bx) {s q : Nat} (hs : 1 ≤ s) (hn : s < n) (hq : q = cou m.T (s : Int)) :
    (q = 0 ∧ ∃ st e : Int, st ≠ 2 ∧ seeC m.F.R (s : Int) = ⟨st, 0, -1, e, 0⟩ ∧ (m.ar (s : Int)).u = 0 ∧ (m.ar (s : Int)).g = 0) ∨
    (0 < q ∧ ∃ p e : Int, seeC m.F.R (s : Int) = ⟨2, (q : Int), p, e, 0⟩ ∧ -1 ≤ p ∧ p ≤ 7 ∧ (0 < p → p < (n : Int) ∧ ∃ c' p' e' : Int, seeC m.F.R p = ⟨2, c', p', e', 0⟩)) := by
  obtain ⟨x, hx, c1, c2, c3, c4, c5, c6⟩ := h.iv.counts hs (by rw [h.en]; exact hn)
  have sc := (see_in hx).1
  rw [← hq] at c1 c2 c3
  rcases Nat.eq_zero_or_pos q with h0 | h0
  · left
    obtain ⟨d1, d2, d3⟩ := c3 h0
    subst h0
    refine ⟨rfl, x.s, x.e, fun e => ?_, ?_, d2, d3⟩
    · have := c2.1 e
      omega
    · rw [sc, c1, d1]
      rfl
  · right
    have h2 := c2.2 h0
    refine ⟨h0, x.p, x.e, by rw [sc, h2, c1], c4, c5, fun hp => ?_⟩
    obtain ⟨d1, y, hy, hy2⟩ := c6 hp
    refine ⟨by rw [← h.en]; exact d1, y.c, y.p, y.e, ?_⟩
    obtain ⟨i, hi⟩ : ∃ i : Nat, x.p = i := ⟨x.p.toNat, by omega⟩
    rw [hi, Int.toNat_natCast] at hy
    rw [hi, (see_in hy).1, hy2]
end Go.Proofs.YtneggppfffekdaaGreat.Mod
