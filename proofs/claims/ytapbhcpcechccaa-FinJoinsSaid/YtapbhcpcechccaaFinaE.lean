/-
  Contracts of fin's hasSlot, step, Step and Run.
-/
import Derived.Test.YtapbhcpcechccaaFinaB
namespace Go.Proofs.Ytapbhcpcechccaa.Fina
open Go.ChangeShapes Go.WideShapes Go.ChangeAt Go.RowKit
open Slic
set_option linter.unusedVariables false

section
variable {w0 w : World} {p : Nat} {S D : List Int} {h : Bool} {vs vd : Value}
set_option maxHeartbeats 1000000 in
theorem has_any {a : Int} (F : Fs w0 w p a S D h vs vd) (n : Int) (hS : S.length ≤ 100000) : Calls Try.prog 31 #[.pointer (some ⟨p, 0, none⟩), .int .i64 n] w fun e w' => e = .returned (.bool (inB n S.length)) ∧ w = w' := by
  obtain ⟨A, c, rfl, h1, h2⟩ := F.slots.sr.form
  have c1 := F.c1
  clear F
  go_enter Try.func31, Try.ntmps31
  go_wp2_with fail
  refine (place_any _ _ _ (by omega)).mono ?_
  rintro e w' ⟨rfl, rfl⟩
  go_wp2
  go_ret
  exact ⟨rfl, rfl⟩

/-- What a step that is no place's leaves. -/
def Stays (w0 : World) (p : Nat) (a : Int) (S D : List Int) (h : Bool) (vs vd : Value) (e : Ending) (w' : World) : Prop := e = .returned (.bool false) ∧ Fs w0 w' p a S D h vs vd
/-- What a step leaves. -/
def Steps (w0 : World) (p : Nat) (a : Int) (S D : List Int) (h : Bool) (vs : Value) (e : Ending) (w' : World) : Prop := e = .returned (.bool true) ∧ ∃ vd, Fs w0 w' p a S D h vs vd
set_option maxHeartbeats 1000000 in
theorem step_no {a : Int} {v : Value} {L : List O} (F : Fs w0 w p a S D h vs vd) (hL : Sr kF w0 v L) (hl : L.length ≤ 100000) (hn : inB a L.length = false) : Calls Try.prog 26 #[.pointer (some ⟨p, 0, none⟩), v] w (Stays w0 p a S D h vs vd) := by
  obtain ⟨A, c, rfl, h1, h2⟩ := hL.form
  have c0 := F.c0
  go_enter Try.func26, Try.ntmps26
  go_wp2_with fail
  refine (place_any _ _ _ (by omega)).mono ?_
  rintro e w' ⟨rfl, rfl⟩
  rw [hn]
  go_wp2
  go_ret
  exact ⟨rfl, F⟩
set_option maxRecDepth 100000 in
set_option maxHeartbeats 4000000 in
theorem step_yes {i : Nat} {v : Value} {L : List O} (F : Fs w0 w p i S D h vs vd) (hL : Sr kF w0 v L) (hl : L.length ≤ 100000) (hi : i < L.length) (hb : okO L) (hk : okL L) (hS : S.length ≤ 100000) (hD : D.length ≤ 900000) :
    Calls Try.prog 26 #[.pointer (some ⟨p, 0, none⟩), v] w (Steps w0 p (i + 1 + leftV S L[i]) (slotsV S L[i]) (D ++ sayV L[i]) (h || holdV L[i]) vs) := by
  have hn : inB (i : Int) L.length = true := decide_eq_true (by omega)
  have hL' := hL.below F.below
  obtain ⟨A, c, rfl, h1, h2⟩ := hL.form
  obtain ⟨g, o, rfl, hg, d0, d1, d2⟩ := op_at hL' i hi
  have ho := hb _ (List.getElem_mem hi)
  have hq := hk _ (List.getElem_mem hi)
  generalize L[i] = q at *
  obtain ⟨op, a, b⟩ := q
  simp only at d0 d1 d2 ho hq
  clear hL hL' hb hk
  have c0 := F.c0
  have f0 := F.fz 0
  have hlt := F.lt
  have i0 : (0 : Int) ≤ (i : Int) := by omega
  have i1 : (i : Int) < (L.length : Int) := by omega
  have i2 : (i : Int) ≤ 100000 := by omega
  have F1 := (F.at' ((i : Int) + 1)).call (below_one _ (.cells #[.int .u8 op, .int .i64 a, .int .i64 b] 32))
  go_enter Try.func26, Try.ntmps26
  go_wp2_with fail
  refine (place_any _ _ _ (by omega)).mono ?_
  rintro e w' ⟨rfl, rfl⟩
  rw [hn]
  go_wp2_with fail
  have e0 : ((w.setCell ⟨p, 0, none⟩ (.int .i64 ((i : Int) + 1))).alloc (.cells #[.int .u8 op, .int .i64 a, .int .i64 b] 32)).cell? ⟨w.heap.size, 0, none⟩ = some (.int .u8 op) := by simp [go_sem]
  have e1 : ((w.setCell ⟨p, 0, none⟩ (.int .i64 ((i : Int) + 1))).alloc (.cells #[.int .u8 op, .int .i64 a, .int .i64 b] 32)).cell? ⟨w.heap.size, 1, none⟩ = some (.int .i64 a) := by simp [go_sem]
  have e2 : ((w.setCell ⟨p, 0, none⟩ (.int .i64 ((i : Int) + 1))).alloc (.cells #[.int .u8 op, .int .i64 a, .int .i64 b] 32)).cell? ⟨w.heap.size, 2, none⟩ = some (.int .i64 b) := by simp [go_sem]
  have hz : w.heap.size < ((w.setCell ⟨p, 0, none⟩ (.int .i64 ((i : Int) + 1))).alloc (.cells #[.int .u8 op, .int .i64 a, .int .i64 b] 32)).heap.size := by simp
  clear F c0 f0 d0 d1 d2 hg hn
  generalize (w.setCell ⟨p, 0, none⟩ (.int .i64 ((i : Int) + 1))).alloc (.cells #[.int .u8 op, .int .i64 a, .int .i64 b] 32) = W at *
  generalize w.heap.size = B at *
  refine (kind_any op _ ho.1 ho.2).mono ?_
  rintro e w1 ⟨hk, k1⟩
  have F2 := F1.call k1
  have x0 := (k1.cell (p := ⟨B, 0, none⟩) hz).trans e0
  have x1 := (k1.cell (p := ⟨B, 1, none⟩) hz).trans e1
  have x2 := (k1.cell (p := ⟨B, 2, none⟩) hz).trans e2
  have hy : B < w1.heap.size := Nat.lt_of_lt_of_le hz k1.size
  clear F1 e0 e1 e2 hz k1
  have hlp := F2.lt
  rcases hk with ⟨rfl, rfl⟩ | ⟨rfl, rfl⟩ | ⟨rfl, rfl⟩ | ⟨rfl, rfl⟩ | ⟨rfl, rfl⟩ | ⟨h5, rfl⟩
  · have G : Hid (((i : Int) + 1 + leftV S (0, a, b), slotsV S (0, a, b), D ++ sayV (0, a, b), (h || holdV (0, a, b))) = ((i : Int) + 1, S, D ++ [a], h)) := Lib.hid (by simp [leftV, slotsV, sayV, holdV])
    have F3 := F2.call (below_one _ (.cells #[.int .i64 99, .int .i64 0, .bool false, .bool false, .func (.func 32) #[] #[]] 55))
    go_wp2_with fail
    refine (say_any F3 _ _ _ hD).mono ?_
    rintro e w2 ⟨rfl, vd2, F4⟩
    go_wp2
    go_ret
    have G' := G.out
    simp only [Prod.mk.injEq] at G'
    rw [G'.1, G'.2.1, G'.2.2.1, G'.2.2.2]
    exact ⟨rfl, _, F4⟩
  · cases ha : inB a S.length with
    | false =>
      have G : Hid (((i : Int) + 1 + leftV S (1, a, b), slotsV S (1, a, b), D ++ sayV (1, a, b), (h || holdV (1, a, b))) = ((i : Int) + 1, S, D, h)) := Lib.hid (by simp [leftV, slotsV, sayV, holdV, ha])
      have F3 := F2.call (below_one _ (.cells #[.int .i64 5, .int .i64 0, .bool true, .bool false, .func (.func 33) #[] #[]] 55))
      go_wp2_with fail
      refine (has_any F3 _ hS).mono ?_
      rintro e w2 ⟨rfl, rfl⟩
      rw [ha]
      go_wp2
      go_ret
      have G' := G.out
      simp only [Prod.mk.injEq] at G'
      rw [G'.1, G'.2.1, G'.2.2.1, G'.2.2.2]
      exact ⟨rfl, _, F3⟩
    | true =>
      obtain ⟨k, rfl⟩ : ∃ k : Nat, a = k := ⟨a.toNat, by simp only [inB, decide_eq_true_eq] at ha; omega⟩
      have hk : k < S.length := by simp only [inB, decide_eq_true_eq] at ha; omega
      have G : Hid (((i : Int) + 1 + leftV S (1, (k : Int), b), slotsV S (1, (k : Int), b), D ++ sayV (1, (k : Int), b), (h || holdV (1, (k : Int), b))) = ((i : Int) + 1, S.set k 0, D, h)) := Lib.hid (by simp [leftV, slotsV, sayV, holdV, ha])
      have F3 := F2.call (below_one _ (.cells #[.int .i64 5, .int .i64 0, .bool true, .bool false, .func (.func 33) #[] #[]] 55))
      go_wp2_with fail
      refine (has_any F3 _ hS).mono ?_
      rintro e w2 ⟨rfl, rfl⟩
      rw [ha]
      go_wp2_with fail
      refine (clear_any F3 _ _ k hk).mono ?_
      rintro e w2 ⟨rfl, F4⟩
      go_wp2
      go_ret
      have G' := G.out
      simp only [Prod.mk.injEq] at G'
      rw [G'.1, G'.2.1, G'.2.2.1, G'.2.2.2]
      exact ⟨rfl, _, F4⟩
  · cases ha : inB a S.length with
    | false =>
      have G : Hid (((i : Int) + 1 + leftV S (2, a, b), slotsV S (2, a, b), D ++ sayV (2, a, b), (h || holdV (2, a, b))) = ((i : Int) + 1, S, D, h)) := Lib.hid (by simp [leftV, slotsV, sayV, holdV, ha])
      have F3 := F2.call (below_one _ (.cells #[.int .i64 5, .int .i64 5, .bool true, .bool true, .func (.func 34) #[] #[]] 55))
      go_wp2_with fail
      refine (has_any F3 _ hS).mono ?_
      rintro e w2 ⟨rfl, rfl⟩
      rw [ha]
      go_wp2
      go_ret
      have G' := G.out
      simp only [Prod.mk.injEq] at G'
      rw [G'.1, G'.2.1, G'.2.2.1, G'.2.2.2]
      exact ⟨rfl, _, F3⟩
    | true =>
      cases hb : inB b S.length with
      | false =>
        have G : Hid (((i : Int) + 1 + leftV S (2, a, b), slotsV S (2, a, b), D ++ sayV (2, a, b), (h || holdV (2, a, b))) = ((i : Int) + 1, S, D, h)) := Lib.hid (by simp [leftV, slotsV, sayV, holdV, hb])
        have F3 := F2.call (below_one _ (.cells #[.int .i64 5, .int .i64 5, .bool true, .bool true, .func (.func 34) #[] #[]] 55))
        go_wp2_with fail
        refine (has_any F3 _ hS).mono ?_
        rintro e w2 ⟨rfl, rfl⟩
        rw [ha]
        go_wp2_with fail
        refine (has_any F3 _ hS).mono ?_
        rintro e w3 ⟨rfl, rfl⟩
        rw [hb]
        go_wp2
        go_ret
        have G' := G.out
        simp only [Prod.mk.injEq] at G'
        rw [G'.1, G'.2.1, G'.2.2.1, G'.2.2.2]
        exact ⟨rfl, _, F3⟩
      | true =>
        obtain ⟨k, rfl⟩ : ∃ k : Nat, a = k := ⟨a.toNat, by simp only [inB, decide_eq_true_eq] at ha; omega⟩
        have hk : k < S.length := by simp only [inB, decide_eq_true_eq] at ha; omega
        obtain ⟨j, rfl⟩ : ∃ j : Nat, b = j := ⟨b.toNat, by simp only [inB, decide_eq_true_eq] at hb; omega⟩
        have hj : j < S.length := by simp only [inB, decide_eq_true_eq] at hb; omega
        have G : Hid (((i : Int) + 1 + leftV S (2, (k : Int), (j : Int)), slotsV S (2, (k : Int), (j : Int)), D ++ sayV (2, (k : Int), (j : Int)), (h || holdV (2, (k : Int), (j : Int)))) = ((i : Int) + 1, S.set k S[j], D, h)) := Lib.hid (by simp [leftV, slotsV, sayV, holdV, ha, hb, List.getElem?_eq_getElem hj])
        have F3 := F2.call (below_one _ (.cells #[.int .i64 5, .int .i64 5, .bool true, .bool true, .func (.func 34) #[] #[]] 55))
        go_wp2_with fail
        refine (has_any F3 _ hS).mono ?_
        rintro e w2 ⟨rfl, rfl⟩
        rw [ha]
        go_wp2_with fail
        refine (has_any F3 _ hS).mono ?_
        rintro e w3 ⟨rfl, rfl⟩
        rw [hb]
        go_wp2_with fail
        refine (move_any F3 _ k j hk hj).mono ?_
        rintro e w4 ⟨rfl, F4⟩
        go_wp2
        go_ret
        have G' := G.out
        simp only [Prod.mk.injEq] at G'
        rw [G'.1, G'.2.1, G'.2.2.1, G'.2.2.2]
        exact ⟨rfl, _, F4⟩
  · have hq := hq rfl
    cases ha : inB a S.length with
    | false =>
      have G : Hid (((i : Int) + 1 + leftV S (3, a, b), slotsV S (3, a, b), D ++ sayV (3, a, b), (h || holdV (3, a, b))) = ((i : Int) + 1, S, D, h)) := Lib.hid (by simp [leftV, slotsV, sayV, holdV, ha])
      have F3 := F2.call (below_one _ (.cells #[.int .i64 5, .int .i64 8, .bool true, .bool false, .func (.func 35) #[] #[]] 55))
      go_wp2_with fail
      refine (has_any F3 _ hS).mono ?_
      rintro e w2 ⟨rfl, rfl⟩
      rw [ha]
      go_wp2
      go_ret
      have G' := G.out
      simp only [Prod.mk.injEq] at G'
      rw [G'.1, G'.2.1, G'.2.2.1, G'.2.2.2]
      exact ⟨rfl, _, F3⟩
    | true =>
      obtain ⟨k, rfl⟩ : ∃ k : Nat, a = k := ⟨a.toNat, by simp only [inB, decide_eq_true_eq] at ha; omega⟩
      have hk : k < S.length := by simp only [inB, decide_eq_true_eq] at ha; omega
      have G0 : (i : Int) + 1 + leftV S (3, (k : Int), b) = if S[k] = 0 then (i : Int) + 1 + b else (i : Int) + 1 := by
        by_cases hx : S[k] = 0 <;> simp [leftV, ha, hx, List.getElem?_eq_getElem hk]
      have G : Hid (((i : Int) + 1 + leftV S (3, (k : Int), b), slotsV S (3, (k : Int), b), D ++ sayV (3, (k : Int), b), (h || holdV (3, (k : Int), b))) = (if S[k] = 0 then (i : Int) + 1 + b else (i : Int) + 1, S, D, h)) := Lib.hid (by rw [G0]; simp [slotsV, sayV, holdV])
      clear G0
      have F3 := F2.call (below_one _ (.cells #[.int .i64 5, .int .i64 8, .bool true, .bool false, .func (.func 35) #[] #[]] 55))
      go_wp2_with fail
      refine (has_any F3 _ hS).mono ?_
      rintro e w2 ⟨rfl, rfl⟩
      rw [ha]
      go_wp2_with fail
      refine (skip_any F3 _ _ k hk (by omega) (by omega) (by omega) (by omega)).mono ?_
      rintro e w2 ⟨rfl, F4⟩
      go_wp2
      go_ret
      have G' := G.out
      simp only [Prod.mk.injEq] at G'
      rw [G'.1, G'.2.1, G'.2.2.1, G'.2.2.2]
      exact ⟨rfl, _, F4⟩
  · have G : Hid (((i : Int) + 1 + leftV S (4, a, b), slotsV S (4, a, b), D ++ sayV (4, a, b), (h || holdV (4, a, b))) = ((i : Int) + 1, S, D, true)) := Lib.hid (by simp [leftV, slotsV, sayV, holdV])
    have F3 := F2.call (below_one _ (.cells #[.int .i64 0, .int .i64 0, .bool false, .bool false, .func (.func 36) #[] #[]] 55))
    go_wp2_with fail
    refine (hold_any F3 _ _ _).mono ?_
    rintro e w2 ⟨rfl, F4⟩
    go_wp2
    go_ret
    have G' := G.out
    simp only [Prod.mk.injEq] at G'
    rw [G'.1, G'.2.1, G'.2.2.1, G'.2.2.2]
    exact ⟨rfl, _, F4⟩
  · have n0 : op ≠ 0 := by omega
    have n1 : op ≠ 1 := by omega
    have n2 : op ≠ 2 := by omega
    have n3 : op ≠ 3 := by omega
    have n4 : op ≠ 4 := by omega
    have G : Hid (((i : Int) + 1 + leftV S (op, a, b), slotsV S (op, a, b), D ++ sayV (op, a, b), (h || holdV (op, a, b))) = ((i : Int) + 1, S, D, h)) := Lib.hid (by simp [leftV, slotsV, sayV, holdV, n0, n1, n2, n3, n4])
    clear n0 n1 n2 n3 n4
    have F3 := F2.call (below_one _ (.cells #[.int .i64 0, .int .i64 0, .bool false, .bool false, .nilFunc] 55))
    go_wp2
    go_ret
    have G' := G.out
    simp only [Prod.mk.injEq] at G'
    rw [G'.1, G'.2.1, G'.2.2.1, G'.2.2.2]
    exact ⟨rfl, _, F3⟩
end
end Go.Proofs.Ytapbhcpcechccaa.Fina
