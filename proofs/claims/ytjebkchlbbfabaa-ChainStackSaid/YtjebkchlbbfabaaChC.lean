/-
  Contracts of package chain: Push and Pop.
-/
import Derived.Test.YtjebkchlbbfabaaChB
namespace Go.Proofs.Ytjebkchlbbfabaa.Chain
open Go.ChangeShapes Go.WideShapes Go.ChangeAt Go.RowKit
set_option linter.unusedVariables false

/-- A slice and an error that are told. -/
def Pushed (w : World) (M : List E) (k : Int) (e : Ending) (w' : World) : Prop := ∃ v, e = .returned (.tuple #[v, .int .i64 k]) ∧ Sr w' v M ∧ Below w.heap.size w w'
def Popped (w : World) (M : List E) (x : E) (k : Int) (e : Ending) (w' : World) : Prop := ∃ v, e = .returned (.tuple #[v, .agg #[.int .i64 x.1, .bool x.2], .int .i64 k]) ∧ Sr w' v M ∧ Below w.heap.size w w'
theorem Sr.one (w : World) (x : Int) (c : Bool) : Sr (w.alloc (.cells #[.int .i64 x, .bool c] T)) (.slice (some ⟨w.heap.size, 0, none⟩) 1 1) [(x, c)] := by
  refine ⟨_, 1, rfl, by simp, by decide, fun e => (by cases e), fun _ => ⟨w.heap.size, 0, rfl, by simp, fun i hi => ?_⟩⟩
  obtain rfl : i = 0 := by simpa using hi
  simp [go_sem]

theorem Sr.one2 (w : World) (o : Obj) (x : Int) (c : Bool) : Sr ((w.alloc o).alloc (.cells #[.int .i64 x, .bool c] T)) (.slice (some ⟨w.heap.size + 1, 0, none⟩) 1 1) [(x, c)] := by
  have := Sr.one (w.alloc o) x c
  rwa [World.size_alloc] at this

theorem Sr.two {w : World} {g o n c b : Nat} {L : List E} (h : Sr w (.slice (some ⟨g, o, none⟩) n c) L) (x y : Value) (hne : g ≠ b) : Sr ((w.setCell ⟨b, 0, none⟩ x).setCell ⟨b, 1, none⟩ y) (.slice (some ⟨g, o, none⟩) n c) L := by
  refine h.keep (by simp [World.setCell]) fun g' o' e _ => ?_
  simp only [Value.slice.injEq, Option.some.injEq, Addr.mk.injEq, and_true] at e
  obtain ⟨⟨rfl, rfl⟩, _⟩ := e
  rw [Below.heap_setCell _ ⟨b, 1, none⟩ _ _ hne, Below.heap_setCell _ ⟨b, 0, none⟩ _ _ hne]

set_option maxRecDepth 100000 in
set_option maxHeartbeats 2000000 in
theorem push_any (w : World) (v : Value) (L : List E) (x : Int) (b : Bool) (h : Sr w v L) : Calls Try.prog 10 #[v, .agg #[.int .i64 x, .bool b]] w (Pushed w (pushL L (x, b)) (pushE L)) := by
  have h' := h
  obtain ⟨A, c, rfl, h1, h2, h3, h4⟩ := h
  clear h4
  by_cases hl : 6 ≤ L.length
  · have P1 := Lib.hid (show pushL L (x, b) = [] from if_pos hl)
    have P2 := Lib.hid (show pushE L = 24 from if_pos hl)
    have z : decide (6 ≤ (L.length : Int)) = true := decide_eq_true (by omega)
    go_enter Try.func10, Try.ntmps10
    go_wp2
    go_ret2
    refine ⟨.slice none 0 0, by rw [P2.out]; rfl, ?_, (Below.refl _ _).alloc (Nat.le_refl _) _⟩
    rw [P1.out]
    exact Sr.nil _
  · have P1 := Lib.hid (show pushL L (x, b) = L ++ [(x, b)] from if_neg hl)
    have P2 := Lib.hid (show pushE L = 0 from if_neg hl)
    have z : decide (6 ≤ (L.length : Int)) = false := decide_eq_false (by omega)
    obtain ⟨s1, s2⟩ := slice_hm A L.length c L.length L.length (Nat.le_refl _) h1
    have S0 : Sr w (.slice A L.length L.length) L := by
      have := h'.part (k := L.length) (c' := L.length) (Nat.le_refl _) (Nat.le_refl _) h1
      rwa [List.take_length] at this
    go_enter Try.func10, Try.ntmps10
    go_wp2_with fail
    go_region_held3 (fun w' => w'.cell? ⟨w.heap.size, 0, none⟩ = some (.int .i64 x) ∧ w'.cell? ⟨w.heap.size, 1, none⟩ = some (.bool b))
      (first | go_keep | (go_split_ands; exact ⟨(cell_only hgrow (by simp; omega) (by simp) _).trans (by assumption), (cell_only hgrow (by simp; omega) (by simp) _).trans (by assumption)⟩))
      ((refine step_new (by rfl) (.tmp 14) (.tmp 16) (by rfl) (by rfl) (by rfl) (by rfl) (((S0.alloc _).alloc _).drew) (Sr.one2 w _ x b).drew (by simp) (by simp; omega) ?_; intro v' w' hown hgrow))
    go_wp2
    go_ret2
    refine ⟨v', by rw [P2.out]; rfl, ?_, ?_⟩
    · rw [P1.out]
      exact hown.sr
    · exact (((Below.refl _ _).alloc (Nat.le_refl _) _).alloc (by simp) _).drew.trans ((below_grown hgrow).mono (by simp; omega))

/-- copy of entries into a row that was made for them. -/
theorem wpList_copy2 {w : World} {ops : Array Oper} {rest : List Oper} {o : Oper} {a : Act} {Q : Exit → Act → World → Prop} (hgd : o.guard = none) (d s : Operand)
    (ho : o.op = .call { callee := .builtin .copy, args := #[d, s], argTypes := #[X, X] }) {g n : Nat} {y : Value} {L : List E} {base : Nat} {xs : List Value}
    (hd : a.eval d = .slice (some ⟨g, 0, none⟩) n n) (hs : a.eval s = y) (own : w.ownsRow base T 2 (.slice (some ⟨g, 0, none⟩) n n) n xs) (hy : Sr w y L) (hn : n < L.length)
    (hK : ∀ w', Own w' base (.slice (some ⟨g, 0, none⟩) n n) (L.take n) → w.grownBy w' (some g) → wpList Try.prog ops Q rest (a.put o.dst (goInt n)) w') : wpList Try.prog ops Q (o :: rest) a w := by
  obtain ⟨i0, hi, hz0, hz1, hz2⟩ := info_parts info_ent
  obtain ⟨A, c, rfl, h1, h2, h3, h4⟩ := hy
  obtain ⟨g', o', rfl, hg', hc'⟩ := h4 (by omega)
  rcases own.2 with ⟨e, _⟩ | ⟨g2, cap, cur, e, hb, hcur, c1, c2, c3, c4⟩
  · cases e
  · simp only [Value.slice.injEq, Option.some.injEq, Addr.mk.injEq, true_and, and_true] at e
    obtain ⟨rfl, rfl⟩ := e
    have hlen : (L.take n).length = n := by rw [List.length_take]; omega
    have hfl : (flat (L.take n)).length = n * 2 := by rw [flat_len, hlen]
    have hmin : Nat.min L.length n = n := Nat.min_eq_right (by omega)
    have hrun := run_copy2 w X X o.type T g n n ⟨g', o', none⟩ L.length c cur T (flat (L.take n)) under_ents (by rw [hi]; exact congrArg some hz1) hcur (by rw [hfl, hmin]) (flat_cells (fun i hi => by rw [List.getElem_take]; exact hc' i (by omega))) (by rw [hfl]; omega) (flat_one _)
    rw [hmin] at hrun
    have hdrop : cur.toList.drop (flat (L.take n)).length = [] := by rw [hfl]; exact List.drop_eq_nil_of_le (by simp; omega)
    rw [hdrop, List.append_nil] at hrun
    refine wpList_plain hgd fun K hK' => ?_
    unfold Oper.wp
    simp [execOp, ho, resolve, invoke, builtin, hd, hs, hrun, Result.andThen]
    refine hK' _ _ (hK _ ?_ ?_)
    · refine ⟨by rw [hfl, hlen], .inr ⟨g, n, _, by rw [hlen], hb, setRow_heap w g cur _ T _ hcur, by omega, c2, by simpa using hfl, ?_⟩⟩
      rw [hlen, ← hfl]
      exact List.take_length
    · exact ⟨rfl, rfl, rfl, by simp [World.setRow], fun i hi hne => setRow_other w g i _ (fun e => hne (by rw [e]))⟩

set_option maxRecDepth 100000 in
set_option maxHeartbeats 2000000 in
theorem pop_any (w : World) (v : Value) (L : List E) (h : Sr w v L) (hL : L.length ≤ 1000000) : Calls Try.prog 13 #[v] w (Popped w L.dropLast (lastV L) (popE L)) := by
  obtain ⟨i0, hi, hz0, hz1, hz2⟩ := info_parts info_ent
  have h' := h
  obtain ⟨A, c, rfl, h1, h2, h3, h4⟩ := h
  by_cases hl : L.length = 0
  · obtain rfl : L = [] := List.eq_nil_of_length_eq_zero hl
    clear hl h4
    go_enter Try.func13, Try.ntmps13
    go_wp2
    refine bodyPost_ret (v := .tuple #[.slice none 0 0, .agg #[.int .i64 0, .bool false], .int .i64 23]) (by simp [results, Try.results13, go_sem]) rfl ⟨_, rfl, Sr.nil _, ?_⟩
    first | exact (Below.refl _ _).alloc (Nat.le_refl _) _ | exact (((Below.refl _ _).alloc (Nat.le_refl _) _).setCell (by simp) _).setCell (by simp) _
  · have hp : 0 < L.length := by omega
    have P1 := Lib.hid (show L.dropLast = L.take (L.length - 1) from List.dropLast_eq_take)
    have P2 := Lib.hid (show popE L = 0 from if_neg hl)
    have P3 : Hid (lastV L = L[L.length - 1]) := Lib.hid (last_at hp)
    obtain ⟨g, o, rfl, hg, hc⟩ := h4 hp
    obtain ⟨c0, c1⟩ := hc (L.length - 1) (by omega)
    have z : ((L.length : Int) == 0) = false := beq_eq_false_iff_ne.2 (by omega)
    have hlen : L.length ≤ 9223372036854775807 := by unfold maxLen at h2; omega
    obtain ⟨n, hn⟩ : ∃ n, n = L.length - 1 := ⟨_, rfl⟩
    have e1 : ((L.length : Int) - 1) = (n : Int) := by omega
    rw [← P3.out, ← hn] at c0 c1
    have E1 := Lib.hid e1
    have HN := Lib.hid hn
    clear hl hc h4 e1 hn
    go_enter Try.func13, Try.ntmps13
    have b1 : i0.bytes * n ≤ 281474976710656 := by have := HN.out; rw [hz2]; omega
    have b2 : n ≤ maxLen := by have := HN.out; omega
    have b3 : n < L.length := by have := HN.out; omega
    have S0 := h'.alloc (.cells #[.int .i64 0, .bool false] T)
    go_wp2_with (first
      | (with_reducible refine wpList_make_full _ rfl (.tmp 14) (.tmp 14) 22 rfl (w.heap.size + 1) T i0 _ 2 under_ents hi hz0 hz1 .i64 .i64 _ _ n rfl rfl E1.out E1.out b1 b2 (by simp) ?_
         intro w1 own1 gr1
         rw [World.size_alloc] at own1
         have S1 := S0.below (below_grown gr1))
      | (refine wpList_copy2 rfl (.tmp 16) (.tmp 17) rfl rfl rfl own1 S1 b3 ?_
         intro w2 own2 gr2))
    have hs1 : w.heap.size + 1 ≤ w1.heap.size := by have := gr1.size; rwa [World.size_alloc] at this
    have hs2 : w1.heap.size ≤ w2.heap.size := gr2.size
    have lt0 : w.heap.size < (w.alloc (.cells #[.int .i64 0, .bool false] T)).heap.size := by simp
    have ne0 : some w.heap.size ≠ some (w.heap.size + 1) := by simp
    have neg : some g ≠ some (w.heap.size + 1) := fun e => by injection e with e; omega
    have r0 : w2.cell? ⟨w.heap.size, 0, none⟩ = some (.int .i64 0) := (cell_only gr2 (by omega) ne0 0).trans ((cell_only gr1 lt0 (by simp) 0).trans (by simp [go_sem]))
    have r1 : w2.cell? ⟨w.heap.size, 1, none⟩ = some (.bool false) := (cell_only gr2 (by omega) ne0 1).trans ((cell_only gr1 lt0 (by simp) 1).trans (by simp [go_sem]))
    have f0 : ∀ k, w2.frozen? ⟨w.heap.size, k, none⟩ = false := fun k => (frozen_only gr2 (by omega) ne0 k).trans ((frozen_only gr1 lt0 (by simp) k).trans (by simp [go_sem]))
    have f1 := f0 0
    have f2 := f0 1
    have q0 : w2.cell? ⟨g, o + n * 2, none⟩ = some (.int .i64 (lastV L).1) := (cell_only gr2 (by omega) neg _).trans ((cell_only gr1 (by simp; omega) (by simp) _).trans ((((Below.refl _ _).alloc (Nat.le_refl _) _).cell (p := ⟨g, o + n * 2, none⟩) hg).trans c0))
    have q1 : w2.cell? ⟨g, o + n * 2 + 1, none⟩ = some (.bool (lastV L).2) := (cell_only gr2 (by omega) neg _).trans ((cell_only gr1 (by simp; omega) (by simp) _).trans ((((Below.refl _ _).alloc (Nat.le_refl _) _).cell (p := ⟨g, o + n * 2 + 1, none⟩) hg).trans c1))
    have B2 : Below w.heap.size w w2 := (((Below.refl _ _).alloc (Nat.le_refl _) _).trans ((below_grown gr1).mono (by simp))).grown gr2 (by omega) (fun j ej => by injection ej with ej; omega)
    have i1 : (1 : Int) ≤ (L.length : Int) := by omega
    have i4 : (0 : Int) ≤ (L.length : Int) - 1 := by omega
    have i2 : (L.length : Int) - 1 < (L.length : Int) := by omega
    have i3 : ((L.length : Int) - 1).toNat = n := by have := E1.out; omega
    clear f0 c0 c1 gr1 gr2 own1 S1 S0 h'
    go_region
    go_wp2
    refine bodyPost_ret (v := .tuple #[.slice (some ⟨w.heap.size + 1, 0, none⟩) n n, .agg #[.int .i64 (lastV L).1, .bool (lastV L).2], .int .i64 0]) (by simp [results, Try.results13, go_sem, r0, r1]) rfl ⟨_, by rw [P2.out], ?_, ?_⟩
    · rw [P1.out, ← HN.out]
      exact (own2.sr.two _ _ (by omega)).drew
    · exact ((B2.setCell (Nat.le_refl _) _).setCell (Nat.le_refl _) _).drew
end Go.Proofs.Ytjebkchlbbfabaa.Chain
