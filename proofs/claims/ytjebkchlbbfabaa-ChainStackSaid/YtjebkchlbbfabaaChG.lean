/-
  A row of rows of entries, as ChainStack keeps it; Push where it does not refuse, with the new row as one's own.
-/
import Derived.Test.YtjebkchlbbfabaaChF
namespace Go.Proofs.Ytjebkchlbbfabaa.Chain
open Go.ChangeShapes Go.WideShapes Go.ChangeAt Go.RowKit
set_option linter.unusedVariables false

abbrev Y := 43
theorem info_row : (Try.prog.info? X).map (fun i => (i.zero, i.size, i.bytes)) = some (some (.slice none 0 0), 1, 24) := by kernel_rfl
theorem under_rows : Try.prog.underlying Y = some (.slice X) := by kernel_rfl

/-- What Push tells where it does not refuse: a row of its own. -/
def PushedOwn (w : World) (M : List E) (e : Ending) (w' : World) : Prop := ∃ v, e = .returned (.tuple #[v, .int .i64 0]) ∧ Own w' w.heap.size v M ∧ Below w.heap.size w w'
set_option maxRecDepth 100000 in
set_option maxHeartbeats 2000000 in
theorem push_own (w : World) (v : Value) (L : List E) (x : Int) (b : Bool) (h : Sr w v L) (hl : L.length < 6) : Calls Try.prog 10 #[v, .agg #[.int .i64 x, .bool b]] w (PushedOwn w (L ++ [(x, b)])) := by
  have h' := h
  obtain ⟨A, c, rfl, h1, h2, h3, h4⟩ := h
  clear h4
  have z : decide (6 ≤ (L.length : Int)) = false := decide_eq_false (by omega)
  obtain ⟨s1, s2⟩ := slice_hm A L.length c L.length L.length (Nat.le_refl _) h1
  have S0 : Sr w (.slice A L.length L.length) L := by
    have := h'.part (k := L.length) (c' := L.length) (Nat.le_refl _) (Nat.le_refl _) h1
    rwa [List.take_length] at this
  go_enter Try.func10, Try.ntmps10
  go_wp2_with fail
  go_region_held3 (fun w' => w'.cell? ⟨w.heap.size, 0, none⟩ = some (.int .i64 x) ∧ w'.cell? ⟨w.heap.size, 1, none⟩ = some (.bool b))
    (first | go_keep | (go_split_ands; exact ⟨(cell_only hgrow (by simp; omega) (by simp) _).trans (by assumption), (cell_only hgrow (by simp; omega) (by simp) _).trans (by assumption)⟩))
    ((refine step_new (by rfl) (.tmp 14) (.tmp 16) (by rfl) (by rfl) (by rfl) (by rfl) (((S0.alloc _).alloc _).drew) (Sr.one2 w _ x b).drew (by simp) (by simp; omega) ?_; intro v' w' hown hgrow))
  go_wp2
  go_ret2
  refine ⟨v', rfl, ?_, ?_⟩
  · refine ⟨hown.1, ?_⟩
    rcases hown.2 with k | ⟨g, cap, cur, k1, k2, k3⟩
    · exact .inl k
    · exact .inr ⟨g, cap, cur, k1, by simp at k2; omega, k3⟩
  · exact (((Below.refl _ _).alloc (Nat.le_refl _) _).alloc (by simp) _).drew.trans ((below_grown hgrow).mono (by simp; omega))

theorem Own.zero {w : World} {base : Nat} {v : Value} {L : List E} (h : Own w base v L) : Own w 0 v L := by
  refine ⟨h.1, ?_⟩
  rcases h.2 with k | ⟨g, cap, cur, k1, k2, k3⟩
  · exact .inl k
  · exact .inr ⟨g, cap, cur, k1, Nat.zero_le _, k3⟩
/-- Rows: the i-th one has the first i entries. -/
structure Rs (w0 w : World) (v : Value) (L : List E) (n : Nat) : Prop where
  bel : Below w0.heap.size w0 w
  ex : ∃ Vs : List Value, Vs.length = n ∧ w.ownsRow w0.heap.size X 1 v n Vs ∧ ∀ i (h : i < Vs.length), Own w 0 Vs[i] (L.take i)
theorem Rs.call {w0 w w' : World} {v : Value} {L : List E} {n : Nat} (h : Rs w0 w v L n) (k : Below w.heap.size w w') : Rs w0 w' v L n := by
  obtain ⟨Vs, h1, h2, h3⟩ := h.ex
  exact ⟨h.bel.trans (k.mono h.bel.size), Vs, h1, World.ownsRow.kept (row := none) h2 ⟨k.os, k.tape, k.output, k.size, fun i hi _ => k.block i hi⟩ (by cases v.ownBlock <;> simp), fun i hi => (h3 i hi).below k⟩
theorem Rs.drew {w0 w : World} {v : Value} {L : List E} {n : Nat} (h : Rs w0 w v L n) : Rs w0 w.drew v L n := h.call (Below.refl _ _).drew
theorem Rs.start (w0 w : World) (L : List E) (h : Below w0.heap.size w0 w) : Rs w0 (w.alloc (.cells #[.slice none 0 0] X)) (.slice (some ⟨w.heap.size, 0, none⟩) 1 1) L 1 := by
  refine ⟨h.alloc h.size _, [.slice none 0 0], rfl, World.ownsRow_lit w #[.slice none 0 0] 1 h.size (by decide) rfl, fun i hi => ?_⟩
  obtain rfl : i = 0 := by simpa using hi
  exact ⟨by simp [flat], .inl ⟨rfl, by simp⟩⟩
/-- The row that is there at a place. -/
theorem Rs.at {w0 w : World} {v : Value} {L : List E} {n : Nat} (h : Rs w0 w v L n) (hn : 0 < n) : ∃ g c, v = .slice (some ⟨g, 0, none⟩) n c ∧ w0.heap.size ≤ g ∧ g < w.heap.size ∧ n ≤ c ∧ c ≤ maxLen ∧ ∀ i, i < n → ∃ u, w.cell? ⟨g, i, none⟩ = some u ∧ Own w 0 u (L.take i) := by
  obtain ⟨Vs, h1, h2, h3⟩ := h.ex
  rcases h2.2 with ⟨_, e⟩ | ⟨g, c, cur, rfl, hg, hcur, c1, c2, _⟩
  · omega
  · refine ⟨g, c, rfl, hg, (h2.lt g rfl).2, c1, c2, fun i hi => ⟨Vs[i], ?_, h3 i (by omega)⟩⟩
    rw [h2.cellAt i (by omega), List.getElem?_eq_getElem (by omega)]
theorem apart {w : World} {g g' : Nat} {c c' : Array Value} {t t' : TypeId} (h : w.heap[g]? = some (.cells c t (0, 0))) (h' : w.heap[g']? = some (.cells c' t' (0, 0))) (ht : t ≠ t') : g ≠ g' := by
  rintro rfl
  rw [h] at h'
  injection h' with h'
  injection h' with _ h'
  exact ht h'
/-- One's own row of entries stays where a row of rows grows. -/
theorem Own.far {w w' : World} {v u : Value} {L : List E} {b n : Nat} {Vs : List Value} (h : Own w 0 u L) (hv : w.ownsRow b X 1 v n Vs) (k : w.grownBy w' v.ownBlock) : Own w' 0 u L := by
  refine World.ownsRow.kept (row := v.ownBlock) h k ?_
  rcases h.2 with ⟨rfl, _⟩ | ⟨g, cap, cur, rfl, _, hg, _⟩
  · simp [Value.ownBlock]
  · rcases hv.2 with ⟨rfl, _⟩ | ⟨g', cap', cur', rfl, _, hg', _⟩
    · simp [Value.ownBlock]
    · simp only [Value.ownBlock, Option.some.injEq, ne_eq]
      have := apart hg hg' (by decide)
      first | exact this | exact fun e => this e | exact fun e => this e.symm | simpa using this
/-- append of one row to the rows. -/
theorem app_rows (w0 w : World) {v u : Value} {L : List E} {n : Nat} (h : Rs w0 w v L n) (hu : Own w 0 u (L.take n)) (h1 : u.oneCell' = true) (hl : n ≤ 100) {g m : Nat} (hc : w.cell? ⟨g, 0, none⟩ = some u) :
    ∃ v' w', (Builtin.append_ #[Y, Y] Y #[v, .slice (some ⟨g, 0, none⟩) 1 m]).run Try.prog w = .ok v' w' ∧ Rs w0 w' v' L (n + 1) := by
  obtain ⟨i0, hi, hz0, hz1, hz2⟩ := info_parts info_row
  obtain ⟨Vs, h1', h2, h3⟩ := h.ex
  obtain ⟨v', w', hrun, r1, r2, _, r3⟩ := run_append_own_at (P := Try.prog) w w0.heap.size Y Y _ i0 _ 1 24 under_rows hi hz0 hz1 hz2 rfl (by omega) v n Vs h2 ⟨g, 0, none⟩ 1 m [u] rfl
    (fun j x hj => by
      have : j = 0 := by
        rcases j with _ | j
        · rfl
        · simp at hj
      subst this
      simp at hj
      subst hj
      simpa [Addr.add_lit] using hc)
    (fun x hx => by simp at hx; subst hx; exact h1) (by simp only [maxLen]; omega) (by omega) h.bel.size
  refine ⟨v', w', hrun, h.bel.grown r2 h.bel.size (fun j ej => (World.ownsRow.lt h2 j ej).1), Vs ++ [u], by simp; omega, r1, fun i hi => ?_⟩
  by_cases e : i < Vs.length
  · rw [List.getElem_append_left e]
    exact (h3 i e).far h2 r2
  · obtain rfl : i = n := by simp at hi; omega
    rw [List.getElem_append_right (by omega)]
    simp only [h1', Nat.sub_self, List.getElem_cons_zero]
    exact hu.far h2 r2
theorem wpList_rows {w0 w : World} {ops : Array Oper} {rest : List Oper} {o : Oper} {a : Act} {Q : Exit → Act → World → Prop} (hgd : o.guard = none) (s x : Operand)
    (ho : o.op = .call { callee := .builtin .append, args := #[s, x], argTypes := #[Y, Y] }) (hty : o.type = Y) {v u y : Value} {L : List E} {n g m : Nat}
    (hs : a.eval s = v) (hx : a.eval x = y) (hy : y = .slice (some ⟨g, 0, none⟩) 1 m) (h : Rs w0 w v L n) (hu : Own w 0 u (L.take n)) (h1 : u.oneCell' = true) (hl : n ≤ 100) (hc : w.cell? ⟨g, 0, none⟩ = some u)
    (hK : ∀ v' w', Rs w0 w' v' L (n + 1) → wpList Try.prog ops Q rest (a.put o.dst v') w') : wpList Try.prog ops Q (o :: rest) a w := by
  obtain ⟨v', w', hrun, r1⟩ := app_rows w0 w (m := m) h hu h1 hl hc
  rw [← hy] at hrun
  clear hy
  refine wpList_plain hgd fun K hK' => ?_
  unfold Oper.wp
  simp [execOp, ho, resolve, invoke, builtin, hs, hx, hty, hrun, Result.andThen]
  exact hK' _ _ (hK v' w' r1)
theorem Own.one {w : World} {b : Nat} {v : Value} {L : List E} (h : Own w b v L) : v.oneCell' = true := by
  rcases h.2 with ⟨rfl, _⟩ | ⟨g, cap, cur, rfl, _⟩ <;> rfl
end Go.Proofs.Ytjebkchlbbfabaa.Chain
