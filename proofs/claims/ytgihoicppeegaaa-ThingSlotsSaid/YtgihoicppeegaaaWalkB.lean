/-
  The contract of thing.Walk, for every argument: the places that are walked, in a row of the caller's own, and its error; nothing that was there has changed.
-/
import Derived.Test.YtgihoicppeegaaaWalk
namespace Go.Proofs.Ytgihoicppeegaaa.Thing
open Go.ChangeShapes Go.WideShapes Go.ChangeAt Go.RowKit Go.Shelf
open Mem Arena Held
open Heads (U Y P unV firstV secondV rightB packV retY)
set_option linter.unusedVariables false
attribute [local go_sem] Oper.semAt_some

theorem add_ok (a b : Int) (w : World) (h1 : 0 ≤ b) (h3 : -9223372036854775808 ≤ a) (h2 : a + b ≤ 9223372036854775807) :
    Calls Try.prog 32 #[.int .i64 a, .int .i64 b] w fun e w' => e = .returned (.tuple #[.int .i64 (a + b), .int .i64 0]) ∧ w = w' := by
  by_cases h0 : 0 < b
  all_goals
    go_enter Try.func32, Try.ntmps32
    go_wp2
    go_ret2
    exact ⟨rfl, rfl⟩
theorem add_over (a b : Int) (w : World) (h1 : 0 < b) (h3 : b ≤ 9223372036854775807) (h2 : 9223372036854775807 < a + b) :
    Calls Try.prog 32 #[.int .i64 a, .int .i64 b] w fun e w' => (∃ k : Int, (k != 0) = true ∧ e = .returned (.tuple #[.int .i64 0, .int .i64 k])) ∧ w = w' := by
  go_enter Try.func32, Try.ntmps32
  go_wp2
  go_ret2
  exact ⟨⟨_, by decide, rfl⟩, rfl⟩
theorem info_int : (Try.prog.info? 3).map (fun i => (i.zero, i.size, i.bytes)) = some (some (.int .i64 0), 1, 8) := by kernel_rfl
/-- A slice of one's own that holds the numbers L. -/
def Row (w : World) (N : Nat) (v : Value) (L : List Int) : Prop := w.ownsRow N 3 1 v L.length (L.map (Value.int .i64))
/-- What Walk hands back: a row of its own with M, and the error k; nothing that was there has changed. -/
def Told (w : World) (M : List Int) (k : Int) (e : Ending) (w' : World) : Prop := (∃ v, e = .returned (.tuple #[v, .int .i64 k]) ∧ Row w' w.heap.size v M) ∧ Below w.heap.size w w'
theorem row_slice {w : World} {N : Nat} {e : TypeId} {s : Nat} {v : Value} {k : Nat} {xs : List Value} (h : w.ownsRow N e s v k xs) : ∃ p c, v = .slice p k c := by
  rcases h.2 with ⟨rfl, rfl⟩ | ⟨g, cap, cur, rfl, _⟩
  · exact ⟨_, _, rfl⟩
  · exact ⟨_, _, rfl⟩
theorem row_mono {w : World} {b b' : Nat} {e : TypeId} {s : Nat} {v : Value} {k : Nat} {xs : List Value} (h : w.ownsRow b e s v k xs) (hb : b' ≤ b) : w.ownsRow b' e s v k xs := by
  refine ⟨h.1, ?_⟩
  rcases h.2 with h2 | ⟨g, cap, cur, h2, h3, h4⟩
  · exact .inl h2
  · exact .inr ⟨g, cap, cur, h2, Nat.le_trans hb h3, h4⟩
def vals (pre : List (Option Int)) : List Int := pre.filterMap id
theorem vals_snoc (pre : List (Option Int)) (y : Int) : vals (pre ++ [some y]) = vals pre ++ [y] := by simp [vals]
theorem vals_map (L : List Int) : vals (L.map some) = L := by simp [vals]
/-- Between two rounds: the box of the places has a row of its own with those that have come; the results' boxes are as they were. -/
def Ia (N : Nat) (pre : List (Option Int)) (W : World) : Prop :=
  (∃ v, Boxed W (N + 2) 38 v ∧ W.ownsRow (N + 6) 3 1 v (vals pre).length ((vals pre).map (Value.int .i64)) ∧ pre = (vals pre).map some) ∧ Boxed W N 38 (.slice none 0 0) ∧ Boxed W (N + 1) 31 (.int .i64 0)
/-- A round has left: the error has come, and lies in the results' boxes. -/
def Ib (N : Nat) (c : Code) (pre : List (Option Int)) (W : World) : Prop := (c = .ret ∧ pre.getLast? = some none) ∧ Boxed W N 38 (.slice none 0 0) ∧ Boxed W (N + 1) 31 (.int .i64 18)
theorem ia_own (N : Nat) : Own (Ia N) := fun s A B row hs hg hr =>
  ⟨holdsRow_own (N + 6) (N + 2) 38 3 1 (fun pre => (vals pre).length) (fun pre => (vals pre).map (Value.int .i64)) (fun pre v => pre = (vals pre).map some) s A B row hs.1 hg hr, boxed_own N 38 (fun _ => .slice none 0 0) s A B row hs.2.1 hg hr, boxed_own (N + 1) 31 (fun _ => .int .i64 0) s A B row hs.2.2 hg hr⟩
theorem ib_own (N : Nat) (c : Code) : Own (Ib N c) := fun s A B row hs hg hr =>
  ⟨hs.1, boxed_own N 38 (fun _ => .slice none 0 0) s A B row hs.2.1 hg hr, boxed_own (N + 1) 31 (fun _ => .int .i64 18) s A B row hs.2.2 hg hr⟩
theorem keepB {N : Nat} {w : World} (hw : w.heap.size = N + 6) (W : World) (l : Nat) (o o' : Obj) (hl : w.heap.size ≤ l) (h : W.heap[l]? = some o) (h1 : o.isCells = false) (h2 : o.isWalk = false) : Kp N W (W.putObj l o') :=
  ⟨belowK_b (w := w) (by omega) W l o o' hl h h1 h2, fun k _ k2 => World.putObj_heap_other (by omega)⟩

set_option maxRecDepth 100000 in
set_option maxHeartbeats 8000000 in
theorem walk_core (w : World) (B g n : Nat) (f : Nat → Int) (a u : Int) (L : List Int) (b : Bool) (h : Ar w B g n f) (a1 : -9223372036854775808 ≤ a) (a2 : a ≤ 9223372036854775807) (u1 : 0 ≤ u) (u2 : u ≤ 9223372036854775807) (hz : a + u ≤ 9223372036854775807) (hL : Wk n f (a + u) a L b) (M : List Int) (k : Int) (hM : (b = true ∧ M = L ∧ k = 0) ∨ (b = false ∧ M = [] ∧ k = 18)) :
    Calls Try.prog 13 #[.pointer (some ⟨B, 0, none⟩), .int .i64 a, .int .i64 u] w (Told w M k) := by
  have hlen := wk_short h.fit hL
  have hu : decide (u < 0) = false := decide_eq_false (by omega)
  have hl := h.len
  refine (callsIn_wide (n := 3)).1 ?_
  refine callsIn_of_wp_marks Try.func13 rfl trivial ?_ rfl
  simp only [Try.ntmps13, List.size_toArray, List.length_cons, List.length_nil, Nat.reduceAdd, Nat.reduceSub, Array.replicate_succ, Array.replicate_zero, List.push_toArray, List.append_toArray, List.nil_append, List.cons_append]
  gi_wp2_with (first
    | (refine ⟨trivial, ?_⟩; gi_at_call 32; refine (callsIn_wide.2 (add_ok _ _ _ (by omega) (by omega) (by omega))).mono ?_; rintro e w' ⟨rfl, rfl⟩)
    | (refine ⟨trivial, ?_⟩; gi_at_call 33; refine (objects_in _ _ _ _ _).mono ?_; rintro e w' ⟨rfl, rfl⟩))
  have r0 := (((((Boxed.new w 38 (.slice none 0 0)).alloc (.cells #[.int .i64 0] 31)).alloc (.cells #[.slice none 0 0] 38)).alloc (.cells #[.pointer (some ⟨B, 0, none⟩)] 25)).alloc (.cells #[.int .i64 a] 3)).alloc (.cells #[.int .i64 (a + u)] 3)
  have r1 := ((((Boxed.new (w.alloc (.cells #[.slice none 0 0] 38)) 31 (.int .i64 0)).alloc (.cells #[.slice none 0 0] 38)).alloc (.cells #[.pointer (some ⟨B, 0, none⟩)] 25)).alloc (.cells #[.int .i64 a] 3)).alloc (.cells #[.int .i64 (a + u)] 3)
  have r2 := (((Boxed.new ((w.alloc (.cells #[.slice none 0 0] 38)).alloc (.cells #[.int .i64 0] 31)) 38 (.slice none 0 0)).alloc (.cells #[.pointer (some ⟨B, 0, none⟩)] 25)).alloc (.cells #[.int .i64 a] 3)).alloc (.cells #[.int .i64 (a + u)] 3)
  have r3 := ((Boxed.new (((w.alloc (.cells #[.slice none 0 0] 38)).alloc (.cells #[.int .i64 0] 31)).alloc (.cells #[.slice none 0 0] 38)) 25 (.pointer (some ⟨B, 0, none⟩))).alloc (.cells #[.int .i64 a] 3)).alloc (.cells #[.int .i64 (a + u)] 3)
  have r4 := (Boxed.new ((((w.alloc (.cells #[.slice none 0 0] 38)).alloc (.cells #[.int .i64 0] 31)).alloc (.cells #[.slice none 0 0] 38)).alloc (.cells #[.pointer (some ⟨B, 0, none⟩)] 25)) 3 (.int .i64 a)).alloc (.cells #[.int .i64 (a + u)] 3)
  have r5 := Boxed.new (((((w.alloc (.cells #[.slice none 0 0] 38)).alloc (.cells #[.int .i64 0] 31)).alloc (.cells #[.slice none 0 0] 38)).alloc (.cells #[.pointer (some ⟨B, 0, none⟩)] 25)).alloc (.cells #[.int .i64 a] 3)) 3 (.int .i64 (a + u))
  simp only [World.size_alloc] at r0 r1 r2 r3 r4 r5
  have hB0 : Below w.heap.size w ((((((w.alloc (.cells #[.slice none 0 0] 38)).alloc (.cells #[.int .i64 0] 31)).alloc (.cells #[.slice none 0 0] 38)).alloc (.cells #[.pointer (some ⟨B, 0, none⟩)] 25)).alloc (.cells #[.int .i64 a] 3)).alloc (.cells #[.int .i64 (a + u)] 3)) :=
    ((((((Below.refl _ w).alloc (Nat.le_refl _) _).alloc (by simp) _).alloc (by simp; omega) _).alloc (by simp; omega) _).alloc (by simp; omega) _).alloc (by simp; omega) _
  have hsz : ((((((w.alloc (.cells #[.slice none 0 0] 38)).alloc (.cells #[.int .i64 0] 31)).alloc (.cells #[.slice none 0 0] 38)).alloc (.cells #[.pointer (some ⟨B, 0, none⟩)] 25)).alloc (.cells #[.int .i64 a] 3)).alloc (.cells #[.int .i64 (a + u)] 3)).heap.size = w.heap.size + 6 := by simp
  generalize ((((((w.alloc (.cells #[.slice none 0 0] 38)).alloc (.cells #[.int .i64 0] 31)).alloc (.cells #[.slice none 0 0] 38)).alloc (.cells #[.pointer (some ⟨B, 0, none⟩)] 25)).alloc (.cells #[.int .i64 a] 3)).alloc (.cells #[.int .i64 (a + u)] 3)) = W0 at *
  have hlB := h.head.lt
  have hlg := h.body.lt
  have hIt : It w.heap.size W0 B g n f a (a + u) := ⟨h.below hB0 hlB hlg, hlB, hlg, by omega, r3, r4, r5⟩
  obtain ⟨i0, hi, hz0, hz1, hz2⟩ := info_parts info_int
  refine wpIn_rangeFunc_ownF rfl (by omega) (gf := 44) (lb := #[.pointer (some ⟨w.heap.size + 4, 0, none⟩), .pointer (some ⟨w.heap.size + 5, 0, none⟩), .pointer (some ⟨w.heap.size + 3, 0, none⟩)]) rfl trivial (enters_of Try.func44 (by kernel_rfl) rfl)
    (objs_stops _ (by omega) w.heap.size B g n f a (a + u) L b (by omega) hz a1 a2 hL W0 hIt) Kp.trans (keepB hsz) (Below.refl _ _) (fun _ => rfl)
    (fun pre W => Ia w.heap.size pre W ∧ Below w.heap.size W0 W)
    (fun c pre W => Ib w.heap.size c pre W ∧ Below w.heap.size W0 W)
    (OwnFrom.and (Own.from (ia_own _) _) (ownFrom_below (by omega) (by omega)))
    (fun c => OwnFrom.and (Own.from (ib_own _ c) _) (ownFrom_below (by omega) (by omega)))
    ⟨⟨⟨_, r2, World.ownsRow_nil _ _ _ _, rfl⟩, r0, r1⟩, Below.refl _ _⟩
    (fun x => { tmps := #[.pointer (some ⟨B, 0, none⟩), .int .i64 a, .int .i64 u, undef, undef, undef, .pointer (some ⟨w.heap.size, 0, none⟩), .pointer (some ⟨w.heap.size + 1, 0, none⟩), .int .i64 (a + u), .int .i64 0, .pointer (some ⟨w.heap.size + 1 + 1, 0, none⟩), .int .i64 (px x), .int .i64 (ex x), .int .i64 u, .bool false,
      .tuple #[.int .i64 (a + u), .int .i64 0], .int .i64 a, .int .i64 u, .tuple #[.int .i64 (a + u), .int .i64 0], .int .i64 (a + u), .int .i64 0, .int .i64 0, .bool false, .pointer (some ⟨B, 0, none⟩), .int .i64 a, .int .i64 (a + u),
      .func (.func 44) #[] #[.pointer (some ⟨w.heap.size + 1 + 1 + 1 + 1, 0, none⟩), .pointer (some ⟨w.heap.size + 1 + 1 + 1 + 2, 0, none⟩), .pointer (some ⟨w.heap.size + 1 + 1 + 1, 0, none⟩)], .int .i64 (px x), .int .i64 (ex x), undef, undef, undef, undef, undef, undef, undef, undef], defers := [] }) ?assign ?body ?done ?stop
  case assign =>
    intro l x W K hK
    dsimp only [encs]
    gi_wp2
    exact hK
  case body =>
    rintro l pre x W ⟨⟨⟨v, hv, hrow, hp⟩, r0, r1⟩, hB⟩ hlt
    have hpl : (vals pre).length ≤ pre.length := List.length_filterMap_le _ _
    have HP := Lib.hid hp
    clear hp
    cases x with
    | none =>
      have c0 := r0.cell
      have f0 := r0.frozen
      have c1 := r1.cell
      have f1 := r1.frozen
      dsimp only [px, ex]
      gi_wp2
      refine ⟨(KeepsOthers.setCell _ _ _).trans (KeepsOthers.setCell _ _ _), ⟨⟨rfl, by simp⟩, ?_, ?_⟩, ?_⟩
      · exact (r0.set _).kept (grownBy_setCell' _ _ _) (by intro e; injection e; omega)
      · exact (r1.kept (grownBy_setCell' _ _ _) (by intro e; injection e; omega)).set _
      · exact (hB.setCell (p := ⟨w.heap.size, 0, none⟩) (by simp) _).setCell (p := ⟨w.heap.size + 1, 0, none⟩) (by simp) _
    | some y =>
      have hc := hv.cell
      have hmx : 100000 ≤ maxLen := by decide
      have hsW : w.heap.size + 6 ≤ W.heap.size := by have := hB.size; omega
      dsimp only [px, ex]
      gi_wp2_with (gi_at_builtin; refine wpListIn_append_own _ rfl _ _ 38 rfl (w.heap.size + 6) 3 i0 (.int .i64 0) 1 8 Try.underlying38 hi hz0 hz1 hz2 rfl (by decide) _ _ _ rfl (hrow.alloc _) ⟨W.heap.size, 0, none⟩ 1 1 [.int .i64 y] rfl rfl (cell_one_new _ _ _) (by simp [Value.oneCell']) (by omega) (by omega) (by simp; omega) ?_; intro v' w1 hown' hgrow _; obtain ⟨g', cap', rfl⟩ := ownsRow_succ hown'; obtain ⟨hv1, hv2, hr2, hk2, hb2⟩ := hv.appended (n₀ := w.heap.size) (by decide) (row_mono hrow (by omega)) (by omega) (by omega) (row_mono hown' (by omega)) hgrow; have hc1 := hv1.cell; have hf1 := hv1.frozen; have hrow' := hown'.kept (grownBy_setCell' w1 (w.heap.size + 2) (.slice (some ⟨g', 0, none⟩) ((vals pre).length + 1) cap')) (.inr (hv1.not_row (by decide) hown').symm); have r0' := ((r0.alloc (.cells #[.int .i64 y] 3)).kept hgrow (r0.not_row (by decide) hrow)).other (B' := w.heap.size + 2) (by omega) (.slice (some ⟨g', 0, none⟩) ((vals pre).length + 1) cap'); have r1' := ((r1.alloc (.cells #[.int .i64 y] 3)).kept hgrow (r1.not_row (by decide) hrow)).other (B' := w.heap.size + 2) (by omega) (.slice (some ⟨g', 0, none⟩) ((vals pre).length + 1) cap'); have hgr := hgrow)
      refine ⟨hk2, ⟨hb2, fun j k1 k2 => ?_⟩, ⟨⟨_, hv2, ?_, ?_⟩, r0', r1'⟩, hB.trans hb2⟩
      · refine (Below.heap_setCell _ _ _ j (by show j ≠ w.heap.size + 2; omega)).trans ((hgr.block j (by simp; omega) ?_).trans (Below.heap_alloc _ _ j (by omega)))
        intro e
        have := (hrow.lt j e.symm).1
        omega
      · rw [vals_snoc]
        simpa using hrow'
      · rw [vals_snoc, List.map_append, ← HP.out]
        rfl
  case done =>
    rintro D ys W hD hS ⟨⟨⟨v, hv, hrow, hp⟩, r0, r1⟩, hB⟩ hK
    have hS' : ys = L.map some ∧ b = true := by
      rcases hS with hS | hS
      · exact hS
      · rw [hp] at hS
        simp at hS
    obtain ⟨rfl, rfl⟩ := hS'
    obtain ⟨rfl, rfl⟩ : M = L ∧ k = 0 := by
      rcases hM with ⟨_, h1, h2⟩ | ⟨h1, _⟩
      · exact ⟨h1, h2⟩
      · cases h1
    rw [vals_map] at hrow
    obtain ⟨p, c, rfl⟩ := row_slice hrow
    have hc := hv.cell
    have c0 := r0.cell
    have f0 := r0.frozen
    have c1 := r1.cell
    have f1 := r1.frozen
    clear hp
    gi_wp2
    have hK' := ((KeepsOthers.setCell W ⟨w.heap.size, 0, none⟩ (.slice p M.length c)).trans (KeepsOthers.setCell _ ⟨w.heap.size + 1, 0, none⟩ (.int .i64 0))).same D _ hK rfl
    have s0 := (r0.set (.slice p M.length c)).other (B' := w.heap.size + 1) (by omega) (.int .i64 0)
    have s1 := (r1.other (B' := w.heap.size) (by omega) (.slice p M.length c)).set (.int .i64 0)
    have hr1 := hrow.kept (grownBy_setCell' W w.heap.size (.slice p M.length c)) (.inr (r0.not_row (by decide) hrow).symm)
    have hr2 := hr1.kept (grownBy_setCell' _ (w.heap.size + 1) (.int .i64 0)) (.inr (s1.not_row (by decide) (hr1.kept (grownBy_setCell' _ (w.heap.size + 1) (.int .i64 0)) (.inr ((r1.other (B' := w.heap.size) (by omega) (.slice p M.length c)).not_row (by decide) hr1).symm))).symm)
    have c0' := (s0.kept (grownBy_putObj' _ D (.deferred none)) (by intro e; injection e; omega)).cell
    have c1' := (s1.kept (grownBy_putObj' _ D (.deferred none)) (by intro e; injection e; omega)).cell
    refine ⟨by simp, .inl ⟨_, _, rfl, run_takeDeferred hK', ?_⟩⟩
    refine ⟨.tuple #[.slice p M.length c, .int .i64 0], ?_, ⟨_, rfl, row_mono (ownsRow_putObj hr2 _ hK' rfl) (by omega)⟩, hB0.trans (((hB.setCell (p := ⟨w.heap.size, 0, none⟩) (by simp) _).setCell (p := ⟨w.heap.size + 1, 0, none⟩) (by simp) _).trans (belowK_b (w := w) (Nat.le_refl _) _ D _ _ (by omega) hK' rfl rfl))⟩
    simp [results, Try.results13, go_sem, c0', c1']
  case stop =>
    rintro D c pre W hD hSp ⟨⟨⟨rfl, hlast⟩, r0, r1⟩, hB⟩ hK
    have hb : b = false := by
      rcases hSp with hS | ⟨x, hS⟩
      · exact hS
      · rw [hS] at hlast
        injection hlast with hlast
        cases hlast
    subst hb
    obtain ⟨rfl, rfl⟩ : M = [] ∧ k = 18 := by
      rcases hM with ⟨h1, _⟩ | ⟨_, h1, h2⟩
      · cases h1
      · exact ⟨h1, h2⟩
    have c0 := r0.cell
    have c1 := r1.cell
    gi_wp2
    have c0' := (r0.kept (grownBy_putObj' _ D (.deferred none)) (by intro e; injection e; omega)).cell
    have c1' := (r1.kept (grownBy_putObj' _ D (.deferred none)) (by intro e; injection e; omega)).cell
    refine ⟨by simp, .inl ⟨_, _, rfl, run_takeDeferred hK, ?_⟩⟩
    refine ⟨.tuple #[.slice none 0 0, .int .i64 18], ?_, ⟨_, rfl, World.ownsRow_nil _ _ _ _⟩, hB0.trans (hB.trans (belowK_b (w := w) (Nat.le_refl _) W D _ _ (by omega) hK rfl rfl))⟩
    simp [results, Try.results13, go_sem, c0', c1']

set_option maxHeartbeats 1000000 in
theorem walk_any (w : World) (B g n : Nat) (f : Nat → Int) (a u : Int) (L : List Int) (k : Int) (h : Ar w B g n f) (a1 : -9223372036854775808 ≤ a) (a2 : a ≤ 9223372036854775807) (u1 : -9223372036854775808 ≤ u) (u2 : u ≤ 9223372036854775807) (hL : Walked n f a u L k) :
    Calls Try.prog 13 #[.pointer (some ⟨B, 0, none⟩), .int .i64 a, .int .i64 u] w (Told w L k) := by
  have hl := h.len
  by_cases hu : u < 0
  · obtain ⟨rfl, rfl⟩ : L = [] ∧ k = 18 := by
      rcases hL with ⟨_, h1, h2⟩ | ⟨h1, _⟩
      · exact ⟨h1, h2⟩
      · omega
    have S0 := ((St.start w).new [.slice none 0 0] 38).new [.int .i64 18] 31
    clear hL
    go_enter Try.func13, Try.ntmps13
    go_wp2
    refine bodyPost_ret (v := .tuple #[.slice none 0 0, .int .i64 18]) (by simp [results, Try.results13, go_sem]) rfl ⟨⟨_, rfl, World.ownsRow_nil _ _ _ _⟩, S0.below⟩
  · rcases hL with ⟨h1, _⟩ | ⟨h1, hL⟩
    · omega
    · by_cases hz : a + u ≤ 9223372036854775807
      · rcases hL with ⟨h2, h3⟩ | ⟨h2, h3, L', h4⟩
        · exact walk_core w B g n f a u L true h a1 a2 h1 u2 hz h2 L k (.inl ⟨rfl, rfl, h3⟩)
        · exact walk_core w B g n f a u L' false h a1 a2 h1 u2 hz h4 L k (.inr ⟨rfl, h2, h3⟩)
      · obtain ⟨rfl, rfl⟩ : L = [] ∧ k = 18 := by
          rcases hL with ⟨h2, h3⟩ | ⟨h2, h3, _⟩
          · have := wk_end h.fit L a h2
            omega
          · exact ⟨h2, h3⟩
        have S0 := ((St.start w).new [.slice none 0 0] 38).new [.int .i64 18] 31
        have hu' : decide (u < 0) = false := decide_eq_false hu
        clear hL hu
        go_enter Try.func13, Try.ntmps13
        go_wp2_with fail
        refine (add_over _ _ _ (by omega) (by omega) (by omega)).mono ?_
        rintro e w1 ⟨⟨k, hk, rfl⟩, rfl⟩
        go_wp2
        refine bodyPost_ret (v := .tuple #[.slice none 0 0, .int .i64 18]) (by simp [results, Try.results13, go_sem]) rfl ⟨⟨_, rfl, World.ownsRow_nil _ _ _ _⟩, S0.below⟩
end Go.Proofs.Ytgihoicppeegaaa.Thing
