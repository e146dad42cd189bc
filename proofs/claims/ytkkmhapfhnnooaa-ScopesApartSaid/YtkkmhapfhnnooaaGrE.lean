/-
  Contracts of package ground: replace, New, Free.
-/
import Derived.Test.YtkkmhapfhnnooaaGrD
import Derived.Lib.BufferMore
namespace Go.Proofs.Ytkkmhapfhnnooaa.Gr
open Go.ChangeShapes Go.WideShapes Go.ChangeAt Go.RowKit Gm
set_option linter.unusedVariables false
set_option linter.unusedSimpArgs false

theorem Ex.form3 {w : World} {v : Value} {L : List E} (h : Ex w v L) : ∃ V n c, v = .slice V n c := by
  obtain ⟨V, c, e⟩ := h.form
  exact ⟨V, _, c, e⟩
theorem take_tight {w : World} {g : Nat} {L : List E} {low : Nat} (hl : low ≤ L.length) (hg : g < w.heap.size)
    (hc : ∀ i (h : i < L.length), w.cell? ⟨g, i * 2, none⟩ = some (.int .i64 (L[i]).1) ∧ w.cell? ⟨g, i * 2 + 1, none⟩ = some (.int .i64 (L[i]).2)) : Tight w (.slice (some ⟨g, 0, none⟩) low low) (L.take low) := by
  have e : (L.take low).length = low := by rw [List.length_take]; omega
  refine .inr ⟨g, by rw [e], hg, fun i hi => ?_⟩
  rw [List.getElem_take]
  exact hc i (by omega)
theorem drop_sr {w : World} {g : Nat} {L : List E} {high : Nat} (hl : high ≤ L.length) (hg : g < w.heap.size)
    (hc : ∀ i (h : i < L.length), w.cell? ⟨g, i * 2, none⟩ = some (.int .i64 (L[i]).1) ∧ w.cell? ⟨g, i * 2 + 1, none⟩ = some (.int .i64 (L[i]).2)) (d : Nat) : Sr w (.slice (some ⟨g, high * 2, none⟩) (L.length - high) d) (L.drop high) := by
  have e : (L.drop high).length = L.length - high := List.length_drop
  refine ⟨_, d, by rw [e], fun _ => ⟨g, high * 2, rfl, hg, fun i hi => ?_⟩⟩
  rw [List.getElem_drop, ← Nat.add_mul]
  exact hc (high + i) (by omega)
theorem drop_sr_end {w : World} {A : Option Addr} {L : List E} {high : Nat} (hl : high = L.length) (d : Nat) : Sr w (.slice A 0 d) (L.drop high) := by
  have e : L.drop high = [] := List.drop_eq_nil_of_le (by omega)
  rw [e]
  exact ⟨A, d, rfl, fun h => absurd h (by simp)⟩

theorem set_head {w : World} {Y : Ly} {B : Nat} {A S : Int} {v v' : Value} (h : w.rowIs B Y.T Y.n (Y.hd A S v)) : (w.setCell ⟨B, Y.o + 2, none⟩ v').rowIs B Y.T Y.n (Y.hd A S v') := by
  refine (h.set (Y.o + 2) v').congr fun i hi => ?_
  by_cases e : i = Y.o + 2
  · subst e; simp [Y.hd2]
  · unfold Ly.hd
    simp [e]

/-- What replace leaves. -/
theorem repl_end {w w2 : World} {Y : Ly} {B K : Nat} {A S : Int} {v va v2 : Value} {R : List E} {n : Nat} (h1 : w.rowIs B Y.T Y.n (Y.hd A S v)) (hB : v.ownBlock ≠ some B) (hK : v.ownBlock ≠ some K) (hKl : K < w.heap.size)
    (hva : va.ownBlock = none ∨ va.ownBlock = v.ownBlock) (he : Ex w2 v2 R) (hg : (w.drewN n).grownBy w2 none) (ht : Ty w v) (hat : ∀ g, v2.ownBlock = some g → va.ownBlock = some g ∨ (w.drewN n).heap.size ≤ g ∧ ∃ cs fz, w2.heap[g]? = some (.cells cs 46 fz)) :
    Gr (w2.setCell ⟨B, Y.o + 2, none⟩ v2) Y B K A S R ∧ w.grownBy (w2.setCell ⟨B, Y.o + 2, none⟩ v2) (some B) := by
  have hs : (w.drewN n).heap.size = w.heap.size := rfl
  have h2 : w2.rowIs B Y.T Y.n (Y.hd A S v) := h1.of_block (hg.block B h1.lt (by simp))
  have far : ∀ k, k < w.heap.size → v.ownBlock ≠ some k → v2.ownBlock ≠ some k := by
    intro k hk hv e
    rcases hat k e with e' | e'
    · rcases hva with x | x
      · rw [x] at e'; cases e'
      · exact hv (x.symm.trans e')
    · have := e'.1
      omega
  have hb2 := far B h1.lt hB
  have ty2 : Ty w2 v2 := by
    intro g hgv
    rcases hat g hgv with e' | e'
    · rcases hva with x | x
      · rw [x] at e'; cases e'
      · obtain ⟨cs, fz, e⟩ := ht g (x.symm.trans e')
        have hlt : g < w.heap.size := by
          rcases Nat.lt_or_ge g w.heap.size with c | c
          · exact c
          · rw [Array.getElem?_eq_none c] at e; cases e
        exact ⟨cs, fz, (hg.block g hlt (by simp)).trans e⟩
    · exact e'.2
  refine ⟨⟨v2, set_head h2, he.setCell hb2 _, hb2, far K hKl hK, ty2.keep fun g hgv => Below.heap_setCell w2 ⟨B, Y.o + 2, none⟩ v2 g (by rintro rfl; exact hb2 hgv)⟩, only_setCell (only_wide ?_) (Y.o + 2) v2⟩
  exact ⟨hg.os, hg.tape, hg.output, hg.size, hg.block⟩

theorem wpList_run {P : Program} {w : World} {ops : Array Oper} {rest : List Oper} {o : Oper} {a : Act} {Q : Exit → Act → World → Prop} (hgd : o.guard = none) (s x : Operand) (t : TypeId)
    (ho : o.op = .call { callee := .builtin .append, args := #[s, x], argTypes := #[t, t] }) (vs vx : Value) (hs : a.eval s = vs) (hx : a.eval x = vx) {v' : Value} {w' : World}
    (hr : (Builtin.append_ #[t, t] o.type #[vs, vx]).run P w = .ok v' w') (h : wpList P ops Q rest (a.put o.dst v') w') : wpList P ops Q (o :: rest) a w := by
  refine wpList_plain hgd fun K hK => ?_
  unfold Oper.wp execOp
  simp only [ho, resolve, invoke, builtin, Sem.run_bind, Sem.run_pure, Result.andThen_ok, List.map_toArray, List.map_cons, List.map_nil, hs, hx, hr]
  exact hK _ _ h

set_option maxRecDepth 8000 in
set_option maxHeartbeats 2000000 in
theorem replace_any (w : World) (Y : Ly) (B K : Nat) (A S : Int) (L M : List E) (low high : Nat) (x : Value) (h : Gr w Y B K A S L) (hK : K < w.heap.size) (h1 : low ≤ high) (h2 : high ≤ L.length) (hx : Ex w x M) (hM : M.length ≤ 1) (hl : L.length ≤ 200000) :
    Calls Try.prog 71 #[.pointer (some ⟨B, Y.o, none⟩), .int .i64 (low : Int), .int .i64 (high : Int), x] w fun e w' => e = .returned (.tuple #[]) ∧ Gr w' Y B K A S (L.take low ++ (M ++ L.drop high)) ∧ w.grownBy w' (some B) := by
  obtain ⟨v, hh, hv, hB, hKv, hty⟩ := h
  have x2 : w.cell? ⟨B, Y.o + 2, none⟩ = some v := Ly.cell2 hh
  have z2 := hh.frozen (Y.o + 2)
  rcases hv with ⟨rfl, rfl⟩ | ⟨g, c, rfl, h3, h4, h5, hc⟩
  · have e2 : high = 0 := by simpa using h2
    subst e2
    have e1 : low = 0 := by omega
    subst e1
    go_enter Try.func71, Try.ntmps71
    go_wp2
    go_quiet (fail)
    obtain ⟨v1, w1, v2, w2, r1, r2, hE, g1, g2, hat⟩ := app2 (w.drewN nq) (Tight.drewN (w := w) (.inl ⟨rfl, rfl⟩) nq) (hx.sr.drewN nq) (Sr.drewN (w := w) (drop_sr_end (L := []) (high := 0) rfl 0) nq) (by simp; omega)
    obtain ⟨V2, n2, k2, rfl⟩ := hE.form3
    have R := repl_end (K := K) (va := .slice none 0 0) hh hB hKv hK (.inl rfl) hE g2 hty hat
    have y2 : w2.cell? ⟨B, Y.o + 2, none⟩ = some (.slice none 0 0) := (World.cell?_of_block (w := w.drewN nq) (w' := w2) (a := ⟨B, Y.o + 2, none⟩) (g2.block B hh.lt (by simp))).trans x2
    have y3 : w2.frozen? ⟨B, Y.o + 2, none⟩ = false := (World.frozen?_of_block (w := w.drewN nq) (w' := w2) (a := ⟨B, Y.o + 2, none⟩) (g2.block B hh.lt (by simp))).trans z2
    clear hat hE g1 g2
    go_wp2_with (first
      | (at_builtin; refine wpList_run rfl (.tmp 24) (.tmp 25) _ rfl _ _ rfl rfl r1 ?_)
      | (at_builtin; refine wpList_run rfl (.tmp 26) (.tmp 27) _ rfl _ _ rfl rfl r2 ?_))
    go_end0
    exact ⟨rfl, R.1, R.2⟩
  · unfold maxLen at h4
    by_cases hc1 : c = high
    · have e3 : high = L.length := by omega
      subst hc1
      go_enter Try.func71, Try.ntmps71
      go_wp2
      go_quiet (fail)
      obtain ⟨v1, w1, v2, w2, r1, r2, hE, g1, g2, hat⟩ := app2 (w.drewN nq) (Tight.drewN (w := w) (take_tight (low := low) (by omega) h5 hc) nq) (hx.sr.drewN nq) (Sr.drewN (w := w) (drop_sr_end (L := L) (A := some ⟨g, 0, none⟩) e3 0) nq) (by rw [List.length_take, List.length_drop]; omega)
      obtain ⟨V2, n2, k2, rfl⟩ := hE.form3
      have R := repl_end (K := K) (va := .slice (some ⟨g, 0, none⟩) low low) hh hB hKv hK (.inr rfl) hE g2 hty hat
      have y2 : w2.cell? ⟨B, Y.o + 2, none⟩ = some (.slice (some ⟨g, 0, none⟩) L.length c) := (World.cell?_of_block (w := w.drewN nq) (w' := w2) (a := ⟨B, Y.o + 2, none⟩) (g2.block B hh.lt (by simp))).trans x2
      have y3 : w2.frozen? ⟨B, Y.o + 2, none⟩ = false := (World.frozen?_of_block (w := w.drewN nq) (w' := w2) (a := ⟨B, Y.o + 2, none⟩) (g2.block B hh.lt (by simp))).trans z2
      clear hat hE g1 g2
      go_wp2_with (first
        | (at_builtin; refine wpList_run rfl (.tmp 24) (.tmp 25) _ rfl _ _ rfl rfl r1 ?_)
        | (at_builtin; refine wpList_run rfl (.tmp 26) (.tmp 27) _ rfl _ _ rfl rfl r2 ?_))
      go_end0
      exact ⟨rfl, R.1, R.2⟩
    · have HC := Lib.hid hc
      go_enter Try.func71, Try.ntmps71
      go_wp2
      go_quiet (fail)
      obtain ⟨v1, w1, v2, w2, r1, r2, hE, g1, g2, hat⟩ := app2 (w.drewN nq) (Tight.drewN (w := w) (take_tight (low := low) (by omega) h5 hc) nq) (hx.sr.drewN nq) (Sr.drewN (w := w) (drop_sr h2 h5 hc (c - high)) nq) (by rw [List.length_take, List.length_drop]; omega)
      obtain ⟨V2, n2, k2, rfl⟩ := hE.form3
      have R := repl_end (K := K) (va := .slice (some ⟨g, 0, none⟩) low low) hh hB hKv hK (.inr rfl) hE g2 hty hat
      have y2 : w2.cell? ⟨B, Y.o + 2, none⟩ = some (.slice (some ⟨g, 0, none⟩) L.length c) := (World.cell?_of_block (w := w.drewN nq) (w' := w2) (a := ⟨B, Y.o + 2, none⟩) (g2.block B hh.lt (by simp))).trans x2
      have y3 : w2.frozen? ⟨B, Y.o + 2, none⟩ = false := (World.frozen?_of_block (w := w.drewN nq) (w' := w2) (a := ⟨B, Y.o + 2, none⟩) (g2.block B hh.lt (by simp))).trans z2
      clear hat hE g1 g2
      go_wp2_with (first
        | (at_builtin; refine wpList_run rfl (.tmp 24) (.tmp 25) _ rfl _ _ rfl rfl r1 ?_)
        | (at_builtin; refine wpList_run rfl (.tmp 26) (.tmp 27) _ rfl _ _ rfl rfl r2 ?_))
      go_end0
      exact ⟨rfl, R.1, R.2⟩

theorem new_gr0 (w : World) (A S : Int) (K : Nat) : Gr (w.alloc (.cells #[.int .i64 A, .int .i64 S, .slice none 0 0] 75)) y0 w.heap.size K A S [] := by
  refine ⟨.slice none 0 0, World.rowIs_alloc w _ _ _ (fun i hi => ?_), .nil _, by simp [Value.ownBlock], by simp [Value.ownBlock], fun g hg => by simp [Value.ownBlock] at hg⟩
  have hi' : i < 3 := hi
  have : i = 0 ∨ i = 1 ∨ i = 2 := by omega
  rcases this with rfl | rfl | rfl <;> rfl
theorem new_gr1 (w : World) (A S : Int) (K : Nat) (hK : K ≤ w.heap.size) : Gr ((w.alloc (.cells #[.int .i64 A, .int .i64 S, .slice (some ⟨w.heap.size + 1, 0, none⟩) 1 1] 75)).alloc (.cells #[.int .i64 A, .int .i64 S] 46)) y0 w.heap.size K A S [(A, S)] := by
  refine ⟨.slice (some ⟨w.heap.size + 1, 0, none⟩) 1 1, (World.rowIs_alloc w _ _ _ (fun i hi => ?_)).alloc _, .inr ⟨_, 1, rfl, Nat.le_refl _, by decide, by simp, fun i hi => ?_⟩, by simp [Value.ownBlock], by simp [Value.ownBlock]; omega, fun g hg => ?_⟩
  · have hi' : i < 3 := hi
    have : i = 0 ∨ i = 1 ∨ i = 2 := by omega
    rcases this with rfl | rfl | rfl <;> rfl
  · have : i = 0 := by simpa using hi
    subst this
    constructor <;> simp [go_sem]
  · injection hg with hg
    have hg' : w.heap.size + 1 = g := hg
    subst hg'
    have := heap_alloc_new (w.alloc (.cells #[.int .i64 A, .int .i64 S, .slice (some ⟨w.heap.size + 1, 0, none⟩) 1 1] 75)) (.cells #[.int .i64 A, .int .i64 S] 46)
    rw [World.size_alloc] at this
    exact ⟨_, _, this⟩

set_option maxHeartbeats 1000000 in
theorem new_any (w : World) (A S : Int) (K : Nat) (hA : boundB A = true) (hS : boundB S = true) (hz : 0 < S) (hK : K ≤ w.heap.size) :
    Calls Try.prog 39 #[.int .i64 A, .int .i64 S] w fun e w' => e = .returned (.tuple #[.pointer (some ⟨w.heap.size, 0, none⟩), .int .i64 0]) ∧ Gr w' y0 w.heap.size K A S [(A, S)] ∧ Below w.heap.size w w' := by
  go_enter Try.func39, Try.ntmps39
  go_wp2_with (go_at_call 66; refine (bound_any _ _).mono ?_; rintro e w' ⟨rfl, rfl⟩)
  go_ret2
  exact ⟨rfl, new_gr1 w A S K hK, ((Below.refl _ _).alloc (Nat.le_refl _) _).alloc (by simp) _⟩
set_option maxHeartbeats 1000000 in
theorem new_zero (w : World) (A : Int) (K : Nat) (hA : boundB A = true) :
    Calls Try.prog 39 #[.int .i64 A, .int .i64 0] w fun e w' => e = .returned (.tuple #[.pointer (some ⟨w.heap.size, 0, none⟩), .int .i64 0]) ∧ Gr w' y0 w.heap.size K A 0 [] ∧ Below w.heap.size w w' := by
  have hS : boundB 0 = true := by decide
  go_enter Try.func39, Try.ntmps39
  go_wp2_with (go_at_call 66; refine (bound_any _ _).mono ?_; rintro e w' ⟨rfl, rfl⟩)
  go_ret2
  exact ⟨rfl, new_gr0 w A 0 K, (Below.refl _ _).alloc (Nat.le_refl _) _⟩
set_option maxHeartbeats 1000000 in
theorem new_no (w : World) (A S : Int) (h : boundB A = false ∨ (boundB A = true ∧ boundB S = false)) :
    Calls Try.prog 39 #[.int .i64 A, .int .i64 S] w fun e w' => e = .returned (.tuple #[.pointer none, .int .i64 1]) ∧ w = w' := by
  rcases h with h | ⟨h, h'⟩
  all_goals
    go_enter Try.func39, Try.ntmps39
    go_wp2_with (go_at_call 66; refine (bound_any _ _).mono ?_; rintro e w' ⟨rfl, rfl⟩)
    go_ret2
    exact ⟨rfl, rfl⟩

theorem app1 (w : World) {va x : Value} {La M : List E} (h : Tight w va La) (hx : Sr w x M) (hl : La.length + M.length ≤ 1000000) :
    ∃ v1 w1, (Builtin.append_ #[X, X] X #[va, x]).run Try.prog w = .ok v1 w1 ∧ Ex w1 v1 (La ++ M) ∧ w.grownBy w1 none ∧ (∀ g, v1.ownBlock = some g → va.ownBlock = some g ∨ w.heap.size ≤ g) := by
  by_cases hm : 0 < M.length
  · obtain ⟨v1, w1, r1, o1, g1⟩ := app_tight w h hx hm hl
    exact ⟨v1, w1, r1, Ex.own o1, g1, fun g hg => .inr (o1.lt g hg).1⟩
  · have e : M = [] := List.eq_nil_of_length_eq_zero (by omega)
    subst e
    have hv : ∃ A, va = .slice A La.length La.length := by
      rcases h with ⟨rfl, rfl⟩ | ⟨g, rfl, _⟩
      · exact ⟨_, rfl⟩
      · exact ⟨_, rfl⟩
    obtain ⟨A, rfl⟩ := hv
    refine ⟨_, w, app_none w A La.length La.length (Nat.le_refl _) hx, ?_, World.grownBy.refl _ _, fun g hg => .inl hg⟩
    rw [List.append_nil]
    exact h.ex (by omega)

/-- A row of one's own that tells L, in blocks from N on. -/
def Told (N : Nat) (L : List E) (w : World) (e : Ending) (w' : World) : Prop := ∃ V c, e = .returned (.slice V L.length c) ∧ Ex w' (.slice V L.length c) L ∧ (∀ g, (Value.slice V L.length c).ownBlock = some g → N ≤ g) ∧ Below w.heap.size w w'
theorem Told.of {N : Nat} {L : List E} {w w' : World} {v : Value} (h : Ex w' v L) (hn : ∀ g, v.ownBlock = some g → N ≤ g) (hb : Below w.heap.size w w') : Told N L w (.returned v) w' := by
  obtain ⟨V, c, rfl⟩ := h.form
  exact ⟨V, c, rfl, h, hn, hb⟩
theorem eql_nil (w : World) : (binOp .eql X (.slice none 0 0) (.slice none 0 0)).run Try.prog w = .ok (.bool true) w := Lib.run_eql_slice_nil_nil w 0 0 under_exts
theorem eql_some (a : Addr) (n c : Nat) (w : World) : (binOp .eql X (.slice (some a) n c) (.slice none 0 0)).run Try.prog w = .ok (.bool false) w := Lib.run_eql_slice_some_nil w a n c under_exts

set_option maxHeartbeats 1000000 in
theorem clone_any (w : World) (v : Value) (L : List E) (hv : Ex w v L) (hl : L.length ≤ 200000) :
    Calls Try.prog 83 #[v] w (Told w.heap.size L w) := by
  rcases id hv with ⟨rfl, rfl⟩ | ⟨g, c, rfl, h3, h4, h5, hc⟩
  · have q := eql_nil
    go_enter Try.func83, Try.ntmps83
    go_wp2
    go_ret
    exact .of (.nil _) (by simp [Value.ownBlock]) (Below.refl _ _)
  · have q := eql_some ⟨g, 0, none⟩ L.length c
    have hv' := hv.alloc (.cells #[] 46)
    have ht : Tight (w.alloc (.cells #[] 46)) (.slice (some ⟨w.heap.size, 0, none⟩) 0 0) [] := .inr ⟨w.heap.size, rfl, by simp, fun i hi => by simp at hi⟩
    obtain ⟨v1, w1, r1, hE, g1, hat⟩ := app1 _ ht hv'.sr (by simp; omega)
    go_enter Try.func83, Try.ntmps83
    go_wp2_with (at_builtin; refine wpList_run rfl (.tmp 5) (.tmp 6) _ rfl _ _ rfl rfl r1 ?_)
    go_ret
    refine .of hE (fun k hk => ?_) ((((Below.refl w.heap.size w).alloc (Nat.le_refl _) _)).trans ((below_only g1).mono (by simp)))
    rcases hat k hk with e | e
    · injection e with e
      have e' : w.heap.size = k := e
      omega
    · simp at e
      omega

set_option maxHeartbeats 1000000 in
theorem free_any (w : World) (Y : Ly) (B K : Nat) (A S : Int) (L : List E) (h : Gr w Y B K A S L) (hl : L.length ≤ 200000) :
    Calls Try.prog 63 #[.pointer (some ⟨B, Y.o, none⟩)] w (Told w.heap.size L w) := by
  obtain ⟨v, h1, hv, _, _⟩ := h
  obtain ⟨V, c, rfl⟩ := hv.form
  have x2 : w.cell? ⟨B, Y.o + 2, none⟩ = some (.slice V L.length c) := Ly.cell2 h1
  go_enter Try.func63, Try.ntmps63
  go_wp2_with fail
  refine (clone_any w _ L hv hl).mono ?_
  rintro e w1 ⟨V', c', rfl, hE, hn, hb⟩
  go_wp2
  go_ret
  exact .of hE hn hb
end Go.Proofs.Ytkkmhapfhnnooaa.Gr
