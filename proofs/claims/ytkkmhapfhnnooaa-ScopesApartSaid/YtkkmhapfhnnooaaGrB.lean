/-
  Contracts of package ground's small functions: num.Within, end, overlap, join, mayBeBound, mayBeSize.
-/
import Derived.Test.YtkkmhapfhnnooaaGrA
namespace Go.Proofs.Ytkkmhapfhnnooaa.Gr
open Go.ChangeShapes Go.WideShapes Go.ChangeAt Go.RowKit Gm
set_option linter.unusedVariables false
attribute [local go_sem ↓] Go.wp_at_zero Go.wp_at_succ

def withinB (a lo hi : Int) : Bool := decide (lo ≤ a ∧ a ≤ hi)
def boundB (n : Int) : Bool := decide (0 ≤ n ∧ n ≤ 65536 ∧ n % 8 = 0)
def sizeB (z : Int) : Bool := decide (0 < z ∧ z % 8 = 0)
abbrev ext (a s : Int) : Value := .agg #[.int .i64 a, .int .i64 s]

theorem bset {N : Nat} {a w : World} (h : Below N a w) (b o : Nat) (hb : N ≤ b) (u : Value) : Below N a (w.setCell ⟨b, o, none⟩ u) := h.setCell (p := ⟨b, o, none⟩) hb u
set_option maxHeartbeats 400000 in
theorem within_any (a lo hi : Int) (w : World) :
    Calls Try.prog 42 #[.int .i64 a, .int .i64 lo, .int .i64 hi] w fun e w' => e = .returned (.bool (withinB a lo hi)) ∧ w = w' := by
  by_cases h1 : lo ≤ a
  · by_cases h2 : a ≤ hi
    all_goals
      go_enter Try.func42, Try.ntmps42
      go_wp2
      go_ret
      exact ⟨ret_bool (by simp [withinB]; omega), rfl⟩
  · go_enter Try.func42, Try.ntmps42
    go_wp2
    go_ret
    exact ⟨ret_bool (by simp [withinB]; omega), rfl⟩

theorem tmod8 (a : Int) : a.tmod 8 = 0 ↔ a % 8 = 0 := by
  have h1 := Int.dvd_iff_tmod_eq_zero (a := 8) (b := a)
  have h2 := Int.dvd_iff_emod_eq_zero (a := 8) (b := a)
  exact h1.symm.trans h2

set_option maxHeartbeats 400000 in
theorem bound_any (n : Int) (w : World) :
    Calls Try.prog 66 #[.int .i64 n] w fun e w' => e = .returned (.bool (boundB n)) ∧ w = w' := by
  by_cases h : 0 ≤ n ∧ n ≤ 65536
  · have hwi : withinB n 0 65536 = true := decide_eq_true h
    obtain ⟨h1, h2⟩ := h
    by_cases h8 : n % 8 = 0
    · have q : (n % 8 == 0) = true := by simpa using h8
      have K := Lib.hid (show boundB n = true from decide_eq_true ⟨h1, h2, h8⟩)
      clear h8
      go_enter Try.func66, Try.ntmps66
      go_wp2_with (go_at_call 42; refine (within_any _ _ _ _).mono ?_; rintro e w' ⟨rfl, rfl⟩)
      go_ret
      exact ⟨ret_bool K.out.symm, rfl⟩
    · have q : (n % 8 == 0) = false := by simpa using h8
      have K := Lib.hid (show boundB n = false from decide_eq_false (by omega))
      clear h8
      go_enter Try.func66, Try.ntmps66
      go_wp2_with (go_at_call 42; refine (within_any _ _ _ _).mono ?_; rintro e w' ⟨rfl, rfl⟩)
      go_ret
      exact ⟨ret_bool K.out.symm, rfl⟩
  · have hwi : withinB n 0 65536 = false := decide_eq_false h
    have K := Lib.hid (show boundB n = false from decide_eq_false (by omega))
    clear h
    go_enter Try.func66, Try.ntmps66
    go_wp2_with (go_at_call 42; refine (within_any _ _ _ _).mono ?_; rintro e w' ⟨rfl, rfl⟩)
    go_ret
    exact ⟨ret_bool K.out.symm, rfl⟩

set_option maxHeartbeats 400000 in
theorem size_any (z : Int) (w : World) (z1 : -9223372036854775808 ≤ z) (z2 : z ≤ 9223372036854775807) :
    Calls Try.prog 68 #[.int .i64 z] w fun e w' => e = .returned (.bool (sizeB z)) ∧ w = w' := by
  by_cases h : 0 < z
  · by_cases h8 : z % 8 = 0
    · have q : (z % 8 == 0) = true := by simpa using h8
      have K := Lib.hid (show sizeB z = true from decide_eq_true ⟨h, h8⟩)
      clear h8
      go_enter Try.func68, Try.ntmps68
      go_wp2
      go_ret
      exact ⟨ret_bool K.out.symm, rfl⟩
    · have q : (z % 8 == 0) = false := by simpa using h8
      have K := Lib.hid (show sizeB z = false from decide_eq_false (by omega))
      clear h8
      go_enter Try.func68, Try.ntmps68
      go_wp2
      go_ret
      exact ⟨ret_bool K.out.symm, rfl⟩
  · have K := Lib.hid (show sizeB z = false from decide_eq_false (by omega))
    have q : decide (0 < z) = false := decide_eq_false h
    go_enter Try.func68, Try.ntmps68
    go_wp2
    go_ret
    exact ⟨ret_bool K.out.symm, rfl⟩

set_option maxHeartbeats 400000 in
theorem end_any (a s : Int) (w : World) (h1 : -1000000 ≤ a) (h2 : a ≤ 1000000) (h3 : -1000000 ≤ s) (h4 : s ≤ 1000000) :
    Calls Try.prog 75 #[ext a s] w fun e w' => e = .returned (.int .i64 (a + s)) ∧ Below w.heap.size w w' := by
  go_enter Try.func75, Try.ntmps75
  go_wp2
  go_ret
  exact ⟨rfl, (Below.refl _ _).alloc (Nat.le_refl _) _⟩

set_option maxHeartbeats 400000 in
theorem join_any (a s b t : Int) (w : World) (h1 : 0 ≤ a) (h2 : a ≤ 1000000) (h3 : 0 ≤ s) (h4 : s ≤ 1000000) (k1 : 0 ≤ b) (k2 : b ≤ 1000000) (k3 : 0 ≤ t) (k4 : t ≤ 1000000) :
    Calls Try.prog 78 #[ext a s, ext b t] w fun e w' => e = .returned (ext (join (a, s) (b, t)).1 (join (a, s) (b, t)).2) ∧ Below w.heap.size w w' := by
  have e1 : join (a, s) (b, t) = (min a b, s + t) := rfl
  have E := Lib.hid e1
  clear e1
  by_cases h : b < a
  · have M := Lib.hid (show min a b = b from Int.min_eq_right (by omega))
    go_enter Try.func78, Try.ntmps78
    go_wp2
    exact bodyPost_ret (v := ext b (s + t)) (by simp [results, Try.results78, go_sem]) rfl ⟨by rw [E.out, M.out], (((Below.refl w.heap.size w).alloc (Nat.le_refl _) _).alloc (by simp) _).alloc (by simp only [World.size_alloc]; omega) _⟩
  · have M := Lib.hid (show min a b = a from Int.min_eq_left (by omega))
    go_enter Try.func78, Try.ntmps78
    go_wp2
    exact bodyPost_ret (v := ext a (s + t)) (by simp [results, Try.results78, go_sem]) rfl ⟨by rw [E.out, M.out], (((Below.refl w.heap.size w).alloc (Nat.le_refl _) _).alloc (by simp) _).alloc (by simp only [World.size_alloc]; omega) _⟩

/-- a cell below stays. -/
theorem bel {w w' : World} (h : Below w.heap.size w w') {b o : Nat} {v : Value} (c : w.cell? ⟨b, o, none⟩ = some v) : w'.cell? ⟨b, o, none⟩ = some v := by
  have hb : b < w.heap.size := by
    rcases Nat.lt_or_ge b w.heap.size with hlt | hge
    · exact hlt
    · simp [World.cell?, Array.getElem?_eq_none hge] at c
  exact (h.cell (p := ⟨b, o, none⟩) hb).trans c

def ovB (a s b t : Int) : Bool := decide (a < b + t) && decide (b < a + s)
/-- Two boxes of extents, and what is below them. -/
def Two (N : Nat) (W : World) (a s b t : Int) (w : World) : Prop := (w.cell? ⟨N, 0, none⟩ = some (.int .i64 a) ∧ w.cell? ⟨N, 1, none⟩ = some (.int .i64 s) ∧ w.cell? ⟨N + 1, 0, none⟩ = some (.int .i64 b) ∧ w.cell? ⟨N + 1, 1, none⟩ = some (.int .i64 t)) ∧ Below N W w
theorem Two.bel {N : Nat} {W w w' : World} {a s b t : Int} (h : Two N W a s b t w) (k : Below w.heap.size w w') (hN : W.heap.size = N) : Two N W a s b t w' :=
  ⟨⟨Gr.bel k h.1.1, Gr.bel k h.1.2.1, Gr.bel k h.1.2.2.1, Gr.bel k h.1.2.2.2⟩, h.2.trans (k.mono (by have := h.2.size; omega))⟩
set_option maxRecDepth 4000 in
set_option maxHeartbeats 1000000 in
theorem overlap_any (a s b t : Int) (w : World) (h1 : 0 ≤ a) (h2 : a ≤ 1000000) (h3 : 0 ≤ s) (h4 : s ≤ 1000000) (k1 : 0 ≤ b) (k2 : b ≤ 1000000) (k3 : 0 ≤ t) (k4 : t ≤ 1000000) :
    Calls Try.prog 77 #[ext a s, ext b t] w fun e w' => e = .returned (.bool (ovB a s b t)) ∧ Below w.heap.size w w' := by
  have T0 : Two w.heap.size w a s b t ((w.alloc (.cells #[.int .i64 a, .int .i64 s] 46)).alloc (.cells #[.int .i64 b, .int .i64 t] 46)) :=
    ⟨⟨by simp [go_sem], by simp [go_sem], by simp [go_sem], by simp [go_sem]⟩, ((Below.refl _ _).alloc (Nat.le_refl _) _).alloc (by simp) _⟩
  have q2 : decide (a < b + t) = true ∨ decide (a < b + t) = false := by cases decide (a < b + t) <;> simp
  rcases q2 with q2 | q2
  · have K := Lib.hid q2
    have q3 : decide (b < a + s) = true ∨ decide (b < a + s) = false := by cases decide (b < a + s) <;> simp
    rcases q3 with q3 | q3
    all_goals
      have K3 := Lib.hid q3
      go_enter Try.func77, Try.ntmps77
      go_wp2
      generalize (w.alloc (.cells #[.int .i64 a, .int .i64 s] 46)).alloc (.cells #[.int .i64 b, .int .i64 t] 46) = W0 at *
      have T0d : Two w.heap.size w a s b t W0.drew := ⟨T0.1, T0.2.drew⟩
      obtain ⟨⟨c0, c1, c2, c3⟩, B0⟩ := id T0
      go_region_held3 (fun w' => w'.cell? ⟨w.heap.size, 0, none⟩ = some (.int .i64 a) ∧ w'.cell? ⟨w.heap.size, 1, none⟩ = some (.int .i64 s) ∧ w'.cell? ⟨w.heap.size + 1, 0, none⟩ = some (.int .i64 b) ∧ w'.cell? ⟨w.heap.size + 1, 1, none⟩ = some (.int .i64 t))
        (first | exact T0.1 | exact T0d.1 | exact T1.1 | exact T2.1)
        (first
          | (go_at_call 75; refine (end_any a s _ (by omega) (by omega) (by omega) (by omega)).mono ?_; rintro e W2 ⟨rfl, B2⟩; have T2 := Two.bel (by assumption) B2 rfl)
          | (go_at_call 75; refine (end_any b t _ (by omega) (by omega) (by omega) (by omega)).mono ?_; rintro e W1 ⟨rfl, B1⟩; have T1 := Two.bel (by assumption) B1 rfl))
      all_goals
        go_wp2
        go_ret
        exact ⟨ret_bool (by unfold ovB; rw [K.out, K3.out]; rfl), T2.2⟩
  · have K := Lib.hid q2
    go_enter Try.func77, Try.ntmps77
    go_wp2
    generalize (w.alloc (.cells #[.int .i64 a, .int .i64 s] 46)).alloc (.cells #[.int .i64 b, .int .i64 t] 46) = W0 at *
    have T0d : Two w.heap.size w a s b t W0.drew := ⟨T0.1, T0.2.drew⟩
    obtain ⟨⟨c0, c1, c2, c3⟩, B0⟩ := id T0
    first
      | go_region_with (go_at_call 75; refine (end_any b t _ (by omega) (by omega) (by omega) (by omega)).mono ?_; rintro e W1 ⟨rfl, B1⟩; have T1 := Two.bel T0d B1 rfl; obtain ⟨⟨d0, d1, d2, d3⟩, BB⟩ := id T1)
      | fail "x"
    all_goals
      go_wp2
      go_ret
      exact ⟨ret_bool (by unfold ovB; rw [K.out]; rfl), T1.2⟩
end Go.Proofs.Ytkkmhapfhnnooaa.Gr
