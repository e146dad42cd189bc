/-
  Contracts of fin's rightOp, rightProgram, Right, and of the document's in, one, Right.
-/
import Derived.Test.YtapbhcpcechccaaFinaA
namespace Go.Proofs.Ytapbhcpcechccaa.Fina
open Go.ChangeShapes Go.WideShapes Go.ChangeAt Go.RowKit
open Slic
set_option linter.unusedVariables false

set_option maxRecDepth 100000 in
set_option maxHeartbeats 2000000 in
theorem rightop_any (op a b : Int) (w : World) (h0 : 0 ≤ op) (h1 : op ≤ 255) : Calls Try.prog 28 #[.agg #[.int .u8 op, .int .i64 a, .int .i64 b]] w fun e w' => e = .returned (.bool (oneB (op, a, b))) ∧ Below w.heap.size w w' := by
  have go : ∀ x : Bool, Hid (oneB (op, a, b) = x) → Calls Try.prog 28 #[.agg #[.int .u8 op, .int .i64 a, .int .i64 b]] w fun e w' => e = .returned (.bool x) ∧ Below w.heap.size w w' := by
    intro x hx
    go_enter Try.func28, Try.ntmps28
    go_wp2_with fail
    refine (kind_any op _ h0 h1).mono ?_
    rintro e w1 ⟨hk, k1⟩
    have c0 : w1.cell? ⟨w.heap.size, 0, none⟩ = some (.int .u8 op) := (k1.cell (p := ⟨w.heap.size, 0, none⟩) (by simp)).trans (by simp [go_sem])
    have c1 : w1.cell? ⟨w.heap.size, 1, none⟩ = some (.int .i64 a) := (k1.cell (p := ⟨w.heap.size, 1, none⟩) (by simp)).trans (by simp [go_sem])
    have c2 : w1.cell? ⟨w.heap.size, 2, none⟩ = some (.int .i64 b) := (k1.cell (p := ⟨w.heap.size, 2, none⟩) (by simp)).trans (by simp [go_sem])
    have hz : w.heap.size < w1.heap.size := by have := k1.size; simp at this; omega
    have B1 : Below w.heap.size w w1 := (below_one _ _).trans (k1.mono (by simp))
    clear k1
    rcases hk with ⟨rfl, rfl⟩ | ⟨rfl, rfl⟩ | ⟨rfl, rfl⟩ | ⟨rfl, rfl⟩ | ⟨rfl, rfl⟩ | ⟨h5, rfl⟩
    · have q : (withB a 0 99 && withB b 0 0) = x := by
        rw [← hx.out, Bool.eq_iff_iff]; simp [withB, oneB, oneP]; omega
      clear hx
      cases h1' : withB a 0 99 with
      | false =>
        rw [h1', Bool.false_and] at q
        subst q
        go_wp2_with (go_at_call 27; refine (within_any _ _ _ _).mono ?_; rintro e w' ⟨rfl, rfl⟩)
        go_ret
        exact ⟨rfl, B1.alloc B1.size _⟩
      | true =>
        rw [h1', Bool.true_and] at q
        subst q
        go_wp2_with (go_at_call 27; refine (within_any _ _ _ _).mono ?_; rintro e w' ⟨rfl, rfl⟩)
        go_ret
        exact ⟨rfl, B1.alloc B1.size _⟩
    · have q : (withB a 0 5 && withB b 0 0) = x := by
        rw [← hx.out, Bool.eq_iff_iff]; simp [withB, oneB, oneP]; omega
      clear hx
      cases h1' : withB a 0 5 with
      | false =>
        rw [h1', Bool.false_and] at q
        subst q
        go_wp2_with (go_at_call 27; refine (within_any _ _ _ _).mono ?_; rintro e w' ⟨rfl, rfl⟩)
        go_ret
        exact ⟨rfl, B1.alloc B1.size _⟩
      | true =>
        rw [h1', Bool.true_and] at q
        subst q
        go_wp2_with (go_at_call 27; refine (within_any _ _ _ _).mono ?_; rintro e w' ⟨rfl, rfl⟩)
        go_ret
        exact ⟨rfl, B1.alloc B1.size _⟩
    · have q : (withB a 0 5 && withB b 0 5) = x := by
        rw [← hx.out, Bool.eq_iff_iff]; simp [withB, oneB, oneP]; omega
      clear hx
      cases h1' : withB a 0 5 with
      | false =>
        rw [h1', Bool.false_and] at q
        subst q
        go_wp2_with (go_at_call 27; refine (within_any _ _ _ _).mono ?_; rintro e w' ⟨rfl, rfl⟩)
        go_ret
        exact ⟨rfl, B1.alloc B1.size _⟩
      | true =>
        rw [h1', Bool.true_and] at q
        subst q
        go_wp2_with (go_at_call 27; refine (within_any _ _ _ _).mono ?_; rintro e w' ⟨rfl, rfl⟩)
        go_ret
        exact ⟨rfl, B1.alloc B1.size _⟩
    · have q : (withB a 0 5 && withB b 0 8) = x := by
        rw [← hx.out, Bool.eq_iff_iff]; simp [withB, oneB, oneP]; omega
      clear hx
      cases h1' : withB a 0 5 with
      | false =>
        rw [h1', Bool.false_and] at q
        subst q
        go_wp2_with (go_at_call 27; refine (within_any _ _ _ _).mono ?_; rintro e w' ⟨rfl, rfl⟩)
        go_ret
        exact ⟨rfl, B1.alloc B1.size _⟩
      | true =>
        rw [h1', Bool.true_and] at q
        subst q
        go_wp2_with (go_at_call 27; refine (within_any _ _ _ _).mono ?_; rintro e w' ⟨rfl, rfl⟩)
        go_ret
        exact ⟨rfl, B1.alloc B1.size _⟩
    · have q : (withB a 0 0 && withB b 0 0) = x := by
        rw [← hx.out, Bool.eq_iff_iff]; simp [withB, oneB, oneP]; omega
      clear hx
      cases h1' : withB a 0 0 with
      | false =>
        rw [h1', Bool.false_and] at q
        subst q
        go_wp2_with (go_at_call 27; refine (within_any _ _ _ _).mono ?_; rintro e w' ⟨rfl, rfl⟩)
        go_ret
        exact ⟨rfl, B1.alloc B1.size _⟩
      | true =>
        rw [h1', Bool.true_and] at q
        subst q
        go_wp2_with (go_at_call 27; refine (within_any _ _ _ _).mono ?_; rintro e w' ⟨rfl, rfl⟩)
        go_ret
        exact ⟨rfl, B1.alloc B1.size _⟩
    · have q : false = x := by
        rw [← hx.out, eq_comm]; exact decide_eq_false (fun h => by unfold oneP at h; simp only at h; omega)
      subst q
      clear hx
      go_wp2
      go_ret
      exact ⟨rfl, B1.alloc B1.size _⟩
  exact go _ (Lib.hid rfl)

set_option maxRecDepth 100000 in
set_option maxHeartbeats 2000000 in
theorem rightprog_any (w : World) (v : Value) (L : List O) (h : Sr kF w v L) (hb : okO L) : Calls Try.prog 23 #[v] w fun e w' => e = .returned (.bool (progB L)) ∧ Below w.heap.size w w' := by
  have h' := h
  obtain ⟨A, c, rfl, h1, h2⟩ := h.form
  clear h
  have hlen : L.length ≤ 9223372036854775807 := by unfold maxLen at h2; omega
  by_cases h8 : L.length ≤ 8
  · have z8 : decide (8 < (L.length : Int)) = false := decide_eq_false (by omega)
    have P := Lib.hid (show progB L = L.all oneB by simp [progB, h8])
    go_enter Try.func23, Try.ntmps23
    go_wp2
    go_loopw [10] (fun t wr => ∃ k : Nat, k ≤ L.length ∧ t = .int .i64 k ∧ Below w.heap.size w wr ∧ Hid ((L.take k).all oneB = true)) (fun t _ => L.length - (intOf t).toNat)
    case atStart => exact ⟨0, by omega, rfl, Below.refl _ _, Lib.hid (by simp)⟩
    case round =>
      obtain ⟨k, hk, rfl, hB, hA⟩ := hrel
      by_cases hlt : k < L.length
      · obtain ⟨g, o, rfl, hg, d0, d1, d2⟩ := op_at (h'.below hB) k hlt
        have ho := hb _ (List.getElem_mem hlt)
        have T := Lib.hid (List.take_succ_eq_append_getElem hlt)
        have M := Lib.hid (List.getElem_mem hlt)
        generalize L[k] = q at *
        obtain ⟨op, a, b⟩ := q
        simp only at d0 d1 d2 ho
        have i1 : (k : Int) < (L.length : Int) := by omega
        go_wp2_with fail
        refine (rightop_any op a b _ ho.1 ho.2).mono ?_
        rintro e w1 ⟨rfl, k1⟩
        have B1 : Below w.heap.size w w1 := (hB.alloc hB.size _).trans (k1.mono (by have := hB.size; simp; omega))
        clear d0 d1 d2 k1 hg
        cases hq : oneB (op, a, b) with
        | true =>
          have Y : Hid ((L.take (k + 1)).all oneB = true) := Lib.hid (by rw [T.out, List.all_append, hA.out]; simp [hq])
          clear hq hA T
          go_wp2
          go_roundw
          case rel => exact ⟨k + 1, by omega, by go_num, B1, Y⟩
          case measure => simp [intOf]; omega
        | false =>
          have Y : Hid (progB L = false) := Lib.hid (by rw [P.out]; exact List.all_eq_false.2 ⟨_, M.out, by simp [hq]⟩)
          clear hq hA T
          go_wp2
          go_ret
          exact ⟨ret_bool Y.out.symm, B1⟩
      · obtain rfl : k = L.length := by omega
        have Y : Hid (progB L = true) := Lib.hid (by rw [P.out, ← hA.out, List.take_length])
        go_wp2
        go_ret
        exact ⟨ret_bool Y.out.symm, hB⟩
  · have z8 : decide (8 < (L.length : Int)) = true := decide_eq_true (by omega)
    have Y : Hid (progB L = false) := Lib.hid (by simp [progB, h8])
    go_enter Try.func23, Try.ntmps23
    go_wp2
    go_ret
    exact ⟨ret_bool Y.out.symm, Below.refl _ _⟩
end Go.Proofs.Ytapbhcpcechccaa.Fina
