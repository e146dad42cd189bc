/-
  Rows of slices of ops; contracts of fin's Right and Of, and of the document's in, one, Right, Of.
-/
import Derived.Test.YtapbhcpcechccaaFinaC
namespace Go.Proofs.Ytapbhcpcechccaa.Fina
open Go.ChangeShapes Go.WideShapes Go.ChangeAt Go.RowKit
open Slic
set_option linter.unusedVariables false

/-- A slice of slices that reads as a list of lists. -/
def Rows (w : World) (v : Value) (LL : List (List O)) : Prop := ∃ Hs : List (Option Addr × Nat × Nat), Sr kR w v Hs ∧ Hs.length = LL.length ∧ ∀ (i : Nat) (h : i < Hs.length) (h' : i < LL.length), Sr kF w (.slice (Hs[i]).1 (Hs[i]).2.1 (Hs[i]).2.2) LL[i]
theorem Rows.below {w w' : World} {v : Value} {LL : List (List O)} (h : Rows w v LL) (k : Below w.heap.size w w') : Rows w' v LL := by
  obtain ⟨Hs, h1, h2, h3⟩ := h
  exact ⟨Hs, h1.below k, h2, fun i h h' => (h3 i h h').below k⟩
theorem Rows.form {w : World} {v : Value} {LL : List (List O)} (h : Rows w v LL) : ∃ A c, v = .slice A LL.length c ∧ LL.length ≤ c ∧ c ≤ maxLen := by
  obtain ⟨Hs, h1, h2, h3⟩ := h
  obtain ⟨A, c, rfl, h4, h5⟩ := h1.form
  exact ⟨A, c, by rw [h2], by omega, h5⟩
/-- The slice that is there at a place. -/
theorem Rows.at {w : World} {A : Option Addr} {n c : Nat} {LL : List (List O)} (h : Rows w (.slice A n c) LL) (i : Nat) (hi : i < LL.length) : ∃ g o B d, A = some ⟨g, o, none⟩ ∧ g < w.heap.size ∧ w.cell? ⟨g, o + i, none⟩ = some (.slice B (LL[i]).length d) ∧ Sr kF w (.slice B (LL[i]).length d) LL[i] ∧ (LL[i]).length ≤ d ∧ d ≤ maxLen := by
  obtain ⟨Hs, h1, h2, h3⟩ := h
  obtain ⟨g, o, rfl, hg, hc⟩ := row_at h1 i (by omega)
  have hS := h3 i (by omega) hi
  obtain ⟨B, d, e, k1, k2⟩ := hS.form
  rw [e] at hc hS
  exact ⟨g, o, B, d, rfl, hg, hc, hS, k1, k2⟩
def okOs (LL : List (List O)) : Prop := ∀ L ∈ LL, okO L

set_option maxRecDepth 100000 in
set_option maxHeartbeats 2000000 in
theorem right_any (w : World) (v : Value) (LL : List (List O)) (h : Rows w v LL) (hb : okOs LL) : Calls Try.prog 13 #[v] w fun e w' => e = .returned (.bool (rightB LL)) ∧ Below w.heap.size w w' := by
  have h' := h
  obtain ⟨A, c, rfl, h1, h2⟩ := h.form
  clear h
  have hlen : LL.length ≤ 9223372036854775807 := by unfold maxLen at h2; omega
  by_cases h8 : LL.length ≤ 8
  · have z8 : decide (8 < (LL.length : Int)) = false := decide_eq_false (by omega)
    have P := Lib.hid (show rightB LL = LL.all progB by simp [rightB, h8])
    go_enter Try.func13, Try.ntmps13
    go_wp2
    go_loopw [10] (fun t wr => ∃ k : Nat, k ≤ LL.length ∧ t = .int .i64 k ∧ Below w.heap.size w wr ∧ Hid ((LL.take k).all progB = true)) (fun t _ => LL.length - (intOf t).toNat)
    case atStart => exact ⟨0, by omega, rfl, Below.refl _ _, Lib.hid (by simp)⟩
    case round =>
      obtain ⟨k, hk, rfl, hB, hA⟩ := hrel
      by_cases hlt : k < LL.length
      · obtain ⟨g, o, B, d, rfl, hg, hc, hS, _, _⟩ := (h'.below hB).at k hlt
        have ho := hb _ (List.getElem_mem hlt)
        have T := Lib.hid (List.take_succ_eq_append_getElem hlt)
        have M := Lib.hid (List.getElem_mem hlt)
        generalize LL[k] = L at *
        have i1 : (k : Int) < (LL.length : Int) := by omega
        go_wp2_with fail
        refine (rightprog_any _ _ L hS ho).mono ?_
        rintro e w1 ⟨rfl, k1⟩
        have B1 : Below w.heap.size w w1 := hB.trans (k1.mono hB.size)
        clear hc k1 hg hS
        cases hq : progB L with
        | true =>
          have Y : Hid ((LL.take (k + 1)).all progB = true) := Lib.hid (by rw [T.out, List.all_append, hA.out]; simp [hq])
          clear hq hA T
          go_wp2
          go_roundw
          case rel => exact ⟨k + 1, by omega, by go_num, B1, Y⟩
          case measure => simp [intOf]; omega
        | false =>
          have Y : Hid (rightB LL = false) := Lib.hid (by rw [P.out]; exact List.all_eq_false.2 ⟨_, M.out, by simp [hq]⟩)
          clear hq hA T
          go_wp2
          go_ret
          exact ⟨ret_bool Y.out.symm, B1⟩
      · obtain rfl : k = LL.length := by omega
        have Y : Hid (rightB LL = true) := Lib.hid (by rw [P.out, ← hA.out, List.take_length])
        go_wp2
        go_ret
        exact ⟨ret_bool Y.out.symm, hB⟩
  · have z8 : decide (8 < (LL.length : Int)) = true := decide_eq_true (by omega)
    have Y : Hid (rightB LL = false) := Lib.hid (by simp [rightB, h8])
    go_enter Try.func13, Try.ntmps13
    go_wp2
    go_ret
    exact ⟨ret_bool Y.out.symm, Below.refl _ _⟩

/-- A program of a tag: the row that is there, or none. -/
def ofV (LL : List (List O)) (n : Int) : List O := if inB n LL.length = true then LL.getD n.toNat [] else []
def Told (w : World) (L : List O) (e : Ending) (w' : World) : Prop := ∃ v, e = .returned v ∧ Sr kF w v L ∧ w = w'
set_option maxHeartbeats 1000000 in
theorem of_any (w : World) (v : Value) (LL : List (List O)) (n : Int) (h : Rows w v LL) : Calls Try.prog 11 #[v, .int .i64 n] w (Told w (ofV LL n)) := by
  have h' := h
  obtain ⟨A, c, rfl, h1, h2⟩ := h.form
  clear h
  have hlen : LL.length ≤ 9223372036854775807 := by unfold maxLen at h2; omega
  cases hn : inB n LL.length with
  | true =>
    have e : ofV LL n = LL.getD n.toNat [] := if_pos hn
    obtain ⟨k, rfl⟩ : ∃ k : Nat, n = k := ⟨n.toNat, by simp only [inB, decide_eq_true_eq] at hn; omega⟩
    have hlt : k < LL.length := by simp only [inB, decide_eq_true_eq] at hn; omega
    rw [Int.toNat_natCast, List.getD_eq_getElem?_getD, List.getElem?_eq_getElem hlt] at e
    have E := Lib.hid e
    clear e
    obtain ⟨g, o, B, d, rfl, hg, hc, hS, _, _⟩ := h'.at k hlt
    have i1 : (k : Int) < (LL.length : Int) := by omega
    go_enter Try.func11, Try.ntmps11
    go_wp2_with fail
    refine (place_any _ _ _ (by omega)).mono ?_
    rintro e w' ⟨rfl, rfl⟩
    rw [hn]
    go_wp2
    go_ret
    exact ⟨_, rfl, by rw [E.out]; exact hS, rfl⟩
  | false =>
    have E := Lib.hid (show ofV LL n = [] from if_neg (by rw [hn]; simp))
    go_enter Try.func11, Try.ntmps11
    go_wp2_with fail
    refine (place_any _ _ _ (by omega)).mono ?_
    rintro e w' ⟨rfl, rfl⟩
    rw [hn]
    go_wp2
    go_ret
    exact ⟨_, rfl, by rw [E.out]; exact Sr.nil w, rfl⟩
set_option maxHeartbeats 1000000 in
theorem refof_any (w : World) (v : Value) (LL : List (List O)) (n : Int) (h : Rows w v LL) : Calls Try.prog 12 #[v, .int .i64 n] w (Told w (ofV LL n)) := by
  have h' := h
  obtain ⟨A, c, rfl, h1, h2⟩ := h.form
  clear h
  have hlen : LL.length ≤ 9223372036854775807 := by unfold maxLen at h2; omega
  cases hn : inB n LL.length with
  | true =>
    have e : ofV LL n = LL.getD n.toNat [] := if_pos hn
    obtain ⟨k, rfl⟩ : ∃ k : Nat, n = k := ⟨n.toNat, by simp only [inB, decide_eq_true_eq] at hn; omega⟩
    have hlt : k < LL.length := by simp only [inB, decide_eq_true_eq] at hn; omega
    rw [Int.toNat_natCast, List.getD_eq_getElem?_getD, List.getElem?_eq_getElem hlt] at e
    have E := Lib.hid e
    clear e hn
    obtain ⟨g, o, B, d, rfl, hg, hc, hS, _, _⟩ := h'.at k hlt
    have i1 : (k : Int) < (LL.length : Int) := by omega
    have z1 : decide ((LL.length : Int) ≤ (k : Int)) = false := decide_eq_false (by omega)
    have z2 : decide ((k : Int) < 0) = false := decide_eq_false (by omega)
    go_enter Try.func12, Try.ntmps12
    go_wp2
    go_ret
    exact ⟨_, rfl, by rw [E.out]; exact hS, rfl⟩
  | false =>
    have E := Lib.hid (show ofV LL n = [] from if_neg (by rw [hn]; simp))
    by_cases h0 : n < 0
    · have z2 : decide (n < 0) = true := decide_eq_true h0
      clear hn
      go_enter Try.func12, Try.ntmps12
      go_wp2
      go_ret
      exact ⟨_, rfl, by rw [E.out]; exact Sr.nil w, rfl⟩
    · have z2 : decide (n < 0) = false := decide_eq_false h0
      have z1 : decide ((LL.length : Int) ≤ n) = true := decide_eq_true (by simp only [inB, decide_eq_false_iff_not] at hn; omega)
      clear hn
      go_enter Try.func12, Try.ntmps12
      go_wp2
      go_ret
      exact ⟨_, rfl, by rw [E.out]; exact Sr.nil w, rfl⟩

set_option maxHeartbeats 1000000 in
theorem in_any (n m : Int) (w : World) : Calls Try.prog 29 #[.int .i64 n, .int .i64 m] w fun e w' => e = .returned (.bool (withB n 0 m)) ∧ w = w' := by
  by_cases h1 : 0 ≤ n
  · by_cases h2 : n ≤ m
    · have k1 : decide (0 ≤ n) = true := decide_eq_true h1
      have k2 : decide (n ≤ m) = true := decide_eq_true h2
      have k : Hid (withB n 0 m = true) := Lib.hid (decide_eq_true ⟨h1, h2⟩)
      go_enter Try.func29, Try.ntmps29
      go_wp2
      go_ret
      exact ⟨ret_bool k.out.symm, rfl⟩
    · have k1 : decide (0 ≤ n) = true := decide_eq_true h1
      have k2 : decide (n ≤ m) = false := decide_eq_false h2
      have k : Hid (withB n 0 m = false) := Lib.hid (decide_eq_false fun q => h2 q.2)
      go_enter Try.func29, Try.ntmps29
      go_wp2
      go_ret
      exact ⟨ret_bool k.out.symm, rfl⟩
  · have k1 : decide (0 ≤ n) = false := decide_eq_false h1
    have k : Hid (withB n 0 m = false) := Lib.hid (decide_eq_false fun q => h1 q.1)
    go_enter Try.func29, Try.ntmps29
    go_wp2
    go_ret
    exact ⟨ret_bool k.out.symm, rfl⟩
set_option maxRecDepth 100000 in
set_option maxHeartbeats 2000000 in
theorem one_any (op a b : Int) (w : World) (h0 : 0 ≤ op) (h1 : op ≤ 255) : Calls Try.prog 24 #[.agg #[.int .u8 op, .int .i64 a, .int .i64 b]] w fun e w' => e = .returned (.bool (oneB (op, a, b))) ∧ Below w.heap.size w w' := by
  have go : ∀ x : Bool, Hid (oneB (op, a, b) = x) → Calls Try.prog 24 #[.agg #[.int .u8 op, .int .i64 a, .int .i64 b]] w fun e w' => e = .returned (.bool x) ∧ Below w.heap.size w w' := by
    intro x hx
    have hk : op = 0 ∨ op = 1 ∨ op = 2 ∨ op = 3 ∨ 4 ≤ op := by omega
    rcases hk with rfl | rfl | rfl | rfl | h4
    · have q : (withB a 0 99 && (b == 0)) = x := by
        rw [← hx.out, Bool.eq_iff_iff]; simp [withB, oneB, oneP]; omega
      clear hx
      cases h1' : withB a 0 99 with
      | false =>
        rw [h1', Bool.false_and] at q
        subst q
        go_enter Try.func24, Try.ntmps24
        go_wp2_with (go_at_call 29; refine (in_any _ _ _).mono ?_; rintro e w' ⟨rfl, rfl⟩)
        go_ret
        exact ⟨rfl, below_one _ _⟩
      | true =>
        rw [h1', Bool.true_and] at q
        subst q
        go_enter Try.func24, Try.ntmps24
        go_wp2_with (go_at_call 29; refine (in_any _ _ _).mono ?_; rintro e w' ⟨rfl, rfl⟩)
        go_ret
        exact ⟨rfl, below_one _ _⟩
    · have q : (withB a 0 5 && (b == 0)) = x := by
        rw [← hx.out, Bool.eq_iff_iff]; simp [withB, oneB, oneP]; omega
      clear hx
      cases h1' : withB a 0 5 with
      | false =>
        rw [h1', Bool.false_and] at q
        subst q
        go_enter Try.func24, Try.ntmps24
        go_wp2_with (go_at_call 29; refine (in_any _ _ _).mono ?_; rintro e w' ⟨rfl, rfl⟩)
        go_ret
        exact ⟨rfl, below_one _ _⟩
      | true =>
        rw [h1', Bool.true_and] at q
        subst q
        go_enter Try.func24, Try.ntmps24
        go_wp2_with (go_at_call 29; refine (in_any _ _ _).mono ?_; rintro e w' ⟨rfl, rfl⟩)
        go_ret
        exact ⟨rfl, below_one _ _⟩
    · have q : (withB a 0 5 && withB b 0 5) = x := by
        rw [← hx.out, Bool.eq_iff_iff]; simp [withB, oneB, oneP]; omega
      clear hx
      cases h1' : withB a 0 5 with
      | false =>
        rw [h1', Bool.false_and] at q
        subst q
        go_enter Try.func24, Try.ntmps24
        go_wp2_with (go_at_call 29; refine (in_any _ _ _).mono ?_; rintro e w' ⟨rfl, rfl⟩)
        go_ret
        exact ⟨rfl, below_one _ _⟩
      | true =>
        rw [h1', Bool.true_and] at q
        subst q
        go_enter Try.func24, Try.ntmps24
        go_wp2_with (go_at_call 29; refine (in_any _ _ _).mono ?_; rintro e w' ⟨rfl, rfl⟩)
        go_ret
        exact ⟨rfl, below_one _ _⟩
    · have q : (withB a 0 5 && withB b 0 8) = x := by
        rw [← hx.out, Bool.eq_iff_iff]; simp [withB, oneB, oneP]; omega
      clear hx
      cases h1' : withB a 0 5 with
      | false =>
        rw [h1', Bool.false_and] at q
        subst q
        go_enter Try.func24, Try.ntmps24
        go_wp2_with (go_at_call 29; refine (in_any _ _ _).mono ?_; rintro e w' ⟨rfl, rfl⟩)
        go_ret
        exact ⟨rfl, below_one _ _⟩
      | true =>
        rw [h1', Bool.true_and] at q
        subst q
        go_enter Try.func24, Try.ntmps24
        go_wp2_with (go_at_call 29; refine (in_any _ _ _).mono ?_; rintro e w' ⟨rfl, rfl⟩)
        go_ret
        exact ⟨rfl, below_one _ _⟩
    · have q : ((op == 4) && ((a == 0) && (b == 0))) = x := by
        rw [← hx.out]
        by_cases e : op = 4
        · subst e; simp [oneB, oneP]; rfl
        · have e1 : oneB (op, a, b) = false := decide_eq_false (fun h => by unfold oneP at h; simp only at h; omega)
          rw [e1]; simp [e]
      clear hx
      have Q := Lib.hid q
      clear q
      have z0 : (op == 0) = false := by simpa using (show ¬ op = 0 by omega)
      have z1 : (op == 1) = false := by simpa using (show ¬ op = 1 by omega)
      have z2 : (op == 2) = false := by simpa using (show ¬ op = 2 by omega)
      have z3 : (op == 3) = false := by simpa using (show ¬ op = 3 by omega)
      go_enter Try.func24, Try.ntmps24
      go_wp2_with (go_at_call 29; refine (in_any _ _ _).mono ?_; rintro e w' ⟨rfl, rfl⟩)
      all_goals
        go_ret
        exact ⟨ret_bool (by rw [← Q.out]; simp [*]), below_one _ _⟩
  exact go _ (Lib.hid rfl)

set_option maxRecDepth 100000 in
set_option maxHeartbeats 4000000 in
theorem refright_any (w : World) (v : Value) (LL : List (List O)) (h : Rows w v LL) (hb : okOs LL) : Calls Try.prog 14 #[v] w fun e w' => e = .returned (.bool (rightB LL)) ∧ Below w.heap.size w w' := by
  have h' := h
  obtain ⟨A, c, rfl, h1, h2⟩ := h.form
  clear h
  have hlen : LL.length ≤ 9223372036854775807 := by unfold maxLen at h2; omega
  by_cases h8 : LL.length ≤ 8
  · have z8 : decide (8 < (LL.length : Int)) = false := decide_eq_false (by omega)
    have P := Lib.hid (show rightB LL = LL.all progB by simp [rightB, h8])
    go_enter Try.func14, Try.ntmps14
    go_wp2
    go_loopw [3] (fun t wr => ∃ k : Nat, k ≤ LL.length ∧ t = .int .i64 k ∧ Below w.heap.size w wr ∧ Hid ((LL.take k).all progB = true)) (fun t _ => LL.length - (intOf t).toNat)
    case atStart => exact ⟨0, by omega, rfl, Below.refl _ _, Lib.hid (by simp)⟩
    case round =>
      obtain ⟨k, hk, rfl, hB, hA⟩ := hrel
      by_cases hlt : k < LL.length
      · obtain ⟨g, o, B, d, rfl, hg, hc, hS, hd, hd2⟩ := (h'.below hB).at k hlt
        have ho := hb _ (List.getElem_mem hlt)
        have T := Lib.hid (List.take_succ_eq_append_getElem hlt)
        have M := Lib.hid (List.getElem_mem hlt)
        generalize LL[k] = L at *
        have i1 : (k : Int) < (LL.length : Int) := by omega
        have z1 : decide ((k : Int) < (LL.length : Int)) = true := decide_eq_true i1
        have hl2 : L.length ≤ 9223372036854775807 := by unfold maxLen at hd2; omega
        by_cases h9 : L.length ≤ 8
        · have z9 : decide (8 < (L.length : Int)) = false := decide_eq_false (by omega)
          have P2 := Lib.hid (show progB L = L.all oneB by simp [progB, h9])
          go_wp2
          go_loopw [4] (fun t wx => ∃ j : Nat, j ≤ L.length ∧ t = .int .i64 j ∧ Below wr.heap.size wr wx ∧ Hid ((L.take j).all oneB = true)) (fun t _ => L.length - (intOf t).toNat)
          case atStart => exact ⟨0, by omega, rfl, Below.refl _ _, Lib.hid (by simp)⟩
          case round =>
            obtain ⟨j, hj, rfl, hB2, hA2⟩ := hrel
            have hcx := (hB2.cell (p := ⟨g, o + k, none⟩) hg).trans hc
            by_cases hjt : j < L.length
            · obtain ⟨g2, o2, rfl, hg2, d0, d1, d2⟩ := op_at (hS.below hB2) j hjt
              have hq' := ho _ (List.getElem_mem hjt)
              have T2 := Lib.hid (List.take_succ_eq_append_getElem hjt)
              have M2 := Lib.hid (List.getElem_mem hjt)
              generalize L[j] = q at *
              obtain ⟨op, a, b⟩ := q
              simp only at d0 d1 d2 hq'
              have i2 : (j : Int) < (L.length : Int) := by omega
              have z2 : decide ((j : Int) < (L.length : Int)) = true := decide_eq_true i2
              clear hc hS
              go_wp2_with fail
              refine (one_any op a b _ hq'.1 hq'.2).mono ?_
              rintro e w1 ⟨rfl, k1⟩
              have B1 := hB2.trans (k1.mono hB2.size)
              clear d0 d1 d2 k1 hg2
              cases hq : oneB (op, a, b) with
              | true =>
                have Y : Hid ((L.take (j + 1)).all oneB = true) := Lib.hid (by rw [T2.out, List.all_append, hA2.out]; simp [hq])
                clear hq hA2 T2
                go_wp2
                go_roundw
                case rel => exact ⟨j + 1, by omega, by go_num, B1, Y⟩
                case measure => simp [intOf]; omega
              | false =>
                have Y2 : Hid (progB L = false) := Lib.hid (by rw [P2.out]; exact List.all_eq_false.2 ⟨_, M2.out, by simp [hq]⟩)
                have Y : Hid (rightB LL = false) := Lib.hid (by rw [P.out]; exact List.all_eq_false.2 ⟨_, M.out, by simp [Y2.out]⟩)
                clear hq hA2 T2
                go_wp2
                go_ret
                exact ⟨ret_bool Y.out.symm, hB.trans (B1.mono hB.size)⟩
            · obtain rfl : j = L.length := by omega
              have z2 : decide ((L.length : Int) < (L.length : Int)) = false := decide_eq_false (by omega)
              have Y2 : Hid (progB L = true) := Lib.hid (by rw [P2.out, ← hA2.out, List.take_length])
              have Y : Hid ((LL.take (k + 1)).all progB = true) := Lib.hid (by rw [T.out, List.all_append, hA.out]; simp [Y2.out])
              clear hA2
              go_wp2
              go_roundw
              case rel => exact ⟨k + 1, by omega, by go_num, hB.trans (hB2.mono hB.size), Y⟩
              case measure => simp [intOf]; omega
        · have z9 : decide (8 < (L.length : Int)) = true := decide_eq_true (by omega)
          have Y2 : Hid (progB L = false) := Lib.hid (by simp [progB, h9])
          have Y : Hid (rightB LL = false) := Lib.hid (by rw [P.out]; exact List.all_eq_false.2 ⟨_, M.out, by simp [Y2.out]⟩)
          go_wp2
          go_ret
          exact ⟨ret_bool Y.out.symm, hB⟩
      · obtain rfl : k = LL.length := by omega
        have z1 : decide ((LL.length : Int) < (LL.length : Int)) = false := decide_eq_false (by omega)
        have Y : Hid (rightB LL = true) := Lib.hid (by rw [P.out, ← hA.out, List.take_length])
        go_wp2
        go_ret
        exact ⟨ret_bool Y.out.symm, hB⟩
  · have z8 : decide (8 < (LL.length : Int)) = true := decide_eq_true (by omega)
    have Y : Hid (rightB LL = false) := Lib.hid (by simp [rightB, h8])
    go_enter Try.func14, Try.ntmps14
    go_wp2
    go_ret
    exact ⟨ret_bool Y.out.symm, Below.refl _ _⟩
end Go.Proofs.Ytapbhcpcechccaa.Fina
