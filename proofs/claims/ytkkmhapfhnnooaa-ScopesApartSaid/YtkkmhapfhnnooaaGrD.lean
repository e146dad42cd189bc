/-
  Contracts of package ground: the three closures, slices.IndexFunc and first over each of them.
-/
import Derived.Test.YtkkmhapfhnnooaaGrC
namespace Go.Proofs.Ytkkmhapfhnnooaa.Gr
open Go.ChangeShapes Go.WideShapes Go.ChangeAt Go.RowKit Gm
set_option linter.unusedVariables false
set_option linter.unusedSimpArgs false
attribute [local go_sem ↓] Go.wp_at_zero Go.wp_at_succ

theorem cell_lt {w : World} {b o : Nat} {v : Value} (c : w.cell? ⟨b, o, none⟩ = some v) : b < w.heap.size := by
  rcases Nat.lt_or_ge b w.heap.size with hlt | hge
  · exact hlt
  · simp [World.cell?, Array.getElem?_eq_none hge] at c
theorem cell_alloc {w : World} {b o : Nat} {v : Value} (c : w.cell? ⟨b, o, none⟩ = some v) (x : Obj) : (w.alloc x).cell? ⟨b, o, none⟩ = some v :=
  (World.cell?_alloc_lt w x ⟨b, o, none⟩ (cell_lt c)).trans c

set_option maxHeartbeats 400000 in
theorem clo1_any (a s z : Int) (q : Nat) (w : World) (c : w.cell? ⟨q, 0, none⟩ = some (.int .i64 z)) :
    Calls Try.prog 70 #[ext a s, .pointer (some ⟨q, 0, none⟩)] w fun e w' => e = .returned (.bool (decide (z ≤ s))) ∧ Below w.heap.size w w' := by
  have c' := cell_alloc c (.cells #[.int .i64 a, .int .i64 s] 46)
  go_enter Try.func70, Try.ntmps70
  go_wp2
  go_ret
  exact ⟨rfl, (Below.refl _ _).alloc (Nat.le_refl _) _⟩

set_option maxHeartbeats 1000000 in
theorem clo2_any (a s x : Int) (q : Nat) (w : World) (c : w.cell? ⟨q, 0, none⟩ = some (.int .i64 x)) (h1 : 0 ≤ a) (h2 : a ≤ 1000000) (h3 : 0 ≤ s) (h4 : s ≤ 1000000) :
    Calls Try.prog 74 #[ext a s, .pointer (some ⟨q, 0, none⟩)] w fun e w' => e = .returned (.bool (decide (x ≤ a + s))) ∧ Below w.heap.size w w' := by
  have c' := cell_alloc c (.cells #[.int .i64 a, .int .i64 s] 46)
  have d0 : (w.alloc (.cells #[.int .i64 a, .int .i64 s] 46)).cell? ⟨w.heap.size, 0, none⟩ = some (.int .i64 a) := by simp [go_sem]
  have d1 : (w.alloc (.cells #[.int .i64 a, .int .i64 s] 46)).cell? ⟨w.heap.size, 1, none⟩ = some (.int .i64 s) := by simp [go_sem]
  have B0 : Below w.heap.size w (w.alloc (.cells #[.int .i64 a, .int .i64 s] 46)) := (Below.refl _ _).alloc (Nat.le_refl _) _
  go_enter Try.func74, Try.ntmps74
  go_wp2
  generalize w.alloc (.cells #[.int .i64 a, .int .i64 s] 46) = W0 at *
  go_region_held3 (fun w' => w'.cell? ⟨q, 0, none⟩ = some (.int .i64 x) ∧ w'.cell? ⟨w.heap.size, 0, none⟩ = some (.int .i64 a) ∧ w'.cell? ⟨w.heap.size, 1, none⟩ = some (.int .i64 s))
    (first | exact ⟨c', d0, d1⟩ | exact ⟨bel B1 c', bel B1 d0, bel B1 d1⟩)
    ((go_at_call 75; refine (end_any a s _ (by omega) (by omega) (by omega) (by omega)).mono ?_; rintro e W1 ⟨rfl, B1⟩))
  all_goals
    go_wp2
    go_ret
    exact ⟨rfl, B0.drew.trans (B1.mono B0.size)⟩

set_option maxHeartbeats 1000000 in
theorem clo3_any (a s x y : Int) (q : Nat) (w : World) (c : w.cell? ⟨q, 0, none⟩ = some (.int .i64 x)) (k : w.cell? ⟨q, 1, none⟩ = some (.int .i64 y)) (h1 : 0 ≤ x) (h2 : x ≤ 1000000) (h3 : 0 ≤ y) (h4 : y ≤ 1000000) :
    Calls Try.prog 76 #[ext a s, .pointer (some ⟨q, 0, none⟩)] w fun e w' => e = .returned (.bool (decide (x + y < a))) ∧ Below w.heap.size w w' := by
  have c' := cell_alloc c (.cells #[.int .i64 a, .int .i64 s] 46)
  have k' := cell_alloc k (.cells #[.int .i64 a, .int .i64 s] 46)
  have d0 : (w.alloc (.cells #[.int .i64 a, .int .i64 s] 46)).cell? ⟨w.heap.size, 0, none⟩ = some (.int .i64 a) := by simp [go_sem]
  have B0 : Below w.heap.size w (w.alloc (.cells #[.int .i64 a, .int .i64 s] 46)) := (Below.refl _ _).alloc (Nat.le_refl _) _
  go_enter Try.func76, Try.ntmps76
  go_wp2
  generalize w.alloc (.cells #[.int .i64 a, .int .i64 s] 46) = W0 at *
  go_region_held3 (fun w' => w'.cell? ⟨q, 0, none⟩ = some (.int .i64 x) ∧ w'.cell? ⟨q, 1, none⟩ = some (.int .i64 y) ∧ w'.cell? ⟨w.heap.size, 0, none⟩ = some (.int .i64 a))
    (first | exact ⟨c', k', d0⟩ | exact ⟨bel B1 c', bel B1 k', bel B1 d0⟩)
    ((go_at_call 75; refine (end_any x y _ (by omega) (by omega) (by omega) (by omega)).mono ?_; rintro e W1 ⟨rfl, B1⟩))
  all_goals
    go_wp2
    go_ret
    exact ⟨rfl, B0.drew.trans (B1.mono B0.size)⟩

def idxV (P : E → Bool) (L : List E) : Int := if L.findIdx P < L.length then (L.findIdx P : Int) else -1
/-- Where the walk of the row stands: nothing ahead of k is so. -/
theorem findIdx_at {P : E → Bool} {L : List E} {k : Nat} (h : ∀ i (hi : i < L.length), i < k → P L[i] = false) (hk : k < L.length) (hp : P L[k] = true) : L.findIdx P = k := by
  rw [List.findIdx_eq hk]
  exact ⟨hp, fun j hj => by rw [h j (by omega) hj]⟩
theorem findIdx_none {P : E → Bool} {L : List E} (h : ∀ i (hi : i < L.length), i < L.length → P L[i] = false) : L.findIdx P = L.length := by
  rw [List.findIdx_eq_length]
  intro e he
  obtain ⟨i, hi, rfl⟩ := List.mem_iff_getElem.1 he
  exact h i hi hi

set_option maxHeartbeats 2000000 in
theorem idx1_any (w : World) (v : Value) (L : List E) (q : Nat) (z : Int) (hv : Ex w v L) (c0 : w.cell? ⟨q, 0, none⟩ = some (.int .i64 z)) (hl : L.length ≤ 1000000)  :
    Calls Try.prog 87 #[v, .func (.func 70) #[] #[.pointer (some ⟨q, 0, none⟩)]] w fun e w' => e = .returned (.int .i64 (idxV (fun e => decide (z ≤ e.2)) L)) ∧ Below w.heap.size w w' := by
  obtain ⟨V, c, rfl⟩ := hv.form
  go_enter Try.func87, Try.ntmps87
  go_wp2
  go_loopw [8] (fun t wr => ∃ k : Nat, k ≤ L.length ∧ t = .int .i64 k ∧ Below w.heap.size w wr ∧ ∀ i (hi : i < L.length), i < k → (fun e => decide (z ≤ e.2)) L[i] = false) (fun t _ => L.length - (intOf t).toNat)
  case atStart => exact ⟨0, by omega, rfl, Below.refl _ _, fun i _ h => by omega⟩
  case round =>
    obtain ⟨k, hk, rfl, hb, hno⟩ := hrel
    by_cases hlt : k < L.length
    · have hv' := hv.below hb
      obtain ⟨g, c', e, h1, h2, h3, hc⟩ := hv'.at_ (by omega)
      injection e with e1 e2 e3
      subst e1
      clear e2 e3
      obtain ⟨x0, x1⟩ := hc k hlt
      have HNO := Lib.hid hno
      clear hno hc hv'
      have c0k := (hb.cell (p := ⟨q, 0, none⟩) (cell_lt c0)).trans c0
      cases hp : (fun e => decide (z ≤ e.2)) L[k] with
      | true =>
        have HP := Lib.hid hp
        have hp' : decide (z ≤ (L[k]).2) = true := hp
        clear hp
        go_wp2_with (go_at_call 70; refine (clo1_any _ _ z q _ c0k).mono ?_; rintro e W1 ⟨rfl, B1⟩)
        go_ret
        exact ⟨ret_int (by unfold idxV; rw [findIdx_at HNO.out hlt HP.out, if_pos hlt]), hb.trans (B1.mono hb.size)⟩
      | false =>
        have HP := Lib.hid hp
        have hp' : decide (z ≤ (L[k]).2) = false := hp
        clear hp
        go_wp2_with (go_at_call 70; refine (clo1_any _ _ z q _ c0k).mono ?_; rintro e W1 ⟨rfl, B1⟩)
        go_roundw
        case rel =>
          refine ⟨k + 1, by omega, by go_num, hb.trans (B1.mono hb.size), fun i hi h => ?_⟩
          by_cases e : i = k
          · subst e; exact HP.out
          · exact HNO.out i hi (by omega)
        case measure => simp [intOf]; omega
    · obtain rfl : k = L.length := by omega
      have HN := Lib.hid (findIdx_none (P := (fun e => decide (z ≤ e.2))) (L := L) hno)
      clear hno
      go_wp2
      go_ret
      exact ⟨ret_int (by unfold idxV; rw [HN.out, if_neg (by omega)]), hb⟩

set_option maxHeartbeats 2000000 in
theorem idx2_any (w : World) (v : Value) (L : List E) (q : Nat) (x : Int) (hv : Ex w v L) (c0 : w.cell? ⟨q, 0, none⟩ = some (.int .i64 x)) (hl : L.length ≤ 1000000) (hbd : ∀ i (hi : i < L.length), 0 ≤ (L[i]).1 ∧ (L[i]).1 ≤ 1000000 ∧ 0 ≤ (L[i]).2 ∧ (L[i]).2 ≤ 1000000) :
    Calls Try.prog 87 #[v, .func (.func 74) #[] #[.pointer (some ⟨q, 0, none⟩)]] w fun e w' => e = .returned (.int .i64 (idxV (fun e => decide (x ≤ e.1 + e.2)) L)) ∧ Below w.heap.size w w' := by
  obtain ⟨V, c, rfl⟩ := hv.form
  go_enter Try.func87, Try.ntmps87
  go_wp2
  go_loopw [8] (fun t wr => ∃ k : Nat, k ≤ L.length ∧ t = .int .i64 k ∧ Below w.heap.size w wr ∧ ∀ i (hi : i < L.length), i < k → (fun e => decide (x ≤ e.1 + e.2)) L[i] = false) (fun t _ => L.length - (intOf t).toNat)
  case atStart => exact ⟨0, by omega, rfl, Below.refl _ _, fun i _ h => by omega⟩
  case round =>
    obtain ⟨k, hk, rfl, hb, hno⟩ := hrel
    by_cases hlt : k < L.length
    · have hv' := hv.below hb
      obtain ⟨g, c', e, h1, h2, h3, hc⟩ := hv'.at_ (by omega)
      injection e with e1 e2 e3
      subst e1
      clear e2 e3
      obtain ⟨x0, x1⟩ := hc k hlt
      have HNO := Lib.hid hno
      clear hno hc hv'
      have c0k := (hb.cell (p := ⟨q, 0, none⟩) (cell_lt c0)).trans c0
      obtain ⟨b1, b2, b3, b4⟩ := hbd k hlt
      cases hp : (fun e => decide (x ≤ e.1 + e.2)) L[k] with
      | true =>
        have HP := Lib.hid hp
        have hp' : decide (x ≤ (L[k]).1 + (L[k]).2) = true := hp
        clear hp
        go_wp2_with (go_at_call 74; refine (clo2_any _ _ x q _ c0k b1 b2 b3 b4).mono ?_; rintro e W1 ⟨rfl, B1⟩)
        go_ret
        exact ⟨ret_int (by unfold idxV; rw [findIdx_at HNO.out hlt HP.out, if_pos hlt]), hb.trans (B1.mono hb.size)⟩
      | false =>
        have HP := Lib.hid hp
        have hp' : decide (x ≤ (L[k]).1 + (L[k]).2) = false := hp
        clear hp
        go_wp2_with (go_at_call 74; refine (clo2_any _ _ x q _ c0k b1 b2 b3 b4).mono ?_; rintro e W1 ⟨rfl, B1⟩)
        go_roundw
        case rel =>
          refine ⟨k + 1, by omega, by go_num, hb.trans (B1.mono hb.size), fun i hi h => ?_⟩
          by_cases e : i = k
          · subst e; exact HP.out
          · exact HNO.out i hi (by omega)
        case measure => simp [intOf]; omega
    · obtain rfl : k = L.length := by omega
      have HN := Lib.hid (findIdx_none (P := (fun e => decide (x ≤ e.1 + e.2))) (L := L) hno)
      clear hno
      go_wp2
      go_ret
      exact ⟨ret_int (by unfold idxV; rw [HN.out, if_neg (by omega)]), hb⟩

set_option maxHeartbeats 2000000 in
theorem idx3_any (w : World) (v : Value) (L : List E) (q : Nat) (x y : Int) (hv : Ex w v L) (c0 : w.cell? ⟨q, 0, none⟩ = some (.int .i64 x)) (c1 : w.cell? ⟨q, 1, none⟩ = some (.int .i64 y)) (hl : L.length ≤ 1000000) (b1 : 0 ≤ x) (b2 : x ≤ 1000000) (b3 : 0 ≤ y) (b4 : y ≤ 1000000) :
    Calls Try.prog 87 #[v, .func (.func 76) #[] #[.pointer (some ⟨q, 0, none⟩)]] w fun e w' => e = .returned (.int .i64 (idxV (fun e => decide (x + y < e.1)) L)) ∧ Below w.heap.size w w' := by
  obtain ⟨V, c, rfl⟩ := hv.form
  go_enter Try.func87, Try.ntmps87
  go_wp2
  go_loopw [8] (fun t wr => ∃ k : Nat, k ≤ L.length ∧ t = .int .i64 k ∧ Below w.heap.size w wr ∧ ∀ i (hi : i < L.length), i < k → (fun e => decide (x + y < e.1)) L[i] = false) (fun t _ => L.length - (intOf t).toNat)
  case atStart => exact ⟨0, by omega, rfl, Below.refl _ _, fun i _ h => by omega⟩
  case round =>
    obtain ⟨k, hk, rfl, hb, hno⟩ := hrel
    by_cases hlt : k < L.length
    · have hv' := hv.below hb
      obtain ⟨g, c', e, h1, h2, h3, hc⟩ := hv'.at_ (by omega)
      injection e with e1 e2 e3
      subst e1
      clear e2 e3
      obtain ⟨x0, x1⟩ := hc k hlt
      have HNO := Lib.hid hno
      clear hno hc hv'
      have c0k := (hb.cell (p := ⟨q, 0, none⟩) (cell_lt c0)).trans c0
      have c1k := (hb.cell (p := ⟨q, 1, none⟩) (cell_lt c1)).trans c1
      cases hp : (fun e => decide (x + y < e.1)) L[k] with
      | true =>
        have HP := Lib.hid hp
        have hp' : decide (x + y < (L[k]).1) = true := hp
        clear hp
        go_wp2_with (go_at_call 76; refine (clo3_any _ _ x y q _ c0k c1k b1 b2 b3 b4).mono ?_; rintro e W1 ⟨rfl, B1⟩)
        go_ret
        exact ⟨ret_int (by unfold idxV; rw [findIdx_at HNO.out hlt HP.out, if_pos hlt]), hb.trans (B1.mono hb.size)⟩
      | false =>
        have HP := Lib.hid hp
        have hp' : decide (x + y < (L[k]).1) = false := hp
        clear hp
        go_wp2_with (go_at_call 76; refine (clo3_any _ _ x y q _ c0k c1k b1 b2 b3 b4).mono ?_; rintro e W1 ⟨rfl, B1⟩)
        go_roundw
        case rel =>
          refine ⟨k + 1, by omega, by go_num, hb.trans (B1.mono hb.size), fun i hi h => ?_⟩
          by_cases e : i = k
          · subst e; exact HP.out
          · exact HNO.out i hi (by omega)
        case measure => simp [intOf]; omega
    · obtain rfl : k = L.length := by omega
      have HN := Lib.hid (findIdx_none (P := (fun e => decide (x + y < e.1))) (L := L) hno)
      clear hno
      go_wp2
      go_ret
      exact ⟨ret_int (by unfold idxV; rw [HN.out, if_neg (by omega)]), hb⟩

set_option maxHeartbeats 1000000 in
theorem first1_any (w : World) (Y : Ly) (B K : Nat) (A S : Int) (L : List E) (q : Nat) (z : Int) (h : Gr w Y B K A S L) (c0 : w.cell? ⟨q, 0, none⟩ = some (.int .i64 z)) (hl : L.length ≤ 1000000)  :
    Calls Try.prog 69 #[.pointer (some ⟨B, Y.o, none⟩), .func (.func 70) #[] #[.pointer (some ⟨q, 0, none⟩)]] w fun e w' => e = .returned (.int .i64 (L.findIdx (fun e => decide (z ≤ e.2)) : Nat)) ∧ Below w.heap.size w w' := by
  obtain ⟨v, h1, hv, _, _⟩ := h
  obtain ⟨V, c, rfl⟩ := hv.form
  have x2 : w.cell? ⟨B, Y.o + 2, none⟩ = some (.slice V L.length c) := Ly.cell2 h1
  have hle : L.findIdx (fun e => decide (z ≤ e.2)) ≤ L.length := List.findIdx_le_length
  by_cases hf : L.findIdx (fun e => decide (z ≤ e.2)) < L.length
  · have E1 := Lib.hid (show idxV (fun e => decide (z ≤ e.2)) L = (L.findIdx (fun e => decide (z ≤ e.2)) : Nat) by unfold idxV; rw [if_pos hf])
    generalize L.findIdx (fun e => decide (z ≤ e.2)) = m at *
    go_enter Try.func69, Try.ntmps69
    go_wp2_with fail
    refine (idx1_any w _ L q z hv c0 hl).mono ?_
    rintro e w1 ⟨rfl, k1⟩
    rw [E1.out]
    go_wp2
    go_ret
    exact ⟨rfl, k1⟩
  · have E1 := Lib.hid (show idxV (fun e => decide (z ≤ e.2)) L = -1 by unfold idxV; rw [if_neg hf])
    have E2 := Lib.hid (show L.findIdx (fun e => decide (z ≤ e.2)) = L.length by omega)
    have HL := Lib.hid hle
    clear hf hle
    go_enter Try.func69, Try.ntmps69
    go_wp2_with fail
    refine (idx1_any w _ L q z hv c0 hl).mono ?_
    rintro e w1 ⟨rfl, k1⟩
    have x3 := bel k1 x2
    rw [E1.out]
    go_wp2
    go_ret
    exact ⟨ret_int (by rw [E2.out]), k1⟩

set_option maxHeartbeats 1000000 in
theorem first2_any (w : World) (Y : Ly) (B K : Nat) (A S : Int) (L : List E) (q : Nat) (x : Int) (h : Gr w Y B K A S L) (c0 : w.cell? ⟨q, 0, none⟩ = some (.int .i64 x)) (hl : L.length ≤ 1000000) (hbd : ∀ i (hi : i < L.length), 0 ≤ (L[i]).1 ∧ (L[i]).1 ≤ 1000000 ∧ 0 ≤ (L[i]).2 ∧ (L[i]).2 ≤ 1000000) :
    Calls Try.prog 69 #[.pointer (some ⟨B, Y.o, none⟩), .func (.func 74) #[] #[.pointer (some ⟨q, 0, none⟩)]] w fun e w' => e = .returned (.int .i64 (L.findIdx (fun e => decide (x ≤ e.1 + e.2)) : Nat)) ∧ Below w.heap.size w w' := by
  obtain ⟨v, h1, hv, _, _⟩ := h
  obtain ⟨V, c, rfl⟩ := hv.form
  have x2 : w.cell? ⟨B, Y.o + 2, none⟩ = some (.slice V L.length c) := Ly.cell2 h1
  have hle : L.findIdx (fun e => decide (x ≤ e.1 + e.2)) ≤ L.length := List.findIdx_le_length
  by_cases hf : L.findIdx (fun e => decide (x ≤ e.1 + e.2)) < L.length
  · have E1 := Lib.hid (show idxV (fun e => decide (x ≤ e.1 + e.2)) L = (L.findIdx (fun e => decide (x ≤ e.1 + e.2)) : Nat) by unfold idxV; rw [if_pos hf])
    generalize L.findIdx (fun e => decide (x ≤ e.1 + e.2)) = m at *
    go_enter Try.func69, Try.ntmps69
    go_wp2_with fail
    refine (idx2_any w _ L q x hv c0 hl hbd).mono ?_
    rintro e w1 ⟨rfl, k1⟩
    rw [E1.out]
    go_wp2
    go_ret
    exact ⟨rfl, k1⟩
  · have E1 := Lib.hid (show idxV (fun e => decide (x ≤ e.1 + e.2)) L = -1 by unfold idxV; rw [if_neg hf])
    have E2 := Lib.hid (show L.findIdx (fun e => decide (x ≤ e.1 + e.2)) = L.length by omega)
    have HL := Lib.hid hle
    clear hf hle
    go_enter Try.func69, Try.ntmps69
    go_wp2_with fail
    refine (idx2_any w _ L q x hv c0 hl hbd).mono ?_
    rintro e w1 ⟨rfl, k1⟩
    have x3 := bel k1 x2
    rw [E1.out]
    go_wp2
    go_ret
    exact ⟨ret_int (by rw [E2.out]), k1⟩

set_option maxHeartbeats 1000000 in
theorem first3_any (w : World) (Y : Ly) (B K : Nat) (A S : Int) (L : List E) (q : Nat) (x y : Int) (h : Gr w Y B K A S L) (c0 : w.cell? ⟨q, 0, none⟩ = some (.int .i64 x)) (c1 : w.cell? ⟨q, 1, none⟩ = some (.int .i64 y)) (hl : L.length ≤ 1000000) (b1 : 0 ≤ x) (b2 : x ≤ 1000000) (b3 : 0 ≤ y) (b4 : y ≤ 1000000) :
    Calls Try.prog 69 #[.pointer (some ⟨B, Y.o, none⟩), .func (.func 76) #[] #[.pointer (some ⟨q, 0, none⟩)]] w fun e w' => e = .returned (.int .i64 (L.findIdx (fun e => decide (x + y < e.1)) : Nat)) ∧ Below w.heap.size w w' := by
  obtain ⟨v, h1, hv, _, _⟩ := h
  obtain ⟨V, c, rfl⟩ := hv.form
  have x2 : w.cell? ⟨B, Y.o + 2, none⟩ = some (.slice V L.length c) := Ly.cell2 h1
  have hle : L.findIdx (fun e => decide (x + y < e.1)) ≤ L.length := List.findIdx_le_length
  by_cases hf : L.findIdx (fun e => decide (x + y < e.1)) < L.length
  · have E1 := Lib.hid (show idxV (fun e => decide (x + y < e.1)) L = (L.findIdx (fun e => decide (x + y < e.1)) : Nat) by unfold idxV; rw [if_pos hf])
    generalize L.findIdx (fun e => decide (x + y < e.1)) = m at *
    go_enter Try.func69, Try.ntmps69
    go_wp2_with fail
    refine (idx3_any w _ L q x y hv c0 c1 hl b1 b2 b3 b4).mono ?_
    rintro e w1 ⟨rfl, k1⟩
    rw [E1.out]
    go_wp2
    go_ret
    exact ⟨rfl, k1⟩
  · have E1 := Lib.hid (show idxV (fun e => decide (x + y < e.1)) L = -1 by unfold idxV; rw [if_neg hf])
    have E2 := Lib.hid (show L.findIdx (fun e => decide (x + y < e.1)) = L.length by omega)
    have HL := Lib.hid hle
    clear hf hle
    go_enter Try.func69, Try.ntmps69
    go_wp2_with fail
    refine (idx3_any w _ L q x y hv c0 c1 hl b1 b2 b3 b4).mono ?_
    rintro e w1 ⟨rfl, k1⟩
    have x3 := bel k1 x2
    rw [E1.out]
    go_wp2
    go_ret
    exact ⟨ret_int (by rw [E2.out]), k1⟩
end Go.Proofs.Ytkkmhapfhnnooaa.Gr
