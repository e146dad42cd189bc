/-
  Contracts of package begin: the closures that ask, Check.
-/
import Derived.Test.YtbpmnjmegffllaaBeg
namespace Go.Proofs.Ytbpmnjmegffllaa.Beg
open Go.ChangeShapes Go.WideShapes Go.ChangeAt Go.RowKit
open Go.Proofs.Ytbpmnjmegffllaa.Mod Slic
set_option linter.unusedVariables false
set_option linter.unusedSimpArgs false
set_option maxRecDepth 8000
attribute [local go_sem ↓] Go.wp_at_zero Go.wp_at_succ

abbrev ptr (q : Nat) : Value := .pointer (some ⟨q, 0, none⟩)
abbrev planV (n t i j : Int) : Value := .agg #[.int .i64 n, .int .i64 t, .int .i64 i, .int .i64 j]

set_option maxHeartbeats 1000000 in
theorem wi_ask {w : World} {q0 q1 q2 q3 : Nat} {a lo hi c : Int} (c0 : w.cell? ⟨q0, 0, none⟩ = some (.int .i64 a)) (c1 : w.cell? ⟨q1, 0, none⟩ = some (.int .i64 lo)) (c2 : w.cell? ⟨q2, 0, none⟩ = some (.int .i64 hi)) (c3 : w.cell? ⟨q3, 0, none⟩ = some (.int .i64 c)) :
    Ask w (103, #[ptr q0, ptr q1, ptr q2, ptr q3]) (wiE a lo hi c) := by
  refine ⟨fun a w => by kernel_rfl, fun w' k => ?_⟩
  have c0 := (k.cell (p := ⟨q0, 0, none⟩) (cell_in c0)).trans c0
  have c1 := (k.cell (p := ⟨q1, 0, none⟩) (cell_in c1)).trans c1
  have c2 := (k.cell (p := ⟨q2, 0, none⟩) (cell_in c2)).trans c2
  have c3 := (k.cell (p := ⟨q3, 0, none⟩) (cell_in c3)).trans c3
  clear k
  obtain ⟨b, hb⟩ : ∃ b, Heads.withinB a lo hi = b := ⟨_, rfl⟩
  have E := Lib.hid (show wiE a lo hi c = if b = true then 0 else c by unfold wiE; rw [hb])
  have HB := Lib.hid hb
  clear hb
  cases b with
  | true =>
    go_enter Try.func103, Try.ntmps103
    go_wp2_with (go_at_call 98; refine (Heads.within_any a lo hi _).mono ?_; rintro e w2 ⟨rfl, rfl⟩; rw [HB.out])
    go_ret
    exact ⟨by rw [E.out]; rfl, Below.refl _ _⟩
  | false =>
    go_enter Try.func103, Try.ntmps103
    go_wp2_with (go_at_call 98; refine (Heads.within_any a lo hi _).mono ?_; rintro e w2 ⟨rfl, rfl⟩; rw [HB.out])
    go_ret
    exact ⟨by rw [E.out]; rfl, Below.refl _ _⟩
set_option maxHeartbeats 1000000 in
theorem wi_any (a lo hi c : Int) (w : World) : Calls Try.prog 67 #[.int .i64 a, .int .i64 lo, .int .i64 hi, .int .i64 c] w (Asked w (wiE a lo hi c)) := by
  go_enter Try.func67, Try.ntmps67
  go_wp2
  go_ret
  refine ⟨(_, #[ptr w.heap.size, ptr (w.heap.size + 1), ptr (w.heap.size + 2), ptr (w.heap.size + 3)]), rfl, wi_ask (by simp [go_sem]) (by simp [go_sem]) (by simp [go_sem]) (by simp [go_sem]), ?_⟩
  exact ((((Below.refl _ w).alloc (Nat.le_refl _) _).alloc (by simp) _).alloc (by simp; omega) _).alloc (by simp; omega) _

set_option maxHeartbeats 1000000 in
theorem al_ask {w : World} {q0 : Nat} {c : Int} (c0 : w.cell? ⟨q0, 0, none⟩ = some (.int .i64 c)) : Ask w (116, #[ptr q0]) c := by
  refine ⟨fun a w => by kernel_rfl, fun w' k => ?_⟩
  have c0 := (k.cell (p := ⟨q0, 0, none⟩) (cell_in c0)).trans c0
  clear k
  go_enter Try.func116, Try.ntmps116
  go_wp2
  go_ret
  exact ⟨rfl, Below.refl _ _⟩
set_option maxHeartbeats 1000000 in
theorem al_any (c : Int) (w : World) : Calls Try.prog 74 #[.int .i64 c] w (Asked w c) := by
  go_enter Try.func74, Try.ntmps74
  go_wp2
  go_ret
  exact ⟨(_, #[ptr w.heap.size]), rfl, al_ask (by simp [go_sem]), below_one _ _⟩

set_option maxHeartbeats 1000000 in
theorem re_ask {w : World} {q0 q1 : Nat} {v : Value} {L : List Chain.E} {s : Int} (c0 : w.cell? ⟨q0, 0, none⟩ = some v) (c1 : w.cell? ⟨q1, 0, none⟩ = some (.int .i64 s)) (hL : Chain.Sr w v L) :
    Ask w (104, #[ptr q0, ptr q1]) (reE L s) := by
  refine ⟨fun a w => by kernel_rfl, fun w' k => ?_⟩
  have c0 := (k.cell (p := ⟨q0, 0, none⟩) (cell_in c0)).trans c0
  have c1 := (k.cell (p := ⟨q1, 0, none⟩) (cell_in c1)).trans c1
  have hL := hL.below k
  obtain ⟨b, hb⟩ : ∃ b, Chain.reachV L s = b := ⟨_, rfl⟩
  have E := Lib.hid (show reE L s = if b = true then 0 else 20 by unfold reE; rw [hb])
  have HB := Lib.hid hb
  obtain ⟨A, c, rfl, _⟩ := id hL
  clear k hb
  cases b with
  | true =>
    go_enter Try.func104, Try.ntmps104
    go_wp2_with (go_at_call 105; refine (Chain.reach_any _ _ L s hL).mono ?_; rintro e w2 ⟨rfl, k2⟩; rw [HB.out])
    go_ret
    exact ⟨by rw [E.out]; rfl, k2⟩
  | false =>
    go_enter Try.func104, Try.ntmps104
    go_wp2_with (go_at_call 105; refine (Chain.reach_any _ _ L s hL).mono ?_; rintro e w2 ⟨rfl, k2⟩; rw [HB.out])
    go_ret
    exact ⟨by rw [E.out]; rfl, k2⟩
set_option maxHeartbeats 1000000 in
theorem re_any (v : Value) (L : List Chain.E) (s : Int) (w : World) (hL : Chain.Sr w v L) : Calls Try.prog 68 #[v, .int .i64 s] w (Asked w (reE L s)) := by
  have B := ((Below.refl _ w).alloc (Nat.le_refl _) (.cells #[v] 48)).alloc (by simp) (.cells #[.int .i64 s] 3)
  have hL' := hL.below B
  obtain ⟨A, c, rfl, _⟩ := id hL
  go_enter Try.func68, Try.ntmps68
  go_wp2
  go_ret
  exact ⟨(_, #[ptr w.heap.size, ptr (w.heap.size + 1)]), rfl, re_ask (by simp [go_sem]) (by simp [go_sem]) hL', B⟩

set_option maxHeartbeats 1000000 in
theorem ro_ask {w : World} {q0 : Nat} {v : Value} {L : List Chain.E} (c0 : w.cell? ⟨q0, 0, none⟩ = some v) (hL : Chain.Sr w v L) :
    Ask w (106, #[ptr q0]) (Chain.pushE L) := by
  refine ⟨fun a w => by kernel_rfl, fun w' k => ?_⟩
  have c0 := (k.cell (p := ⟨q0, 0, none⟩) (cell_in c0)).trans c0
  have hL := hL.below k
  obtain ⟨A, c, rfl, _⟩ := id hL
  clear k
  generalize hx : Chain.pushE L = x
  have HX := Lib.hid hx
  clear hx
  go_enter Try.func106, Try.ntmps106
  go_wp2_with (go_at_call 107; refine (Chain.push_any _ _ L 0 false hL).mono ?_; rintro e w2 ⟨u, rfl, k2, k3⟩; rw [HX.out])
  go_ret
  exact ⟨rfl, k3⟩
set_option maxHeartbeats 1000000 in
theorem ro_any (v : Value) (L : List Chain.E) (w : World) (hL : Chain.Sr w v L) : Calls Try.prog 69 #[v] w (Asked w (Chain.pushE L)) := by
  have B := below_one w (.cells #[v] 48)
  have hL' := hL.below B
  obtain ⟨A, c, rfl, _⟩ := id hL
  go_enter Try.func69, Try.ntmps69
  go_wp2
  go_ret
  exact ⟨(_, #[ptr w.heap.size]), rfl, ro_ask (by simp [go_sem]) hL', B⟩

set_option maxHeartbeats 1000000 in
theorem si_ask {w : World} {q0 q1 : Nat} {a b : Int} (c0 : w.cell? ⟨q0, 0, none⟩ = some (.int .i64 a)) (c1 : w.cell? ⟨q1, 0, none⟩ = some (.int .i64 b)) :
    Ask w (112, #[ptr q0, ptr q1]) (Heads.wordsV a b).err := by
  refine ⟨fun a w => by kernel_rfl, fun w' k => ?_⟩
  have c0 := (k.cell (p := ⟨q0, 0, none⟩) (cell_in c0)).trans c0
  have c1 := (k.cell (p := ⟨q1, 0, none⟩) (cell_in c1)).trans c1
  clear k
  obtain ⟨y, hy⟩ : ∃ y, Heads.wordsV a b = y := ⟨_, rfl⟩
  have HY := Lib.hid hy
  rw [hy]
  clear hy
  go_enter Try.func112, Try.ntmps112
  go_wp2_with (go_at_call 113; refine (Heads.words_any a b _).mono ?_; rintro e w2 ⟨rfl, rfl⟩; rw [HY.out])
  go_ret
  exact ⟨rfl, Below.refl _ _⟩
set_option maxHeartbeats 1000000 in
theorem si_any (a b : Int) (w : World) : Calls Try.prog 72 #[.int .i64 a, .int .i64 b] w (Asked w (Heads.wordsV a b).err) := by
  go_enter Try.func72, Try.ntmps72
  go_wp2
  go_ret
  exact ⟨(_, #[ptr w.heap.size, ptr (w.heap.size + 1)]), rfl, si_ask (by simp [go_sem]) (by simp [go_sem]), ((Below.refl _ w).alloc (Nat.le_refl _) _).alloc (by simp) _⟩

/-! Registers. -/
def kB : Kd Int := { X := 87, T := 5, m := 1, by_ := 1, z := .int .u8 0, enc := fun x => [.int .u8 x], len := fun _ => rfl, one := fun _ u h => by simp at h; subst h; rfl, pos := by decide, small := by decide, zs := rfl, under := by kernel_rfl, info := by kernel_rfl, elem := by kernel_rfl }
set_option maxHeartbeats 400000 in
theorem noreg_any (w : World) (r : Int) : Calls Try.prog 110 #[.int .u8 r] w fun e w' => e = .returned (.bool (badR r)) ∧ w' = w := by
  have q : decide (r ≥ 4) = badR r := rfl
  generalize badR r = b at *
  go_enter Try.func110, Try.ntmps110
  go_wp2
  go_ret
  exact ⟨rfl, rfl⟩
set_option maxHeartbeats 2000000 in
theorem idxB_any (w : World) (A : Option Addr) (c : Nat) (L : List Int) (hS : Sr kB w (.slice A L.length c) L) (hl : L.length ≤ 1000000) :
    Calls Try.prog 146 #[.slice A L.length c, .func (.func 110) #[] #[]] w fun e w' => (∃ i : Int, e = .returned (.int .i64 i) ∧ decide (i ≥ 0) = L.any badR) ∧ w' = w := by
  go_enter Try.func146, Try.ntmps146
  go_wp2
  go_loopw [8] (fun t wr => ∃ k : Nat, k ≤ L.length ∧ t = .int .i64 k ∧ wr = w ∧ Hid ((L.take k).any badR = false)) (fun t _ => L.length - (intOf t).toNat)
  case atStart => exact ⟨0, Nat.zero_le _, rfl, rfl, Lib.hid rfl⟩
  case round =>
    obtain ⟨k, hk, rfl, rfl, hno⟩ := hrel
    by_cases hlt : k < L.length
    · obtain ⟨g, o, rfl, hg, hc⟩ := hS.at k hlt
      have c0 := hc 0 _ rfl
      rw [show o + (k * kB.m + 0) = o + k from by simp [kB]] at c0
      have ht : L.take (k + 1) = L.take k ++ [L[k]] := List.take_succ_eq_append_getElem hlt
      have HT := Lib.hid ht
      clear ht
      cases hb : badR L[k] with
      | true =>
        have HB := Lib.hid hb
        go_wp2_with (go_at_call 110; refine (noreg_any _ L[k]).mono ?_; rintro e W1 ⟨rfl, rfl⟩; rw [HB.out])
        go_ret
        refine ⟨⟨k, rfl, ?_⟩, rfl⟩
        rw [decide_eq_true (by omega : (k : Int) ≥ 0)]
        exact (List.any_eq_true.2 ⟨L[k], List.getElem_mem hlt, HB.out⟩).symm
      | false =>
        have HB := Lib.hid hb
        go_wp2_with (go_at_call 110; refine (noreg_any _ L[k]).mono ?_; rintro e W1 ⟨rfl, rfl⟩; rw [HB.out])
        go_roundw
        case rel => exact ⟨k + 1, by omega, by go_num, by trivial, Lib.hid (by rw [HT.out, List.any_append, hno.out]; simp [HB.out])⟩
        case measure => simp [intOf]; omega
    · obtain rfl : k = L.length := by omega
      have hn := hno.out
      rw [List.take_length] at hn
      go_wp2
      go_ret
      exact ⟨⟨-1, rfl, by rw [hn]; rfl⟩, by trivial⟩
set_option maxHeartbeats 2000000 in
theorem contB_any (w : World) (A : Option Addr) (c : Nat) (L : List Int) (hS : Sr kB w (.slice A L.length c) L) (hl : L.length ≤ 1000000) :
    Calls Try.prog 109 #[.slice A L.length c, .func (.func 110) #[] #[]] w fun e w' => e = .returned (.bool (L.any badR)) ∧ w' = w := by
  go_enter Try.func109, Try.ntmps109
  go_wp2_with (go_at_call 146; refine (idxB_any _ A c L hS hl).mono ?_; rintro e W1 ⟨⟨i, rfl, hi⟩, rfl⟩)
  go_ret
  exact ⟨by rw [← hi]; rfl, rfl⟩
set_option maxHeartbeats 1000000 in
theorem rg_ask {w : World} {q0 : Nat} {v : Value} {R : List Int} (c0 : w.cell? ⟨q0, 0, none⟩ = some v) (hR : Sr kB w v R) (hl : R.length ≤ 1000000) :
    Ask w (108, #[ptr q0]) (rgE R) := by
  refine ⟨fun a w => by kernel_rfl, fun w' k => ?_⟩
  have c0 := (k.cell (p := ⟨q0, 0, none⟩) (cell_in c0)).trans c0
  have hR := hR.below k
  obtain ⟨b, hb⟩ : ∃ b, R.any badR = b := ⟨_, rfl⟩
  have E := Lib.hid (show rgE R = if b = true then 1 else 0 by unfold rgE; rw [hb])
  have HB := Lib.hid hb
  obtain ⟨A, c, rfl, _⟩ := id hR
  clear k hb
  cases b with
  | true =>
    go_enter Try.func108, Try.ntmps108
    go_wp2_with (go_at_call 109; refine (contB_any _ _ _ R hR hl).mono ?_; rintro e w2 ⟨rfl, rfl⟩; rw [HB.out])
    go_ret
    exact ⟨by rw [E.out]; rfl, Below.refl _ _⟩
  | false =>
    go_enter Try.func108, Try.ntmps108
    go_wp2_with (go_at_call 109; refine (contB_any _ _ _ R hR hl).mono ?_; rintro e w2 ⟨rfl, rfl⟩; rw [HB.out])
    go_ret
    exact ⟨by rw [E.out]; rfl, Below.refl _ _⟩
set_option maxHeartbeats 1000000 in
theorem rg_any (v : Value) (R : List Int) (w : World) (hR : Sr kB w v R) (hl : R.length ≤ 1000000) : Calls Try.prog 70 #[v] w (Asked w (rgE R)) := by
  have B := below_one w (.cells #[v] 87)
  have hR' := hR.below B
  obtain ⟨A, c, rfl, _⟩ := id hR
  go_enter Try.func70, Try.ntmps70
  go_wp2
  go_ret
  exact ⟨(_, #[ptr w.heap.size]), rfl, rg_ask (by simp [go_sem]) hR' hl, B⟩
end Go.Proofs.Ytbpmnjmegffllaa.Beg
