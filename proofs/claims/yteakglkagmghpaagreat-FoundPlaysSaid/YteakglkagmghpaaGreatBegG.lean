/-
  The document: Tell, Of and what it looks at.
-/
import Derived.Test.YteakglkagmghpaaGreatBegE
import Derived.Test.YteakglkagmghpaaGreatDs
namespace Go.Proofs.YteakglkagmghpaaGreat.Beg
open Go.ChangeShapes Go.WideShapes Go.ChangeAt Go.RowKit
open Go.Proofs.YteakglkagmghpaaGreat.Mod Slic
set_option linter.unusedVariables false
set_option linter.unusedSimpArgs false
set_option maxRecDepth 100000
attribute [local go_sem ↓] Go.wp_at_zero Go.wp_at_succ

abbrev tell2 (c p : Int) : Ending := .returned (.tuple #[.int .i64 c, .int .i64 p])
theorem fir1 (x : Int) : firE [x] = x := by
  unfold firE firE
  by_cases h : x = 0
  · rw [if_pos h, h]
  · rw [if_neg h]
theorem fir_c0 (r : List Int) : firE (0 :: r) = firE r := if_pos rfl
theorem fir_c {x : Int} (r : List Int) (h : x ≠ 0) : firE (x :: r) = x := if_neg h
theorem wi0 {a lo hi c : Int} (h : lo ≤ a) (h' : a ≤ hi) : wiE a lo hi c = 0 := by
  unfold wiE
  rw [show Heads.withinB a lo hi = true from decide_eq_true ⟨h, h'⟩]
  rfl
theorem wi1 {a lo hi c : Int} (h : ¬ (lo ≤ a ∧ a ≤ hi)) : wiE a lo hi c = c := by
  unfold wiE
  rw [show Heads.withinB a lo hi = false from decide_eq_false h]
  rfl
theorem re0 {L : List Chain.E} {s : Int} (h : Chain.reachV L s = true) : reE L s = 0 := if_pos h
theorem re1 {L : List Chain.E} {s : Int} (h : Chain.reachV L s = false) : reE L s = 20 := by
  unfold reE
  rw [h]
  rfl
/-- What a call that begins comes to. -/
theorem beg_of {n : Int} {L : List Chain.E} {c : Ca} {h v pc x : Int} {cs : List Int} (e : wayV n L c h v = ⟨pc, cs⟩) (hf : firE cs = x) : begV n L c h v = ⟨x, if x = 0 then pc else 0⟩ := by
  unfold begV
  rw [e, hf]
theorem beg_no {n : Int} {L : List Chain.E} {c : Ca} {h v pc x : Int} {cs : List Int} (e : wayV n L c h v = ⟨pc, cs⟩) (hf : firE cs = x) (hx : x ≠ 0) : begV n L c h v = ⟨x, 0⟩ := by
  rw [beg_of e hf, if_neg hx]
theorem beg_yes {n : Int} {L : List Chain.E} {c : Ca} {h v pc : Int} {cs : List Int} (e : wayV n L c h v = ⟨pc, cs⟩) (hf : firE cs = 0) : begV n L c h v = ⟨0, pc⟩ := by
  rw [beg_of e hf]
  rfl
theorem tell_of {b : Be} {x p : Int} (h : b = ⟨x, p⟩) : tell2 b.code b.pc = tell2 x p := by rw [h]
def scB (n a : Int) : Bool := decide (1 ≤ a ∧ a < n)
set_option maxHeartbeats 2000000 in
theorem scope3_any (n t i j op r h v a b c : Int) (w : World) : Calls Tryz.prog 164 #[planV n t i j, callV ⟨op, r, h, v, a, b, c⟩] w fun e w' => e = .returned (.bool (scB n a)) ∧ Below w.heap.size w w' := by
  have S := ((Held.St.start w).new [.int .i64 n, .int .i64 t, .int .i64 i, .int .i64 j] 23).new [.int .u8 op, .int .u8 r, .int .u8 h, .int .u8 v, .int .i64 a, .int .i64 b, .int .i64 c] 37
  by_cases h1 : 1 ≤ a
  · have E := Lib.hid (show scB n a = decide (a < n) by
      unfold scB
      by_cases h2 : a < n
      · rw [decide_eq_true h2, decide_eq_true ⟨h1, h2⟩]
      · rw [decide_eq_false h2, decide_eq_false fun h => h2 h.2])
    go_enter Tryz.func164, Tryz.ntmps164
    go_wp2
    go_ret
    exact ⟨by rw [E.out]; rfl, S.below⟩
  · have E := Lib.hid (show scB n a = false from decide_eq_false fun h => h1 h.1)
    go_enter Tryz.func164, Tryz.ntmps164
    go_wp2
    go_ret
    exact ⟨by rw [E.out]; rfl, S.below⟩

set_option maxHeartbeats 4000000 in
theorem goes4_any (u : Value) (L : List Chain.E) (hd vl n t i j r h v a b c : Int) (w : World) (hL : Chain.Sr w u L) : Calls Tryz.prog 165 #[planV n t i j, u, callV ⟨4, r, h, v, a, b, c⟩] w fun e w' => e = tell2 (begV n L ⟨4, r, h, v, a, b, c⟩ hd vl).code (begV n L ⟨4, r, h, v, a, b, c⟩ hd vl).pc ∧ Below w.heap.size w w' := by
  have wy : wayV n L ⟨4, r, h, v, a, b, c⟩ hd vl = ⟨13, [wiE a 1 (n - 1) 11, Chain.pushE L]⟩ := rfl
  have S0 := ((Held.St.start w).new [.int .i64 n, .int .i64 t, .int .i64 i, .int .i64 j] 23).new [.int .u8 4, .int .u8 r, .int .u8 h, .int .u8 v, .int .i64 a, .int .i64 b, .int .i64 c] 37
  simp only [World.size_alloc] at S0
  have c0 := (S0.get 0 rfl).cell 0 _ rfl
  have c1 := (S0.get 0 rfl).cell 1 _ rfl
  have c2 := (S0.get 0 rfl).cell 2 _ rfl
  have c3 := (S0.get 0 rfl).cell 3 _ rfl
  have c4 := (S0.get 0 rfl).cell 4 _ rfl
  have c5 := (S0.get 0 rfl).cell 5 _ rfl
  have c6 := (S0.get 0 rfl).cell 6 _ rfl
  have p0 := (S0.get 1 rfl).cell 0 _ rfl
  have p1 := (S0.get 1 rfl).cell 1 _ rfl
  have p2 := (S0.get 1 rfl).cell 2 _ rfl
  have p3 := (S0.get 1 rfl).cell 3 _ rfl
  obtain ⟨A, cc, rfl, l1, l2, _⟩ := id hL
  by_cases hs : 1 ≤ a ∧ a < n
  rotate_left
  · have E := Lib.hid (tell_of (beg_no wy (by rw [wi1 (by omega), fir_c _ (show (11 : Int) ≠ 0 by decide)]) (show (11 : Int) ≠ 0 by decide)))
    have HS := Lib.hid (show scB n a = false from decide_eq_false hs)
    clear wy
    go_enter Tryz.func165, Tryz.ntmps165
    go_wp2_with fail
    refine (scope3_any n t i j 4 r h v a b c _).mono ?_
    rintro z w1 ⟨rfl, k1⟩
    rw [HS.out]
    have S1 := S0.call k1
    have c0 := (S1.get 0 rfl).cell 0 _ rfl
    have c1 := (S1.get 0 rfl).cell 1 _ rfl
    have c2 := (S1.get 0 rfl).cell 2 _ rfl
    have c3 := (S1.get 0 rfl).cell 3 _ rfl
    have c4 := (S1.get 0 rfl).cell 4 _ rfl
    have c5 := (S1.get 0 rfl).cell 5 _ rfl
    have c6 := (S1.get 0 rfl).cell 6 _ rfl
    have p0 := (S1.get 1 rfl).cell 0 _ rfl
    have p1 := (S1.get 1 rfl).cell 1 _ rfl
    have p2 := (S1.get 1 rfl).cell 2 _ rfl
    have p3 := (S1.get 1 rfl).cell 3 _ rfl
    go_wp2
    go_ret2
    exact ⟨by rw [E.out]; rfl, S1.below⟩
  have HS := Lib.hid (show scB n a = true from decide_eq_true hs)
  have w0 : wiE a 1 (n - 1) 11 = 0 := wi0 (by omega) (by omega)
  by_cases h6 : 6 ≤ L.length
  · have E := Lib.hid (tell_of (beg_no wy (by rw [w0, fir_c0, fir1]; unfold Chain.pushE; rw [if_pos h6]) (show (24 : Int) ≠ 0 by decide)))
    have z : decide ((6 : Int) ≤ (L.length : Int)) = true := decide_eq_true (by omega)
    clear wy w0
    go_enter Tryz.func165, Tryz.ntmps165
    go_wp2_with fail
    refine (scope3_any n t i j 4 r h v a b c _).mono ?_
    rintro z w1 ⟨rfl, k1⟩
    rw [HS.out]
    have S1 := S0.call k1
    have c0 := (S1.get 0 rfl).cell 0 _ rfl
    have c1 := (S1.get 0 rfl).cell 1 _ rfl
    have c2 := (S1.get 0 rfl).cell 2 _ rfl
    have c3 := (S1.get 0 rfl).cell 3 _ rfl
    have c4 := (S1.get 0 rfl).cell 4 _ rfl
    have c5 := (S1.get 0 rfl).cell 5 _ rfl
    have c6 := (S1.get 0 rfl).cell 6 _ rfl
    have p0 := (S1.get 1 rfl).cell 0 _ rfl
    have p1 := (S1.get 1 rfl).cell 1 _ rfl
    have p2 := (S1.get 1 rfl).cell 2 _ rfl
    have p3 := (S1.get 1 rfl).cell 3 _ rfl
    go_wp2
    go_ret2
    exact ⟨by rw [E.out]; rfl, S1.below⟩
  · have E := Lib.hid (tell_of (beg_yes wy (by rw [w0, fir_c0, fir1]; unfold Chain.pushE; rw [if_neg h6])))
    have z : decide ((6 : Int) ≤ (L.length : Int)) = false := decide_eq_false (by omega)
    clear wy w0
    go_enter Tryz.func165, Tryz.ntmps165
    go_wp2_with fail
    refine (scope3_any n t i j 4 r h v a b c _).mono ?_
    rintro z w1 ⟨rfl, k1⟩
    rw [HS.out]
    have S1 := S0.call k1
    have c0 := (S1.get 0 rfl).cell 0 _ rfl
    have c1 := (S1.get 0 rfl).cell 1 _ rfl
    have c2 := (S1.get 0 rfl).cell 2 _ rfl
    have c3 := (S1.get 0 rfl).cell 3 _ rfl
    have c4 := (S1.get 0 rfl).cell 4 _ rfl
    have c5 := (S1.get 0 rfl).cell 5 _ rfl
    have c6 := (S1.get 0 rfl).cell 6 _ rfl
    have p0 := (S1.get 1 rfl).cell 0 _ rfl
    have p1 := (S1.get 1 rfl).cell 1 _ rfl
    have p2 := (S1.get 1 rfl).cell 2 _ rfl
    have p3 := (S1.get 1 rfl).cell 3 _ rfl
    go_wp2
    go_ret2
    exact ⟨by rw [E.out]; rfl, S1.below⟩

set_option maxHeartbeats 8000000 in
theorem goes6_any (u : Value) (L : List Chain.E) (hd vl n t i j r h v a b c : Int) (w : World) (n1 : 1 ≤ n) (hL : Chain.Sr w u L) : Calls Tryz.prog 165 #[planV n t i j, u, callV ⟨6, r, h, v, a, b, c⟩] w fun e w' => e = tell2 (begV n L ⟨6, r, h, v, a, b, c⟩ hd vl).code (begV n L ⟨6, r, h, v, a, b, c⟩ hd vl).pc ∧ Below w.heap.size w w' := by
  have wy : wayV n L ⟨6, r, h, v, a, b, c⟩ hd vl = ⟨0, [wiE a 0 (n - 1) 11, reE L a, Chain.pushE L]⟩ := rfl
  have S0 := ((Held.St.start w).new [.int .i64 n, .int .i64 t, .int .i64 i, .int .i64 j] 23).new [.int .u8 6, .int .u8 r, .int .u8 h, .int .u8 v, .int .i64 a, .int .i64 b, .int .i64 c] 37
  simp only [World.size_alloc] at S0
  have c0 := (S0.get 0 rfl).cell 0 _ rfl
  have c1 := (S0.get 0 rfl).cell 1 _ rfl
  have c2 := (S0.get 0 rfl).cell 2 _ rfl
  have c3 := (S0.get 0 rfl).cell 3 _ rfl
  have c4 := (S0.get 0 rfl).cell 4 _ rfl
  have c5 := (S0.get 0 rfl).cell 5 _ rfl
  have c6 := (S0.get 0 rfl).cell 6 _ rfl
  have p0 := (S0.get 1 rfl).cell 0 _ rfl
  have p1 := (S0.get 1 rfl).cell 1 _ rfl
  have p2 := (S0.get 1 rfl).cell 2 _ rfl
  have p3 := (S0.get 1 rfl).cell 3 _ rfl
  obtain ⟨A, cc, rfl, l1, l2, _⟩ := id hL
  obtain ⟨s, hs⟩ : ∃ s, scB n a = s := ⟨_, rfl⟩
  have HS := Lib.hid hs
  by_cases h0 : 0 ≤ a ∧ a < n
  rotate_left
  · have E := Lib.hid (tell_of (beg_no wy (by rw [wi1 (by omega), fir_c _ (show (11 : Int) ≠ 0 by decide)]) (show (11 : Int) ≠ 0 by decide)))
    have sf : s = false := by rw [← hs]; exact decide_eq_false (by omega)
    have z : (a == 0) = false := by
      have : a ≠ 0 := by omega
      simpa using this
    have z2 : (a != 0) = true := by
      have : a ≠ 0 := by omega
      simpa using this
    subst sf
    clear wy hs h0
    go_enter Tryz.func165, Tryz.ntmps165
    go_wp2_with fail
    refine (scope3_any n t i j 6 r h v a b c _).mono ?_
    rintro z w1 ⟨rfl, k1⟩
    rw [HS.out]
    have S1 := S0.call k1
    have c0 := (S1.get 0 rfl).cell 0 _ rfl
    have c1 := (S1.get 0 rfl).cell 1 _ rfl
    have c2 := (S1.get 0 rfl).cell 2 _ rfl
    have c3 := (S1.get 0 rfl).cell 3 _ rfl
    have c4 := (S1.get 0 rfl).cell 4 _ rfl
    have c5 := (S1.get 0 rfl).cell 5 _ rfl
    have c6 := (S1.get 0 rfl).cell 6 _ rfl
    have p0 := (S1.get 1 rfl).cell 0 _ rfl
    have p1 := (S1.get 1 rfl).cell 1 _ rfl
    have p2 := (S1.get 1 rfl).cell 2 _ rfl
    have p3 := (S1.get 1 rfl).cell 3 _ rfl
    go_wp2
    go_ret2
    exact ⟨by rw [E.out]; rfl, S1.below⟩
  have w0 : wiE a 0 (n - 1) 11 = 0 := wi0 (by omega) (by omega)
  have hz : (s = true) ∨ (s = false ∧ a = 0) := by
    by_cases e : 1 ≤ a
    · exact .inl (by rw [← hs]; exact decide_eq_true (by omega))
    · exact .inr ⟨by rw [← hs]; exact decide_eq_false (by omega), by omega⟩
  clear hs
  by_cases hr : Chain.reachV L a = true
  rotate_left
  · have hr : Chain.reachV L a = false := by simpa using hr
    have E := Lib.hid (tell_of (beg_no wy (by rw [w0, fir_c0, re1 hr, fir_c _ (show (20 : Int) ≠ 0 by decide)]) (show (20 : Int) ≠ 0 by decide)))
    have HR := Lib.hid hr
    have ne : a ≠ 0 := by
      rintro rfl
      simp [Chain.reachV] at hr
    obtain rfl : s = true := by
      rcases hz with e | ⟨_, e⟩
      · exact e
      · exact absurd e ne
    clear wy w0 hr h0 ne hz
    go_enter Tryz.func165, Tryz.ntmps165
    go_wp2_with fail
    refine (scope3_any n t i j 6 r h v a b c _).mono ?_
    rintro z w1 ⟨rfl, k1⟩
    rw [HS.out]
    have S1 := S0.call k1
    have c0 := (S1.get 0 rfl).cell 0 _ rfl
    have c1 := (S1.get 0 rfl).cell 1 _ rfl
    have c2 := (S1.get 0 rfl).cell 2 _ rfl
    have c3 := (S1.get 0 rfl).cell 3 _ rfl
    have c4 := (S1.get 0 rfl).cell 4 _ rfl
    have c5 := (S1.get 0 rfl).cell 5 _ rfl
    have c6 := (S1.get 0 rfl).cell 6 _ rfl
    have p0 := (S1.get 1 rfl).cell 0 _ rfl
    have p1 := (S1.get 1 rfl).cell 1 _ rfl
    have p2 := (S1.get 1 rfl).cell 2 _ rfl
    have p3 := (S1.get 1 rfl).cell 3 _ rfl
    go_wp2_with fail
    refine (Chain.refreach_any _ _ L a (hL.below S1.below)).mono ?_
    rintro z w2 ⟨rfl, rfl⟩
    rw [HR.out]
    go_wp2
    go_ret2
    exact ⟨by rw [E.out]; rfl, S1.below⟩

  by_cases h6 : 6 ≤ L.length
  · have E := Lib.hid (tell_of (beg_no wy (by rw [w0, fir_c0, re0 hr, fir_c0, fir1]; unfold Chain.pushE; rw [if_pos h6]) (show (24 : Int) ≠ 0 by decide)))
    have z : decide ((6 : Int) ≤ (L.length : Int)) = true := decide_eq_true (by omega)
    have HR := Lib.hid hr
    clear wy w0 hr h0
    rcases hz with rfl | ⟨rfl, h00⟩
    rotate_left
    · have z3 : (a != 0) = false := by simpa using h00
      have z4 : (a == 0) = true := by simpa using h00
      clear h00
      go_enter Tryz.func165, Tryz.ntmps165
      go_wp2_with fail
      refine (scope3_any n t i j 6 r h v a b c _).mono ?_
      rintro z w1 ⟨rfl, k1⟩
      rw [HS.out]
      have S1 := S0.call k1
      have c0 := (S1.get 0 rfl).cell 0 _ rfl
      have c1 := (S1.get 0 rfl).cell 1 _ rfl
      have c2 := (S1.get 0 rfl).cell 2 _ rfl
      have c3 := (S1.get 0 rfl).cell 3 _ rfl
      have c4 := (S1.get 0 rfl).cell 4 _ rfl
      have c5 := (S1.get 0 rfl).cell 5 _ rfl
      have c6 := (S1.get 0 rfl).cell 6 _ rfl
      have p0 := (S1.get 1 rfl).cell 0 _ rfl
      have p1 := (S1.get 1 rfl).cell 1 _ rfl
      have p2 := (S1.get 1 rfl).cell 2 _ rfl
      have p3 := (S1.get 1 rfl).cell 3 _ rfl
      go_wp2_with fail
      refine (Chain.refreach_any _ _ L a (hL.below S1.below)).mono ?_
      rintro z w2 ⟨rfl, rfl⟩
      rw [HR.out]
      go_wp2
      go_ret2
      exact ⟨by rw [E.out]; rfl, S1.below⟩
    · skip
      go_enter Tryz.func165, Tryz.ntmps165
      go_wp2_with fail
      refine (scope3_any n t i j 6 r h v a b c _).mono ?_
      rintro z w1 ⟨rfl, k1⟩
      rw [HS.out]
      have S1 := S0.call k1
      have c0 := (S1.get 0 rfl).cell 0 _ rfl
      have c1 := (S1.get 0 rfl).cell 1 _ rfl
      have c2 := (S1.get 0 rfl).cell 2 _ rfl
      have c3 := (S1.get 0 rfl).cell 3 _ rfl
      have c4 := (S1.get 0 rfl).cell 4 _ rfl
      have c5 := (S1.get 0 rfl).cell 5 _ rfl
      have c6 := (S1.get 0 rfl).cell 6 _ rfl
      have p0 := (S1.get 1 rfl).cell 0 _ rfl
      have p1 := (S1.get 1 rfl).cell 1 _ rfl
      have p2 := (S1.get 1 rfl).cell 2 _ rfl
      have p3 := (S1.get 1 rfl).cell 3 _ rfl
      go_wp2_with fail
      refine (Chain.refreach_any _ _ L a (hL.below S1.below)).mono ?_
      rintro z w2 ⟨rfl, rfl⟩
      rw [HR.out]
      go_wp2
      go_ret2
      exact ⟨by rw [E.out]; rfl, S1.below⟩

  · have E := Lib.hid (tell_of (beg_yes wy (by rw [w0, fir_c0, re0 hr, fir_c0, fir1]; unfold Chain.pushE; rw [if_neg h6])))
    have z : decide ((6 : Int) ≤ (L.length : Int)) = false := decide_eq_false (by omega)
    have HR := Lib.hid hr
    clear wy w0 hr h0
    rcases hz with rfl | ⟨rfl, h00⟩
    rotate_left
    · have z3 : (a != 0) = false := by simpa using h00
      have z4 : (a == 0) = true := by simpa using h00
      clear h00
      go_enter Tryz.func165, Tryz.ntmps165
      go_wp2_with fail
      refine (scope3_any n t i j 6 r h v a b c _).mono ?_
      rintro z w1 ⟨rfl, k1⟩
      rw [HS.out]
      have S1 := S0.call k1
      have c0 := (S1.get 0 rfl).cell 0 _ rfl
      have c1 := (S1.get 0 rfl).cell 1 _ rfl
      have c2 := (S1.get 0 rfl).cell 2 _ rfl
      have c3 := (S1.get 0 rfl).cell 3 _ rfl
      have c4 := (S1.get 0 rfl).cell 4 _ rfl
      have c5 := (S1.get 0 rfl).cell 5 _ rfl
      have c6 := (S1.get 0 rfl).cell 6 _ rfl
      have p0 := (S1.get 1 rfl).cell 0 _ rfl
      have p1 := (S1.get 1 rfl).cell 1 _ rfl
      have p2 := (S1.get 1 rfl).cell 2 _ rfl
      have p3 := (S1.get 1 rfl).cell 3 _ rfl
      go_wp2_with fail
      refine (Chain.refreach_any _ _ L a (hL.below S1.below)).mono ?_
      rintro z w2 ⟨rfl, rfl⟩
      rw [HR.out]
      go_wp2
      go_ret2
      exact ⟨by rw [E.out]; rfl, S1.below⟩
    · skip
      go_enter Tryz.func165, Tryz.ntmps165
      go_wp2_with fail
      refine (scope3_any n t i j 6 r h v a b c _).mono ?_
      rintro z w1 ⟨rfl, k1⟩
      rw [HS.out]
      have S1 := S0.call k1
      have c0 := (S1.get 0 rfl).cell 0 _ rfl
      have c1 := (S1.get 0 rfl).cell 1 _ rfl
      have c2 := (S1.get 0 rfl).cell 2 _ rfl
      have c3 := (S1.get 0 rfl).cell 3 _ rfl
      have c4 := (S1.get 0 rfl).cell 4 _ rfl
      have c5 := (S1.get 0 rfl).cell 5 _ rfl
      have c6 := (S1.get 0 rfl).cell 6 _ rfl
      have p0 := (S1.get 1 rfl).cell 0 _ rfl
      have p1 := (S1.get 1 rfl).cell 1 _ rfl
      have p2 := (S1.get 1 rfl).cell 2 _ rfl
      have p3 := (S1.get 1 rfl).cell 3 _ rfl
      go_wp2_with fail
      refine (Chain.refreach_any _ _ L a (hL.below S1.below)).mono ?_
      rintro z w2 ⟨rfl, rfl⟩
      rw [HR.out]
      go_wp2
      go_ret2
      exact ⟨by rw [E.out]; rfl, S1.below⟩

set_option maxHeartbeats 4000000 in
theorem exit3_any (u : Value) (L : List Chain.E) (hd vl n r h v a b c : Int) (w : World) (hL : Chain.Sr w u L) : Calls Tryz.prog 166 #[u] w fun e w' => e = tell2 (begV n L ⟨5, r, h, v, a, b, c⟩ hd vl).code (begV n L ⟨5, r, h, v, a, b, c⟩ hd vl).pc ∧ Below w.heap.size w w' := by
  have wy : wayV n L ⟨5, r, h, v, a, b, c⟩ hd vl = ⟨outP L, [Chain.popE L]⟩ := rfl
  obtain ⟨A, cc, rfl, l1, l2, _⟩ := id hL
  by_cases h0 : L.length = 0
  · have E := Lib.hid (tell_of (beg_no wy (by rw [fir1]; unfold Chain.popE; rw [if_pos h0]) (show (23 : Int) ≠ 0 by decide)))
    have z : ((L.length : Int) == 0) = true := by
      rw [h0]
      rfl
    rw [h0] at z ⊢
    clear wy
    go_enter Tryz.func166, Tryz.ntmps166
    go_wp2
    go_ret2
    exact ⟨by rw [E.out]; rfl, Below.refl _ _⟩
  · have p0 : Chain.popE L = 0 := by
      unfold Chain.popE
      rw [if_neg h0]
    have hk : L.length - 1 < L.length := by omega
    obtain ⟨_, _, e, _, _, _, h4⟩ := id hL
    injection e with e1 e2 e3
    subst e1 e3
    clear e2
    obtain ⟨g, o, rfl, hg, hc⟩ := h4 (by omega)
    obtain ⟨d0, d1⟩ := hc (L.length - 1) hk
    clear hc h4
    have hl : Chain.lastV L = L[L.length - 1] := Chain.last_at (by omega)
    obtain ⟨x, hx⟩ : ∃ x, L[L.length - 1] = x := ⟨_, rfl⟩
    rw [hx] at d0 d1 hl
    obtain ⟨xs, xb⟩ := x
    dsimp only at d0 d1
    have oP : outP L = if xb = true then 15 else 0 := by
      unfold outP
      rw [hl]
    have E := Lib.hid (tell_of (beg_yes wy (by rw [p0, fir1])))
    rw [oP] at E
    obtain ⟨N, hN⟩ : ∃ N, L.length = N + 1 := ⟨L.length - 1, (Nat.sub_add_cancel (Nat.one_le_iff_ne_zero.2 h0)).symm⟩
    have l3 : N + 1 ≤ 9223372036854775807 := by unfold maxLen at l2; omega
    rw [hN, Nat.add_sub_cancel] at d0 d1
    rw [hN] at l1
    have z : (((N + 1 : Nat) : Int) == 0) = false := by
      have : ((N + 1 : Nat) : Int) ≠ 0 := by omega
      simpa using this
    have zz : ((N : Int) + 1 == 0) = false := by
      have : (N : Int) + 1 ≠ 0 := by omega
      simpa using this
    have i0 : (0 : Int) ≤ (N : Int) := by omega
    have i1 : (N : Int) < ((N + 1 : Nat) : Int) := by omega
    have i2 : (N : Int) < (N : Int) + 1 := by omega
    rw [hN]
    clear wy p0 hk hl hx oP h0 hN hL
    cases xb with
    | true =>
      go_enter Tryz.func166, Tryz.ntmps166
      go_wp2
      go_ret2
      exact ⟨by rw [E.out]; rfl, Below.refl _ _⟩
    | false =>
      go_enter Tryz.func166, Tryz.ntmps166
      go_wp2
      go_ret2
      exact ⟨by rw [E.out]; rfl, Below.refl _ _⟩
set_option maxHeartbeats 8000000 in
theorem gate10_any (u : Value) (L : List Chain.E) (hd vl n t i j r h v a b c : Int) (w : World) (hg : rgE [r] = 0) (hL : Chain.Sr w u L) (v1 : 0 ≤ vl) (v2 : vl ≤ 18446744073709551615) : Calls Tryz.prog 168 #[planV n t i j, u, callV ⟨10, r, h, v, a, b, c⟩, .int .u64 vl] w fun e w' => e = tell2 (begV n L ⟨10, r, h, v, a, b, c⟩ hd vl).code (begV n L ⟨10, r, h, v, a, b, c⟩ hd vl).pc ∧ Below w.heap.size w w' := by
  have wy : wayV n L ⟨10, r, h, v, a, b, c⟩ hd vl = ⟨11, [rgE [r], wiE a 1 (n - 1) 11, reE L a]⟩ := rfl
  have wz : ∃ pc cs, wayV n L ⟨10, r, h, v, a, b, c⟩ hd vl = ⟨pc, 0 :: wiE a 1 (n - 1) 11 :: reE L a :: cs⟩ := ⟨_, [], by rw [wy, hg]⟩
  obtain ⟨pc, cs, wq⟩ := wz
  have S0 := ((Held.St.start w).new [.int .i64 n, .int .i64 t, .int .i64 i, .int .i64 j] 23).new [.int .u8 10, .int .u8 r, .int .u8 h, .int .u8 v, .int .i64 a, .int .i64 b, .int .i64 c] 37
  simp only [World.size_alloc] at S0
  have c0 := (S0.get 0 rfl).cell 0 _ rfl
  have c1 := (S0.get 0 rfl).cell 1 _ rfl
  have c2 := (S0.get 0 rfl).cell 2 _ rfl
  have c3 := (S0.get 0 rfl).cell 3 _ rfl
  have c4 := (S0.get 0 rfl).cell 4 _ rfl
  have c5 := (S0.get 0 rfl).cell 5 _ rfl
  have c6 := (S0.get 0 rfl).cell 6 _ rfl
  have p0 := (S0.get 1 rfl).cell 0 _ rfl
  have p1 := (S0.get 1 rfl).cell 1 _ rfl
  have p2 := (S0.get 1 rfl).cell 2 _ rfl
  have p3 := (S0.get 1 rfl).cell 3 _ rfl
  obtain ⟨A, cc, rfl, l1, l2, _⟩ := id hL
  by_cases hs : 1 ≤ a ∧ a < n
  rotate_left
  · have E := Lib.hid (tell_of (beg_no wq (by rw [fir_c0, wi1 (by omega), fir_c _ (show (11 : Int) ≠ 0 by decide)]) (show (11 : Int) ≠ 0 by decide)))
    have HS := Lib.hid (show scB n a = false from decide_eq_false hs)
    clear wq hg wy
    go_enter Tryz.func168, Tryz.ntmps168
    go_wp2_with fail
    refine (scope3_any n t i j 10 r h v a b c _).mono ?_
    rintro z w1 ⟨rfl, k1⟩
    rw [HS.out]
    have S1 := S0.call k1
    have c0 := (S1.get 0 rfl).cell 0 _ rfl
    have c1 := (S1.get 0 rfl).cell 1 _ rfl
    have c2 := (S1.get 0 rfl).cell 2 _ rfl
    have c3 := (S1.get 0 rfl).cell 3 _ rfl
    have c4 := (S1.get 0 rfl).cell 4 _ rfl
    have c5 := (S1.get 0 rfl).cell 5 _ rfl
    have c6 := (S1.get 0 rfl).cell 6 _ rfl
    have p0 := (S1.get 1 rfl).cell 0 _ rfl
    have p1 := (S1.get 1 rfl).cell 1 _ rfl
    have p2 := (S1.get 1 rfl).cell 2 _ rfl
    have p3 := (S1.get 1 rfl).cell 3 _ rfl
    go_wp2
    go_ret2
    exact ⟨by rw [E.out]; rfl, S1.below⟩
  have HS := Lib.hid (show scB n a = true from decide_eq_true hs)
  have w0 : wiE a 1 (n - 1) 11 = 0 := wi0 (by omega) (by omega)
  by_cases hr : Chain.reachV L a = true
  rotate_left
  · have hr : Chain.reachV L a = false := by simpa using hr
    have E := Lib.hid (tell_of (beg_no wq (by rw [fir_c0, w0, fir_c0, re1 hr, fir_c _ (show (20 : Int) ≠ 0 by decide)]) (show (20 : Int) ≠ 0 by decide)))
    have HR := Lib.hid hr
    clear wq hg w0 hr hs wy
    go_enter Tryz.func168, Tryz.ntmps168
    go_wp2_with fail
    refine (scope3_any n t i j 10 r h v a b c _).mono ?_
    rintro z w1 ⟨rfl, k1⟩
    rw [HS.out]
    have S1 := S0.call k1
    have c0 := (S1.get 0 rfl).cell 0 _ rfl
    have c1 := (S1.get 0 rfl).cell 1 _ rfl
    have c2 := (S1.get 0 rfl).cell 2 _ rfl
    have c3 := (S1.get 0 rfl).cell 3 _ rfl
    have c4 := (S1.get 0 rfl).cell 4 _ rfl
    have c5 := (S1.get 0 rfl).cell 5 _ rfl
    have c6 := (S1.get 0 rfl).cell 6 _ rfl
    have p0 := (S1.get 1 rfl).cell 0 _ rfl
    have p1 := (S1.get 1 rfl).cell 1 _ rfl
    have p2 := (S1.get 1 rfl).cell 2 _ rfl
    have p3 := (S1.get 1 rfl).cell 3 _ rfl
    go_wp2_with fail
    refine (Chain.refreach_any _ _ L a (hL.below S1.below)).mono ?_
    rintro z w2 ⟨rfl, rfl⟩
    rw [HR.out]
    go_wp2
    go_ret2
    exact ⟨by rw [E.out]; rfl, S1.below⟩
  have HR := Lib.hid hr
  have E := Lib.hid (tell_of (beg_yes wy (by rw [hg, fir_c0, w0, fir_c0, fir1, re0 hr])))
  clear wq wy hg w0 hr hs
  go_enter Tryz.func168, Tryz.ntmps168
  go_wp2_with fail
  refine (scope3_any n t i j 10 r h v a b c _).mono ?_
  rintro z w1 ⟨rfl, k1⟩
  rw [HS.out]
  have S1 := S0.call k1
  have c0 := (S1.get 0 rfl).cell 0 _ rfl
  have c1 := (S1.get 0 rfl).cell 1 _ rfl
  have c2 := (S1.get 0 rfl).cell 2 _ rfl
  have c3 := (S1.get 0 rfl).cell 3 _ rfl
  have c4 := (S1.get 0 rfl).cell 4 _ rfl
  have c5 := (S1.get 0 rfl).cell 5 _ rfl
  have c6 := (S1.get 0 rfl).cell 6 _ rfl
  have p0 := (S1.get 1 rfl).cell 0 _ rfl
  have p1 := (S1.get 1 rfl).cell 1 _ rfl
  have p2 := (S1.get 1 rfl).cell 2 _ rfl
  have p3 := (S1.get 1 rfl).cell 3 _ rfl
  go_wp2_with fail
  refine (Chain.refreach_any _ _ L a (hL.below S1.below)).mono ?_
  rintro z w2 ⟨rfl, rfl⟩
  rw [HR.out]
  go_wp2
  go_ret2
  exact ⟨by rw [E.out]; rfl, S1.below⟩
set_option maxHeartbeats 8000000 in
theorem gate11_any (u : Value) (L : List Chain.E) (hd vl n t i j r h v a b c : Int) (w : World) (hg : rgE [v] = 0) (hL : Chain.Sr w u L) (v1 : 0 ≤ vl) (v2 : vl ≤ 18446744073709551615) : Calls Tryz.prog 168 #[planV n t i j, u, callV ⟨11, r, h, v, a, b, c⟩, .int .u64 vl] w fun e w' => e = tell2 (begV n L ⟨11, r, h, v, a, b, c⟩ hd vl).code (begV n L ⟨11, r, h, v, a, b, c⟩ hd vl).pc ∧ Below w.heap.size w w' := by
  have wz : ∃ pc cs, wayV n L ⟨11, r, h, v, a, b, c⟩ hd vl = ⟨pc, 0 :: wiE a 1 (n - 1) 11 :: reE L a :: cs⟩ := by
    by_cases e : vl = 0
    · exact ⟨12, [], by show (if vl = 0 then _ else _) = _; rw [if_pos e, hg]⟩
    · exact ⟨7, [ckV n L vl], by show (if vl = 0 then _ else _) = _; rw [if_neg e, hg]⟩
  obtain ⟨pc, cs, wq⟩ := wz
  have S0 := ((Held.St.start w).new [.int .i64 n, .int .i64 t, .int .i64 i, .int .i64 j] 23).new [.int .u8 11, .int .u8 r, .int .u8 h, .int .u8 v, .int .i64 a, .int .i64 b, .int .i64 c] 37
  simp only [World.size_alloc] at S0
  have c0 := (S0.get 0 rfl).cell 0 _ rfl
  have c1 := (S0.get 0 rfl).cell 1 _ rfl
  have c2 := (S0.get 0 rfl).cell 2 _ rfl
  have c3 := (S0.get 0 rfl).cell 3 _ rfl
  have c4 := (S0.get 0 rfl).cell 4 _ rfl
  have c5 := (S0.get 0 rfl).cell 5 _ rfl
  have c6 := (S0.get 0 rfl).cell 6 _ rfl
  have p0 := (S0.get 1 rfl).cell 0 _ rfl
  have p1 := (S0.get 1 rfl).cell 1 _ rfl
  have p2 := (S0.get 1 rfl).cell 2 _ rfl
  have p3 := (S0.get 1 rfl).cell 3 _ rfl
  obtain ⟨A, cc, rfl, l1, l2, _⟩ := id hL
  by_cases hs : 1 ≤ a ∧ a < n
  rotate_left
  · have E := Lib.hid (tell_of (beg_no wq (by rw [fir_c0, wi1 (by omega), fir_c _ (show (11 : Int) ≠ 0 by decide)]) (show (11 : Int) ≠ 0 by decide)))
    have HS := Lib.hid (show scB n a = false from decide_eq_false hs)
    clear wq hg 
    go_enter Tryz.func168, Tryz.ntmps168
    go_wp2_with fail
    refine (scope3_any n t i j 11 r h v a b c _).mono ?_
    rintro z w1 ⟨rfl, k1⟩
    rw [HS.out]
    have S1 := S0.call k1
    have c0 := (S1.get 0 rfl).cell 0 _ rfl
    have c1 := (S1.get 0 rfl).cell 1 _ rfl
    have c2 := (S1.get 0 rfl).cell 2 _ rfl
    have c3 := (S1.get 0 rfl).cell 3 _ rfl
    have c4 := (S1.get 0 rfl).cell 4 _ rfl
    have c5 := (S1.get 0 rfl).cell 5 _ rfl
    have c6 := (S1.get 0 rfl).cell 6 _ rfl
    have p0 := (S1.get 1 rfl).cell 0 _ rfl
    have p1 := (S1.get 1 rfl).cell 1 _ rfl
    have p2 := (S1.get 1 rfl).cell 2 _ rfl
    have p3 := (S1.get 1 rfl).cell 3 _ rfl
    go_wp2
    go_ret2
    exact ⟨by rw [E.out]; rfl, S1.below⟩
  have HS := Lib.hid (show scB n a = true from decide_eq_true hs)
  have w0 : wiE a 1 (n - 1) 11 = 0 := wi0 (by omega) (by omega)
  by_cases hr : Chain.reachV L a = true
  rotate_left
  · have hr : Chain.reachV L a = false := by simpa using hr
    have E := Lib.hid (tell_of (beg_no wq (by rw [fir_c0, w0, fir_c0, re1 hr, fir_c _ (show (20 : Int) ≠ 0 by decide)]) (show (20 : Int) ≠ 0 by decide)))
    have HR := Lib.hid hr
    clear wq hg w0 hr hs 
    go_enter Tryz.func168, Tryz.ntmps168
    go_wp2_with fail
    refine (scope3_any n t i j 11 r h v a b c _).mono ?_
    rintro z w1 ⟨rfl, k1⟩
    rw [HS.out]
    have S1 := S0.call k1
    have c0 := (S1.get 0 rfl).cell 0 _ rfl
    have c1 := (S1.get 0 rfl).cell 1 _ rfl
    have c2 := (S1.get 0 rfl).cell 2 _ rfl
    have c3 := (S1.get 0 rfl).cell 3 _ rfl
    have c4 := (S1.get 0 rfl).cell 4 _ rfl
    have c5 := (S1.get 0 rfl).cell 5 _ rfl
    have c6 := (S1.get 0 rfl).cell 6 _ rfl
    have p0 := (S1.get 1 rfl).cell 0 _ rfl
    have p1 := (S1.get 1 rfl).cell 1 _ rfl
    have p2 := (S1.get 1 rfl).cell 2 _ rfl
    have p3 := (S1.get 1 rfl).cell 3 _ rfl
    go_wp2_with fail
    refine (Chain.refreach_any _ _ L a (hL.below S1.below)).mono ?_
    rintro z w2 ⟨rfl, rfl⟩
    rw [HR.out]
    go_wp2
    go_ret2
    exact ⟨by rw [E.out]; rfl, S1.below⟩
  have HR := Lib.hid hr
  have r0 := re0 hr
  clear wq hr hs
  by_cases e0 : vl = 0
  · have E := Lib.hid (tell_of (beg_yes (show wayV n L ⟨11, r, h, v, a, b, c⟩ hd vl = ⟨12, [rgE [v], wiE a 1 (n - 1) 11, reE L a]⟩ by show (if vl = 0 then _ else _) = _; rw [if_pos e0]) (by rw [hg, fir_c0, w0, fir_c0, fir1, r0])))
    have z : (vl == 0) = true := by simpa using e0
    clear hg w0 r0 e0
    go_enter Tryz.func168, Tryz.ntmps168
    go_wp2_with fail
    refine (scope3_any n t i j 11 r h v a b c _).mono ?_
    rintro z w1 ⟨rfl, k1⟩
    rw [HS.out]
    have S1 := S0.call k1
    have c0 := (S1.get 0 rfl).cell 0 _ rfl
    have c1 := (S1.get 0 rfl).cell 1 _ rfl
    have c2 := (S1.get 0 rfl).cell 2 _ rfl
    have c3 := (S1.get 0 rfl).cell 3 _ rfl
    have c4 := (S1.get 0 rfl).cell 4 _ rfl
    have c5 := (S1.get 0 rfl).cell 5 _ rfl
    have c6 := (S1.get 0 rfl).cell 6 _ rfl
    have p0 := (S1.get 1 rfl).cell 0 _ rfl
    have p1 := (S1.get 1 rfl).cell 1 _ rfl
    have p2 := (S1.get 1 rfl).cell 2 _ rfl
    have p3 := (S1.get 1 rfl).cell 3 _ rfl
    go_wp2_with fail
    refine (Chain.refreach_any _ _ L a (hL.below S1.below)).mono ?_
    rintro z w2 ⟨rfl, rfl⟩
    rw [HR.out]
    go_wp2
    go_ret2
    exact ⟨by rw [E.out]; rfl, S1.below⟩
  · have wy : wayV n L ⟨11, r, h, v, a, b, c⟩ hd vl = ⟨7, [rgE [v], wiE a 1 (n - 1) 11, reE L a, ckV n L vl]⟩ := by
      show (if vl = 0 then _ else _) = _
      rw [if_neg e0]
    have ff : firE [rgE [v], wiE a 1 (n - 1) 11, reE L a, ckV n L vl] = ckV n L vl := by rw [hg, fir_c0, w0, fir_c0, r0, fir_c0, fir1]
    have z : (vl == 0) = false := by simpa using e0
    clear hg w0 r0 e0
    by_cases k0 : ckV n L vl = 0
    · have E := Lib.hid (tell_of (beg_yes wy (ff.trans k0)))
      have HK := Lib.hid k0
      clear wy ff k0
      go_enter Tryz.func168, Tryz.ntmps168
      go_wp2_with fail
      refine (scope3_any n t i j 11 r h v a b c _).mono ?_
      rintro z w1 ⟨rfl, k1⟩
      rw [HS.out]
      have S1 := S0.call k1
      have c0 := (S1.get 0 rfl).cell 0 _ rfl
      have c1 := (S1.get 0 rfl).cell 1 _ rfl
      have c2 := (S1.get 0 rfl).cell 2 _ rfl
      have c3 := (S1.get 0 rfl).cell 3 _ rfl
      have c4 := (S1.get 0 rfl).cell 4 _ rfl
      have c5 := (S1.get 0 rfl).cell 5 _ rfl
      have c6 := (S1.get 0 rfl).cell 6 _ rfl
      have p0 := (S1.get 1 rfl).cell 0 _ rfl
      have p1 := (S1.get 1 rfl).cell 1 _ rfl
      have p2 := (S1.get 1 rfl).cell 2 _ rfl
      have p3 := (S1.get 1 rfl).cell 3 _ rfl
      go_wp2_with fail
      refine (Chain.refreach_any _ _ L a (hL.below S1.below)).mono ?_
      rintro z w2 ⟨rfl, rfl⟩
      rw [HR.out]
      go_wp2_with fail
      refine (refcheck3_any _ L n t i j vl _ (hL.below S1.below) v1 v2).mono ?_
      rintro z w3 ⟨rfl, k3⟩
      unfold ckEnd
      rw [HK.out]
      have S3 := (S1.call k3).alloc (.cells #[.int .i64 (ckR n L vl).s, .int .i64 (ckR n L vl).e, .int .i64 (ckR n L vl).a] 154)
      go_wp2
      go_ret2
      exact ⟨by rw [E.out]; rfl, S3.below⟩
    · have E := Lib.hid (tell_of (beg_no wy ff k0))
      obtain ⟨x, hx⟩ : ∃ x, ckV n L vl = x := ⟨_, rfl⟩
      have z3 : (x == 0) = false := by rw [← hx]; simpa using k0
      have z4 : (x != 0) = true := by rw [← hx]; simpa using k0
      rw [hx] at E
      have HK := Lib.hid hx
      clear wy ff k0 hx
      go_enter Tryz.func168, Tryz.ntmps168
      go_wp2_with fail
      refine (scope3_any n t i j 11 r h v a b c _).mono ?_
      rintro z w1 ⟨rfl, k1⟩
      rw [HS.out]
      have S1 := S0.call k1
      have c0 := (S1.get 0 rfl).cell 0 _ rfl
      have c1 := (S1.get 0 rfl).cell 1 _ rfl
      have c2 := (S1.get 0 rfl).cell 2 _ rfl
      have c3 := (S1.get 0 rfl).cell 3 _ rfl
      have c4 := (S1.get 0 rfl).cell 4 _ rfl
      have c5 := (S1.get 0 rfl).cell 5 _ rfl
      have c6 := (S1.get 0 rfl).cell 6 _ rfl
      have p0 := (S1.get 1 rfl).cell 0 _ rfl
      have p1 := (S1.get 1 rfl).cell 1 _ rfl
      have p2 := (S1.get 1 rfl).cell 2 _ rfl
      have p3 := (S1.get 1 rfl).cell 3 _ rfl
      go_wp2_with fail
      refine (Chain.refreach_any _ _ L a (hL.below S1.below)).mono ?_
      rintro z w2 ⟨rfl, rfl⟩
      rw [HR.out]
      go_wp2_with fail
      refine (refcheck3_any _ L n t i j vl _ (hL.below S1.below) v1 v2).mono ?_
      rintro z w3 ⟨rfl, k3⟩
      unfold ckEnd
      rw [HK.out]
      have S3 := (S1.call k3).alloc (.cells #[.int .i64 (ckR n L vl).s, .int .i64 (ckR n L vl).e, .int .i64 (ckR n L vl).a] 154)
      go_wp2
      go_ret2
      exact ⟨by rw [E.out]; rfl, S3.below⟩
set_option maxHeartbeats 8000000 in
theorem pc0_any (u : Value) (L : List Chain.E) (hd vl n t i j r h v a b c : Int) (w : World) (n1 : 1 ≤ n) (hL : Chain.Sr w u L) (d1 : 0 ≤ hd) (d2 : hd ≤ 18446744073709551615) (v1 : 0 ≤ vl) (v2 : vl ≤ 18446744073709551615) (hb : badC ⟨0, r, h, v, a, b, c⟩ = false) : Calls Tryz.prog 124 #[planV n t i j, u, callV ⟨0, r, h, v, a, b, c⟩, .int .u64 hd, .int .u64 vl] w fun e w' => e = tell2 (begV n L ⟨0, r, h, v, a, b, c⟩ hd vl).code (begV n L ⟨0, r, h, v, a, b, c⟩ hd vl).pc ∧ Below w.heap.size w w' := by
  have S0 := ((Held.St.start w).new [.int .i64 n, .int .i64 t, .int .i64 i, .int .i64 j] 23).new [.int .u8 0, .int .u8 r, .int .u8 h, .int .u8 v, .int .i64 a, .int .i64 b, .int .i64 c] 37
  simp only [World.size_alloc] at S0
  have c0 := (S0.get 0 rfl).cell 0 _ rfl
  have c1 := (S0.get 0 rfl).cell 1 _ rfl
  have c2 := (S0.get 0 rfl).cell 2 _ rfl
  have c3 := (S0.get 0 rfl).cell 3 _ rfl
  have c4 := (S0.get 0 rfl).cell 4 _ rfl
  have c5 := (S0.get 0 rfl).cell 5 _ rfl
  have c6 := (S0.get 0 rfl).cell 6 _ rfl
  have p0 := (S0.get 1 rfl).cell 0 _ rfl
  have p1 := (S0.get 1 rfl).cell 1 _ rfl
  have p2 := (S0.get 1 rfl).cell 2 _ rfl
  have p3 := (S0.get 1 rfl).cell 3 _ rfl
  obtain ⟨A, cc, rfl, l1, l2, _⟩ := id hL
  have HB := Lib.hid hb
  have E := Lib.hid (tell_of (beg_yes (show wayV n L ⟨0, r, h, v, a, b, c⟩ hd vl = ⟨0, []⟩ from rfl) rfl))
  clear hb
  go_enter Tryz.func124, Tryz.ntmps124
  go_wp2_with fail
  refine (regs12_any _ ⟨0, r, h, v, a, b, c⟩).mono ?_
  rintro z w1 ⟨rfl, k1⟩
  rw [HB.out]
  have S1 := S0.call k1
  have c0 := (S1.get 0 rfl).cell 0 _ rfl
  have c1 := (S1.get 0 rfl).cell 1 _ rfl
  have c2 := (S1.get 0 rfl).cell 2 _ rfl
  have c3 := (S1.get 0 rfl).cell 3 _ rfl
  have c4 := (S1.get 0 rfl).cell 4 _ rfl
  have c5 := (S1.get 0 rfl).cell 5 _ rfl
  have c6 := (S1.get 0 rfl).cell 6 _ rfl
  have p0 := (S1.get 1 rfl).cell 0 _ rfl
  have p1 := (S1.get 1 rfl).cell 1 _ rfl
  have p2 := (S1.get 1 rfl).cell 2 _ rfl
  have p3 := (S1.get 1 rfl).cell 3 _ rfl
  go_wp2
  go_ret2
  exact ⟨by rw [E.out]; rfl, S1.below⟩

set_option maxHeartbeats 8000000 in
theorem pc1_any (u : Value) (L : List Chain.E) (hd vl n t i j r h v a b c : Int) (w : World) (n1 : 1 ≤ n) (hL : Chain.Sr w u L) (d1 : 0 ≤ hd) (d2 : hd ≤ 18446744073709551615) (v1 : 0 ≤ vl) (v2 : vl ≤ 18446744073709551615) (hb : badC ⟨1, r, h, v, a, b, c⟩ = false) : Calls Tryz.prog 124 #[planV n t i j, u, callV ⟨1, r, h, v, a, b, c⟩, .int .u64 hd, .int .u64 vl] w fun e w' => e = tell2 (begV n L ⟨1, r, h, v, a, b, c⟩ hd vl).code (begV n L ⟨1, r, h, v, a, b, c⟩ hd vl).pc ∧ Below w.heap.size w w' := by
  have S0 := ((Held.St.start w).new [.int .i64 n, .int .i64 t, .int .i64 i, .int .i64 j] 23).new [.int .u8 1, .int .u8 r, .int .u8 h, .int .u8 v, .int .i64 a, .int .i64 b, .int .i64 c] 37
  simp only [World.size_alloc] at S0
  have c0 := (S0.get 0 rfl).cell 0 _ rfl
  have c1 := (S0.get 0 rfl).cell 1 _ rfl
  have c2 := (S0.get 0 rfl).cell 2 _ rfl
  have c3 := (S0.get 0 rfl).cell 3 _ rfl
  have c4 := (S0.get 0 rfl).cell 4 _ rfl
  have c5 := (S0.get 0 rfl).cell 5 _ rfl
  have c6 := (S0.get 0 rfl).cell 6 _ rfl
  have p0 := (S0.get 1 rfl).cell 0 _ rfl
  have p1 := (S0.get 1 rfl).cell 1 _ rfl
  have p2 := (S0.get 1 rfl).cell 2 _ rfl
  have p3 := (S0.get 1 rfl).cell 3 _ rfl
  obtain ⟨A, cc, rfl, l1, l2, _⟩ := id hL
  have HB := Lib.hid hb
  have g : rgE [r] = 0 := by
    have e : badR r = false := hb
    unfold rgE
    rw [show [r].any badR = (badR r || false) from rfl, e]
    rfl
  have E := Lib.hid (tell_of (beg_yes (show wayV n L ⟨1, r, h, v, a, b, c⟩ hd vl = ⟨0, [rgE [r]]⟩ from rfl) (by rw [fir1, g])))
  clear hb g
  go_enter Tryz.func124, Tryz.ntmps124
  go_wp2_with fail
  refine (regs12_any _ ⟨1, r, h, v, a, b, c⟩).mono ?_
  rintro z w1 ⟨rfl, k1⟩
  rw [HB.out]
  have S1 := S0.call k1
  have c0 := (S1.get 0 rfl).cell 0 _ rfl
  have c1 := (S1.get 0 rfl).cell 1 _ rfl
  have c2 := (S1.get 0 rfl).cell 2 _ rfl
  have c3 := (S1.get 0 rfl).cell 3 _ rfl
  have c4 := (S1.get 0 rfl).cell 4 _ rfl
  have c5 := (S1.get 0 rfl).cell 5 _ rfl
  have c6 := (S1.get 0 rfl).cell 6 _ rfl
  have p0 := (S1.get 1 rfl).cell 0 _ rfl
  have p1 := (S1.get 1 rfl).cell 1 _ rfl
  have p2 := (S1.get 1 rfl).cell 2 _ rfl
  have p3 := (S1.get 1 rfl).cell 3 _ rfl
  go_wp2
  go_ret2
  exact ⟨by rw [E.out]; rfl, S1.below⟩

set_option maxHeartbeats 8000000 in
theorem pc2_any (u : Value) (L : List Chain.E) (hd vl n t i j r h v a b c : Int) (w : World) (n1 : 1 ≤ n) (hL : Chain.Sr w u L) (d1 : 0 ≤ hd) (d2 : hd ≤ 18446744073709551615) (v1 : 0 ≤ vl) (v2 : vl ≤ 18446744073709551615) (hb : badC ⟨2, r, h, v, a, b, c⟩ = false) : Calls Tryz.prog 124 #[planV n t i j, u, callV ⟨2, r, h, v, a, b, c⟩, .int .u64 hd, .int .u64 vl] w fun e w' => e = tell2 (begV n L ⟨2, r, h, v, a, b, c⟩ hd vl).code (begV n L ⟨2, r, h, v, a, b, c⟩ hd vl).pc ∧ Below w.heap.size w w' := by
  have S0 := ((Held.St.start w).new [.int .i64 n, .int .i64 t, .int .i64 i, .int .i64 j] 23).new [.int .u8 2, .int .u8 r, .int .u8 h, .int .u8 v, .int .i64 a, .int .i64 b, .int .i64 c] 37
  simp only [World.size_alloc] at S0
  have c0 := (S0.get 0 rfl).cell 0 _ rfl
  have c1 := (S0.get 0 rfl).cell 1 _ rfl
  have c2 := (S0.get 0 rfl).cell 2 _ rfl
  have c3 := (S0.get 0 rfl).cell 3 _ rfl
  have c4 := (S0.get 0 rfl).cell 4 _ rfl
  have c5 := (S0.get 0 rfl).cell 5 _ rfl
  have c6 := (S0.get 0 rfl).cell 6 _ rfl
  have p0 := (S0.get 1 rfl).cell 0 _ rfl
  have p1 := (S0.get 1 rfl).cell 1 _ rfl
  have p2 := (S0.get 1 rfl).cell 2 _ rfl
  have p3 := (S0.get 1 rfl).cell 3 _ rfl
  obtain ⟨A, cc, rfl, l1, l2, _⟩ := id hL
  have HB := Lib.hid hb
  have wy : wayV n L ⟨2, r, h, v, a, b, c⟩ hd vl = ⟨1, [wiE a 1 8192 1]⟩ := rfl
  clear hb
  by_cases h1 : a < 1
  · have E := Lib.hid (tell_of (beg_no wy (by rw [fir1, wi1 (by omega)]) (show (1 : Int) ≠ 0 by decide)))
    clear wy
    go_enter Tryz.func124, Tryz.ntmps124
    go_wp2_with fail
    refine (regs12_any _ ⟨2, r, h, v, a, b, c⟩).mono ?_
    rintro z w1 ⟨rfl, k1⟩
    rw [HB.out]
    have S1 := S0.call k1
    have c0 := (S1.get 0 rfl).cell 0 _ rfl
    have c1 := (S1.get 0 rfl).cell 1 _ rfl
    have c2 := (S1.get 0 rfl).cell 2 _ rfl
    have c3 := (S1.get 0 rfl).cell 3 _ rfl
    have c4 := (S1.get 0 rfl).cell 4 _ rfl
    have c5 := (S1.get 0 rfl).cell 5 _ rfl
    have c6 := (S1.get 0 rfl).cell 6 _ rfl
    have p0 := (S1.get 1 rfl).cell 0 _ rfl
    have p1 := (S1.get 1 rfl).cell 1 _ rfl
    have p2 := (S1.get 1 rfl).cell 2 _ rfl
    have p3 := (S1.get 1 rfl).cell 3 _ rfl
    go_wp2
    go_ret2
    exact ⟨by rw [E.out]; rfl, S1.below⟩
  by_cases h2 : a > 8192
  · have E := Lib.hid (tell_of (beg_no wy (by rw [fir1, wi1 (by omega)]) (show (1 : Int) ≠ 0 by decide)))
    clear wy
    go_enter Tryz.func124, Tryz.ntmps124
    go_wp2_with fail
    refine (regs12_any _ ⟨2, r, h, v, a, b, c⟩).mono ?_
    rintro z w1 ⟨rfl, k1⟩
    rw [HB.out]
    have S1 := S0.call k1
    have c0 := (S1.get 0 rfl).cell 0 _ rfl
    have c1 := (S1.get 0 rfl).cell 1 _ rfl
    have c2 := (S1.get 0 rfl).cell 2 _ rfl
    have c3 := (S1.get 0 rfl).cell 3 _ rfl
    have c4 := (S1.get 0 rfl).cell 4 _ rfl
    have c5 := (S1.get 0 rfl).cell 5 _ rfl
    have c6 := (S1.get 0 rfl).cell 6 _ rfl
    have p0 := (S1.get 1 rfl).cell 0 _ rfl
    have p1 := (S1.get 1 rfl).cell 1 _ rfl
    have p2 := (S1.get 1 rfl).cell 2 _ rfl
    have p3 := (S1.get 1 rfl).cell 3 _ rfl
    go_wp2
    go_ret2
    exact ⟨by rw [E.out]; rfl, S1.below⟩
  · have E := Lib.hid (tell_of (beg_yes wy (by rw [fir1, wi0 (by omega) (by omega)])))
    clear wy
    go_enter Tryz.func124, Tryz.ntmps124
    go_wp2_with fail
    refine (regs12_any _ ⟨2, r, h, v, a, b, c⟩).mono ?_
    rintro z w1 ⟨rfl, k1⟩
    rw [HB.out]
    have S1 := S0.call k1
    have c0 := (S1.get 0 rfl).cell 0 _ rfl
    have c1 := (S1.get 0 rfl).cell 1 _ rfl
    have c2 := (S1.get 0 rfl).cell 2 _ rfl
    have c3 := (S1.get 0 rfl).cell 3 _ rfl
    have c4 := (S1.get 0 rfl).cell 4 _ rfl
    have c5 := (S1.get 0 rfl).cell 5 _ rfl
    have c6 := (S1.get 0 rfl).cell 6 _ rfl
    have p0 := (S1.get 1 rfl).cell 0 _ rfl
    have p1 := (S1.get 1 rfl).cell 1 _ rfl
    have p2 := (S1.get 1 rfl).cell 2 _ rfl
    have p3 := (S1.get 1 rfl).cell 3 _ rfl
    go_wp2
    go_ret2
    exact ⟨by rw [E.out]; rfl, S1.below⟩

set_option maxHeartbeats 8000000 in
theorem pc3_any (u : Value) (L : List Chain.E) (hd vl n t i j r h v a b c : Int) (w : World) (n1 : 1 ≤ n) (hL : Chain.Sr w u L) (d1 : 0 ≤ hd) (d2 : hd ≤ 18446744073709551615) (v1 : 0 ≤ vl) (v2 : vl ≤ 18446744073709551615) (hb : badC ⟨3, r, h, v, a, b, c⟩ = false) : Calls Tryz.prog 124 #[planV n t i j, u, callV ⟨3, r, h, v, a, b, c⟩, .int .u64 hd, .int .u64 vl] w fun e w' => e = tell2 (begV n L ⟨3, r, h, v, a, b, c⟩ hd vl).code (begV n L ⟨3, r, h, v, a, b, c⟩ hd vl).pc ∧ Below w.heap.size w w' := by
  have S0 := ((Held.St.start w).new [.int .i64 n, .int .i64 t, .int .i64 i, .int .i64 j] 23).new [.int .u8 3, .int .u8 r, .int .u8 h, .int .u8 v, .int .i64 a, .int .i64 b, .int .i64 c] 37
  simp only [World.size_alloc] at S0
  have c0 := (S0.get 0 rfl).cell 0 _ rfl
  have c1 := (S0.get 0 rfl).cell 1 _ rfl
  have c2 := (S0.get 0 rfl).cell 2 _ rfl
  have c3 := (S0.get 0 rfl).cell 3 _ rfl
  have c4 := (S0.get 0 rfl).cell 4 _ rfl
  have c5 := (S0.get 0 rfl).cell 5 _ rfl
  have c6 := (S0.get 0 rfl).cell 6 _ rfl
  have p0 := (S0.get 1 rfl).cell 0 _ rfl
  have p1 := (S0.get 1 rfl).cell 1 _ rfl
  have p2 := (S0.get 1 rfl).cell 2 _ rfl
  have p3 := (S0.get 1 rfl).cell 3 _ rfl
  obtain ⟨A, cc, rfl, l1, l2, _⟩ := id hL
  have HB := Lib.hid hb
  have wy : wayV n L ⟨3, r, h, v, a, b, c⟩ hd vl = ⟨1, [wiE a 1 (n - 1) 11]⟩ := rfl
  clear hb
  by_cases hs : 1 ≤ a ∧ a < n
  rotate_left
  · have E := Lib.hid (tell_of (beg_no wy (by rw [fir1, wi1 (by omega)]) (show (11 : Int) ≠ 0 by decide)))
    have HS := Lib.hid (show scB n a = false from decide_eq_false hs)
    clear wy
    go_enter Tryz.func124, Tryz.ntmps124
    go_wp2_with fail
    refine (regs12_any _ ⟨3, r, h, v, a, b, c⟩).mono ?_
    rintro z w1 ⟨rfl, k1⟩
    rw [HB.out]
    have S1 := S0.call k1
    have c0 := (S1.get 0 rfl).cell 0 _ rfl
    have c1 := (S1.get 0 rfl).cell 1 _ rfl
    have c2 := (S1.get 0 rfl).cell 2 _ rfl
    have c3 := (S1.get 0 rfl).cell 3 _ rfl
    have c4 := (S1.get 0 rfl).cell 4 _ rfl
    have c5 := (S1.get 0 rfl).cell 5 _ rfl
    have c6 := (S1.get 0 rfl).cell 6 _ rfl
    have p0 := (S1.get 1 rfl).cell 0 _ rfl
    have p1 := (S1.get 1 rfl).cell 1 _ rfl
    have p2 := (S1.get 1 rfl).cell 2 _ rfl
    have p3 := (S1.get 1 rfl).cell 3 _ rfl
    go_wp2_with fail
    refine (scope3_any n t i j 3 r h v a b c _).mono ?_
    rintro z w2 ⟨rfl, k2⟩
    rw [HS.out]
    have S2 := S1.call k2
    go_wp2
    go_ret2
    exact ⟨by rw [E.out]; rfl, S2.below⟩
  · have E := Lib.hid (tell_of (beg_yes wy (by rw [fir1, wi0 (by omega) (by omega)])))
    have HS := Lib.hid (show scB n a = true from decide_eq_true hs)
    clear wy
    go_enter Tryz.func124, Tryz.ntmps124
    go_wp2_with fail
    refine (regs12_any _ ⟨3, r, h, v, a, b, c⟩).mono ?_
    rintro z w1 ⟨rfl, k1⟩
    rw [HB.out]
    have S1 := S0.call k1
    have c0 := (S1.get 0 rfl).cell 0 _ rfl
    have c1 := (S1.get 0 rfl).cell 1 _ rfl
    have c2 := (S1.get 0 rfl).cell 2 _ rfl
    have c3 := (S1.get 0 rfl).cell 3 _ rfl
    have c4 := (S1.get 0 rfl).cell 4 _ rfl
    have c5 := (S1.get 0 rfl).cell 5 _ rfl
    have c6 := (S1.get 0 rfl).cell 6 _ rfl
    have p0 := (S1.get 1 rfl).cell 0 _ rfl
    have p1 := (S1.get 1 rfl).cell 1 _ rfl
    have p2 := (S1.get 1 rfl).cell 2 _ rfl
    have p3 := (S1.get 1 rfl).cell 3 _ rfl
    go_wp2_with fail
    refine (scope3_any n t i j 3 r h v a b c _).mono ?_
    rintro z w2 ⟨rfl, k2⟩
    rw [HS.out]
    have S2 := S1.call k2
    go_wp2
    go_ret2
    exact ⟨by rw [E.out]; rfl, S2.below⟩

set_option maxHeartbeats 8000000 in
theorem pc4_any (u : Value) (L : List Chain.E) (hd vl n t i j r h v a b c : Int) (w : World) (n1 : 1 ≤ n) (hL : Chain.Sr w u L) (d1 : 0 ≤ hd) (d2 : hd ≤ 18446744073709551615) (v1 : 0 ≤ vl) (v2 : vl ≤ 18446744073709551615) (hb : badC ⟨4, r, h, v, a, b, c⟩ = false) : Calls Tryz.prog 124 #[planV n t i j, u, callV ⟨4, r, h, v, a, b, c⟩, .int .u64 hd, .int .u64 vl] w fun e w' => e = tell2 (begV n L ⟨4, r, h, v, a, b, c⟩ hd vl).code (begV n L ⟨4, r, h, v, a, b, c⟩ hd vl).pc ∧ Below w.heap.size w w' := by
  have S0 := ((Held.St.start w).new [.int .i64 n, .int .i64 t, .int .i64 i, .int .i64 j] 23).new [.int .u8 4, .int .u8 r, .int .u8 h, .int .u8 v, .int .i64 a, .int .i64 b, .int .i64 c] 37
  simp only [World.size_alloc] at S0
  have c0 := (S0.get 0 rfl).cell 0 _ rfl
  have c1 := (S0.get 0 rfl).cell 1 _ rfl
  have c2 := (S0.get 0 rfl).cell 2 _ rfl
  have c3 := (S0.get 0 rfl).cell 3 _ rfl
  have c4 := (S0.get 0 rfl).cell 4 _ rfl
  have c5 := (S0.get 0 rfl).cell 5 _ rfl
  have c6 := (S0.get 0 rfl).cell 6 _ rfl
  have p0 := (S0.get 1 rfl).cell 0 _ rfl
  have p1 := (S0.get 1 rfl).cell 1 _ rfl
  have p2 := (S0.get 1 rfl).cell 2 _ rfl
  have p3 := (S0.get 1 rfl).cell 3 _ rfl
  obtain ⟨A, cc, rfl, l1, l2, _⟩ := id hL
  have HB := Lib.hid hb
  obtain ⟨B, hB⟩ : ∃ B, begV n L ⟨4, r, h, v, a, b, c⟩ hd vl = B := ⟨_, rfl⟩
  have HE := Lib.hid hB
  clear hb hB
  go_enter Tryz.func124, Tryz.ntmps124
  go_wp2_with fail
  refine (regs12_any _ ⟨4, r, h, v, a, b, c⟩).mono ?_
  rintro z w1 ⟨rfl, k1⟩
  rw [HB.out]
  have S1 := S0.call k1
  have c0 := (S1.get 0 rfl).cell 0 _ rfl
  have c1 := (S1.get 0 rfl).cell 1 _ rfl
  have c2 := (S1.get 0 rfl).cell 2 _ rfl
  have c3 := (S1.get 0 rfl).cell 3 _ rfl
  have c4 := (S1.get 0 rfl).cell 4 _ rfl
  have c5 := (S1.get 0 rfl).cell 5 _ rfl
  have c6 := (S1.get 0 rfl).cell 6 _ rfl
  have p0 := (S1.get 1 rfl).cell 0 _ rfl
  have p1 := (S1.get 1 rfl).cell 1 _ rfl
  have p2 := (S1.get 1 rfl).cell 2 _ rfl
  have p3 := (S1.get 1 rfl).cell 3 _ rfl
  go_wp2_with fail
  refine (goes4_any _ L hd vl n t i j r h v a b c _ (hL.below S1.below)).mono ?_
  rintro z w2 ⟨rfl, k2⟩
  rw [show tell2 _ _ = tell2 B.code B.pc from by rw [HE.out]]
  have S2 := S1.call k2
  go_wp2
  go_ret2
  exact ⟨by rw [HE.out]; rfl, S2.below⟩

set_option maxHeartbeats 8000000 in
theorem pc6_any (u : Value) (L : List Chain.E) (hd vl n t i j r h v a b c : Int) (w : World) (n1 : 1 ≤ n) (hL : Chain.Sr w u L) (d1 : 0 ≤ hd) (d2 : hd ≤ 18446744073709551615) (v1 : 0 ≤ vl) (v2 : vl ≤ 18446744073709551615) (hb : badC ⟨6, r, h, v, a, b, c⟩ = false) : Calls Tryz.prog 124 #[planV n t i j, u, callV ⟨6, r, h, v, a, b, c⟩, .int .u64 hd, .int .u64 vl] w fun e w' => e = tell2 (begV n L ⟨6, r, h, v, a, b, c⟩ hd vl).code (begV n L ⟨6, r, h, v, a, b, c⟩ hd vl).pc ∧ Below w.heap.size w w' := by
  have S0 := ((Held.St.start w).new [.int .i64 n, .int .i64 t, .int .i64 i, .int .i64 j] 23).new [.int .u8 6, .int .u8 r, .int .u8 h, .int .u8 v, .int .i64 a, .int .i64 b, .int .i64 c] 37
  simp only [World.size_alloc] at S0
  have c0 := (S0.get 0 rfl).cell 0 _ rfl
  have c1 := (S0.get 0 rfl).cell 1 _ rfl
  have c2 := (S0.get 0 rfl).cell 2 _ rfl
  have c3 := (S0.get 0 rfl).cell 3 _ rfl
  have c4 := (S0.get 0 rfl).cell 4 _ rfl
  have c5 := (S0.get 0 rfl).cell 5 _ rfl
  have c6 := (S0.get 0 rfl).cell 6 _ rfl
  have p0 := (S0.get 1 rfl).cell 0 _ rfl
  have p1 := (S0.get 1 rfl).cell 1 _ rfl
  have p2 := (S0.get 1 rfl).cell 2 _ rfl
  have p3 := (S0.get 1 rfl).cell 3 _ rfl
  obtain ⟨A, cc, rfl, l1, l2, _⟩ := id hL
  have HB := Lib.hid hb
  obtain ⟨B, hB⟩ : ∃ B, begV n L ⟨6, r, h, v, a, b, c⟩ hd vl = B := ⟨_, rfl⟩
  have HE := Lib.hid hB
  clear hb hB
  go_enter Tryz.func124, Tryz.ntmps124
  go_wp2_with fail
  refine (regs12_any _ ⟨6, r, h, v, a, b, c⟩).mono ?_
  rintro z w1 ⟨rfl, k1⟩
  rw [HB.out]
  have S1 := S0.call k1
  have c0 := (S1.get 0 rfl).cell 0 _ rfl
  have c1 := (S1.get 0 rfl).cell 1 _ rfl
  have c2 := (S1.get 0 rfl).cell 2 _ rfl
  have c3 := (S1.get 0 rfl).cell 3 _ rfl
  have c4 := (S1.get 0 rfl).cell 4 _ rfl
  have c5 := (S1.get 0 rfl).cell 5 _ rfl
  have c6 := (S1.get 0 rfl).cell 6 _ rfl
  have p0 := (S1.get 1 rfl).cell 0 _ rfl
  have p1 := (S1.get 1 rfl).cell 1 _ rfl
  have p2 := (S1.get 1 rfl).cell 2 _ rfl
  have p3 := (S1.get 1 rfl).cell 3 _ rfl
  go_wp2_with fail
  refine (goes6_any _ L hd vl n t i j r h v a b c _ n1 (hL.below S1.below)).mono ?_
  rintro z w2 ⟨rfl, k2⟩
  rw [show tell2 _ _ = tell2 B.code B.pc from by rw [HE.out]]
  have S2 := S1.call k2
  go_wp2
  go_ret2
  exact ⟨by rw [HE.out]; rfl, S2.below⟩

set_option maxHeartbeats 8000000 in
theorem pc5_any (u : Value) (L : List Chain.E) (hd vl n t i j r h v a b c : Int) (w : World) (n1 : 1 ≤ n) (hL : Chain.Sr w u L) (d1 : 0 ≤ hd) (d2 : hd ≤ 18446744073709551615) (v1 : 0 ≤ vl) (v2 : vl ≤ 18446744073709551615) (hb : badC ⟨5, r, h, v, a, b, c⟩ = false) : Calls Tryz.prog 124 #[planV n t i j, u, callV ⟨5, r, h, v, a, b, c⟩, .int .u64 hd, .int .u64 vl] w fun e w' => e = tell2 (begV n L ⟨5, r, h, v, a, b, c⟩ hd vl).code (begV n L ⟨5, r, h, v, a, b, c⟩ hd vl).pc ∧ Below w.heap.size w w' := by
  have S0 := ((Held.St.start w).new [.int .i64 n, .int .i64 t, .int .i64 i, .int .i64 j] 23).new [.int .u8 5, .int .u8 r, .int .u8 h, .int .u8 v, .int .i64 a, .int .i64 b, .int .i64 c] 37
  simp only [World.size_alloc] at S0
  have c0 := (S0.get 0 rfl).cell 0 _ rfl
  have c1 := (S0.get 0 rfl).cell 1 _ rfl
  have c2 := (S0.get 0 rfl).cell 2 _ rfl
  have c3 := (S0.get 0 rfl).cell 3 _ rfl
  have c4 := (S0.get 0 rfl).cell 4 _ rfl
  have c5 := (S0.get 0 rfl).cell 5 _ rfl
  have c6 := (S0.get 0 rfl).cell 6 _ rfl
  have p0 := (S0.get 1 rfl).cell 0 _ rfl
  have p1 := (S0.get 1 rfl).cell 1 _ rfl
  have p2 := (S0.get 1 rfl).cell 2 _ rfl
  have p3 := (S0.get 1 rfl).cell 3 _ rfl
  obtain ⟨A, cc, rfl, l1, l2, _⟩ := id hL
  have HB := Lib.hid hb
  obtain ⟨B, hB⟩ : ∃ B, begV n L ⟨5, r, h, v, a, b, c⟩ hd vl = B := ⟨_, rfl⟩
  have HE := Lib.hid hB
  clear hb hB
  go_enter Tryz.func124, Tryz.ntmps124
  go_wp2_with fail
  refine (regs12_any _ ⟨5, r, h, v, a, b, c⟩).mono ?_
  rintro z w1 ⟨rfl, k1⟩
  rw [HB.out]
  have S1 := S0.call k1
  have c0 := (S1.get 0 rfl).cell 0 _ rfl
  have c1 := (S1.get 0 rfl).cell 1 _ rfl
  have c2 := (S1.get 0 rfl).cell 2 _ rfl
  have c3 := (S1.get 0 rfl).cell 3 _ rfl
  have c4 := (S1.get 0 rfl).cell 4 _ rfl
  have c5 := (S1.get 0 rfl).cell 5 _ rfl
  have c6 := (S1.get 0 rfl).cell 6 _ rfl
  have p0 := (S1.get 1 rfl).cell 0 _ rfl
  have p1 := (S1.get 1 rfl).cell 1 _ rfl
  have p2 := (S1.get 1 rfl).cell 2 _ rfl
  have p3 := (S1.get 1 rfl).cell 3 _ rfl
  go_wp2_with fail
  refine (exit3_any _ L hd vl n r h v a b c _ (hL.below S1.below)).mono ?_
  rintro z w2 ⟨rfl, k2⟩
  rw [show tell2 _ _ = tell2 B.code B.pc from by rw [HE.out]]
  have S2 := S1.call k2
  go_wp2
  go_ret2
  exact ⟨by rw [HE.out]; rfl, S2.below⟩

set_option maxHeartbeats 8000000 in
theorem pc10_any (u : Value) (L : List Chain.E) (hd vl n t i j r h v a b c : Int) (w : World) (n1 : 1 ≤ n) (hL : Chain.Sr w u L) (d1 : 0 ≤ hd) (d2 : hd ≤ 18446744073709551615) (v1 : 0 ≤ vl) (v2 : vl ≤ 18446744073709551615) (hb : badC ⟨10, r, h, v, a, b, c⟩ = false) : Calls Tryz.prog 124 #[planV n t i j, u, callV ⟨10, r, h, v, a, b, c⟩, .int .u64 hd, .int .u64 vl] w fun e w' => e = tell2 (begV n L ⟨10, r, h, v, a, b, c⟩ hd vl).code (begV n L ⟨10, r, h, v, a, b, c⟩ hd vl).pc ∧ Below w.heap.size w w' := by
  have S0 := ((Held.St.start w).new [.int .i64 n, .int .i64 t, .int .i64 i, .int .i64 j] 23).new [.int .u8 10, .int .u8 r, .int .u8 h, .int .u8 v, .int .i64 a, .int .i64 b, .int .i64 c] 37
  simp only [World.size_alloc] at S0
  have c0 := (S0.get 0 rfl).cell 0 _ rfl
  have c1 := (S0.get 0 rfl).cell 1 _ rfl
  have c2 := (S0.get 0 rfl).cell 2 _ rfl
  have c3 := (S0.get 0 rfl).cell 3 _ rfl
  have c4 := (S0.get 0 rfl).cell 4 _ rfl
  have c5 := (S0.get 0 rfl).cell 5 _ rfl
  have c6 := (S0.get 0 rfl).cell 6 _ rfl
  have p0 := (S0.get 1 rfl).cell 0 _ rfl
  have p1 := (S0.get 1 rfl).cell 1 _ rfl
  have p2 := (S0.get 1 rfl).cell 2 _ rfl
  have p3 := (S0.get 1 rfl).cell 3 _ rfl
  obtain ⟨A, cc, rfl, l1, l2, _⟩ := id hL
  have HB := Lib.hid hb
  have g : rgE [r] = 0 := by
    have e : badR r = false := hb
    unfold rgE
    rw [show [r].any badR = (badR r || false) from rfl, e]
    rfl
  obtain ⟨B, hB⟩ : ∃ B, begV n L ⟨10, r, h, v, a, b, c⟩ hd vl = B := ⟨_, rfl⟩
  have HE := Lib.hid hB
  clear hb hB
  go_enter Tryz.func124, Tryz.ntmps124
  go_wp2_with fail
  refine (regs12_any _ ⟨10, r, h, v, a, b, c⟩).mono ?_
  rintro z w1 ⟨rfl, k1⟩
  rw [HB.out]
  have S1 := S0.call k1
  have c0 := (S1.get 0 rfl).cell 0 _ rfl
  have c1 := (S1.get 0 rfl).cell 1 _ rfl
  have c2 := (S1.get 0 rfl).cell 2 _ rfl
  have c3 := (S1.get 0 rfl).cell 3 _ rfl
  have c4 := (S1.get 0 rfl).cell 4 _ rfl
  have c5 := (S1.get 0 rfl).cell 5 _ rfl
  have c6 := (S1.get 0 rfl).cell 6 _ rfl
  have p0 := (S1.get 1 rfl).cell 0 _ rfl
  have p1 := (S1.get 1 rfl).cell 1 _ rfl
  have p2 := (S1.get 1 rfl).cell 2 _ rfl
  have p3 := (S1.get 1 rfl).cell 3 _ rfl
  go_wp2_with fail
  refine (gate10_any _ L hd vl n t i j r h v a b c _ g (hL.below S1.below) v1 v2).mono ?_
  rintro z w2 ⟨rfl, k2⟩
  rw [show tell2 _ _ = tell2 B.code B.pc from by rw [HE.out]]
  have S2 := S1.call k2
  go_wp2
  go_ret2
  exact ⟨by rw [HE.out]; rfl, S2.below⟩

set_option maxHeartbeats 8000000 in
theorem pc11_any (u : Value) (L : List Chain.E) (hd vl n t i j r h v a b c : Int) (w : World) (n1 : 1 ≤ n) (hL : Chain.Sr w u L) (d1 : 0 ≤ hd) (d2 : hd ≤ 18446744073709551615) (v1 : 0 ≤ vl) (v2 : vl ≤ 18446744073709551615) (hb : badC ⟨11, r, h, v, a, b, c⟩ = false) : Calls Tryz.prog 124 #[planV n t i j, u, callV ⟨11, r, h, v, a, b, c⟩, .int .u64 hd, .int .u64 vl] w fun e w' => e = tell2 (begV n L ⟨11, r, h, v, a, b, c⟩ hd vl).code (begV n L ⟨11, r, h, v, a, b, c⟩ hd vl).pc ∧ Below w.heap.size w w' := by
  have S0 := ((Held.St.start w).new [.int .i64 n, .int .i64 t, .int .i64 i, .int .i64 j] 23).new [.int .u8 11, .int .u8 r, .int .u8 h, .int .u8 v, .int .i64 a, .int .i64 b, .int .i64 c] 37
  simp only [World.size_alloc] at S0
  have c0 := (S0.get 0 rfl).cell 0 _ rfl
  have c1 := (S0.get 0 rfl).cell 1 _ rfl
  have c2 := (S0.get 0 rfl).cell 2 _ rfl
  have c3 := (S0.get 0 rfl).cell 3 _ rfl
  have c4 := (S0.get 0 rfl).cell 4 _ rfl
  have c5 := (S0.get 0 rfl).cell 5 _ rfl
  have c6 := (S0.get 0 rfl).cell 6 _ rfl
  have p0 := (S0.get 1 rfl).cell 0 _ rfl
  have p1 := (S0.get 1 rfl).cell 1 _ rfl
  have p2 := (S0.get 1 rfl).cell 2 _ rfl
  have p3 := (S0.get 1 rfl).cell 3 _ rfl
  obtain ⟨A, cc, rfl, l1, l2, _⟩ := id hL
  have HB := Lib.hid hb
  have g : rgE [v] = 0 := by
    have e : badR v = false := hb
    unfold rgE
    rw [show [v].any badR = (badR v || false) from rfl, e]
    rfl
  obtain ⟨B, hB⟩ : ∃ B, begV n L ⟨11, r, h, v, a, b, c⟩ hd vl = B := ⟨_, rfl⟩
  have HE := Lib.hid hB
  clear hb hB
  go_enter Tryz.func124, Tryz.ntmps124
  go_wp2_with fail
  refine (regs12_any _ ⟨11, r, h, v, a, b, c⟩).mono ?_
  rintro z w1 ⟨rfl, k1⟩
  rw [HB.out]
  have S1 := S0.call k1
  have c0 := (S1.get 0 rfl).cell 0 _ rfl
  have c1 := (S1.get 0 rfl).cell 1 _ rfl
  have c2 := (S1.get 0 rfl).cell 2 _ rfl
  have c3 := (S1.get 0 rfl).cell 3 _ rfl
  have c4 := (S1.get 0 rfl).cell 4 _ rfl
  have c5 := (S1.get 0 rfl).cell 5 _ rfl
  have c6 := (S1.get 0 rfl).cell 6 _ rfl
  have p0 := (S1.get 1 rfl).cell 0 _ rfl
  have p1 := (S1.get 1 rfl).cell 1 _ rfl
  have p2 := (S1.get 1 rfl).cell 2 _ rfl
  have p3 := (S1.get 1 rfl).cell 3 _ rfl
  go_wp2_with fail
  refine (gate11_any _ L hd vl n t i j r h v a b c _ g (hL.below S1.below) v1 v2).mono ?_
  rintro z w2 ⟨rfl, k2⟩
  rw [show tell2 _ _ = tell2 B.code B.pc from by rw [HE.out]]
  have S2 := S1.call k2
  go_wp2
  go_ret2
  exact ⟨by rw [HE.out]; rfl, S2.below⟩

set_option maxHeartbeats 8000000 in
theorem pc8_any (u : Value) (L : List Chain.E) (hd vl n t i j r h v a b c : Int) (w : World) (n1 : 1 ≤ n) (hL : Chain.Sr w u L) (d1 : 0 ≤ hd) (d2 : hd ≤ 18446744073709551615) (v1 : 0 ≤ vl) (v2 : vl ≤ 18446744073709551615) (hb : badC ⟨8, r, h, v, a, b, c⟩ = false) : Calls Tryz.prog 124 #[planV n t i j, u, callV ⟨8, r, h, v, a, b, c⟩, .int .u64 hd, .int .u64 vl] w fun e w' => e = tell2 (begV n L ⟨8, r, h, v, a, b, c⟩ hd vl).code (begV n L ⟨8, r, h, v, a, b, c⟩ hd vl).pc ∧ Below w.heap.size w w' := by
  have S0 := ((Held.St.start w).new [.int .i64 n, .int .i64 t, .int .i64 i, .int .i64 j] 23).new [.int .u8 8, .int .u8 r, .int .u8 h, .int .u8 v, .int .i64 a, .int .i64 b, .int .i64 c] 37
  simp only [World.size_alloc] at S0
  have c0 := (S0.get 0 rfl).cell 0 _ rfl
  have c1 := (S0.get 0 rfl).cell 1 _ rfl
  have c2 := (S0.get 0 rfl).cell 2 _ rfl
  have c3 := (S0.get 0 rfl).cell 3 _ rfl
  have c4 := (S0.get 0 rfl).cell 4 _ rfl
  have c5 := (S0.get 0 rfl).cell 5 _ rfl
  have c6 := (S0.get 0 rfl).cell 6 _ rfl
  have p0 := (S0.get 1 rfl).cell 0 _ rfl
  have p1 := (S0.get 1 rfl).cell 1 _ rfl
  have p2 := (S0.get 1 rfl).cell 2 _ rfl
  have p3 := (S0.get 1 rfl).cell 3 _ rfl
  obtain ⟨A, cc, rfl, l1, l2, _⟩ := id hL
  have HB := Lib.hid hb
  have g : rgE [r, h] = 0 := by
    have e : (badR r || badR h) = false := hb
    unfold rgE
    rw [show [r, h].any badR = (badR r || (badR h || false)) from rfl, Bool.or_false, e]
    rfl
  have wy : wayV n L ⟨8, r, h, v, a, b, c⟩ hd vl = ⟨5, [rgE [r, h], ckV n L hd]⟩ := rfl
  have ff : firE [rgE [r, h], ckV n L hd] = ckV n L hd := by rw [g, fir_c0, fir1]
  clear hb g
  by_cases k0 : ckV n L hd = 0
  · have E := Lib.hid (tell_of (beg_yes wy (ff.trans k0)))
    have HK := Lib.hid k0
    clear wy ff k0
    go_enter Tryz.func124, Tryz.ntmps124
    go_wp2_with fail
    refine (regs12_any _ ⟨8, r, h, v, a, b, c⟩).mono ?_
    rintro z w1 ⟨rfl, k1⟩
    rw [HB.out]
    have S1 := S0.call k1
    have c0 := (S1.get 0 rfl).cell 0 _ rfl
    have c1 := (S1.get 0 rfl).cell 1 _ rfl
    have c2 := (S1.get 0 rfl).cell 2 _ rfl
    have c3 := (S1.get 0 rfl).cell 3 _ rfl
    have c4 := (S1.get 0 rfl).cell 4 _ rfl
    have c5 := (S1.get 0 rfl).cell 5 _ rfl
    have c6 := (S1.get 0 rfl).cell 6 _ rfl
    have p0 := (S1.get 1 rfl).cell 0 _ rfl
    have p1 := (S1.get 1 rfl).cell 1 _ rfl
    have p2 := (S1.get 1 rfl).cell 2 _ rfl
    have p3 := (S1.get 1 rfl).cell 3 _ rfl
    go_wp2_with fail
    refine (refcheck3_any _ L n t i j hd _ (hL.below S1.below) d1 d2).mono ?_
    rintro z w3 ⟨rfl, k3⟩
    unfold ckEnd
    rw [HK.out]
    have S3 := (S1.call k3).alloc (.cells #[.int .i64 (ckR n L hd).s, .int .i64 (ckR n L hd).e, .int .i64 (ckR n L hd).a] 154)
    go_wp2
    go_ret2
    exact ⟨by rw [E.out]; rfl, S3.below⟩
  · have E := Lib.hid (tell_of (beg_no wy ff k0))
    obtain ⟨x, hx⟩ : ∃ x, ckV n L hd = x := ⟨_, rfl⟩
    have z3 : (x == 0) = false := by rw [← hx]; simpa using k0
    have z4 : (x != 0) = true := by rw [← hx]; simpa using k0
    rw [hx] at E
    have HK := Lib.hid hx
    clear wy ff k0 hx
    go_enter Tryz.func124, Tryz.ntmps124
    go_wp2_with fail
    refine (regs12_any _ ⟨8, r, h, v, a, b, c⟩).mono ?_
    rintro z w1 ⟨rfl, k1⟩
    rw [HB.out]
    have S1 := S0.call k1
    have c0 := (S1.get 0 rfl).cell 0 _ rfl
    have c1 := (S1.get 0 rfl).cell 1 _ rfl
    have c2 := (S1.get 0 rfl).cell 2 _ rfl
    have c3 := (S1.get 0 rfl).cell 3 _ rfl
    have c4 := (S1.get 0 rfl).cell 4 _ rfl
    have c5 := (S1.get 0 rfl).cell 5 _ rfl
    have c6 := (S1.get 0 rfl).cell 6 _ rfl
    have p0 := (S1.get 1 rfl).cell 0 _ rfl
    have p1 := (S1.get 1 rfl).cell 1 _ rfl
    have p2 := (S1.get 1 rfl).cell 2 _ rfl
    have p3 := (S1.get 1 rfl).cell 3 _ rfl
    go_wp2_with fail
    refine (refcheck3_any _ L n t i j hd _ (hL.below S1.below) d1 d2).mono ?_
    rintro z w3 ⟨rfl, k3⟩
    unfold ckEnd
    rw [HK.out]
    have S3 := (S1.call k3).alloc (.cells #[.int .i64 (ckR n L hd).s, .int .i64 (ckR n L hd).e, .int .i64 (ckR n L hd).a] 154)
    go_wp2
    go_ret2
    exact ⟨by rw [E.out]; rfl, S3.below⟩

set_option maxHeartbeats 8000000 in
theorem pc9_any (u : Value) (L : List Chain.E) (hd vl n t i j r h v a b c : Int) (w : World) (n1 : 1 ≤ n) (hL : Chain.Sr w u L) (d1 : 0 ≤ hd) (d2 : hd ≤ 18446744073709551615) (v1 : 0 ≤ vl) (v2 : vl ≤ 18446744073709551615) (hb : badC ⟨9, r, h, v, a, b, c⟩ = false) : Calls Tryz.prog 124 #[planV n t i j, u, callV ⟨9, r, h, v, a, b, c⟩, .int .u64 hd, .int .u64 vl] w fun e w' => e = tell2 (begV n L ⟨9, r, h, v, a, b, c⟩ hd vl).code (begV n L ⟨9, r, h, v, a, b, c⟩ hd vl).pc ∧ Below w.heap.size w w' := by
  have S0 := ((Held.St.start w).new [.int .i64 n, .int .i64 t, .int .i64 i, .int .i64 j] 23).new [.int .u8 9, .int .u8 r, .int .u8 h, .int .u8 v, .int .i64 a, .int .i64 b, .int .i64 c] 37
  simp only [World.size_alloc] at S0
  have c0 := (S0.get 0 rfl).cell 0 _ rfl
  have c1 := (S0.get 0 rfl).cell 1 _ rfl
  have c2 := (S0.get 0 rfl).cell 2 _ rfl
  have c3 := (S0.get 0 rfl).cell 3 _ rfl
  have c4 := (S0.get 0 rfl).cell 4 _ rfl
  have c5 := (S0.get 0 rfl).cell 5 _ rfl
  have c6 := (S0.get 0 rfl).cell 6 _ rfl
  have p0 := (S0.get 1 rfl).cell 0 _ rfl
  have p1 := (S0.get 1 rfl).cell 1 _ rfl
  have p2 := (S0.get 1 rfl).cell 2 _ rfl
  have p3 := (S0.get 1 rfl).cell 3 _ rfl
  obtain ⟨A, cc, rfl, l1, l2, _⟩ := id hL
  have HB := Lib.hid hb
  have g : rgE [h, v] = 0 := by
    have e : (badR h || badR v) = false := hb
    unfold rgE
    rw [show [h, v].any badR = (badR h || (badR v || false)) from rfl, Bool.or_false, e]
    rfl
  have wy : wayV n L ⟨9, r, h, v, a, b, c⟩ hd vl = ⟨5, [rgE [h, v], ckV n L hd]⟩ := rfl
  have ff : firE [rgE [h, v], ckV n L hd] = ckV n L hd := by rw [g, fir_c0, fir1]
  clear hb g
  by_cases k0 : ckV n L hd = 0
  · have E := Lib.hid (tell_of (beg_yes wy (ff.trans k0)))
    have HK := Lib.hid k0
    clear wy ff k0
    go_enter Tryz.func124, Tryz.ntmps124
    go_wp2_with fail
    refine (regs12_any _ ⟨9, r, h, v, a, b, c⟩).mono ?_
    rintro z w1 ⟨rfl, k1⟩
    rw [HB.out]
    have S1 := S0.call k1
    have c0 := (S1.get 0 rfl).cell 0 _ rfl
    have c1 := (S1.get 0 rfl).cell 1 _ rfl
    have c2 := (S1.get 0 rfl).cell 2 _ rfl
    have c3 := (S1.get 0 rfl).cell 3 _ rfl
    have c4 := (S1.get 0 rfl).cell 4 _ rfl
    have c5 := (S1.get 0 rfl).cell 5 _ rfl
    have c6 := (S1.get 0 rfl).cell 6 _ rfl
    have p0 := (S1.get 1 rfl).cell 0 _ rfl
    have p1 := (S1.get 1 rfl).cell 1 _ rfl
    have p2 := (S1.get 1 rfl).cell 2 _ rfl
    have p3 := (S1.get 1 rfl).cell 3 _ rfl
    go_wp2_with fail
    refine (refcheck3_any _ L n t i j hd _ (hL.below S1.below) d1 d2).mono ?_
    rintro z w3 ⟨rfl, k3⟩
    unfold ckEnd
    rw [HK.out]
    have S3 := (S1.call k3).alloc (.cells #[.int .i64 (ckR n L hd).s, .int .i64 (ckR n L hd).e, .int .i64 (ckR n L hd).a] 154)
    go_wp2
    go_ret2
    exact ⟨by rw [E.out]; rfl, S3.below⟩
  · have E := Lib.hid (tell_of (beg_no wy ff k0))
    obtain ⟨x, hx⟩ : ∃ x, ckV n L hd = x := ⟨_, rfl⟩
    have z3 : (x == 0) = false := by rw [← hx]; simpa using k0
    have z4 : (x != 0) = true := by rw [← hx]; simpa using k0
    rw [hx] at E
    have HK := Lib.hid hx
    clear wy ff k0 hx
    go_enter Tryz.func124, Tryz.ntmps124
    go_wp2_with fail
    refine (regs12_any _ ⟨9, r, h, v, a, b, c⟩).mono ?_
    rintro z w1 ⟨rfl, k1⟩
    rw [HB.out]
    have S1 := S0.call k1
    have c0 := (S1.get 0 rfl).cell 0 _ rfl
    have c1 := (S1.get 0 rfl).cell 1 _ rfl
    have c2 := (S1.get 0 rfl).cell 2 _ rfl
    have c3 := (S1.get 0 rfl).cell 3 _ rfl
    have c4 := (S1.get 0 rfl).cell 4 _ rfl
    have c5 := (S1.get 0 rfl).cell 5 _ rfl
    have c6 := (S1.get 0 rfl).cell 6 _ rfl
    have p0 := (S1.get 1 rfl).cell 0 _ rfl
    have p1 := (S1.get 1 rfl).cell 1 _ rfl
    have p2 := (S1.get 1 rfl).cell 2 _ rfl
    have p3 := (S1.get 1 rfl).cell 3 _ rfl
    go_wp2_with fail
    refine (refcheck3_any _ L n t i j hd _ (hL.below S1.below) d1 d2).mono ?_
    rintro z w3 ⟨rfl, k3⟩
    unfold ckEnd
    rw [HK.out]
    have S3 := (S1.call k3).alloc (.cells #[.int .i64 (ckR n L hd).s, .int .i64 (ckR n L hd).e, .int .i64 (ckR n L hd).a] 154)
    go_wp2
    go_ret2
    exact ⟨by rw [E.out]; rfl, S3.below⟩

set_option maxHeartbeats 8000000 in
theorem pc7_any (u : Value) (L : List Chain.E) (hd vl n t i j r h v a b c : Int) (w : World) (n1 : 1 ≤ n) (hL : Chain.Sr w u L) (d1 : 0 ≤ hd) (d2 : hd ≤ 18446744073709551615) (v1 : 0 ≤ vl) (v2 : vl ≤ 18446744073709551615) (hb : badC ⟨7, r, h, v, a, b, c⟩ = false) : Calls Tryz.prog 124 #[planV n t i j, u, callV ⟨7, r, h, v, a, b, c⟩, .int .u64 hd, .int .u64 vl] w fun e w' => e = tell2 (begV n L ⟨7, r, h, v, a, b, c⟩ hd vl).code (begV n L ⟨7, r, h, v, a, b, c⟩ hd vl).pc ∧ Below w.heap.size w w' := by
  have S0 := ((Held.St.start w).new [.int .i64 n, .int .i64 t, .int .i64 i, .int .i64 j] 23).new [.int .u8 7, .int .u8 r, .int .u8 h, .int .u8 v, .int .i64 a, .int .i64 b, .int .i64 c] 37
  simp only [World.size_alloc] at S0
  have c0 := (S0.get 0 rfl).cell 0 _ rfl
  have c1 := (S0.get 0 rfl).cell 1 _ rfl
  have c2 := (S0.get 0 rfl).cell 2 _ rfl
  have c3 := (S0.get 0 rfl).cell 3 _ rfl
  have c4 := (S0.get 0 rfl).cell 4 _ rfl
  have c5 := (S0.get 0 rfl).cell 5 _ rfl
  have c6 := (S0.get 0 rfl).cell 6 _ rfl
  have p0 := (S0.get 1 rfl).cell 0 _ rfl
  have p1 := (S0.get 1 rfl).cell 1 _ rfl
  have p2 := (S0.get 1 rfl).cell 2 _ rfl
  have p3 := (S0.get 1 rfl).cell 3 _ rfl
  obtain ⟨A, cc, rfl, l1, l2, _⟩ := id hL
  have HB := Lib.hid hb
  have g : rgE [r] = 0 := by
    have e : badR r = false := hb
    unfold rgE
    rw [show [r].any badR = (badR r || false) from rfl, e]
    rfl
  have wy : wayV n L ⟨7, r, h, v, a, b, c⟩ hd vl = ⟨5, [rgE [r], (Heads.wordsV a b).err, wiE c 0 7 1]⟩ := rfl
  clear hb
  obtain ⟨y, hy⟩ : ∃ y, Heads.wordsV a b = y := ⟨_, rfl⟩
  have ye : y.err = 0 ∨ y.err = 1 := by
    rw [← hy]
    unfold Heads.wordsV
    split
    · exact .inl rfl
    · exact .inr rfl
  rw [hy] at wy
  have HW := Lib.hid hy
  clear hy
  obtain ⟨yn, yr⟩ := y
  dsimp only at ye wy
  rcases ye with rfl | rfl
  rotate_left
  · have E := Lib.hid (tell_of (beg_no wy (by rw [g, fir_c0, fir_c _ (show (1 : Int) ≠ 0 by decide)]) (show (1 : Int) ≠ 0 by decide)))
    clear wy g
    go_enter Tryz.func124, Tryz.ntmps124
    go_wp2_with fail
    refine (regs12_any _ ⟨7, r, h, v, a, b, c⟩).mono ?_
    rintro z w1 ⟨rfl, k1⟩
    rw [HB.out]
    have S1 := S0.call k1
    have c0 := (S1.get 0 rfl).cell 0 _ rfl
    have c1 := (S1.get 0 rfl).cell 1 _ rfl
    have c2 := (S1.get 0 rfl).cell 2 _ rfl
    have c3 := (S1.get 0 rfl).cell 3 _ rfl
    have c4 := (S1.get 0 rfl).cell 4 _ rfl
    have c5 := (S1.get 0 rfl).cell 5 _ rfl
    have c6 := (S1.get 0 rfl).cell 6 _ rfl
    have p0 := (S1.get 1 rfl).cell 0 _ rfl
    have p1 := (S1.get 1 rfl).cell 1 _ rfl
    have p2 := (S1.get 1 rfl).cell 2 _ rfl
    have p3 := (S1.get 1 rfl).cell 3 _ rfl
    go_wp2_with fail
    refine (Heads.refwords_any a b _).mono ?_
    rintro z w3 ⟨rfl, rfl⟩
    rw [HW.out]
    go_wp2
    go_ret2
    exact ⟨by rw [E.out]; rfl, S1.below⟩
  by_cases h1 : c < 0
  · have E := Lib.hid (tell_of (beg_no wy (by rw [g, fir_c0, fir_c0, fir1, wi1 (by omega)]) (show (1 : Int) ≠ 0 by decide)))
    clear wy g
    go_enter Tryz.func124, Tryz.ntmps124
    go_wp2_with fail
    refine (regs12_any _ ⟨7, r, h, v, a, b, c⟩).mono ?_
    rintro z w1 ⟨rfl, k1⟩
    rw [HB.out]
    have S1 := S0.call k1
    have c0 := (S1.get 0 rfl).cell 0 _ rfl
    have c1 := (S1.get 0 rfl).cell 1 _ rfl
    have c2 := (S1.get 0 rfl).cell 2 _ rfl
    have c3 := (S1.get 0 rfl).cell 3 _ rfl
    have c4 := (S1.get 0 rfl).cell 4 _ rfl
    have c5 := (S1.get 0 rfl).cell 5 _ rfl
    have c6 := (S1.get 0 rfl).cell 6 _ rfl
    have p0 := (S1.get 1 rfl).cell 0 _ rfl
    have p1 := (S1.get 1 rfl).cell 1 _ rfl
    have p2 := (S1.get 1 rfl).cell 2 _ rfl
    have p3 := (S1.get 1 rfl).cell 3 _ rfl
    go_wp2_with fail
    refine (Heads.refwords_any a b _).mono ?_
    rintro z w3 ⟨rfl, rfl⟩
    rw [HW.out]
    go_wp2
    go_ret2
    exact ⟨by rw [E.out]; rfl, S1.below⟩
  by_cases h2 : c ≥ 8
  · have E := Lib.hid (tell_of (beg_no wy (by rw [g, fir_c0, fir_c0, fir1, wi1 (by omega)]) (show (1 : Int) ≠ 0 by decide)))
    clear wy g
    go_enter Tryz.func124, Tryz.ntmps124
    go_wp2_with fail
    refine (regs12_any _ ⟨7, r, h, v, a, b, c⟩).mono ?_
    rintro z w1 ⟨rfl, k1⟩
    rw [HB.out]
    have S1 := S0.call k1
    have c0 := (S1.get 0 rfl).cell 0 _ rfl
    have c1 := (S1.get 0 rfl).cell 1 _ rfl
    have c2 := (S1.get 0 rfl).cell 2 _ rfl
    have c3 := (S1.get 0 rfl).cell 3 _ rfl
    have c4 := (S1.get 0 rfl).cell 4 _ rfl
    have c5 := (S1.get 0 rfl).cell 5 _ rfl
    have c6 := (S1.get 0 rfl).cell 6 _ rfl
    have p0 := (S1.get 1 rfl).cell 0 _ rfl
    have p1 := (S1.get 1 rfl).cell 1 _ rfl
    have p2 := (S1.get 1 rfl).cell 2 _ rfl
    have p3 := (S1.get 1 rfl).cell 3 _ rfl
    go_wp2_with fail
    refine (Heads.refwords_any a b _).mono ?_
    rintro z w3 ⟨rfl, rfl⟩
    rw [HW.out]
    go_wp2
    go_ret2
    exact ⟨by rw [E.out]; rfl, S1.below⟩
  · have E := Lib.hid (tell_of (beg_yes wy (by rw [g, fir_c0, fir_c0, fir1, wi0 (by omega) (by omega)])))
    clear wy g
    go_enter Tryz.func124, Tryz.ntmps124
    go_wp2_with fail
    refine (regs12_any _ ⟨7, r, h, v, a, b, c⟩).mono ?_
    rintro z w1 ⟨rfl, k1⟩
    rw [HB.out]
    have S1 := S0.call k1
    have c0 := (S1.get 0 rfl).cell 0 _ rfl
    have c1 := (S1.get 0 rfl).cell 1 _ rfl
    have c2 := (S1.get 0 rfl).cell 2 _ rfl
    have c3 := (S1.get 0 rfl).cell 3 _ rfl
    have c4 := (S1.get 0 rfl).cell 4 _ rfl
    have c5 := (S1.get 0 rfl).cell 5 _ rfl
    have c6 := (S1.get 0 rfl).cell 6 _ rfl
    have p0 := (S1.get 1 rfl).cell 0 _ rfl
    have p1 := (S1.get 1 rfl).cell 1 _ rfl
    have p2 := (S1.get 1 rfl).cell 2 _ rfl
    have p3 := (S1.get 1 rfl).cell 3 _ rfl
    go_wp2_with fail
    refine (Heads.refwords_any a b _).mono ?_
    rintro z w3 ⟨rfl, rfl⟩
    rw [HW.out]
    go_wp2
    go_ret2
    exact ⟨by rw [E.out]; rfl, S1.below⟩

set_option maxHeartbeats 8000000 in
theorem pc12_any (op : Int) (ho : op < 0 ∨ 11 < op) (u : Value) (L : List Chain.E) (hd vl n t i j r h v a b c : Int) (w : World) (n1 : 1 ≤ n) (hL : Chain.Sr w u L) (d1 : 0 ≤ hd) (d2 : hd ≤ 18446744073709551615) (v1 : 0 ≤ vl) (v2 : vl ≤ 18446744073709551615) (hb : badC ⟨op, r, h, v, a, b, c⟩ = false) : Calls Tryz.prog 124 #[planV n t i j, u, callV ⟨op, r, h, v, a, b, c⟩, .int .u64 hd, .int .u64 vl] w fun e w' => e = tell2 (begV n L ⟨op, r, h, v, a, b, c⟩ hd vl).code (begV n L ⟨op, r, h, v, a, b, c⟩ hd vl).pc ∧ Below w.heap.size w w' := by
  have S0 := ((Held.St.start w).new [.int .i64 n, .int .i64 t, .int .i64 i, .int .i64 j] 23).new [.int .u8 op, .int .u8 r, .int .u8 h, .int .u8 v, .int .i64 a, .int .i64 b, .int .i64 c] 37
  simp only [World.size_alloc] at S0
  have c0 := (S0.get 0 rfl).cell 0 _ rfl
  have c1 := (S0.get 0 rfl).cell 1 _ rfl
  have c2 := (S0.get 0 rfl).cell 2 _ rfl
  have c3 := (S0.get 0 rfl).cell 3 _ rfl
  have c4 := (S0.get 0 rfl).cell 4 _ rfl
  have c5 := (S0.get 0 rfl).cell 5 _ rfl
  have c6 := (S0.get 0 rfl).cell 6 _ rfl
  have p0 := (S0.get 1 rfl).cell 0 _ rfl
  have p1 := (S0.get 1 rfl).cell 1 _ rfl
  have p2 := (S0.get 1 rfl).cell 2 _ rfl
  have p3 := (S0.get 1 rfl).cell 3 _ rfl
  obtain ⟨A, cc, rfl, l1, l2, _⟩ := id hL
  have HB := Lib.hid hb
  have E := Lib.hid (tell_of (beg_no (way_e (n := n) (L := L) (c := ⟨op, r, h, v, a, b, c⟩) (h := hd) (v := vl) ho) (by rw [fir1]) (show (1 : Int) ≠ 0 by decide)))
  clear hb
  have z0 : (op == 0) = false := by
    have : op ≠ 0 := by omega
    simpa using this
  have z1 : (op == 1) = false := by
    have : op ≠ 1 := by omega
    simpa using this
  have z2 : (op == 2) = false := by
    have : op ≠ 2 := by omega
    simpa using this
  have z3 : (op == 3) = false := by
    have : op ≠ 3 := by omega
    simpa using this
  have z4 : (op == 4) = false := by
    have : op ≠ 4 := by omega
    simpa using this
  have z5 : (op == 5) = false := by
    have : op ≠ 5 := by omega
    simpa using this
  have z6 : (op == 6) = false := by
    have : op ≠ 6 := by omega
    simpa using this
  have z7 : (op == 7) = false := by
    have : op ≠ 7 := by omega
    simpa using this
  have z8 : (op == 8) = false := by
    have : op ≠ 8 := by omega
    simpa using this
  have z9 : (op == 9) = false := by
    have : op ≠ 9 := by omega
    simpa using this
  have z10 : (op == 10) = false := by
    have : op ≠ 10 := by omega
    simpa using this
  have z11 : (op == 11) = false := by
    have : op ≠ 11 := by omega
    simpa using this
  clear ho
  go_enter Tryz.func124, Tryz.ntmps124
  go_wp2_with fail
  refine (regs12_any _ ⟨op, r, h, v, a, b, c⟩).mono ?_
  rintro z w1 ⟨rfl, k1⟩
  rw [HB.out]
  have S1 := S0.call k1
  have c0 := (S1.get 0 rfl).cell 0 _ rfl
  have c1 := (S1.get 0 rfl).cell 1 _ rfl
  have c2 := (S1.get 0 rfl).cell 2 _ rfl
  have c3 := (S1.get 0 rfl).cell 3 _ rfl
  have c4 := (S1.get 0 rfl).cell 4 _ rfl
  have c5 := (S1.get 0 rfl).cell 5 _ rfl
  have c6 := (S1.get 0 rfl).cell 6 _ rfl
  have p0 := (S1.get 1 rfl).cell 0 _ rfl
  have p1 := (S1.get 1 rfl).cell 1 _ rfl
  have p2 := (S1.get 1 rfl).cell 2 _ rfl
  have p3 := (S1.get 1 rfl).cell 3 _ rfl
  go_wp2
  go_ret2
  exact ⟨by rw [E.out]; rfl, S1.below⟩

theorem beg_bad {n : Int} {L : List Chain.E} {c : Ca} {h v : Int} (hb : badC c = true) : begV n L c h v = ⟨1, 0⟩ := by
  have one : ∀ r, badR r = true → rgE [r] = 1 := fun r e => by
    unfold rgE
    rw [show [r].any badR = (badR r || false) from rfl, e]
    rfl
  have two : ∀ r s, (badR r || badR s) = true → rgE [r, s] = 1 := fun r s e => by
    unfold rgE
    rw [show [r, s].any badR = (badR r || (badR s || false)) from rfl, Bool.or_false, e]
    rfl
  have fin : ∀ pc cs, wayV n L c h v = ⟨pc, 1 :: cs⟩ → begV n L c h v = ⟨1, 0⟩ := fun pc cs e => beg_no e (fir_c _ (by decide)) (by decide)
  obtain ⟨op, r, h', v', a, b, d⟩ := c
  unfold badC at hb
  dsimp only at hb
  by_cases h1 : op = 1
  · subst h1
    exact fin 0 [] (by show (⟨0, [rgE [r]]⟩ : Wa) = _; rw [one r hb])
  by_cases h7 : op = 7
  · subst h7
    exact fin 5 _ (by show (⟨5, [rgE [r], _, _]⟩ : Wa) = _; rw [one r hb])
  by_cases h10 : op = 10
  · subst h10
    exact fin 11 _ (by show (⟨11, [rgE [r], _, _]⟩ : Wa) = _; rw [one r hb])
  rw [if_neg (by omega)] at hb
  by_cases h8 : op = 8
  · subst h8
    exact fin 5 _ (by show (⟨5, [rgE [r, h'], _]⟩ : Wa) = _; rw [two r h' hb])
  rw [if_neg h8] at hb
  by_cases h9 : op = 9
  · subst h9
    exact fin 5 _ (by show (⟨5, [rgE [h', v'], _]⟩ : Wa) = _; rw [two h' v' hb])
  rw [if_neg h9] at hb
  by_cases h11 : op = 11
  · subst h11
    by_cases e : v = 0
    · exact fin 12 _ (by show (if v = 0 then (⟨12, [rgE [v'], _, _]⟩ : Wa) else _) = _; rw [if_pos e, one v' hb])
    · exact fin 7 _ (by show (if v = 0 then _ else (⟨7, [rgE [v'], _, _, _]⟩ : Wa)) = _; rw [if_neg e, one v' hb])
  rw [if_neg h11] at hb
  cases hb
set_option maxHeartbeats 8000000 in
theorem refpc_any (u : Value) (L : List Chain.E) (hd vl n t i j : Int) (c : Ca) (w : World) (n1 : 1 ≤ n) (hL : Chain.Sr w u L) (d1 : 0 ≤ hd) (d2 : hd ≤ 18446744073709551615) (v1 : 0 ≤ vl) (v2 : vl ≤ 18446744073709551615) : Calls Tryz.prog 124 #[planV n t i j, u, callV c, .int .u64 hd, .int .u64 vl] w fun e w' => e = tell2 (begV n L c hd vl).code (begV n L c hd vl).pc ∧ Below w.heap.size w w' := by
  obtain ⟨op, r, h, v, a, b, c⟩ := c
  cases hb : badC ⟨op, r, h, v, a, b, c⟩ with
  | true =>
    have E := Lib.hid (tell_of (beg_bad (n := n) (L := L) (h := hd) (v := vl) hb))
    have S0 := ((Held.St.start w).new [.int .i64 n, .int .i64 t, .int .i64 i, .int .i64 j] 23).new [.int .u8 op, .int .u8 r, .int .u8 h, .int .u8 v, .int .i64 a, .int .i64 b, .int .i64 c] 37
    simp only [World.size_alloc] at S0
    have c0 := (S0.get 0 rfl).cell 0 _ rfl
    have c1 := (S0.get 0 rfl).cell 1 _ rfl
    have c2 := (S0.get 0 rfl).cell 2 _ rfl
    have c3 := (S0.get 0 rfl).cell 3 _ rfl
    have c4 := (S0.get 0 rfl).cell 4 _ rfl
    have c5 := (S0.get 0 rfl).cell 5 _ rfl
    have c6 := (S0.get 0 rfl).cell 6 _ rfl
    have p0 := (S0.get 1 rfl).cell 0 _ rfl
    have p1 := (S0.get 1 rfl).cell 1 _ rfl
    have p2 := (S0.get 1 rfl).cell 2 _ rfl
    have p3 := (S0.get 1 rfl).cell 3 _ rfl
    obtain ⟨A, cc, rfl, l1, l2, _⟩ := id hL
    have HB := Lib.hid hb
    clear hb
    go_enter Tryz.func124, Tryz.ntmps124
    go_wp2_with fail
    refine (regs12_any _ ⟨op, r, h, v, a, b, c⟩).mono ?_
    rintro z w1 ⟨rfl, k1⟩
    rw [HB.out]
    have S1 := S0.call k1
    have c0 := (S1.get 0 rfl).cell 0 _ rfl
    have c1 := (S1.get 0 rfl).cell 1 _ rfl
    have c2 := (S1.get 0 rfl).cell 2 _ rfl
    have c3 := (S1.get 0 rfl).cell 3 _ rfl
    have c4 := (S1.get 0 rfl).cell 4 _ rfl
    have c5 := (S1.get 0 rfl).cell 5 _ rfl
    have c6 := (S1.get 0 rfl).cell 6 _ rfl
    have p0 := (S1.get 1 rfl).cell 0 _ rfl
    have p1 := (S1.get 1 rfl).cell 1 _ rfl
    have p2 := (S1.get 1 rfl).cell 2 _ rfl
    have p3 := (S1.get 1 rfl).cell 3 _ rfl
    go_wp2
    go_ret2
    exact ⟨by rw [E.out]; rfl, S1.below⟩
  | false =>
    by_cases ho : op < 0 ∨ 11 < op
    · exact pc12_any op ho u L hd vl n t i j r h v a b c w n1 hL d1 d2 v1 v2 hb
    have : op = 0 ∨ op = 1 ∨ op = 2 ∨ op = 3 ∨ op = 4 ∨ op = 5 ∨ op = 6 ∨ op = 7 ∨ op = 8 ∨ op = 9 ∨ op = 10 ∨ op = 11 := by omega
    rcases this with rfl | rfl | rfl | rfl | rfl | rfl | rfl | rfl | rfl | rfl | rfl | rfl
    · exact pc0_any u L hd vl n t i j r h v a b c w n1 hL d1 d2 v1 v2 hb
    · exact pc1_any u L hd vl n t i j r h v a b c w n1 hL d1 d2 v1 v2 hb
    · exact pc2_any u L hd vl n t i j r h v a b c w n1 hL d1 d2 v1 v2 hb
    · exact pc3_any u L hd vl n t i j r h v a b c w n1 hL d1 d2 v1 v2 hb
    · exact pc4_any u L hd vl n t i j r h v a b c w n1 hL d1 d2 v1 v2 hb
    · exact pc5_any u L hd vl n t i j r h v a b c w n1 hL d1 d2 v1 v2 hb
    · exact pc6_any u L hd vl n t i j r h v a b c w n1 hL d1 d2 v1 v2 hb
    · exact pc7_any u L hd vl n t i j r h v a b c w n1 hL d1 d2 v1 v2 hb
    · exact pc8_any u L hd vl n t i j r h v a b c w n1 hL d1 d2 v1 v2 hb
    · exact pc9_any u L hd vl n t i j r h v a b c w n1 hL d1 d2 v1 v2 hb
    · exact pc10_any u L hd vl n t i j r h v a b c w n1 hL d1 d2 v1 v2 hb
    · exact pc11_any u L hd vl n t i j r h v a b c w n1 hL d1 d2 v1 v2 hb

end Go.Proofs.YteakglkagmghpaaGreat.Beg
