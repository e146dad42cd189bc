/-
  Contracts of few, shown, and of the document's Fit.
-/
import Derived.Test.YtjebkchlbbfabaaChD
namespace Go.Proofs.Ytjebkchlbbfabaa.Chain
open Go.ChangeShapes Go.WideShapes Go.ChangeAt Go.RowKit
set_option linter.unusedVariables false

def Row (w : World) (M : List E) (e : Ending) (w' : World) : Prop := ∃ v, e = .returned v ∧ Sr w' v M ∧ Below w.heap.size w w'
set_option maxHeartbeats 1000000 in
theorem few_any (w : World) (v : Value) (L : List E) (h : Sr w v L) : Calls Try.prog 9 #[v] w (Row w (L.take 10)) := by
  have h' := h
  obtain ⟨A, c, rfl, h1, h2, h3, h4⟩ := h
  clear h4
  have hlen : L.length ≤ 9223372036854775807 := by unfold maxLen at h2; omega
  by_cases hl : L.length ≤ 10
  · obtain ⟨s1, s2⟩ := slice_h A L.length c L.length h1
    have P := Lib.hid (List.take_of_length_le hl)
    have z : decide ((L.length : Int) ≤ 10) = true := decide_eq_true (by omega)
    have z2 : decide ((10 : Int) < (L.length : Int)) = false := decide_eq_false (by omega)
    have z3 : min (L.length : Int) 10 = (L.length : Int) := by omega
    go_enter Try.func9, Try.ntmps9
    go_wp2
    go_ret
    refine ⟨_, rfl, ?_, Below.refl _ _⟩
    rw [P.out]
    exact h'
  · obtain ⟨s1, s2⟩ := slice_h A L.length c 10 (by omega)
    simp only [Int.cast_ofNat_Int] at s1 s2
    have z3 : min (L.length : Int) 10 = 10 := by omega
    go_enter Try.func9, Try.ntmps9
    go_wp2
    go_ret
    exact ⟨_, rfl, h'.part (by omega) (by omega) (Nat.le_refl _), Below.refl _ _⟩

theorem shown_sr (w : World) : Sr (w.alloc (.cells #[.int .i64 1, .bool true, .int .i64 2, .bool true, .int .i64 1, .bool false] T)) (.slice (some ⟨w.heap.size, 0, none⟩) 3 3) [(1, true), (2, true), (1, false)] := by
  refine ⟨_, 3, rfl, by simp, by decide, fun e => (by cases e), fun _ => ⟨w.heap.size, 0, rfl, by simp, fun i hi => ?_⟩⟩
  have : i = 0 ∨ i = 1 ∨ i = 2 := by simp at hi; omega
  rcases this with rfl | rfl | rfl <;> simp [go_sem]
set_option maxHeartbeats 1000000 in
theorem shown_any (w : World) : Calls Try.prog 8 #[] w fun e w' => e = .returned (.bool true) ∧ Below w.heap.size w w' := by
  have H1 : Hid (areaV [(1, true), (2, true), (1, false)] = 1) := Lib.hid (by decide)
  have H2 : Hid (parV [(1, true), (2, true), (1, false)] 2 = 1) := Lib.hid (by decide)
  have H3 : Hid (aboveV [(1, true), (2, true), (1, false)] 1 2 = true) := Lib.hid (by decide)
  have H4 : Hid (aboveV [(1, true), (2, true), (1, false)] 2 1 = false) := Lib.hid (by decide)
  have S0 := shown_sr w
  have B0 : Below w.heap.size w (w.alloc (.cells #[.int .i64 1, .bool true, .int .i64 2, .bool true, .int .i64 1, .bool false] T)) := below_one _ _
  go_enter Try.func8, Try.ntmps8
  go_wp2_with fail
  generalize w.alloc (.cells #[.int .i64 1, .bool true, .int .i64 2, .bool true, .int .i64 1, .bool false] 25) = W0 at *
  refine (area_any _ _ _ S0).mono ?_
  rintro e w1 ⟨rfl, rfl⟩
  rw [H1.out]
  go_wp2_with fail
  refine (par_any _ _ _ _ S0).mono ?_
  rintro e w1 ⟨rfl, k1⟩
  rw [H2.out]
  have S1 := S0.below k1
  have B1 : Below w.heap.size w w1 := B0.trans (k1.mono B0.size)
  go_wp2_with fail
  refine (above_any _ _ _ _ _ S1).mono ?_
  rintro e w2 ⟨rfl, k2⟩
  rw [H3.out]
  have S2 := S1.below k2
  have B2 : Below w.heap.size w w2 := B1.trans (k2.mono B1.size)
  go_wp2_with fail
  refine (above_any _ _ _ _ _ S2).mono ?_
  rintro e w3 ⟨rfl, k3⟩
  rw [H4.out]
  go_wp2
  go_ret
  exact ⟨rfl, B2.trans (k3.mono B2.size)⟩

/-- append to a row of one's own, in a region that does not draw. -/
theorem wpList_app {w : World} {ops : Array Oper} {rest : List Oper} {o : Oper} {a : Act} {Q : Exit → Act → World → Prop} (hgd : o.guard = none) (s x : Operand)
    (ho : o.op = .call { callee := .builtin .append, args := #[s, x], argTypes := #[X, X] }) (hty : o.type = X) {v y : Value} {L M : List E} {base : Nat}
    (hs : a.eval s = v) (hx : a.eval x = y) (h : Own w base v L) (hy : Sr w y M) (hl : L.length + M.length ≤ 1000000) (hb : base ≤ w.heap.size)
    (hK : ∀ v' w', Own w' base v' (L ++ M) → Grew w w' base → wpList Try.prog ops Q rest (a.put o.dst v') w') : wpList Try.prog ops Q (o :: rest) a w := by
  obtain ⟨v', w', hrun, r1, r2⟩ := app_own w h hy hl hb
  refine wpList_plain hgd fun K hK' => ?_
  unfold Oper.wp
  simp [execOp, ho, resolve, invoke, builtin, hs, hx, hty, hrun, Result.andThen]
  exact hK' _ _ (hK v' w' r1 (grew h r2 hb))
theorem mask_i64 (k : Nat) (hk : k ≤ 62) (x : Int) : bits .and .i64 x (2 ^ k - 1) = x % 2 ^ k := by
  have hpos : 0 < 2 ^ k := Nat.two_pow_pos k
  have hle : 2 ^ k ≤ 2 ^ 62 := Nat.pow_le_pow_right (by decide) hk
  have hc : ((2 : Int) ^ k - 1) = ((2 ^ k - 1 : Nat) : Int) := by rw [Int.natCast_sub hpos]; simp
  rw [hc]
  show IntKind.i64.wrap ((BitVec.ofInt 64 x &&& BitVec.ofInt 64 ((2 ^ k - 1 : Nat) : Int)).toNat : Int) = _
  have e : (BitVec.ofInt 64 ((2 ^ k - 1 : Nat) : Int)).toNat = 2 ^ k - 1 := by
    rw [BitVec.ofInt_natCast, BitVec.toNat_ofNat, Nat.mod_eq_of_lt (by omega)]
  rw [BitVec.toNat_and, e, Nat.and_two_pow_sub_one_eq_mod, BitVec.toNat_ofInt]
  have h1 : (((x % ((2 ^ 64 : Nat) : Int)).toNat % 2 ^ k : Nat) : Int) = x % 2 ^ k := by
    rw [Int.natCast_emod, Int.toNat_of_nonneg (Int.emod_nonneg _ (by decide))]
    have hd : ((2 ^ k : Nat) : Int) ∣ ((2 ^ 64 : Nat) : Int) := Int.natCast_dvd_natCast.2 (Nat.pow_dvd_pow 2 (by omega))
    rw [Int.emod_emod_of_dvd _ hd, Int.natCast_pow]
    rfl
  rw [h1, IntKind.wrap_i64]
  have h2 : (2 : Int) ^ k ≤ 2 ^ 62 := by exact_mod_cast hle
  have h3 : (0 : Int) < 2 ^ k := by exact_mod_cast hpos
  have h4 := Int.emod_nonneg x (show (2 : Int) ^ k ≠ 0 by omega)
  have h5 := Int.emod_lt_of_pos x h3
  omega
end Go.Proofs.Ytjebkchlbbfabaa.Chain
