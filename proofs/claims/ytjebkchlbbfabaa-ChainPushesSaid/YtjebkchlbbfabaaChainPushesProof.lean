/-
  penfoldlaw09.ChainPushes returns true for every slice of entries, every byte and every two bytes, and changes nothing that was there; no condition.
-/
import Derived.Test.YtjebkchlbbfabaaRows
import Derived.Test.YtjebkchlbbfabaaArgs
import Derived.Test.YtjebkchlbbfabaaChF
import Derived.Test.YtjebkchlbbfabaaSt
import Derived.Deep.DeepCutAuto
namespace Go.Proofs.Ytjebkchlbbfabaa.chainPushes
open Go.ChangeShapes Go.WideShapes Go.ChangeAt Go.RowKit
set_option linter.unusedVariables false

open Chain Held
theorem push_l {L : List E} (e : E) (h : L.length < 6) : pushL L e = L ++ [e] := if_neg (by omega)
theorem push_e {L : List E} (h : L.length < 6) : pushE L = 0 := if_neg (by omega)
theorem push_x {L : List E} (h : L.length = 6) : pushE L = 24 := if_pos (by omega)
def room (u : Value) : Nat := match u with | .slice _ n _ => 6 - n | _ => 0
/-- What the walk carries: blocks of its own, and two rows. -/
structure K (w W : World) (B : List (Nat × List Value)) (v : Value) (M : List E) (p : Value) (P : List E) : Prop where
  st : St w W B
  rv : Sr W v M
  rp : Sr W p P
section
variable {w W : World} {B : List (Nat × List Value)} {v p : Value} {M P : List E}
theorem K.call (h : K w W B v M p P) {W' : World} (k : Below W.heap.size W W') : K w W' B v M p P := ⟨h.st.call k, h.rv.below k, h.rp.below k⟩
theorem K.drew (h : K w W B v M p P) : K w W.drew B v M p P := h.call (Below.refl _ _).drew
theorem reach_v (h : K w W B v M p P) (a : Int) : Calls Try.prog 17 #[v, .int .i64 a] W fun e W' => e = .returned (.bool (reachV M a)) ∧ K w W' B v M p P :=
  (reach_any W v M a h.rv).mono fun e W' ⟨he, k⟩ => ⟨he, h.call k⟩
theorem reach_p (h : K w W B v M p P) (a : Int) : Calls Try.prog 17 #[p, .int .i64 a] W fun e W' => e = .returned (.bool (reachV P a)) ∧ K w W' B v M p P :=
  (reach_any W p P a h.rp).mono fun e W' ⟨he, k⟩ => ⟨he, h.call k⟩
theorem above_v (h : K w W B v M p P) (a b : Int) : Calls Try.prog 21 #[v, .int .i64 a, .int .i64 b] W fun e W' => e = .returned (.bool (aboveV M a b)) ∧ K w W' B v M p P :=
  (above_any W v M a b h.rv).mono fun e W' ⟨he, k⟩ => ⟨he, h.call k⟩
theorem above_p (h : K w W B v M p P) (a b : Int) : Calls Try.prog 21 #[p, .int .i64 a, .int .i64 b] W fun e W' => e = .returned (.bool (aboveV P a b)) ∧ K w W' B v M p P :=
  (above_any W p P a b h.rp).mono fun e W' ⟨he, k⟩ => ⟨he, h.call k⟩
theorem par_p (h : K w W B v M p P) (a : Int) : Calls Try.prog 19 #[p, .int .i64 a] W fun e W' => e = .returned (.int .i64 (parV P a)) ∧ K w W' B v M p P :=
  (par_any W p P a h.rp).mono fun e W' ⟨he, k⟩ => ⟨he, h.call k⟩
theorem area_v (h : K w W B v M p P) : Calls Try.prog 15 #[v] W fun e W' => e = .returned (.int .i64 (areaV M)) ∧ K w W' B v M p P :=
  (area_any W v M h.rv).mono fun e W' ⟨he, k⟩ => ⟨he, k ▸ h⟩
theorem area_p (h : K w W B v M p P) : Calls Try.prog 15 #[p] W fun e W' => e = .returned (.int .i64 (areaV P)) ∧ K w W' B v M p P :=
  (area_any W p P h.rp).mono fun e W' ⟨he, k⟩ => ⟨he, k ▸ h⟩
end

set_option maxRecDepth 100000 in
set_option maxHeartbeats 8000000 in
theorem walk (lA : Option Addr) (ln lc : Nat) (lz : Nat → Nat → Int) (n : Int) (s0 s1 : Int) (w : World) (hl : Args.PRecs [some .i64, none] w lA ln lz) (hlc : ln ≤ lc ∧ lc ≤ maxLen ∧ (lA = none → lc = 0)) (wn : (Lit.int .u8 n).wf = true) (ws0 : (Lit.int .u8 s0).wf = true) (ws1 : (Lit.int .u8 s1).wf = true) :
    Calls Try.prog 5 #[.slice lA ln lc, .int .u8 n, .agg #[.int .u8 s0, .int .u8 s1]] w fun e w' => e = .returned (.bool true) ∧ Below w.heap.size w w' := by
  have L0 := came_in hl hlc
  have hln := listOf_len ln lz
  generalize listOf ln lz = L at *
  subst hln
  clear hl hlc
  obtain ⟨hF, h5⟩ := fit_fits L
  have ⟨a1, a2⟩ := bounds_u8 ws0
  have ⟨b1, b2⟩ := bounds_u8 ws1
  have ⟨c1, c2⟩ := bounds_u8 wn
  clear ws0 ws1 wn
  go_enter Try.func5, Try.ntmps5
  have S0 := ((St.start w).new [.int .u8 s0, .int .u8 s1] 41)
  have L1 := L0.alloc (.cells #[.int .u8 s0, .int .u8 s1] 41)
  go_wp2_with fail
  refine (shown_any _).mono ?_
  rintro z w1 ⟨rfl, k1⟩
  have S1 := S0.call k1
  have L2 := L1.below k1
  clear S0 L0 L1 k1
  go_wp2_with fail
  refine (fit_any _ _ L L2).mono ?_
  rintro z w2 ⟨v, rfl, M2, k2⟩
  have S2 := S1.call k2
  have L3 := L2.below k2
  clear S1 L2 k2
  go_wp2_with fail
  refine (fit_any _ _ L L3).mono ?_
  rintro z w3 ⟨o, rfl, O3, k3⟩
  have S3 := S2.call k3
  have M3 := M2.below k3
  clear S2 L3 M2 k3
  generalize fitV L = M at *
  go_wp2_with fail
  have e1 : 1 ≤ 1 + n % 7 := by omega
  have e7 : 1 + n % 7 ≤ 7 := by omega
  generalize 1 + n % 7 = e at *
  have P1 : Hid (pushL M (e, true) = M ++ [(e, true)]) := Lib.hid (if_neg (by omega))
  have P2 : Hid (pushE M = 0) := Lib.hid (if_neg (by omega))
  have hpl : (M ++ [(e, true)]).length ≤ 6 := by simp; omega
  have D1 : Hid ((M ++ [(e, true)]).dropLast = M) := Lib.hid (by simp)
  have D2 : Hid (lastV (M ++ [(e, true)]) = (e, true)) := Lib.hid (last_snoc _ _)
  have D3 : Hid (popE (M ++ [(e, true)]) = 0) := Lib.hid (if_neg (by simp))
  have A1 : Hid (areaV (M ++ [(e, true)]) = e) := Lib.hid (area_snoc _ _)
  have R1 : Hid (reachV (M ++ [(e, true)]) e = true) := Lib.hid (reach_push _ _)
  have V1 : Hid (∀ a b, reachV M b = true → aboveV (M ++ [(e, true)]) a b = aboveV M a b) := Lib.hid fun a b hr => above_push hF e1 hr
  have V2 : Hid (reachV M e = false → parV (M ++ [(e, true)]) e = areaV M ∧ aboveV (M ++ [(e, true)]) (areaV M) e = true) := Lib.hid fun hr => par_push hr
  have V3 : Hid (∀ X a, reachV M a = true → reachV (M ++ [(e, true)] ++ X) a = true) := Lib.hid fun X a hr => by rw [List.append_assoc]; exact reach_app hr
  have hP1 : 1 ≤ (M ++ [(e, true)]).length := by simp
  have S4 := S3.new [.int .i64 e, .bool true] 25
  have M4 := M3.alloc (.cells #[.int .i64 e, .bool true] 25)
  have O4 := O3.alloc (.cells #[.int .i64 e, .bool true] 25)
  clear S3 M3 O3 hF
  refine (push_any _ _ M e true M4).mono ?_
  rintro z w4 ⟨p, rfl, Y4, k4⟩
  rw [P1.out] at Y4
  rw [P2.out]
  have S5 := S4.call k4
  have M5 := M4.below k4
  have O5 := O4.below k4
  clear S4 M4 O4 k4 P1 P2
  generalize M ++ [(e, true)] = P at *
  go_wp2_with fail
  refine (pop_any _ _ P Y4 (by omega)).mono ?_
  rintro z w5 ⟨q, rfl, Q5, k5⟩
  rw [D1.out] at Q5
  rw [D2.out, D3.out]
  have S6 := (S5.call k5).new [.int .i64 e, .bool true] 25
  have M6 := (M5.below k5).alloc (.cells #[.int .i64 e, .bool true] 25)
  have O6 := (O5.below k5).alloc (.cells #[.int .i64 e, .bool true] 25)
  have Y6 := (Y4.below k5).alloc (.cells #[.int .i64 e, .bool true] 25)
  have Q6 := Q5.alloc (.cells #[.int .i64 e, .bool true] 25)
  clear S5 M5 O5 Y4 Q5 k5 D1 D2 D3
  have E0 : Hid (sameB M M = true) := Lib.hid (same_refl _)
  go_wp2_with fail
  refine (same_any _ _ _ _ _ Q6 M6).mono ?_
  rintro z w6 ⟨rfl, k6⟩
  rw [E0.out]
  have S7 := S6.call k6
  have M7 := M6.below k6
  have O7 := O6.below k6
  have Y7 := Y6.below k6
  clear S6 M6 O6 Y6 Q6 k6
  go_wp2_with fail
  refine (same_any _ _ _ _ _ M7 O7).mono ?_
  rintro z w7 ⟨rfl, k7⟩
  rw [E0.out]
  have K8 : K w w7 _ v M p P := ⟨S7.call k7, M7.below k7, Y7.below k7⟩
  clear S7 M7 O7 Y7 k7 E0
  obtain ⟨sl, s_0, s_1⟩ := K8.st.get2 2 rfl
  obtain ⟨el, e_0, e_1⟩ := K8.st.get2 1 rfl
  obtain ⟨xl, x_0, x_1⟩ := K8.st.get2 0 rfl
  go_wp2_with fail
  have hr : ∀ W, (Op.equalIn 10000 25 (.agg #[.int .i64 e, .bool true]) (.agg #[.int .i64 e, .bool true])).run Try.prog W = .ok true W := fun W => by
    rw [run_eq]; simp [eqB]
  have hq : (e != e) = false := by simp
  have D8 := K8.drew
  go_region_held3 (fun w' => w'.cell? ⟨w3.heap.size, 0, none⟩ = some (.int .i64 e) ∧ w'.cell? ⟨w3.heap.size, 1, none⟩ = some (.bool true) ∧ w'.cell? ⟨w5.heap.size, 0, none⟩ = some (.int .i64 e) ∧ w'.cell? ⟨w5.heap.size, 1, none⟩ = some (.bool true))
    (first | exact ⟨e_0, e_1, x_0, x_1⟩ | exact ⟨f_0, f_1, y_0, y_1⟩ | exact ⟨g_0, g_1, z_0, z_1⟩)
    (first
      | (go_at_call 15; refine (area_p (by assumption)).mono ?_; rintro z w8 ⟨rfl, K9⟩; rw [A1.out]; have ⟨fl, f_0, f_1⟩ := K9.st.get2 1 rfl; have ⟨yl, y_0, y_1⟩ := K9.st.get2 0 rfl)
      | (go_at_call 17; refine (reach_p (by assumption) e).mono ?_; rintro z w9 ⟨rfl, KA⟩; rw [R1.out]; have ⟨gl, g_0, g_1⟩ := KA.st.get2 1 rfl; have ⟨zl, z_0, z_1⟩ := KA.st.get2 0 rfl))
  clear K8 D8 sl s_0 s_1 el e_0 e_1 xl x_0 x_1 fl f_0 f_1 yl y_0 y_1 gl g_0 g_1 zl z_0 z_1 A1 R1
  go_upto_region 13 with (fail)
  go_cut [107] (fun s107 wx => s107 = .bool false ∧ K w wx [(w5.heap.size, [.int .i64 e, .bool true]), (w3.heap.size, [.int .i64 e, .bool true]), (w.heap.size, [.int .u8 s0, .int .u8 s1])] v M p P)
  case first =>
    cases hb : reachV M (s1 % 8)
    · go_wp2_with (first
        | (go_at_call 17; refine (reach_v (by assumption) _).mono ?_; rintro z w10 ⟨rfl, KB⟩))
      go_meet
      exact ⟨rfl, KB⟩
    · have V := Lib.hid (V1.out (s0 % 8) (s1 % 8) hb)
      go_wp2_with fail
      refine (reach_v KA _).mono ?_
      rintro z w10 ⟨rfl, KB⟩
      go_wp2_with fail
      refine (above_v KB _ _).mono ?_
      rintro z w11 ⟨rfl, KC⟩
      go_wp2_with fail
      refine (above_p KC _ _).mono ?_
      rintro z w12 ⟨rfl, KD⟩
      rw [V.out]
      go_wp2_with fail
      go_meet
      exact ⟨by simp, KD⟩
  case rest =>
    obtain ⟨rfl, K1⟩ := hcut
    go_upto_region 15 with (fail)
    go_cut [130] (fun s130 wx => s130 = .bool false ∧ K w wx [(w5.heap.size, [.int .i64 e, .bool true]), (w3.heap.size, [.int .i64 e, .bool true]), (w.heap.size, [.int .u8 s0, .int .u8 s1])] v M p P)
    case first =>
      obtain ⟨el, e_0, e_1⟩ := K1.st.get2 1 rfl
      have D1 := K1.drew
      cases he : reachV M e
      · have v1 := Lib.hid (V2.out he).1
        have v2 := Lib.hid (V2.out he).2
        have HE := Lib.hid he
        have hq2 : (areaV M != areaV M) = false := by simp
        clear he
        go_region_held3 (fun w' => w'.cell? ⟨w3.heap.size, 0, none⟩ = some (.int .i64 e)) (assumption)
          (first
            | (go_at_call 17; refine (reach_v (by assumption) e).mono ?_; rintro z w10 ⟨rfl, KB⟩; rw [HE.out]; have f_0 := (KB.st.get2 1 rfl).2.1)
            | (go_at_call 19; refine (par_p (by assumption) e).mono ?_; rintro z w11 ⟨rfl, KC⟩; rw [v1.out]; have g_0 := (KC.st.get2 1 rfl).2.1)
            | (go_at_call 15; refine (area_v (by assumption)).mono ?_; rintro z w12 ⟨rfl, KD⟩; have h_0 := (KD.st.get2 1 rfl).2.1)
            | (go_at_call 21; refine (above_p (by assumption) _ e).mono ?_; rintro z w13 ⟨rfl, KE⟩; rw [v2.out]; have i_0 := (KE.st.get2 1 rfl).2.1))
        go_wp2_with fail
        go_meet
        exact ⟨rfl, KE⟩
      · have HE := Lib.hid he
        clear he
        refine wp_region_held_drew (S := fun w' => w'.cell? ⟨w3.heap.size, 0, none⟩ = some (.int .i64 e)) (by kernel_rfl) ?_ (fun hHeld => ?_)
        · exact e_0
        refine wpAnyH_take (i := 0) (oi := ⟨some 108, _, _, _, _, _⟩) (v := ?_) rfl (by kernel_rfl) (by kernel_rfl) (by kernel_rfl) (fun _ _ _ h => h) (Or.inl ⟨by kernel_rfl, ?_⟩) (by assumption) ?_
        rotate_left
        · intro w hSw
          try dsimp only at hSw
          first | (go_simp; done) | (go_simp; with_reducible rfl) | with_reducible rfl
        simp only [Act.put, List.setIfInBounds_toArray, List.set_cons_zero, List.set_cons_succ]
        refine wpAnyH_take (i := 1) (oi := ⟨some 109, _, _, _, _, _⟩) (v := ?_) rfl (by kernel_rfl) (by kernel_rfl) (by kernel_rfl) (fun _ _ _ h => h) (Or.inl ⟨by kernel_rfl, ?_⟩) (by assumption) ?_
        rotate_left
        · intro w hSw
          try dsimp only at hSw
          first | (go_simp; done) | (go_simp; with_reducible rfl) | with_reducible rfl
        simp only [Act.put, List.setIfInBounds_toArray, List.set_cons_zero, List.set_cons_succ]
        refine wpAnyH_take (i := 2) (oi := ⟨some 110, _, _, _, _, _⟩) (v := ?_) rfl (by kernel_rfl) (by kernel_rfl) (by kernel_rfl) (fun _ _ _ h => h) (Or.inl ⟨by kernel_rfl, ?_⟩) (by assumption) ?_
        rotate_left
        · intro w hSw
          try dsimp only at hSw
          first | (go_simp; done) | (go_simp; with_reducible rfl) | with_reducible rfl
        simp only [Act.put, List.setIfInBounds_toArray, List.set_cons_zero, List.set_cons_succ]
        refine wpAnyH_ready (rs := [3]) (by kernel_rfl) (by simp) ?_
        refine AllReadyH.cons rfl (fun K hK => ?_) AllReadyH.nil
        go_simp
        go_wp2_with (go_at_call 17; refine (reach_v (by assumption) e).mono ?_; rintro z w10 ⟨rfl, KB⟩; rw [HE.out]; have f_0 := (KB.st.get2 1 rfl).2.1)
        refine hK.out _ _ ?_ (fun hHeld => ?_)
        · exact f_0
        clear hK K
        refine wpAnyH_take (i := 4) (oi := ⟨some 112, _, _, _, _, _⟩) (v := ?_) rfl (by kernel_rfl) (by kernel_rfl) (by kernel_rfl) (fun _ _ _ h => h) (Or.inl ⟨by kernel_rfl, ?_⟩) (by assumption) ?_
        rotate_left
        · intro w hSw
          try dsimp only at hSw
          first | (go_simp; done) | (go_simp; with_reducible rfl) | with_reducible rfl
        simp only [Act.put, List.setIfInBounds_toArray, List.set_cons_zero, List.set_cons_succ]
        refine wpAnyH_take (i := 5) (oi := ⟨some 113, _, _, _, _, _⟩) (v := ?_) rfl (by kernel_rfl) (by kernel_rfl) (by kernel_rfl) (fun _ _ _ h => h) (Or.inl ⟨by kernel_rfl, ?_⟩) (by assumption) ?_
        rotate_left
        · intro w hSw
          try dsimp only at hSw
          first | (go_simp; done) | (go_simp; with_reducible rfl) | with_reducible rfl
        simp only [Act.put, List.setIfInBounds_toArray, List.set_cons_zero, List.set_cons_succ]
        refine wpAnyH_take (i := 6) (oi := ⟨some 114, _, _, _, _, _⟩) (v := undef) rfl (by kernel_rfl) (by kernel_rfl) (by kernel_rfl) (fun _ _ _ h => h) (Or.inr ⟨by kernel_rfl, rfl⟩) (by assumption) ?_
        simp only [Act.put, List.setIfInBounds_toArray, List.set_cons_zero, List.set_cons_succ]
        refine wpAnyH_take (i := 7) (oi := ⟨some 115, _, _, _, _, _⟩) (v := undef) rfl (by kernel_rfl) (by kernel_rfl) (by kernel_rfl) (fun _ _ _ h => h) (Or.inr ⟨by kernel_rfl, rfl⟩) (by assumption) ?_
        simp only [Act.put, List.setIfInBounds_toArray, List.set_cons_zero, List.set_cons_succ]
        refine wpAnyH_take (i := 8) (oi := ⟨some 116, _, _, _, _, _⟩) (v := undef) rfl (by kernel_rfl) (by kernel_rfl) (by kernel_rfl) (fun _ _ _ h => h) (Or.inr ⟨by kernel_rfl, rfl⟩) (by assumption) ?_
        simp only [Act.put, List.setIfInBounds_toArray, List.set_cons_zero, List.set_cons_succ]
        refine wpAnyH_take (i := 9) (oi := ⟨some 117, _, _, _, _, _⟩) (v := undef) rfl (by kernel_rfl) (by kernel_rfl) (by kernel_rfl) (fun _ _ _ h => h) (Or.inr ⟨by kernel_rfl, rfl⟩) (by assumption) ?_
        simp only [Act.put, List.setIfInBounds_toArray, List.set_cons_zero, List.set_cons_succ]
        refine wpAnyH_take (i := 10) (oi := ⟨some 118, _, _, _, _, _⟩) (v := undef) rfl (by kernel_rfl) (by kernel_rfl) (by kernel_rfl) (fun _ _ _ h => h) (Or.inr ⟨by kernel_rfl, rfl⟩) (by assumption) ?_
        simp only [Act.put, List.setIfInBounds_toArray, List.set_cons_zero, List.set_cons_succ]
        refine wpAnyH_take (i := 11) (oi := ⟨some 119, _, _, _, _, _⟩) (v := undef) rfl (by kernel_rfl) (by kernel_rfl) (by kernel_rfl) (fun _ _ _ h => h) (Or.inr ⟨by kernel_rfl, rfl⟩) (by assumption) ?_
        simp only [Act.put, List.setIfInBounds_toArray, List.set_cons_zero, List.set_cons_succ]
        refine wpAnyH_take (i := 12) (oi := ⟨some 120, _, _, _, _, _⟩) (v := undef) rfl (by kernel_rfl) (by kernel_rfl) (by kernel_rfl) (fun _ _ _ h => h) (Or.inr ⟨by kernel_rfl, rfl⟩) (by assumption) ?_
        simp only [Act.put, List.setIfInBounds_toArray, List.set_cons_zero, List.set_cons_succ]
        refine wpAnyH_take (i := 13) (oi := ⟨some 121, _, _, _, _, _⟩) (v := undef) rfl (by kernel_rfl) (by kernel_rfl) (by kernel_rfl) (fun _ _ _ h => h) (Or.inr ⟨by kernel_rfl, rfl⟩) (by assumption) ?_
        simp only [Act.put, List.setIfInBounds_toArray, List.set_cons_zero, List.set_cons_succ]
        refine wpAnyH_take (i := 14) (oi := ⟨some 122, _, _, _, _, _⟩) (v := undef) rfl (by kernel_rfl) (by kernel_rfl) (by kernel_rfl) (fun _ _ _ h => h) (Or.inr ⟨by kernel_rfl, rfl⟩) (by assumption) ?_
        simp only [Act.put, List.setIfInBounds_toArray, List.set_cons_zero, List.set_cons_succ]
        refine wpAnyH_take (i := 15) (oi := ⟨some 123, _, _, _, _, _⟩) (v := undef) rfl (by kernel_rfl) (by kernel_rfl) (by kernel_rfl) (fun _ _ _ h => h) (Or.inr ⟨by kernel_rfl, rfl⟩) (by assumption) ?_
        simp only [Act.put, List.setIfInBounds_toArray, List.set_cons_zero, List.set_cons_succ]
        refine wpAnyH_take (i := 16) (oi := ⟨some 124, _, _, _, _, _⟩) (v := undef) rfl (by kernel_rfl) (by kernel_rfl) (by kernel_rfl) (fun _ _ _ h => h) (Or.inr ⟨by kernel_rfl, rfl⟩) (by assumption) ?_
        simp only [Act.put, List.setIfInBounds_toArray, List.set_cons_zero, List.set_cons_succ]
        refine wpAnyH_take (i := 17) (oi := ⟨some 125, _, _, _, _, _⟩) (v := undef) rfl (by kernel_rfl) (by kernel_rfl) (by kernel_rfl) (fun _ _ _ h => h) (Or.inr ⟨by kernel_rfl, rfl⟩) (by assumption) ?_
        simp only [Act.put, List.setIfInBounds_toArray, List.set_cons_zero, List.set_cons_succ]
        refine wpAnyH_take (i := 18) (oi := ⟨some 126, _, _, _, _, _⟩) (v := undef) rfl (by kernel_rfl) (by kernel_rfl) (by kernel_rfl) (fun _ _ _ h => h) (Or.inr ⟨by kernel_rfl, rfl⟩) (by assumption) ?_
        simp only [Act.put, List.setIfInBounds_toArray, List.set_cons_zero, List.set_cons_succ]
        refine wpAnyH_take (i := 19) (oi := ⟨some 127, _, _, _, _, _⟩) (v := undef) rfl (by kernel_rfl) (by kernel_rfl) (by kernel_rfl) (fun _ _ _ h => h) (Or.inr ⟨by kernel_rfl, rfl⟩) (by assumption) ?_
        simp only [Act.put, List.setIfInBounds_toArray, List.set_cons_zero, List.set_cons_succ]
        refine wpAnyH_take (i := 20) (oi := ⟨some 128, _, _, _, _, _⟩) (v := undef) rfl (by kernel_rfl) (by kernel_rfl) (by kernel_rfl) (fun _ _ _ h => h) (Or.inr ⟨by kernel_rfl, rfl⟩) (by assumption) ?_
        simp only [Act.put, List.setIfInBounds_toArray, List.set_cons_zero, List.set_cons_succ]
        refine wpAnyH_take (i := 21) (oi := ⟨some 129, _, _, _, _, _⟩) (v := undef) rfl (by kernel_rfl) (by kernel_rfl) (by kernel_rfl) (fun _ _ _ h => h) (Or.inr ⟨by kernel_rfl, rfl⟩) (by assumption) ?_
        simp only [Act.put, List.setIfInBounds_toArray, List.set_cons_zero, List.set_cons_succ]
        refine wpAnyH_take (i := 22) (oi := ⟨some 130, _, _, _, _, _⟩) (v := ?_) rfl (by kernel_rfl) (by kernel_rfl) (by kernel_rfl) (fun _ _ _ h => h) (Or.inl ⟨by kernel_rfl, ?_⟩) (by assumption) ?_
        rotate_left
        · intro w hSw
          try dsimp only at hSw
          first | (go_simp; done) | (go_simp; with_reducible rfl) | with_reducible rfl
        simp only [Act.put, List.setIfInBounds_toArray, List.set_cons_zero, List.set_cons_succ]
        refine wpAnyH_done (by kernel_rfl) ?_ _
        go_wp2_with fail
        go_meet
        exact ⟨rfl, KB⟩
    case rest =>
      obtain ⟨rfl, K2⟩ := hcut
      clear K1 V1 V2
      go_wp2_with fail
      go_loopw [11] (fun u wr => ∃ (N X : List E), Hid (N = P ++ X) ∧ N.length ≤ 6 ∧ 1 ≤ N.length ∧ K w wr [(w5.heap.size, [.int .i64 e, .bool true]), (w3.heap.size, [.int .i64 e, .bool true]), (w.heap.size, [.int .u8 s0, .int .u8 s1])] v M u N) (fun u _ => room u)
      case atStart => exact ⟨P, [], Lib.hid (by simp), hpl, hP1, K2⟩
      case round =>
        obtain ⟨N, X, hN, n6, n1, KN⟩ := hrel
        obtain ⟨A, c, e', hsh⟩ := id KN.rp
        subst e'
        clear hsh
        by_cases hlt : N.length < 6
        · have P1 : Hid (pushL N (0, false) = N ++ [(0, false)]) := Lib.hid (push_l _ hlt)
          have P2 : Hid (pushE N = 0) := Lib.hid (push_e hlt)
          have z1 : decide ((N.length : Int) < 6) = true := decide_eq_true (by omega)
          go_wp2_with fail
          refine (push_any _ _ N 0 false KN.rp).mono ?_
          rintro z w10 ⟨u, rfl, Y, k⟩
          rw [P1.out] at Y
          rw [P2.out]
          have hl1 : (N ++ [(0, false)]).length ≤ N.length + 1 := by simp
          have hl2 : N.length + 1 ≤ (N ++ [(0, false)]).length := by simp
          have hN' : Hid (N ++ [(0, false)] = P ++ (X ++ [(0, false)])) := Lib.hid (by rw [hN.out, List.append_assoc])
          generalize N ++ [(0, false)] = N' at *
          have KN' : K w w10 [(w5.heap.size, [.int .i64 e, .bool true]), (w3.heap.size, [.int .i64 e, .bool true]), (w.heap.size, [.int .u8 s0, .int .u8 s1])] v M u N' := ⟨KN.st.call k, KN.rv.below k, Y⟩
          obtain ⟨A', c', e', hsh⟩ := id Y
          subst e'
          clear hsh
          have z2 : ((N'.length : Int) == 0) = false := beq_eq_false_iff_ne.2 (by omega)
          go_wp2_with fail
          go_roundw
          case rel => exact ⟨N', _, hN', by omega, by omega, KN'⟩
          case measure => simp only [room]; omega
        · have e6 : N.length = 6 := by omega
          have P2 : Hid (pushE N = 24) := Lib.hid (push_x e6)
          clear e6
          have z1 : decide ((N.length : Int) < 6) = false := decide_eq_false (by omega)
          have n6' : 6 ≤ N.length := by omega
          clear hlt
          obtain ⟨el, e_0, e_1⟩ := KN.st.get2 1 rfl
          go_wp2_with fail
          refine (push_any _ _ N e true KN.rp).mono ?_
          rintro z w10 ⟨u, rfl, Y, k⟩
          rw [P2.out]
          have KO := KN.call k
          clear KN k Y el e_0 e_1
          go_wp2_with fail
          refine (pop_any _ _ [] (Sr.nil _) (by simp)).mono ?_
          rintro z w11 ⟨u2, rfl, Y, k⟩
          rw [show popE [] = 23 from rfl, show lastV [] = (0, false) from rfl]
          have KP := (KO.call k).call (below_one _ (.cells #[.int .i64 0, .bool false] 25))
          clear KO k Y
          cases ha : reachV M (s0 % 8)
          · go_wp2_with (go_at_call 17; refine (reach_v (by assumption) _).mono ?_; rintro z w12 ⟨rfl, KQ⟩)
            go_ret
            exact ⟨rfl, KQ.st.below⟩
          · have H := Lib.hid (V3.out X (s0 % 8) ha)
            rw [← hN.out] at H
            go_wp2_with fail
            refine (reach_v KP _).mono ?_
            rintro z w12 ⟨rfl, KQ⟩
            go_wp2_with fail
            refine (reach_p KQ _).mono ?_
            rintro z w13 ⟨rfl, KR⟩
            rw [H.out]
            go_wp2
            go_ret
            exact ⟨rfl, KR.st.below⟩

set_option maxRecDepth 100000 in
theorem lifted (os : Os) (started : os.Started) (H : Type) (enc : TypeId × Value → H) :
    ReturnsInHanded {} Try.checked os 5 .any (Rows.chainPushesSpec.pre6 enc Try.prog Try.f5 Rows.chainPushesRow.domain false) (Rows.chainPushesSpec.post enc Try.prog Try.f5 false true false false) := by
  refine returnsInHanded_of_change (C := Try.checked) Args.own started (by kernel_rfl) Try.func5
    (ChangeSpec.witness6 (enc := enc) (C := Try.checked) false ⟨#[], #[.slice none 0 0, .int .u8 0, .agg #[.int .u8 0, .int .u8 0]], []⟩ 8 (by kernel_rfl) (by kernel_rfl) (by kernel_rfl) (by kernel_rfl)) ?_
  intro W base args ds gs before hval0 hW hcnd _
  have hval : ∀ (j : Nat) t v, Try.f5.params[j]? = some t → args[j]? = some v → Value.okWide Try.prog W .any base t v := hval0
  have hW' := hW
  obtain ⟨p, q, hA0, hV, rfl, hfz, hnd⟩ := hW
  have hA : DataW.TrodAll enc Try.prog W 0 (fun _ => true) true Try.f5.params.toList args.toList ds p := hA0
  rw [Try.params5] at hA hval
  obtain ⟨v0, vs0, d0, ds0, p0, q0, hargs, rfl, rfl, h0, r0⟩ := trodAll_cons hA
  obtain ⟨v1, vs1, d1, ds1, p1, q1, rfl, rfl, rfl, h1, r1⟩ := trodAll_cons r0
  obtain ⟨v2, vs2, d2, ds2, p2, q2, rfl, rfl, rfl, h2, r2⟩ := trodAll_cons r1
  obtain ⟨rfl, rfl, rfl⟩ := trodAll_nil r2
  obtain rfl : args = #[v0, v1, v2] := by cases args; simp_all
  obtain ⟨rfl, rfl⟩ := trodVars_none hV
  have lt0 := Args.trod_below h0
  obtain ⟨lA, ln, lc, lz, rfl, hl, hlc⟩ := Args.precs_cap (ks := [some .i64, none]) (e := 25) (by kernel_rfl) Try.underlying25 (by kernel_rfl) (by kernel_rfl) (by decide) (hval 0 22 v0 rfl rfl) h0
  have lt1 := Args.trod_below h1
  obtain ⟨n, rfl, rfl, rfl, wn⟩ := open_int Try.underlying5 (hval 1 5 v1 rfl rfl) h1
  have lt2 := Args.trod_below h2
  obtain ⟨sz, hv2, hs⟩ := Args.arr_in (m := 2) (k := .u8) (e := 5) (by kernel_rfl) (by kernel_rfl) (by kernel_rfl) (by kernel_rfl) (hval 2 41 v2 rfl rfl) h2
  obtain rfl : v2 = .agg #[.int .u8 (sz 0), .int .u8 (sz 1)] := hv2.trans (by kernel_rfl)
  clear hA0 hval0
  refine (walk lA ln lc lz n (sz 0) (sz 1) W hl hlc wn (hs 0) (hs 1)).mono fun e W' ⟨he, bel⟩ => ?_
  subst he
  exact ⟨_, rfl, _, _, _, [], _, [], hW', trodAll_mk1 (shut_bool Try.underlying4 _), trodAll_cons_mk (Below.trod Args.laidOut (by kernel_rfl) (of_decide_eq_true (by kernel_rfl)) h0 bel lt0) (trodAll_cons_mk (Below.trod Args.laidOut (by kernel_rfl) (of_decide_eq_true (by kernel_rfl)) h1 bel lt1) (trodAll_cons_mk (Below.trod Args.laidOut (by kernel_rfl) (of_decide_eq_true (by kernel_rfl)) h2 bel lt2) (trodAll_mk0))), rfl, bel.frame _, fun h => by cases h⟩

theorem over : Rows.chainPushesRow.holds Try.pinned (OpenSpec.ofChange Rows.chainPushesSpec) :=
  OpenClaim.holds_of_wide 5 Try.f5 rfl rfl rfl rfl rfl rfl rfl ⟨rfl, rfl, rfl, rfl, rfl⟩ rfl rfl rfl rfl rfl (by kernel_rfl) Try.func5 (by kernel_rfl)
    (of_decide_eq_true (by kernel_rfl)) (by unfold Func.isWrapper; rw [if_neg (of_decide_eq_false (by kernel_rfl))]; exact ⟨rfl, rfl⟩)
    (fun os started H enc _ => lifted os started H enc)

theorem proved : Rows.ChainPushesSaid :=
  over
end Go.Proofs.Ytjebkchlbbfabaa.chainPushes
