/-
  The entries that came in as a list, and a contract of the document's Fit.
-/
import Derived.Test.YtkghpdmliffkdaaChai
import Derived.Test.YtkghpdmliffkdaaBase
namespace Go.Proofs.Ytkghpdmliffkdaa.Chain
open Go.ChangeShapes Go.WideShapes Go.ChangeAt Go.RowKit
set_option linter.unusedVariables false

def listOf (n : Nat) (z : Nat → Nat → Int) : List E := (List.range n).map fun i => (z i 0, z i 1 != 0)
theorem listOf_len (n : Nat) (z : Nat → Nat → Int) : (listOf n z).length = n := by simp [listOf]
theorem listOf_at {n : Nat} {z : Nat → Nat → Int} {i : Nat} (h : i < (listOf n z).length) : (listOf n z)[i] = (z i 0, z i 1 != 0) := by simp [listOf]
theorem came_in {w : World} {A : Option Addr} {n c : Nat} {z : Nat → Nat → Int} (h : Args.PRecs [some .i64, none] w A n z) (hc : n ≤ c ∧ c ≤ maxLen ∧ (A = none → c = 0)) : Sr w (.slice A n c) (listOf n z) := by
  refine ⟨A, c, by rw [listOf_len], by rw [listOf_len]; exact hc.1, hc.2.1, hc.2.2, fun hp => ?_⟩
  rw [listOf_len] at hp
  obtain ⟨b, o, e, hb, _⟩ := h.at_ 0 hp
  subst e
  refine ⟨b, o, rfl, hb, fun i hi => ?_⟩
  rw [listOf_at hi]
  rw [listOf_len] at hi
  obtain ⟨b', o', e, _, hcs⟩ := h.at_ i hi
  injection e with e
  injection e with e1 e2
  subst e1 e2
  exact ⟨hcs 0 (by simp), hcs 1 (by simp)⟩
theorem cnt_in {n : Nat} {z : Nat → Nat → Int} {w : World} {A : Option Addr} (h : Args.PRecs [some .i64, none] w A n z) : n ≤ maxLen := h.len

/-- What one step of Fit asks. -/
theorem ok_cases (M : List E) (x : Int) (b : Bool) : (b = true ∧ 0 < x ∧ (parV M x == -1) = true ∧ okE M (x, b) = true) ∨ (b = true ∧ 0 < x ∧ (parV M x == -1) = false ∧ (parV M x == areaV M) = okE M (x, b)) ∨ (b = true ∧ x ≤ 0 ∧ okE M (x, b) = false) ∨ (b = false ∧ reachV M x = okE M (x, b)) := by
  cases b with
  | false => simp [okE]
  | true =>
    by_cases hx : 0 < x
    · cases hp : parV M x == -1 with
      | true => left; simp [okE, hx, hp]
      | false => right; left; simp [okE, hx, hp]
    · right; right; left
      exact ⟨rfl, by omega, by simp [okE, hx]⟩
theorem step_yes {M : List E} {e : E} (h : M.length < 5) (k : okE M (e.1 % 8, e.2) = true) : stepV M e = M ++ [(e.1 % 8, e.2)] := if_pos ⟨h, k⟩
theorem step_not {M : List E} {e : E} (k : okE M (e.1 % 8, e.2) = false) : stepV M e = M := if_neg (by rw [k]; simp)

set_option maxRecDepth 100000 in
set_option maxHeartbeats 4000000 in
theorem fit_any (w : World) (v : Value) (L : List E) (h : Sr w v L) : Calls Try.prog 9 #[v] w (Row w (fitV L)) := by
  have h' := h
  obtain ⟨A, c, rfl, h1, h2, h3, h4⟩ := h
  have hlen : L.length ≤ 9223372036854775807 := by unfold maxLen at h2; omega
  clear h4
  go_enter Try.func9, Try.ntmps9
  go_wp2_with fail
  go_loopw [3, 4] (fun s t wr => ∃ (k : Nat) (M : List E), k ≤ L.length ∧ t = .int .i64 k ∧ Own wr w.heap.size s M ∧ Below w.heap.size w wr ∧ M.length ≤ 5 ∧ Hid (M = fitV (L.take k))) (fun _ t _ => L.length - (intOf t).toNat)
  case atStart => exact ⟨0, [], by omega, rfl, Own.empty w _ (Nat.le_refl _), below_one _ _, by simp, Lib.hid rfl⟩
  case round =>
    obtain ⟨k, M, hk, rfl, hO, hB, hm, hM⟩ := hrel
    have hS := hO.sr
    obtain ⟨A', c', rfl, m1, m2, m3, _⟩ := id hS
    by_cases hlt : k < L.length
    · by_cases h5 : M.length < 5
      · have z1 : decide ((k : Int) < (L.length : Int)) = true := decide_eq_true (by omega)
        have z2 : decide ((M.length : Int) < 5) = true := decide_eq_true (by omega)
        have hsr := h'.below hB
        obtain ⟨_, _, e, _, _, _, h4⟩ := hsr
        injection e with e1 e2 e3
        subst e1 e3
        clear e2
        obtain ⟨g, o, rfl, hg, hc⟩ := h4 (by omega)
        obtain ⟨d0, d1⟩ := hc k hlt
        clear hc h4
        have i1 : (k : Int) < (L.length : Int) := by omega
        have HX : bits .and .i64 (L[k]).1 7 = (L[k]).1 % 8 := mask_i64 3 (by decide) _
        have x0 : 0 ≤ (L[k]).1 % 8 := by omega
        have x7 : (L[k]).1 % 8 ≤ 7 := by omega
        have OK := Lib.hid (ok_cases M ((L[k]).1 % 8) (L[k]).2)
        have SY := Lib.hid (step_yes (e := L[k]) h5)
        have SN := Lib.hid (step_not (M := M) (e := L[k]))
        have FT := Lib.hid (fit_take hlt)
        generalize hx : (L[k]).1 = x at *
        generalize hb : (L[k]).2 = b at *
        generalize x % 8 = y at *
        go_wp2_with fail
        go_region
        go_wp2_with fail
        have S1 : Own (wr.alloc (.cells #[.int .i64 y, .bool b] T)).drew w.heap.size (.slice A' M.length c') M := (hO.below (below_one _ _)).drew
        have B1 : Below w.heap.size w (wr.alloc (.cells #[.int .i64 y, .bool b] T)).drew := (hB.alloc hB.size _).drew
        have e0 : (wr.alloc (.cells #[.int .i64 y, .bool b] T)).drew.cell? ⟨wr.heap.size, 0, none⟩ = some (.int .i64 y) := by simp [go_sem]
        have e1 : (wr.alloc (.cells #[.int .i64 y, .bool b] T)).drew.cell? ⟨wr.heap.size, 1, none⟩ = some (.bool b) := by simp [go_sem]
        have hS1 := S1.sr
        change Calls _ _ _ (wr.alloc (.cells #[.int .i64 y, .bool b] T)).drew _
        generalize (wr.alloc (.cells #[.int .i64 y, .bool b] T)).drew = W at *
        have hWs : w.heap.size ≤ W.heap.size := B1.size
        refine (refreach_any _ _ M y hS1).mono ?_
        rintro e w1 ⟨rfl, rfl⟩
        go_wp2_with fail
        refine (refpar_any _ _ M y hS1).mono ?_
        rintro e w1 ⟨rfl, rfl⟩
        clear hS d0 d1 HX hO hB hg
        have yes : Hid (okE M (y, b) = true → M ++ [(y, b)] = fitV (L.take (k + 1))) := Lib.hid fun q => by rw [FT.out, ← hM.out, SY.out q]
        have not : Hid (okE M (y, b) = false → M = fitV (L.take (k + 1))) := Lib.hid fun q => by rw [FT.out, ← hM.out, SN.out q]
        clear SY SN FT hM hx hb
        rcases OK.out with ⟨rfl, q1, q2, q3⟩ | ⟨rfl, q1, q2, q3⟩ | ⟨rfl, q1, q3⟩ | ⟨rfl, q3⟩
        · clear OK
          have Y := Lib.hid (yes.out q3)
          clear yes not q3
          have q4 : decide (0 < y) = true := decide_eq_true q1
          go_wp2_with (
            refine wpList_app rfl (.tmp 68) (.tmp 70) rfl rfl rfl rfl (S1.below (below_one _ _)) (Sr.one W y true) (by simp; omega) (by simp; omega) ?_
            intro v' w' O' G')
          refine ⟨⟨k + 1, _, by omega, by go_num, O', G'.below _ _ (Nat.le_refl _) (B1.alloc B1.size _), by simp; omega, Y⟩, ?_⟩
          simp [intOf]; omega
        · clear OK
          have q4 : decide (0 < y) = true := decide_eq_true q1
          cases hq : okE M (y, true) with
          | true =>
            rw [hq] at q3
            have Y := Lib.hid (yes.out hq)
            clear yes not hq
            go_wp2_with (first
              | (refine wpList_app rfl (.tmp 68) (.tmp 70) rfl rfl rfl rfl (S1.below (below_one _ _)) (Sr.one W y true) (by simp; omega) (by simp; omega) ?_
                 intro v' w' O' G')
              | (go_at_call 22; refine (refpar_any _ _ M y hS1).mono ?_; rintro e w1 ⟨rfl, rfl⟩)
              | (go_at_call 20; refine (refarea_any _ _ M hS1).mono ?_; rintro e w1 ⟨rfl, rfl⟩))
            refine ⟨⟨k + 1, _, by omega, by go_num, O', G'.below _ _ (Nat.le_refl _) (B1.alloc B1.size _), by simp; omega, Y⟩, ?_⟩
            simp [intOf]; omega
          | false =>
            rw [hq] at q3
            have Y := Lib.hid (not.out hq)
            clear yes not hq
            go_wp2_with (first
              | (refine wpList_app rfl (.tmp 68) (.tmp 70) rfl rfl rfl rfl (S1.below (below_one _ _)) (Sr.one W y true) (by simp; omega) (by simp; omega) ?_
                 intro v' w' O' G')
              | (go_at_call 22; refine (refpar_any _ _ M y hS1).mono ?_; rintro e w1 ⟨rfl, rfl⟩)
              | (go_at_call 20; refine (refarea_any _ _ M hS1).mono ?_; rintro e w1 ⟨rfl, rfl⟩))
            refine ⟨⟨k + 1, M, by omega, by go_num, S1, B1, by omega, Y⟩, ?_⟩
            simp [intOf]; omega
        · clear OK
          have Y := Lib.hid (not.out q3)
          clear yes not q3
          have q4 : decide (0 < y) = false := decide_eq_false (by omega)
          go_wp2
          refine ⟨⟨k + 1, M, by omega, by go_num, S1, B1, by omega, Y⟩, ?_⟩
          simp [intOf]; omega
        · clear OK
          cases hq : okE M (y, false) with
          | true =>
            rw [hq] at q3
            have Y := Lib.hid (yes.out hq)
            clear yes not hq
            go_wp2_with (first
              | (refine wpList_app rfl (.tmp 68) (.tmp 70) rfl rfl rfl rfl (S1.below (below_one _ _)) (Sr.one W y false) (by simp; omega) (by simp; omega) ?_
                 intro v' w' O' G')
              | (go_at_call 22; refine (refpar_any _ _ M y hS1).mono ?_; rintro e w1 ⟨rfl, rfl⟩)
              | (go_at_call 20; refine (refarea_any _ _ M hS1).mono ?_; rintro e w1 ⟨rfl, rfl⟩))
            refine ⟨⟨k + 1, _, by omega, by go_num, O', G'.below _ _ (Nat.le_refl _) (B1.alloc B1.size _), by simp; omega, Y⟩, ?_⟩
            simp [intOf]; omega
          | false =>
            rw [hq] at q3
            have Y := Lib.hid (not.out hq)
            clear yes not hq
            go_wp2_with fail
            refine ⟨⟨k + 1, M, by omega, by go_num, S1, B1, by omega, Y⟩, ?_⟩
            simp [intOf]; omega
      · have z1 : decide ((k : Int) < (L.length : Int)) = true := decide_eq_true (by omega)
        have z2 : decide ((M.length : Int) < 5) = false := decide_eq_false (by omega)
        have Y : Hid (fitV L = M) := Lib.hid (by rw [fit_full (k := k) (by rw [← hM.out]; omega), ← hM.out])
        go_wp2
        go_ret
        exact ⟨_, rfl, by rw [Y.out]; exact hS, hB⟩
    · obtain rfl : k = L.length := by omega
      have z1 : decide ((L.length : Int) < (L.length : Int)) = false := decide_eq_false (by omega)
      have Y : Hid (fitV L = M) := Lib.hid (by rw [hM.out, List.take_length])
      go_wp2
      go_ret
      exact ⟨_, rfl, by rw [Y.out]; exact hS, hB⟩
end Go.Proofs.Ytkghpdmliffkdaa.Chain
