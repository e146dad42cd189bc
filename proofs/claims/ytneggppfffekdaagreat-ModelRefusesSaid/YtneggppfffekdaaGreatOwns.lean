/-
  Contract of package model: own.
-/
import Derived.Test.YtneggppfffekdaaGreatSlot
namespace Go.Proofs.YtneggppfffekdaaGreat.Mod
open Go.ChangeShapes Go.WideShapes Go.ChangeAt Go.RowKit Go.Shelf
open Slic Sco
set_option linter.unusedVariables false
set_option linter.unusedSimpArgs false
set_option maxRecDepth 8000
attribute [local go_sem] Oper.semAt_some

theorem flat_nil : ∀ n : Nat, Fina.kR.flat (List.replicate n ((none, 0, 0) : Tri)) = List.replicate n (.slice none 0 0)
  | 0 => rfl
  | n + 1 => by
    rw [List.replicate_succ, List.replicate_succ, Kd.flat, List.flatMap_cons]
    have := flat_nil n
    unfold Kd.flat at this
    rw [this]
    rfl
theorem made_rows (W : World) (b n : Nat) (hb : b ≤ W.heap.size) (hn : n ≤ 1000) : Slic.Own Fina.kR (W.alloc (.cells (madeCells #[.slice none 0 0] n) 87)) b (sl3 (some ⟨W.heap.size, 0, none⟩, n, n)) (List.replicate n (none, 0, 0)) :=
  Slic.Own.lit W b hb _ _ (by rw [toList_madeCells_one]; exact (flat_nil n).symm) (by rw [List.length_replicate]; unfold maxLen; omega) n (by rw [List.length_replicate])
set_option maxHeartbeats 2000000 in
theorem own_any (w : World) (v : Value) (LL : List (List Fina.O)) (h : Fina.Rows w v LL) (hn : LL.length ≤ 1000) (hl : ∀ L ∈ LL, L.length ≤ 1000) :
    Calls Tryz.prog 40 #[v] w fun e w' => ∃ (y : Tri) (Hs : List Tri), e = .returned (sl3 y) ∧ Slic.Own Fina.kR w' w.heap.size (sl3 y) Hs ∧ Hs.length = LL.length ∧ (∀ (i : Nat) (h : i < Hs.length) (h' : i < LL.length), Slic.Own Fina.kF w' w.heap.size (sl3 Hs[i]) LL[i]) ∧ Below w.heap.size w w' := by
  obtain ⟨Hs, hS, hH, hR⟩ := h
  obtain ⟨A, c, rfl, _, _⟩ := hS.form
  obtain ⟨N, hN⟩ : ∃ N, Hs.length = N := ⟨_, rfl⟩
  rw [hN] at hS ⊢
  have mk : ∀ W : World, (Instr.makeSlice 24 (.int .i64 (N : Int)) (.int .i64 (N : Int))).run Tryz.prog W = .ok (.slice (some ⟨W.heap.size, 0, none⟩) N N) (W.alloc (.cells (madeCells #[.slice none 0 0] N) 87)) := by
    obtain ⟨i0, hi, hz0, hz1, hz2⟩ := info_parts Fina.kR.info
    exact run_make_row 24 87 i0 (.slice none 0 0) Fina.kR.under hi hz0 hz1 rfl .i64 .i64 N (by rw [hz2]; show 24 * N ≤ _; omega) (by omega)
  have M0 := made_rows w w.heap.size N (Nat.le_refl _) (by omega)
  have b0 : Below w.heap.size w (w.alloc (.cells (madeCells #[.slice none 0 0] N) 87)) := below_one w _
  have hk0 : (w.alloc (.cells (madeCells #[.slice none 0 0] N) 87)).heap.size = w.heap.size + 1 := by simp
  go_enter Tryz.func40, Tryz.ntmps40
  go_wp2
  go_loopw [11] (fun t wr => ∃ (n : Nat) (Ks : List Tri), n ≤ N ∧ t = .int .i64 (n : Int) ∧ Ks.length = n ∧ Slic.Own Fina.kR wr w.heap.size (sl3 (some ⟨w.heap.size, 0, none⟩, N, N)) (Ks ++ List.replicate (N - n) (none, 0, 0)) ∧ (∀ (i : Nat) (h : i < Ks.length) (h' : i < LL.length), Slic.Own Fina.kF wr w.heap.size (sl3 Ks[i]) LL[i]) ∧ Below w.heap.size w wr ∧ w.heap.size < wr.heap.size) (fun t _ => N - (intOf t).toNat)
  case atStart => exact ⟨0, [], Nat.zero_le _, rfl, rfl, M0, fun i h _ => absurd h (by simp), b0, by omega⟩
  case round =>
    obtain ⟨n, Ks, hn', rfl, hKs, hrow, hrows, hb, hsz⟩ := hrel
    by_cases hlt : n < N
    · have z1 : decide ((n : Int) < (N : Int)) = true := decide_eq_true (by omega)
      obtain ⟨g, o, rfl, hg, hc⟩ := (hS.below hb).at n (by omega)
      have c0 := hc 0 _ rfl
      rw [show o + (n * Fina.kR.m + 0) = o + n from by simp [Fina.kR]] at c0
      have hLn : n < LL.length := by omega
      have SF := (hR n (by omega) hLn).below hb
      have hLL := hl _ (List.getElem_mem hLn)
      have hel : (Ks ++ List.replicate (N - n) ((none, 0, 0) : Tri))[n]? = some (none, 0, 0) := by
        rw [List.getElem?_append_right (by omega), hKs, Nat.sub_self, List.getElem?_replicate, if_pos (by omega)]
      obtain ⟨cc, cf⟩ := own_at hrow n hel
      have q0 := cc 0 _ rfl
      have qf := cf (n * Fina.kR.m + 0)
      have ea : n * Fina.kR.m + 0 = n := by simp [Fina.kR]
      rw [ea] at q0 qf
      go_wp2_with fail
      refine (cloneF_any _ _ SF (by omega)).mono ?_
      rintro e w1 ⟨v', rfl, O1, k1⟩
      obtain ⟨y, rfl⟩ := own_tri O1
      have hrow1 := own_types (X := []) hrow (Only.below k1) (fun x hx => absurd hx List.not_mem_nil)
      have r2 := own_put hrow1 n 0 hel (by decide) y (sl3 y) rfl
      rw [ea] at r2
      have hset : (Ks ++ List.replicate (N - n) ((none, 0, 0) : Tri)).set n y = (Ks ++ [y]) ++ List.replicate (N - (n + 1)) (none, 0, 0) := by
        rw [List.set_append, if_neg (by omega), hKs, Nat.sub_self, show N - n = (N - (n + 1)) + 1 by omega, List.replicate_succ, List.set_cons_zero, List.append_assoc]
        rfl
      rw [hset] at r2
      have K1 : Only [w.heap.size] w1 (w1.setCell ⟨w.heap.size, n, none⟩ (sl3 y)) := Only.put _ _ _ _ (by simp)
      have tb := own_isT hrow1 rfl
      have q1 : w1.cell? ⟨w.heap.size, n, none⟩ = some (.slice none 0 0) := (k1.cell (p := ⟨w.heap.size, n, none⟩) hsz).trans q0
      have qf1 : w1.frozen? ⟨w.heap.size, n, none⟩ = false := (k1.frozen (p := ⟨w.heap.size, n, none⟩) hsz).trans qf
      have hs1 := k1.size
      go_wp2
      go_roundw
      case rel =>
        refine ⟨n + 1, Ks ++ [y], by omega, by go_num, by rw [List.length_append, hKs]; rfl, r2, fun i hi hi' => ?_, (hb.trans (k1.mono hb.size)).setCell (p := ⟨w.heap.size, n, none⟩) (Nat.le_refl _) _, by simp; omega⟩
        by_cases e : i < Ks.length
        · have : (Ks ++ [y])[i] = Ks[i] := List.getElem_append_left e
          rw [this]
          exact own_types (own_types (X := []) (hrows i e hi') (Only.below k1) (fun x hx => absurd hx List.not_mem_nil)) K1 (fun x hx => by rw [List.mem_singleton.1 hx]; exact tb.no rfl)
        · have e1 : i = n := by rw [List.length_append, hKs] at hi; simp at hi; omega
          subst e1
          have : (Ks ++ [y])[i] = y := by
            rw [List.getElem_append_right (by omega)]
            simp
          rw [this]
          exact own_types (O1.zero hb.size) K1 (fun x hx => by rw [List.mem_singleton.1 hx]; exact tb.no rfl)
      case measure => simp [intOf]; omega
    · obtain rfl : n = N := by omega
      rw [Nat.sub_self, List.replicate_zero, List.append_nil] at hrow
      go_wp2
      go_ret
      exact ⟨_, Ks, rfl, hrow, by omega, hrows, hb⟩
end Go.Proofs.YtneggppfffekdaaGreat.Mod
