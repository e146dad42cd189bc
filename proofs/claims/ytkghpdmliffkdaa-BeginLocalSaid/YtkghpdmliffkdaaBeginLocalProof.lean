/-
  penfoldlaw13.BeginLocal returns true for every plan, every four registers and every Case, and changes nothing that was there; no condition.
-/
import Derived.Test.YtkghpdmliffkdaaRows
import Derived.Test.YtkghpdmliffkdaaBase
import Derived.Test.YtkghpdmliffkdaaBegM
namespace Go.Proofs.Ytkghpdmliffkdaa.beginLocal
open Go.ChangeShapes Go.WideShapes Go.ChangeAt Go.RowKit
set_option linter.unusedVariables false

def rowF (f : Nat → Int) : List Value := [.int .u64 (f 0), .int .u64 (f 1), .int .u64 (f 2), .int .u64 (f 3)]
def updF (f : Nat → Int) (k : Nat) (x : Int) : Nat → Int := fun j => if j = k then x else f j
theorem rowF_at (f : Nat → Int) {k : Nat} (h : k < 4) : (rowF f)[k]? = some (.int .u64 (f k)) := by
  have : k = 0 ∨ k = 1 ∨ k = 2 ∨ k = 3 := by omega
  rcases this with rfl | rfl | rfl | rfl <;> rfl
theorem xor_wf (a b : Int) : Go.Proofs.Ytkghpdmliffkdaa.Mod.wf64 (bits .xor .u64 a b) := by
  show 0 ≤ IntKind.u64.wrap _ ∧ IntKind.u64.wrap _ ≤ _
  rw [IntKind.wrap_u64]
  omega
theorem rowF_set (f : Nat → Int) {k : Nat} (h : k < 4) (x : Int) : (rowF f).set k (.int .u64 x) = rowF (updF f k x) := by
  have : k = 0 ∨ k = 1 ∨ k = 2 ∨ k = 3 := by omega
  rcases this with rfl | rfl | rfl | rfl <;> rfl
open Go.Proofs.Ytkghpdmliffkdaa.Beg Go.Proofs.Ytkghpdmliffkdaa.Mod Slic
attribute [local go_sem ↓] Go.wp_at_zero Go.wp_at_succ

set_option maxRecDepth 100000 in
set_option maxHeartbeats 8000000 in
theorem walk (q0 q1 q2 q3 : Int) (g0 g1 g2 g3 : Int) (cv : Value) (cL : _) (w : World) (wq0 : (Lit.int .i64 q0).wf = true) (wq1 : (Lit.int .i64 q1).wf = true) (wq2 : (Lit.int .i64 q2).wf = true) (wq3 : (Lit.int .i64 q3).wf = true) (wg0 : (Lit.int .u64 g0).wf = true) (wg1 : (Lit.int .u64 g1).wf = true) (wg2 : (Lit.int .u64 g2).wf = true) (wg3 : (Lit.int .u64 g3).wf = true) (hc : Beg.CameC w cv cL) :
    Calls Try.prog 5 #[.agg #[.int .i64 q0, .int .i64 q1, .int .i64 q2, .int .i64 q3], .agg #[.int .u64 g0, .int .u64 g1, .int .u64 g2, .int .u64 g3], cv] w fun e w' => e = .returned (.bool true) ∧ Below w.heap.size w w' := by
  obtain ⟨n, t', i, hp, ⟨b1, b2, b3, b4, b5, b6, b7, b8, b9, b10⟩, FT⟩ := Plan.fit_all q0 q1 q2 q3
  obtain ⟨⟨ch, L, ⟨op, r, h, y, a, b, d⟩, code, m⟩, hv, hL, ⟨h0, h1⟩, ⟨y0, y1⟩⟩ := show ∃ x, Beg.CameC w cv x from ⟨cL, hc⟩
  dsimp only at hv hL h0 h1 y0 y1
  subst hv
  have gb0 := Held.bounds_u64 wg0
  have gb1 := Held.bounds_u64 wg1
  have gb2 := Held.bounds_u64 wg2
  have gb3 := Held.bounds_u64 wg3
  clear wq0 wq1 wq2 wq3 wg0 wg1 wg2 wg3 hc
  obtain ⟨A1, c1, rfl, _⟩ := id hL
  obtain ⟨LL, FITL, LN⟩ : ∃ LL, (∀ w v, Chain.Sr w v L → Calls Try.prog 9 #[v] w (Chain.Row w LL)) ∧ Hid (LL.length ≤ 100000) := ⟨_, fun w v h => Chain.fit_any w v L h, Lib.hid (fit_len L)⟩
  have S0 := (((Held.St.start w).new [.int .i64 q0, .int .i64 q1, .int .i64 q2, .int .i64 q3] 23).new [.int .u64 g0, .int .u64 g1, .int .u64 g2, .int .u64 g3] 25).new [.slice A1 L.length c1, .int .u8 op, .int .u8 r, .int .u8 h, .int .u8 y, .int .i64 a, .int .i64 b, .int .i64 d, .int .i64 code, .int .i64 m] 31
  simp only [World.size_alloc] at S0
  have hL0 := hL.below S0.below
  obtain ⟨W, hW⟩ : ∃ W : World, W = ((w.alloc (.cells [.int .i64 q0, .int .i64 q1, .int .i64 q2, .int .i64 q3].toArray 23)).alloc (.cells [.int .u64 g0, .int .u64 g1, .int .u64 g2, .int .u64 g3].toArray 25)).alloc (.cells [.slice A1 L.length c1, .int .u8 op, .int .u8 r, .int .u8 h, .int .u8 y, .int .i64 a, .int .i64 b, .int .i64 d, .int .i64 code, .int .i64 m].toArray 31) := ⟨_, rfl⟩
  rw [← hW] at S0 hL0
  go_enter Try.func5, Try.ntmps5
  go_upto_region 1 with (fail)
  rw [show ((w.alloc (.cells #[.int .i64 q0, .int .i64 q1, .int .i64 q2, .int .i64 q3] 23)).alloc (.cells #[.int .u64 g0, .int .u64 g1, .int .u64 g2, .int .u64 g3] 25)).alloc (.cells #[.slice A1 L.length c1, .int .u8 op, .int .u8 r, .int .u8 h, .int .u8 y, .int .i64 a, .int .i64 b, .int .i64 d, .int .i64 code, .int .i64 m] 31) = W from hW.symm]
  clear hW
  go_wp2_with fail
  refine (Beg.shown13_any _).mono ?_
  rintro z w1 ⟨rfl, k1⟩
  have S1 := S0.call k1
  obtain ⟨_, c0, c1', c2, c3⟩ := S1.get4 2 rfl
  go_wp2_with fail
  refine (FT _).mono ?_
  rintro z w2 ⟨rfl, k2⟩
  have S2 := (S1.call k2).new [.int .i64 n, .int .i64 t', .int .i64 i, .int .i64 hp] 23
  have e0 := (S2.get 1 rfl).cell 0 _ rfl
  clear c0 c1' c2 c3 S1 S0
  go_wp2_with fail
  refine (FITL _ _ (hL.below S2.below)).mono ?_
  rintro z w3 ⟨lv, rfl, O3, k3⟩
  have S3 := S2.call k3
  obtain ⟨A3, c3, rfl, _⟩ := id O3
  obtain ⟨pB, hpB⟩ : ∃ pB : Nat, pB = w2.heap.size := ⟨_, rfl⟩
  rw [← hpB] at S3
  clear e0
  clear S2
  obtain ⟨_, r0, r1, r2, r3⟩ := S3.get4 2 rfl
  go_upto_region 5 with (fail)
  rw [← hpB]
  have S4 := S3.new [.int .u64 g0, .int .u64 g1, .int .u64 g2, .int .u64 g3] 25
  obtain ⟨w4, hw4⟩ : ∃ w4 : World, w4 = w3.alloc (.cells [.int .u64 g0, .int .u64 g1, .int .u64 g2, .int .u64 g3].toArray 25) := ⟨_, rfl⟩
  have B4 := below_one w3 (.cells [.int .u64 g0, .int .u64 g1, .int .u64 g2, .int .u64 g3].toArray 25)
  rw [← hw4] at S4 B4
  rw [show w3.alloc (.cells #[.int .u64 g0, .int .u64 g1, .int .u64 g2, .int .u64 g3] 25) = w4 from hw4.symm]
  obtain ⟨G, hG⟩ : ∃ G : Nat, G = w3.heap.size := ⟨_, rfl⟩
  rw [← hG] at S4
  clear hw4 S3 r0 r1 r2 r3 hpB
  obtain ⟨gg, hgg⟩ : ∃ gg : Nat → Int, gg = fun j => [g0, g1, g2, g3].getD j 0 := ⟨_, rfl⟩
  have eg : [Value.int .u64 g0, .int .u64 g1, .int .u64 g2, .int .u64 g3] = rowF gg := by rw [hgg]; rfl
  rw [eg] at S4
  have WG := Lib.hid (show ∀ j, wf64 (gg j) from fun j => by
    rw [hgg]
    have z : wf64 0 := by unfold wf64; omega
    rcases j with _ | _ | _ | _ | j
    · exact gb0
    · exact gb1
    · exact gb2
    · exact gb3
    · exact z)
  rw [← hG]
  have GE : w3.heap.size ≤ G := Nat.le_of_eq hG.symm
  clear hG eg hgg
  have i2 := (S4.get 2 rfl).cell 3 _ rfl
  have i3 := (S4.get 2 rfl).cell 4 _ rfl
  have lG := (S4.get 0 rfl).lt
  have WB := S4.ne 2 0 rfl rfl (by decide)
  have cz : ∀ z : Int, 0 ≤ z → z ≤ 255 → IntKind.i64.wrap z = z := fun z h1 h2 => IntWalk.i64_in _ (by omega)
  have ch := cz h h0 h1
  have cy := cz y y0 y1
  clear cz
  go_wp2_with fail
  go_loopw [11] (fun t wr => ∃ (k : Nat) (f : Nat → Int), k ≤ 4 ∧ t = .int .i64 k ∧ Held.St w wr ((G, rowF f) :: (pB, [.int .i64 n, .int .i64 t', .int .i64 i, .int .i64 hp]) :: (w.heap.size + 1 + 1, [.slice A1 L.length c1, .int .u8 op, .int .u8 r, .int .u8 h, .int .u8 y, .int .i64 a, .int .i64 b, .int .i64 d, .int .i64 code, .int .i64 m]) :: (w.heap.size + 1, rowF gg) :: (w.heap.size, [.int .i64 q0, .int .i64 q1, .int .i64 q2, .int .i64 q3]) :: []) ∧ Below w3.heap.size w3 wr ∧ Hid (∀ j, wf64 (f j)) ∧ Hid (∀ j : Nat, j < 4 → ((j : Int) = h ∨ (j : Int) = y ∨ k ≤ j) → f j = gg j)) (fun t _ => 4 - (intOf t).toNat)
  case atStart => exact ⟨0, gg, by omega, rfl, S4, B4, WG, Lib.hid (fun _ _ _ => rfl)⟩
  case round =>
    obtain ⟨k, f, hk, rfl, SR, BR, WF, EQ⟩ := hrel
    have i2 := (SR.get 2 rfl).cell 3 _ rfl
    have i3 := (SR.get 2 rfl).cell 4 _ rfl
    by_cases hlt : k < 4
    · have ck := (SR.get 0 rfl).cell k _ (rowF_at f hlt)
      have fz := (SR.get 0 rfl).fz
      have k0 : (0 : Int) ≤ (k : Int) := by omega
      have k4 : (k : Int) < 4 := by omega
      by_cases e1 : (k : Int) = h
      · have z1 : ((k : Int) == h) = true := by simpa using e1
        have z2 : ((k : Int) != h) = false := by simpa using e1
        have EN := Lib.hid (show ∀ j : Nat, j < 4 → ((j : Int) = h ∨ (j : Int) = y ∨ k + 1 ≤ j) → f j = gg j from fun j hj c => EQ.out j hj (by omega))
        clear e1
        go_wp2
        go_roundw
        case rel => exact ⟨k + 1, f, by omega, by go_num, SR, BR, WF, EN⟩
        case measure => simp [intOf]; omega
      have z1 : ((k : Int) == h) = false := by simpa using e1
      have z2 : ((k : Int) != h) = true := by simpa using e1
      by_cases e2 : (k : Int) = y
      · have z3 : ((k : Int) == y) = true := by simpa using e2
        have z4 : ((k : Int) != y) = false := by simpa using e2
        have EN := Lib.hid (show ∀ j : Nat, j < 4 → ((j : Int) = h ∨ (j : Int) = y ∨ k + 1 ≤ j) → f j = gg j from fun j hj c => EQ.out j hj (by omega))
        clear e1 e2
        go_wp2
        go_roundw
        case rel => exact ⟨k + 1, f, by omega, by go_num, SR, BR, WF, EN⟩
        case measure => simp [intOf]; omega
      · have z3 : ((k : Int) == y) = false := by simpa using e2
        have z4 : ((k : Int) != y) = true := by simpa using e2
        have EN := fun x => Lib.hid (show ∀ j : Nat, j < 4 → ((j : Int) = h ∨ (j : Int) = y ∨ k + 1 ≤ j) → updF f k x j = gg j from fun j hj c => by
          unfold updF
          rw [if_neg (by omega)]
          exact EQ.out j hj (by omega))
        clear e1 e2
        go_wp2
        have SX := SR.put 0 k rfl (.int .u64 (bits .xor .u64 (if IntKind.u64.signed = true then -1 else IntKind.u64.max) (f k))) hlt
        rw [rowF_set f hlt] at SX
        have WX := Lib.hid (show ∀ j, wf64 (updF f k (bits .xor .u64 (if IntKind.u64.signed = true then -1 else IntKind.u64.max) (f k)) j) from fun j => by
          unfold updF
          by_cases e : j = k
          · rw [if_pos e]
            exact xor_wf _ _
          · rw [if_neg e]
            exact WF.out j)
        go_roundw
        case rel => exact ⟨k + 1, _, by omega, by go_num, SX, BR.setCell GE _, WX, EN _⟩
        case measure => simp [intOf]; omega
    · obtain rfl : k = 4 := by omega
      have EH := (show ∀ j : Nat, j < 4 → ((j : Int) = h ∨ (j : Int) = y) → f j = gg j from fun j hj c => EQ.out j hj (by omega))
      have OR := O3.below BR
      have GW := Lib.hid (show ∀ x ∈ [gg 0, gg 1, gg 2, gg 3], wf64 x from fun x hx => by
        simp only [List.mem_cons, List.not_mem_nil, or_false] at hx
        rcases hx with rfl | rfl | rfl | rfl <;> exact WG.out _)
      obtain ⟨ha, hha⟩ : ∃ z, regA [gg 0, gg 1, gg 2, gg 3] h = z := ⟨_, rfl⟩
      obtain ⟨va, hva⟩ : ∃ z, regA [gg 0, gg 1, gg 2, gg 3] y = z := ⟨_, rfl⟩
      obtain ⟨be, hbe⟩ : ∃ z, begV n LL ⟨op, r, h, y, a, b, d⟩ ha va = z := ⟨_, rfl⟩
      obtain ⟨ar, har⟩ : ∃ z, Chain.areaV LL = z := ⟨_, rfl⟩
      have OFE := Lib.hid (show ∀ ch, ofR ⟨op, r, h, y, a, b, d⟩ (begV n LL ⟨op, r, h, y, a, b, d⟩ (regA [gg 0, gg 1, gg 2, gg 3] h) (regA [gg 0, gg 1, gg 2, gg 3] y)) (Chain.areaV LL) (regA [gg 0, gg 1, gg 2, gg 3] h) (regA [gg 0, gg 1, gg 2, gg 3] y) ch = ofR ⟨op, r, h, y, a, b, d⟩ be ar ha va ch from fun ch => by rw [hha, hva, hbe, har])
      have GX := Lib.hid (show ∀ x ∈ [f 0, f 1, f 2, f 3], wf64 x from fun x hx => by
        simp only [List.mem_cons, List.not_mem_nil, or_false] at hx
        rcases hx with rfl | rfl | rfl | rfl <;> exact WF.out _)
      have OFF := Lib.hid (show ∀ ch, ofR ⟨op, r, h, y, a, b, d⟩ (begV n LL ⟨op, r, h, y, a, b, d⟩ (regA [f 0, f 1, f 2, f 3] h) (regA [f 0, f 1, f 2, f 3] y)) (Chain.areaV LL) (regA [f 0, f 1, f 2, f 3] h) (regA [f 0, f 1, f 2, f 3] y) ch = ofR ⟨op, r, h, y, a, b, d⟩ be ar ha va ch from fun ch => by rw [(reg_eq h0 y0 EH).1, (reg_eq h0 y0 EH).2, hha, hva, hbe, har])
      clear hha hva hbe har EH EQ i2 i3 hk hlt
      obtain ⟨m1, hm1⟩ : ∃ M : List (Nat × List Value), M = (G, rowF f) :: (pB, [.int .i64 n, .int .i64 t', .int .i64 i, .int .i64 hp]) :: (w.heap.size + 1 + 1, [.slice A1 L.length c1, .int .u8 op, .int .u8 r, .int .u8 h, .int .u8 y, .int .i64 a, .int .i64 b, .int .i64 d, .int .i64 code, .int .i64 m]) :: (w.heap.size + 1, rowF gg) :: (w.heap.size, [.int .i64 q0, .int .i64 q1, .int .i64 q2, .int .i64 q3]) :: [] := ⟨_, rfl⟩
      go_upto_region 10 with (fail)
      go_cut [12] (fun s wx => RunB w wr m1 (ofR ⟨op, r, h, y, a, b, d⟩ be ar ha va) LL s wx)
      case first =>
        subst hm1
        refine wp_region_held_drew (S := (fun W' => ((W'.cell? ⟨pB, 0, none⟩ = some (.int .i64 n) ∧ W'.cell? ⟨pB, 1, none⟩ = some (.int .i64 t') ∧ W'.cell? ⟨pB, 2, none⟩ = some (.int .i64 i) ∧ W'.cell? ⟨pB, 3, none⟩ = some (.int .i64 hp)) ∧ W'.cell? ⟨w.heap.size + 2, 1, none⟩ = some (.int .u8 op) ∧ W'.cell? ⟨w.heap.size + 2, 2, none⟩ = some (.int .u8 r) ∧ W'.cell? ⟨w.heap.size + 2, 3, none⟩ = some (.int .u8 h) ∧ W'.cell? ⟨w.heap.size + 2, 4, none⟩ = some (.int .u8 y) ∧ W'.cell? ⟨w.heap.size + 2, 5, none⟩ = some (.int .i64 a) ∧ W'.cell? ⟨w.heap.size + 2, 6, none⟩ = some (.int .i64 b) ∧ W'.cell? ⟨w.heap.size + 2, 7, none⟩ = some (.int .i64 d)))) (by kernel_rfl) ?_ (fun hHeld => ?_)
        · exact keep11 (SR.drew.get 1 rfl) (SR.drew.get 2 rfl)
        refine wpAnyH_take (i := 0) (oi := ⟨some 45, _, _, _, _, _⟩) (v := ?_) rfl (by kernel_rfl) (by kernel_rfl) (by kernel_rfl) (fun _ _ _ h => h) (Or.inl ⟨by kernel_rfl, ?_⟩) (by assumption) ?_
        rotate_left
        · intro w hSw
          try dsimp only at hSw
          first | (go_simp; done) | (go_simp; with_reducible rfl) | with_reducible rfl
        simp only [Act.put, List.setIfInBounds_toArray, List.set_cons_zero, List.set_cons_succ]
        refine wpAnyH_take (i := 1) (oi := ⟨some 46, _, _, _, _, _⟩) (v := ?_) rfl (by kernel_rfl) (by kernel_rfl) (by kernel_rfl) (fun _ _ _ h => h) (Or.inl ⟨by kernel_rfl, ?_⟩) (by assumption) ?_
        rotate_left
        · intro w hSw
          try dsimp only at hSw
          first | (go_simp; done) | (go_simp; with_reducible rfl) | with_reducible rfl
        simp only [Act.put, List.setIfInBounds_toArray, List.set_cons_zero, List.set_cons_succ]
        refine wpAnyH_take (i := 2) (oi := ⟨some 47, _, _, _, _, _⟩) (v := ?_) rfl (by kernel_rfl) (by kernel_rfl) (by kernel_rfl) (fun _ _ _ h => h) (Or.inl ⟨by kernel_rfl, ?_⟩) (by assumption) ?_
        rotate_left
        · intro w hSw
          try dsimp only at hSw
          first | (go_simp; done) | (go_simp; with_reducible rfl) | with_reducible rfl
        simp only [Act.put, List.setIfInBounds_toArray, List.set_cons_zero, List.set_cons_succ]
        refine wpAnyH_take (i := 3) (oi := ⟨some 48, _, _, _, _, _⟩) (v := ?_) rfl (by kernel_rfl) (by kernel_rfl) (by kernel_rfl) (fun _ _ _ h => h) (Or.inl ⟨by kernel_rfl, ?_⟩) (by assumption) ?_
        rotate_left
        · intro w hSw
          try dsimp only at hSw
          first | (go_simp; done) | (go_simp; with_reducible rfl) | with_reducible rfl
        simp only [Act.put, List.setIfInBounds_toArray, List.set_cons_zero, List.set_cons_succ]
        refine wpAnyH_take (i := 4) (oi := ⟨some 49, _, _, _, _, _⟩) (v := ?_) rfl (by kernel_rfl) (by kernel_rfl) (by kernel_rfl) (fun _ _ _ h => h) (Or.inl ⟨by kernel_rfl, ?_⟩) (by assumption) ?_
        rotate_left
        · intro w hSw
          try dsimp only at hSw
          first | (go_simp; done) | (go_simp; with_reducible rfl) | with_reducible rfl
        simp only [Act.put, List.setIfInBounds_toArray, List.set_cons_zero, List.set_cons_succ]
        refine wpAnyH_ready (rs := [5, 6]) (by kernel_rfl) (by simp) ?_
        refine AllReadyH.cons (o := ⟨some 50, _, _, _, _, _⟩) rfl (fun K hK => ?_) (AllReadyH.cons (o := ⟨some 12, _, _, _, _, _⟩) rfl (fun K hK => ?_) AllReadyH.nil)
        · skip
          have RZ := rows4 (SR.drew.get 3 rfl)
          have OZ := OR.drew
          go_simp
          refine (of_any _ _ LL [gg 0, gg 1, gg 2, gg 3] n t' i hp op r h y a b d _ b1 b2 RZ rfl GW.out OZ LN.out h0 h1 y0 y1).mono ?_
          rintro e wq ⟨ch, rfl, O, OB, k⟩
          obtain ⟨Au, cu, rfl, _, _⟩ := O.form
          rw [OFE.out]
          refine hK.out _ _ ?_ (fun hHeld => ?_)
          · exact keep11 ((SR.drew.call k).get 1 rfl) ((SR.drew.call k).get 2 rfl)
          clear hK K
          refine wpAnyH_ready (rs := [6]) (by kernel_rfl) (by simp) ?_
          refine AllReadyH.cons (o := ⟨some 12, _, _, _, _, _⟩) rfl (fun K hK => ?_) AllReadyH.nil
          go_simp
          refine hK.out _ _ ?_ (fun hHeld => ?_)
          · exact keep11 (((SR.drew.call k).new zR 39).get 2 rfl) (((SR.drew.call k).new zR 39).get 3 rfl)
          clear hK K
          refine wpAnyH_ready (rs := [7]) (by kernel_rfl) (by simp) ?_
          refine AllReadyH.cons (o := ⟨none, _, _, _, _, _⟩) rfl (fun K hK => ?_) AllReadyH.nil
          have AA := ((SR.drew.call k).new zR 39)
          have AF := St.fill AA (ofR ⟨op, r, h, y, a, b, d⟩ be ar ha va (.slice Au LL.length cu)).cells rfl
          have TT : World.there _ _ 0 26 := there_of AA
          rw [if_pos (by rfl)]
          refine wp_store_mid _ _ _ rfl _ 0 (ofR ⟨op, r, h, y, a, b, d⟩ be ar ha va (.slice Au LL.length cu)).cells.toArray rfl rfl TT info_run (all_oneCell_toArray of_one) ?_
          simp only [Act.put]
          refine hK.out _ _ ?_ (fun hHeld => ?_)
          · exact keep11 (AF.get 2 rfl) (AF.get 3 rfl)
          clear hK K
          refine wpAnyH_done (by kernel_rfl) ?_ _
          go_wp2_with fail
          go_meet
          exact ⟨_, .slice Au LL.length cu, rfl, AF, late_sr O, late_below k⟩
        · skip
          go_simp
          refine hK.out _ _ ?_ (fun hHeld => ?_)
          · exact keep11 ((SR.drew.new zR 39).get 2 rfl) ((SR.drew.new zR 39).get 3 rfl)
          clear hK K
          refine wpAnyH_ready (rs := [5]) (by kernel_rfl) (by simp) ?_
          refine AllReadyH.cons (o := ⟨some 50, _, _, _, _, _⟩) rfl (fun K hK => ?_) AllReadyH.nil
          have RZ := rows4 ((SR.drew.new zR 39).get 4 rfl)
          have OZ := OR.drew.alloc (.cells zR.toArray 39)
          go_simp
          refine (of_any _ _ LL [gg 0, gg 1, gg 2, gg 3] n t' i hp op r h y a b d _ b1 b2 RZ rfl GW.out OZ LN.out h0 h1 y0 y1).mono ?_
          rintro e wq ⟨ch, rfl, O, OB, k⟩
          obtain ⟨Au, cu, rfl, _, _⟩ := O.form
          rw [OFE.out]
          refine hK.out _ _ ?_ (fun hHeld => ?_)
          · exact keep11 (((SR.drew.new zR 39).call k).get 2 rfl) (((SR.drew.new zR 39).call k).get 3 rfl)
          clear hK K
          refine wpAnyH_ready (rs := [7]) (by kernel_rfl) (by simp) ?_
          refine AllReadyH.cons (o := ⟨none, _, _, _, _, _⟩) rfl (fun K hK => ?_) AllReadyH.nil
          have AA := (((SR.drew.new zR 39).call k))
          have AF := St.fill AA (ofR ⟨op, r, h, y, a, b, d⟩ be ar ha va (.slice Au LL.length cu)).cells rfl
          have TT : World.there _ _ 0 26 := there_of AA
          rw [if_pos (by rfl)]
          refine wp_store_mid _ _ _ rfl _ 0 (ofR ⟨op, r, h, y, a, b, d⟩ be ar ha va (.slice Au LL.length cu)).cells.toArray rfl rfl TT info_run (all_oneCell_toArray of_one) ?_
          simp only [Act.put]
          refine hK.out _ _ ?_ (fun hHeld => ?_)
          · exact keep11 (AF.get 2 rfl) (AF.get 3 rfl)
          clear hK K
          refine wpAnyH_done (by kernel_rfl) ?_ _
          go_wp2_with fail
          go_meet
          exact ⟨_, .slice Au LL.length cu, rfl, AF, early_sr O OB, early_below k⟩
      case rest =>
        obtain ⟨gA, cA, rfl, SA, OA, KA⟩ := hcut
        subst hm1
        have OR2 := OR.below KA
        have GW := GX
        obtain ⟨m1, hm1⟩ : ∃ M : List (Nat × List Value), M = (gA, (ofR ⟨op, r, h, y, a, b, d⟩ be ar ha va cA).cells) :: (G, rowF f) :: (pB, [.int .i64 n, .int .i64 t', .int .i64 i, .int .i64 hp]) :: (w.heap.size + 1 + 1, [.slice A1 L.length c1, .int .u8 op, .int .u8 r, .int .u8 h, .int .u8 y, .int .i64 a, .int .i64 b, .int .i64 d, .int .i64 code, .int .i64 m]) :: (w.heap.size + 1, rowF gg) :: (w.heap.size, [.int .i64 q0, .int .i64 q1, .int .i64 q2, .int .i64 q3]) :: [] := ⟨_, rfl⟩
        go_upto_region 11 with (fail)
        go_cut [13] (fun s wy => RunB w wc m1 (ofR ⟨op, r, h, y, a, b, d⟩ be ar ha va) LL s wy)
        case first =>
          subst hm1
          refine wp_region_held_drew (S := (fun W' => ((W'.cell? ⟨pB, 0, none⟩ = some (.int .i64 n) ∧ W'.cell? ⟨pB, 1, none⟩ = some (.int .i64 t') ∧ W'.cell? ⟨pB, 2, none⟩ = some (.int .i64 i) ∧ W'.cell? ⟨pB, 3, none⟩ = some (.int .i64 hp)) ∧ W'.cell? ⟨w.heap.size + 2, 1, none⟩ = some (.int .u8 op) ∧ W'.cell? ⟨w.heap.size + 2, 2, none⟩ = some (.int .u8 r) ∧ W'.cell? ⟨w.heap.size + 2, 3, none⟩ = some (.int .u8 h) ∧ W'.cell? ⟨w.heap.size + 2, 4, none⟩ = some (.int .u8 y) ∧ W'.cell? ⟨w.heap.size + 2, 5, none⟩ = some (.int .i64 a) ∧ W'.cell? ⟨w.heap.size + 2, 6, none⟩ = some (.int .i64 b) ∧ W'.cell? ⟨w.heap.size + 2, 7, none⟩ = some (.int .i64 d)))) (by kernel_rfl) ?_ (fun hHeld => ?_)
          · exact keep11 (SA.drew.get 2 rfl) (SA.drew.get 3 rfl)
          refine wpAnyH_take (i := 0) (oi := ⟨some 51, _, _, _, _, _⟩) (v := ?_) rfl (by kernel_rfl) (by kernel_rfl) (by kernel_rfl) (fun _ _ _ h => h) (Or.inl ⟨by kernel_rfl, ?_⟩) (by assumption) ?_
          rotate_left
          · intro w hSw
            try dsimp only at hSw
            first | (go_simp; done) | (go_simp; with_reducible rfl) | with_reducible rfl
          simp only [Act.put, List.setIfInBounds_toArray, List.set_cons_zero, List.set_cons_succ]
          refine wpAnyH_take (i := 1) (oi := ⟨some 52, _, _, _, _, _⟩) (v := ?_) rfl (by kernel_rfl) (by kernel_rfl) (by kernel_rfl) (fun _ _ _ h => h) (Or.inl ⟨by kernel_rfl, ?_⟩) (by assumption) ?_
          rotate_left
          · intro w hSw
            try dsimp only at hSw
            first | (go_simp; done) | (go_simp; with_reducible rfl) | with_reducible rfl
          simp only [Act.put, List.setIfInBounds_toArray, List.set_cons_zero, List.set_cons_succ]
          refine wpAnyH_take (i := 2) (oi := ⟨some 53, _, _, _, _, _⟩) (v := ?_) rfl (by kernel_rfl) (by kernel_rfl) (by kernel_rfl) (fun _ _ _ h => h) (Or.inl ⟨by kernel_rfl, ?_⟩) (by assumption) ?_
          rotate_left
          · intro w hSw
            try dsimp only at hSw
            first | (go_simp; done) | (go_simp; with_reducible rfl) | with_reducible rfl
          simp only [Act.put, List.setIfInBounds_toArray, List.set_cons_zero, List.set_cons_succ]
          refine wpAnyH_take (i := 3) (oi := ⟨some 54, _, _, _, _, _⟩) (v := ?_) rfl (by kernel_rfl) (by kernel_rfl) (by kernel_rfl) (fun _ _ _ h => h) (Or.inl ⟨by kernel_rfl, ?_⟩) (by assumption) ?_
          rotate_left
          · intro w hSw
            try dsimp only at hSw
            first | (go_simp; done) | (go_simp; with_reducible rfl) | with_reducible rfl
          simp only [Act.put, List.setIfInBounds_toArray, List.set_cons_zero, List.set_cons_succ]
          refine wpAnyH_take (i := 4) (oi := ⟨some 55, _, _, _, _, _⟩) (v := ?_) rfl (by kernel_rfl) (by kernel_rfl) (by kernel_rfl) (fun _ _ _ h => h) (Or.inl ⟨by kernel_rfl, ?_⟩) (by assumption) ?_
          rotate_left
          · intro w hSw
            try dsimp only at hSw
            first | (go_simp; done) | (go_simp; with_reducible rfl) | with_reducible rfl
          simp only [Act.put, List.setIfInBounds_toArray, List.set_cons_zero, List.set_cons_succ]
          refine wpAnyH_ready (rs := [5, 6]) (by kernel_rfl) (by simp) ?_
          refine AllReadyH.cons (o := ⟨some 56, _, _, _, _, _⟩) rfl (fun K hK => ?_) (AllReadyH.cons (o := ⟨some 13, _, _, _, _, _⟩) rfl (fun K hK => ?_) AllReadyH.nil)
          · skip
            have RZ := rows4 (SA.drew.get 1 rfl)
            have OZ := OR2.drew
            go_simp
            refine (of_any _ _ LL [f 0, f 1, f 2, f 3] n t' i hp op r h y a b d _ b1 b2 RZ rfl GW.out OZ LN.out h0 h1 y0 y1).mono ?_
            rintro e wq ⟨ch, rfl, O, OB, k⟩
            obtain ⟨Au, cu, rfl, _, _⟩ := O.form
            rw [OFF.out]
            refine hK.out _ _ ?_ (fun hHeld => ?_)
            · exact keep11 ((SA.drew.call k).get 2 rfl) ((SA.drew.call k).get 3 rfl)
            clear hK K
            refine wpAnyH_ready (rs := [6]) (by kernel_rfl) (by simp) ?_
            refine AllReadyH.cons (o := ⟨some 13, _, _, _, _, _⟩) rfl (fun K hK => ?_) AllReadyH.nil
            go_simp
            refine hK.out _ _ ?_ (fun hHeld => ?_)
            · exact keep11 (((SA.drew.call k).new zR 39).get 3 rfl) (((SA.drew.call k).new zR 39).get 4 rfl)
            clear hK K
            refine wpAnyH_ready (rs := [7]) (by kernel_rfl) (by simp) ?_
            refine AllReadyH.cons (o := ⟨none, _, _, _, _, _⟩) rfl (fun K hK => ?_) AllReadyH.nil
            have AA := ((SA.drew.call k).new zR 39)
            have AF := St.fill AA (ofR ⟨op, r, h, y, a, b, d⟩ be ar ha va (.slice Au LL.length cu)).cells rfl
            have TT : World.there _ _ 0 26 := there_of AA
            rw [if_pos (by rfl)]
            refine wp_store_mid _ _ _ rfl _ 0 (ofR ⟨op, r, h, y, a, b, d⟩ be ar ha va (.slice Au LL.length cu)).cells.toArray rfl rfl TT info_run (all_oneCell_toArray of_one) ?_
            simp only [Act.put]
            refine hK.out _ _ ?_ (fun hHeld => ?_)
            · exact keep11 (AF.get 3 rfl) (AF.get 4 rfl)
            clear hK K
            refine wpAnyH_done (by kernel_rfl) ?_ _
            go_wp2_with fail
            go_meet
            exact ⟨_, .slice Au LL.length cu, rfl, AF, late_sr O, late_below k⟩
          · skip
            go_simp
            refine hK.out _ _ ?_ (fun hHeld => ?_)
            · exact keep11 ((SA.drew.new zR 39).get 3 rfl) ((SA.drew.new zR 39).get 4 rfl)
            clear hK K
            refine wpAnyH_ready (rs := [5]) (by kernel_rfl) (by simp) ?_
            refine AllReadyH.cons (o := ⟨some 56, _, _, _, _, _⟩) rfl (fun K hK => ?_) AllReadyH.nil
            have RZ := rows4 ((SA.drew.new zR 39).get 2 rfl)
            have OZ := OR2.drew.alloc (.cells zR.toArray 39)
            go_simp
            refine (of_any _ _ LL [f 0, f 1, f 2, f 3] n t' i hp op r h y a b d _ b1 b2 RZ rfl GW.out OZ LN.out h0 h1 y0 y1).mono ?_
            rintro e wq ⟨ch, rfl, O, OB, k⟩
            obtain ⟨Au, cu, rfl, _, _⟩ := O.form
            rw [OFF.out]
            refine hK.out _ _ ?_ (fun hHeld => ?_)
            · exact keep11 (((SA.drew.new zR 39).call k).get 3 rfl) (((SA.drew.new zR 39).call k).get 4 rfl)
            clear hK K
            refine wpAnyH_ready (rs := [7]) (by kernel_rfl) (by simp) ?_
            refine AllReadyH.cons (o := ⟨none, _, _, _, _, _⟩) rfl (fun K hK => ?_) AllReadyH.nil
            have AA := (((SA.drew.new zR 39).call k))
            have AF := St.fill AA (ofR ⟨op, r, h, y, a, b, d⟩ be ar ha va (.slice Au LL.length cu)).cells rfl
            have TT : World.there _ _ 0 26 := there_of AA
            rw [if_pos (by rfl)]
            refine wp_store_mid _ _ _ rfl _ 0 (ofR ⟨op, r, h, y, a, b, d⟩ be ar ha va (.slice Au LL.length cu)).cells.toArray rfl rfl TT info_run (all_oneCell_toArray of_one) ?_
            simp only [Act.put]
            refine hK.out _ _ ?_ (fun hHeld => ?_)
            · exact keep11 (AF.get 3 rfl) (AF.get 4 rfl)
            clear hK K
            refine wpAnyH_done (by kernel_rfl) ?_ _
            go_wp2_with fail
            go_meet
            exact ⟨_, .slice Au LL.length cu, rfl, AF, early_sr O OB, early_below k⟩
        case rest =>
          obtain ⟨gB, cB, rfl, SB, OB, KB⟩ := hcut
          subst hm1
          have OA2 := OA.below KB
          obtain ⟨aA, dA, rfl, _, _⟩ := OA2.form
          obtain ⟨aB, dB, rfl, _, _⟩ := OB.form
          have R0 := range_of SB
          have R1 := range_of (St.swap SB)
          go_upto_region 12 with (fail)
          go_wp2_with (first | (refine wpList_load_want (by rfl) _ _ rfl gA 0 rfl (ofR ⟨op, r, h, y, a, b, d⟩ be ar ha va (.slice aA LL.length dA)).cells _ R1 Try.underlying39 rfl info_run ?_) | (refine wpList_load_want (by rfl) _ _ rfl gB 0 rfl (ofR ⟨op, r, h, y, a, b, d⟩ be ar ha va (.slice aB LL.length dB)).cells _ R0 Try.underlying39 rfl info_run ?_))
          refine (sameR_any (ofR ⟨op, r, h, y, a, b, d⟩ be ar ha va (.slice aA LL.length dA)) (.slice aB LL.length dB) (.slice none 0 0) (.slice none 0 0) (.slice none 0 0) LL [] [] [] _ OA2 (Sr.nil _) (Sr.nil _) (Sr.nil _) OB (Sr.nil _) (Sr.nil _) (Sr.nil _)).mono ?_
          rintro z w9 ⟨rfl, k9⟩
          have BB := (SB.call k9).below
          go_wp2
          go_ret
          exact ⟨rfl, BB⟩

set_option maxRecDepth 100000 in
theorem lifted (os : Os) (started : os.Started) (H : Type) (enc : TypeId × Value → H) :
    ReturnsInHanded {} Try.checked os 5 .any (Rows.beginLocalSpec.pre6 enc Try.prog Try.f5 Rows.beginLocalRow.domain false) (Rows.beginLocalSpec.post enc Try.prog Try.f5 false true false false) := by
  refine returnsInHanded_of_change (C := Try.checked) Args.own started (by kernel_rfl) Try.func5
    (ChangeSpec.witness6 (enc := enc) (C := Try.checked) false ⟨#[], #[.agg #[.int .i64 0, .int .i64 0, .int .i64 0, .int .i64 0], .agg #[.int .u64 0, .int .u64 0, .int .u64 0, .int .u64 0], .agg #[.slice none 0 0, .int .u8 0, .int .u8 0, .int .u8 0, .int .u8 0, .int .i64 0, .int .i64 0, .int .i64 0, .int .i64 0, .int .i64 0]], []⟩ 8 (by kernel_rfl) (by kernel_rfl) (by kernel_rfl) (by kernel_rfl)) ?_
  intro W base args ds gs before hval0 hW hcnd _
  have hval : ∀ (j : Nat) t v, Try.f5.params[j]? = some t → args[j]? = some v → Value.okWide Try.prog W .any base t v := hval0
  have hW' := hW
  obtain ⟨p, q, hA0, hV, rfl, hfz, hnd⟩ := hW
  have hA : DataW.TrodAll enc Try.prog W 0 (fun _ => true) true Try.f5.params.toList args.toList ds p := hA0
  rw [Try.params5] at hA hval
  obtain ⟨v0, vs0, d0, ds0, p0, q0, hargs, rfl, rfl, h0, r0⟩ := trodAll_cons hA
  obtain ⟨v1, vs1, d1, ds1, p1, q1, rfl, rfl, rfl, h1, r1⟩ := trodAll_cons r0
  obtain ⟨v2, vs2, d2, ds2, p2, q2, rfl, rfl, rfl, h2, r2⟩ := trodAll_cons r1
  obtain ⟨rfl, rfl, rfl⟩ := trodAll_nil r2
  obtain rfl : args = #[v0, v1, v2] := by cases args; simp_all
  obtain ⟨rfl, rfl⟩ := trodVars_none hV
  have lt0 := Args.trod_below h0
  obtain ⟨qz, hv0, hq⟩ := Args.rec_in (ks := [.i64, .i64, .i64, .i64]) Try.underlying23 (by kernel_rfl) (by kernel_rfl) (hval 0 23 v0 rfl rfl) h0
  obtain rfl : v0 = .agg #[.int .i64 (qz 0), .int .i64 (qz 1), .int .i64 (qz 2), .int .i64 (qz 3)] := hv0
  have lt1 := Args.trod_below h1
  obtain ⟨gz, hv1, hg⟩ := Args.arr_in (m := 4) (k := .u64) (e := 24) (by kernel_rfl) (by kernel_rfl) (by kernel_rfl) (by kernel_rfl) (hval 1 25 v1 rfl rfl) h1
  obtain rfl : v1 = .agg #[.int .u64 (gz 0), .int .u64 (gz 1), .int .u64 (gz 2), .int .u64 (gz 3)] := hv1.trans (by kernel_rfl)
  have lt2 := Args.trod_below h2
  obtain ⟨cL, hc⟩ := Beg.came_case (hval 2 31 v2 rfl rfl) h2
  clear hA0 hval0
  refine (walk (qz 0) (qz 1) (qz 2) (qz 3) (gz 0) (gz 1) (gz 2) (gz 3) v2 cL W (hq 0) (hq 1) (hq 2) (hq 3) (hg 0) (hg 1) (hg 2) (hg 3) hc).mono fun e W' ⟨he, bel⟩ => ?_
  subst he
  exact ⟨_, rfl, _, _, _, [], _, [], hW', trodAll_mk1 (shut_bool Try.underlying4 _), trodAll_cons_mk (Below.trod Args.laidOut (by kernel_rfl) (of_decide_eq_true (by kernel_rfl)) h0 bel lt0) (trodAll_cons_mk (Below.trod Args.laidOut (by kernel_rfl) (of_decide_eq_true (by kernel_rfl)) h1 bel lt1) (trodAll_cons_mk (Below.trod Args.laidOut (by kernel_rfl) (of_decide_eq_true (by kernel_rfl)) h2 bel lt2) (trodAll_mk0))), rfl, bel.frame _, fun h => by cases h⟩

theorem over : Rows.beginLocalRow.holds Try.pinned (OpenSpec.ofChange Rows.beginLocalSpec) :=
  OpenClaim.holds_of_wide 5 Try.f5 rfl rfl rfl rfl rfl rfl rfl ⟨rfl, rfl, rfl, rfl, rfl⟩ rfl rfl rfl rfl rfl (by kernel_rfl) Try.func5 (by kernel_rfl)
    (of_decide_eq_true (by kernel_rfl)) (by unfold Func.isWrapper; rw [if_neg (of_decide_eq_false (by kernel_rfl))]; exact ⟨rfl, rfl⟩)
    (fun os started H enc _ => lifted os started H enc)

theorem proved : Rows.BeginLocalSaid :=
  over
end Go.Proofs.Ytkghpdmliffkdaa.beginLocal
