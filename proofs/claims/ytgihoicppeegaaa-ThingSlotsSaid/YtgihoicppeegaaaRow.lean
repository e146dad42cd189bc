/-
  The contract of penfoldlaw08.row: objects claimed one behind the other, their heads and their places in rows of one's own.
-/
import Derived.Test.YtgihoicppeegaaaLaid
import Derived.Deep.RegionHeld3
namespace Go.Proofs.Ytgihoicppeegaaa.Thing
open Go.ChangeShapes Go.WideShapes Go.ChangeAt Go.RowKit
open Mem Arena Held Ref
open Heads (U Y P unV firstV secondV rightB packV retY)
set_option linter.unusedVariables false

/-- An arena of 80 words with objects from word 8 on, their heads in v, their places in u. -/
structure Rw (w0 w : World) (N : Nat) (f : Nat → Int) (hs : List Hd) (v u : Value) : Prop where
  ar : Ar w (N + 1) N 80 f
  heads : HRow w (N + 2) v hs
  plcs : Row w (N + 2) u (places 8 hs)
  laid : Laid f 8 hs
  len : hs.length ≤ 6
  used : f 0 = 8 * (total hs : Int)
  rest : ∀ j, 8 + total hs ≤ j → f j = 0
  below : Below w0.heap.size w0 w
  own : w0.heap.size ≤ N
section
variable {w0 w w' : World} {N : Nat} {f : Nat → Int} {hs : List Hd} {v u : Value}
theorem Rw.call (h : Rw w0 w N f hs v u) (k : Below w.heap.size w w') : Rw w0 w' N f hs v u :=
  ⟨h.ar.below k h.ar.head.lt h.ar.body.lt, row_below h.heads k, row_below h.plcs k, h.laid, h.len, h.used, h.rest, h.below.trans (k.mono h.below.size), h.own⟩
theorem Rw.size (h : Rw w0 w N f hs v u) : N + 2 ≤ w.heap.size := h.ar.head.lt
theorem Rw.tot (h : Rw w0 w N f hs v u) : total hs ≤ 54 := by
  have := laid_total h.laid
  have := h.len
  omega
end
theorem own_apart {w : World} {b b' : Nat} {e e' : TypeId} {s s' : Nat} {v u : Value} {k k' : Nat} {xs ys : List Value} (h : w.ownsRow b e s v k xs) (h' : w.ownsRow b' e' s' u k' ys) (hne : e ≠ e') : v.ownBlock = none ∨ v.ownBlock ≠ u.ownBlock := by
  rcases h.2 with ⟨rfl, _⟩ | ⟨g, cap, cur, rfl, _, hg, _⟩
  · exact .inl rfl
  · refine .inr fun e1 => ?_
    rcases h'.2 with ⟨rfl, _⟩ | ⟨g', cap', cur', rfl, _, hg', _⟩
    · cases e1
    · simp only [Value.ownBlock, Option.some.injEq] at e1
      subst e1
      rw [hg] at hg'
      injection hg' with hg'
      injection hg' with _ h2
      exact hne h2
/-- What a claim of one more object makes. -/
def claimed (f : Nat → Int) (hs : List Hd) (h : Hd) : Nat → Int := setF (setF (setF f 0 (f 0 + 8 * (h.s : Int))) (8 + total hs) (firstH h)) (8 + total hs + 1) (secondH h)
theorem claimed_laid {f : Nat → Int} {hs : List Hd} {h : Hd} (L : Laid f 8 hs) (hu : f 0 = 8 * (total hs : Int)) (hr : ∀ j, 8 + total hs ≤ j → f j = 0) (r : h.right) :
    Laid (claimed f hs h) 8 (hs ++ [h]) ∧ claimed f hs h 0 = 8 * (total (hs ++ [h]) : Int) ∧ ∀ j, 8 + total (hs ++ [h]) ≤ j → claimed f hs h j = 0 := by
  have hb := r.bd
  have ht : total (hs ++ [h]) = total hs + h.s := by rw [total_app]; rfl
  refine ⟨?_, ?_, fun j hj => ?_⟩
  · rw [laid_app]
    refine ⟨laid_out L fun j k1 k2 => ?_, r, ?_, ?_, trivial⟩
    · unfold claimed
      rw [setF_other _ _ _ _ (by omega), setF_other _ _ _ _ (by omega), setF_other _ _ _ _ (by omega)]
    · unfold claimed
      rw [setF_other _ _ _ _ (by omega), setF_same]
    · unfold claimed
      rw [setF_same]
  · unfold claimed
    rw [setF_other _ _ _ _ (by omega), setF_other _ _ _ _ (by omega), setF_same, ht, hu]
    omega
  · unfold claimed
    rw [setF_other _ _ _ _ (by omega), setF_other _ _ _ _ (by omega), setF_other _ _ _ _ (by omega)]
    exact hr j (by omega)
theorem places_snoc (hs : List Hd) (h : Hd) : places 8 (hs ++ [h]) = places 8 hs ++ [64 + 8 * (total hs : Int)] := by
  rw [places_app]
  show _ ++ [8 * ((8 + total hs : Nat) : Int)] = _
  congr 2
  omega
theorem st_base {w0 w1 w : World} {L : List (Nat × List Value)} (S : St w1 w L) (k : Below w0.heap.size w0 w) (h : w0.heap.size ≤ w1.heap.size) : St w0 w L :=
  ⟨k, fun x hx => ⟨Nat.le_trans h (S.at_ x hx).own, (S.at_ x hx).lt, (S.at_ x hx).cell, (S.at_ x hx).fz⟩, S.nd⟩
theorem info_head : (Try.prog.info? 30).map (fun i => (i.zero, i.size, i.bytes)) = some (some (.agg #[.int .i64 0, .int .i64 0, .int .i64 0, .bool false, .int .i64 0, .int .i64 0]), 6, 48) := by kernel_rfl

set_option maxRecDepth 100000 in
set_option maxHeartbeats 8000000 in
theorem row_any (w : World) (lA : Option Addr) (ln lc : Nat) (lz : Nat → Nat → Int) (hl : Args.PRecs [some .i64, some .i64, some .i64, none, some .i64, some .i64] w lA ln lz) :
    Calls Try.prog 23 #[.slice lA ln lc] w fun e w' => ∃ hs f v u, e = .returned (.tuple #[.pointer (some ⟨w.heap.size + 1, 0, none⟩), v, u, .int .i64 (8 * (total hs : Int)), .bool true]) ∧ Rw w w' w.heap.size f hs v u := by
  have hlen := hl.len
  have hmx : maxLen ≤ 9223372036854775807 := by decide
  have hmn : 100000 ≤ maxLen := by decide
  obtain ⟨i0, hi, hz0, hz1, hz2⟩ := info_parts info_int
  obtain ⟨i1, hi', hy0, hy1, hy2⟩ := info_parts info_head
  go_enter Try.func23, Try.ntmps23
  go_wp2_with fail
  refine (new_at _ _ 80 rfl (by omega)).mono ?_
  rintro e w1 ⟨rfl, h1, k1, z1⟩
  have T0 : Rw w ((w1.alloc (.cells #[] 30)).alloc (.cells #[] 3)) w.heap.size (fun _ => 0) [] (.slice (some ⟨w1.heap.size, 0, none⟩) 0 0) (.slice (some ⟨w1.heap.size + 1, 0, none⟩) 0 0) := by
    have kk : Below w1.heap.size w1 ((w1.alloc (.cells #[] 30)).alloc (.cells #[] 3)) := ((Below.refl _ _).alloc (Nat.le_refl _) _).alloc (by simp) _
    have := row_empty (w1.alloc (.cells #[] 30)) (w.heap.size + 2) 3 1 (by simp; omega)
    rw [World.size_alloc] at this
    exact ⟨h1.below kk (by omega) (by omega), (row_empty w1 (w.heap.size + 2) 30 6 (by omega)).alloc _, this, trivial, by simp, by simp [total], fun _ _ => rfl, k1.trans (kk.mono (by omega)), Nat.le_refl _⟩
  clear h1 k1
  have Z1 := Lib.hid z1
  clear z1
  go_wp2_with fail
  go_loopw [9, 10, 11, 12] (fun v u x t wr => ∃ (hs : List Hd) (f : Nat → Int), hs.length ≤ ln ∧ t = .int .i64 hs.length ∧ x = .int .i64 (8 * (total hs : Int)) ∧ Rw w wr w.heap.size f hs v u) (fun _ _ _ t _ => 6 - (intOf t).toNat)
  case atStart => exact ⟨[], _, by simp, rfl, rfl, T0⟩
  case round =>
    obtain ⟨hs, f, hk, rfl, rfl, R⟩ := hrel
    have h6 := R.len
    have htot := R.tot
    by_cases hlt : hs.length < ln
    · by_cases hl6 : hs.length < 6
      · obtain ⟨b, o, rfl, hb, hcell⟩ := hl.at_ hs.length hlt
        generalize hK : hs.length = K at *
        have q0 : wr.cell? ⟨b, o + K * 6, none⟩ = some (.int .i64 (lz K 0)) := (R.below.cell hb).trans (hcell 0 (by decide))
        have q1 : wr.cell? ⟨b, o + K * 6 + 1, none⟩ = some (.int .i64 (lz K 1)) := (R.below.cell hb).trans (hcell 1 (by decide))
        have q2 : wr.cell? ⟨b, o + K * 6 + 2, none⟩ = some (.int .i64 (lz K 2)) := (R.below.cell hb).trans (hcell 2 (by decide))
        have q3 : wr.cell? ⟨b, o + K * 6 + 3, none⟩ = some (.bool (lz K 3 != 0)) := (R.below.cell hb).trans (hcell 3 (by decide))
        have q4 : wr.cell? ⟨b, o + K * 6 + 4, none⟩ = some (.int .i64 (lz K 4)) := (R.below.cell hb).trans (hcell 4 (by decide))
        have q5 : wr.cell? ⟨b, o + K * 6 + 5, none⟩ = some (.int .i64 (lz K 5)) := (R.below.cell hb).trans (hcell 5 (by decide))
        have hbw : b < wr.heap.size := Nat.lt_of_lt_of_le hb R.below.size
        have m1 : bits .and .i64 (lz K 0) 1 = lz K 0 % 2 := by have := Heads.mask_i64 1 (by decide) (lz K 0); simpa using this
        clear hcell
        go_wp2_with fail
        refine (Heads.fit_any _ _ _ _ _ _ _).mono ?_
        rintro z w2 ⟨rfl, k2⟩
        have q0' := (k2.cell (p := ⟨b, o + K * 6, none⟩) hbw).trans q0
        have S2 := ((St.start wr).call k2).new [.int .i64 (2 + lz K 1 % 8 % 7 + lz K 0 % 64), .int .i64 (lz K 1 % 8 % 7), .int .i64 (lz K 2 % 8), .bool (lz K 3 != 0), .int .i64 (lz K 4 % 8), .int .i64 (lz K 5 % 16777216)] 30
        go_wp2_with fail
        have q0'' : (w2.alloc (.cells #[.int .i64 (2 + lz K 1 % 8 % 7 + lz K 0 % 64), .int .i64 (lz K 1 % 8 % 7), .int .i64 (lz K 2 % 8), .bool (lz K 3 != 0), .int .i64 (lz K 4 % 8), .int .i64 (lz K 5 % 16777216)] 30)).cell? ⟨b, o + K * 6, none⟩ = some (.int .i64 (lz K 0)) := (((Below.refl _ _).alloc (Nat.le_refl _) _).cell (p := ⟨b, o + K * 6, none⟩) (Nat.lt_of_lt_of_le hbw k2.size)).trans q0'
        generalize (w2.alloc (.cells #[.int .i64 (2 + lz K 1 % 8 % 7 + lz K 0 % 64), .int .i64 (lz K 1 % 8 % 7), .int .i64 (lz K 2 % 8), .bool (lz K 3 != 0), .int .i64 (lz K 4 % 8), .int .i64 (lz K 5 % 16777216)] 30)) = W2 at *
        have zz : w2.heap.size ≠ b := by have := k2.size; omega
        clear q0 q1 q2 q3 q4 q5 q0'
        obtain ⟨ql, r0, r1, r2, r3, r4, r5⟩ := S2.get6 0 rfl
        have rf := (S2.get 0 rfl).fz 0
        have b0 : 0 ≤ lz K 1 % 8 % 7 ∧ lz K 1 % 8 % 7 ≤ 6 ∧ 0 ≤ lz K 2 % 8 ∧ lz K 2 % 8 ≤ 7 ∧ 0 ≤ lz K 4 % 8 ∧ lz K 4 % 8 ≤ 7 ∧ 0 ≤ lz K 5 % 16777216 ∧ lz K 5 % 16777216 ≤ 16777215 := by omega
        obtain ⟨s, hs0⟩ : ∃ s : Nat, 2 + lz K 1 % 8 % 7 + lz K 0 % 2 = (s : Int) := ⟨_, (Int.toNat_of_nonneg (by omega)).symm⟩
        have bs : 2 + lz K 1 % 8 % 7 ≤ (s : Int) ∧ (s : Int) ≤ 3 + lz K 1 % 8 % 7 := by omega
        go_region
        have S3 := (S2.put 0 0 rfl (.int .i64 (2 + lz K 1 % 8 % 7 + lz K 0 % 2)) (Nat.le_of_ble_eq_true rfl)).drew
        rw [hs0] at S3
        have hlt2 : wr.heap.size ≤ w2.heap.size := k2.size
        clear hs0 m1 ql r0 r1 r2 r3 r4 r5 rf S2 q0'' zz k2
        generalize (W2.setCell ⟨w2.heap.size, 0, none⟩ (.int .i64 (s : Int))).drew = W3 at *
        generalize lz K 1 % 8 % 7 = n at *
        generalize lz K 2 % 8 = t at *
        generalize (lz K 3 != 0) = d at *
        generalize lz K 4 % 8 = c at *
        generalize lz K 5 % 16777216 = e at *
        have S3' : St wr W3 [(w2.heap.size, [.int .i64 (s : Int), .int .i64 n, .int .i64 t, .bool d, .int .i64 c, .int .i64 e])] := S3
        clear S3
        obtain ⟨b1, b2, b3, b4, b5, b6, b7, b8⟩ := b0
        obtain ⟨b9, b10⟩ := bs
        have hr : (⟨s, n, t, d, c, e⟩ : Hd).right := ⟨decide_eq_true (by dsimp only; omega), by dsimp only; omega⟩
        have hwd := hr.words
        have HP : Hid (packV (s : Int) n t d c e = ⟨firstH ⟨s, n, t, d, c, e⟩, secondH ⟨s, n, t, d, c, e⟩, 0⟩) := Lib.hid (Heads.pack_yes d hr.r)
        have HU := Lib.hid R.used
        obtain ⟨ql, r0, r1, r2, r3, r4, r5⟩ := S3'.get6 0 rfl
        go_wp2_with fail
        refine (lift S3' (Heads.refpack_any _ _ _ _ _ _ _)).mono ?_
        rintro z w4 ⟨rfl, S4⟩
        rw [HP.out]
        have R4 := R.call S4.below
        have hsz4 := R4.size
        have hs4 : wr.heap.size ≤ w4.heap.size := S4.below.size
        have ht45 : total hs ≤ 45 := by have := laid_total R.laid; omega
        clear r0 r1 r2 r3 r4 r5 ql S3'
        obtain ⟨ql, r0, r1, r2, r3, r4, r5⟩ := S4.get6 0 rfl
        go_wp2_with fail
        refine (claim_yes _ _ _ 80 0 (8 + total hs) f _ _ _ _ _ _ R4.ar (by omega) rfl (by omega) (by omega) (by omega) (by omega) (by omega) (by omega) hwd.1 hwd.2.1 hwd.2.2.1 hwd.2.2.2 (by rw [R4.used]; omega) (by rw [R4.used]; omega) (by rw [R4.used]; omega) (by omega)).mono ?_
        rintro z w5 ⟨rfl, h5, g5⟩
        rw [HU.out]
        have S5 := st_only (st_base S4 R4.below R.below.size) g5 R.own (by simp only [List.mem_singleton]; rintro x rfl; dsimp only; have := R.size; omega)
        have H5 := row_only R4.heads g5 (by omega)
        have P5 := row_only R4.plcs g5 (by omega)
        have B5 := below_only R4.below g5 R4.below.size R.own
        have hs5 : w4.heap.size ≤ w5.heap.size := g5.size
        obtain ⟨CL, CU, CR⟩ := claimed_laid R.laid R.used R.rest hr
        have A5 : Ar w5 (w.heap.size + 1) w.heap.size 80 (claimed f hs ⟨s, n, t, d, c, e⟩) := h5
        clear r0 r1 r2 r3 r4 r5 ql
        obtain ⟨ql, r0, r1, r2, r3, r4, r5⟩ := S5.get6 0 rfl
        have RL := Lib.hid R.len
        have HK := Lib.hid hK
        clear hK R4 S4 h5 g5
        have hne6 : some w2.heap.size ≠ Value.ownBlock u9 := fun e => by have := (R.heads.lt _ e.symm).2; omega
        have hne7 : some w2.heap.size ≠ Value.ownBlock u10 := fun e => by have := (R.plcs.lt _ e.symm).2; omega
        have lt6 := World.ownsRow.lt H5
        have lt7 := World.ownsRow.lt P5
        go_wp2_with (first
          | (at_builtin; refine wpList_append_own _ rfl _ _ 51 rfl (w.heap.size + 2) 30 i1 (.agg #[.int .i64 0, .int .i64 0, .int .i64 0, .bool false, .int .i64 0, .int .i64 0]) 6 48 Try.underlying51 hi' hy0 hy1 hy2 rfl (by decide) _ _ _ rfl (World.ownsRow.alloc H5 _) ⟨w5.heap.size, 0, none⟩ 1 1 [.int .i64 (s : Int), .int .i64 n, .int .i64 t, .bool d, .int .i64 c, .int .i64 e] rfl rfl (cell_six_new _ _ _ _ _ _ _ _) (by simp [Value.oneCell']) (by have := HK.out; omega) (by have := HK.out; omega) (by simp; omega) ?_; intro v' w6 hown6 hgrow6 _; have A6 := (A5.below ((Below.refl _ _).alloc (Nat.le_refl _) _) A5.head.lt A5.body.lt).kept hgrow6 (fun e => by have := (lt6 _ e).1; omega) (fun e => by have := (lt6 _ e).1; omega); have P6 := World.ownsRow.kept (World.ownsRow.alloc P5 _) hgrow6 (own_apart P5 H5 (by decide)); have B6 := below_row (B5.alloc B5.size _) (World.ownsRow.alloc H5 _) hgrow6 (by omega) (by simp; omega); have S6 := (cell_only hgrow6 (b := w2.heap.size) (by simp; omega) hne6 0).trans ((((Below.refl _ _).alloc (Nat.le_refl _) _).cell (p := ⟨w2.heap.size, 0, none⟩) ql).trans r0); have ql6 : w2.heap.size < w6.heap.size := (by have := hgrow6.size; simp at this; omega); have hs6 : w5.heap.size < w6.heap.size := (by have := hgrow6.size; simp at this; omega))
          | (at_builtin; refine wpList_append_own _ rfl _ _ 38 rfl (w.heap.size + 2) 3 i0 (.int .i64 0) 1 8 Try.underlying38 hi hz0 hz1 hz2 rfl (by decide) _ _ _ rfl (World.ownsRow.alloc P6 _) ⟨w6.heap.size, 0, none⟩ 1 1 [.int .i64 (64 + 8 * (total hs : Int))] rfl rfl (cell_one_new _ _ _) (by simp [Value.oneCell']) (by rw [places_len]; have := HK.out; omega) (by rw [places_len]; have := HK.out; omega) (by simp; omega) ?_; intro v'' w7 hown7 hgrow7 _; have A7 := (A6.below ((Below.refl _ _).alloc (Nat.le_refl _) _) A6.head.lt A6.body.lt).kept hgrow7 (fun e => by have := (lt7 _ e).1; omega) (fun e => by have := (lt7 _ e).1; omega); have H7 := World.ownsRow.kept (World.ownsRow.alloc hown6 _) hgrow7 (own_apart hown6 P6 (by decide)); have B7 := below_row (B6.alloc B6.size _) (World.ownsRow.alloc P6 _) hgrow7 (by omega) (by simp; omega); have S7 := (cell_only hgrow7 (b := w2.heap.size) (by simp; omega) hne7 0).trans ((((Below.refl _ _).alloc (Nat.le_refl _) _).cell (p := ⟨w2.heap.size, 0, none⟩) ql6).trans S6)))
        go_roundw
        case rel =>
          refine ⟨hs ++ [⟨s, n, t, d, c, e⟩], _, by simp; have := HK.out; omega, by simp; have := HK.out; omega, by rw [total_app]; simp [total]; omega, ⟨A7, HRow.snoc (h := ⟨s, n, t, d, c, e⟩) H7, by rw [places_snoc]; exact row_snoc hown7, CL, by simp; have := HK.out; omega, CU, CR, B7, R.own⟩⟩
        case measure => simp [intOf]; omega
      · have d6 : decide ((hs.length : Int) < 6) = false := decide_eq_false (by omega)
        go_wp2
        refine bodyPost_ret (v := .tuple #[_, _, _, _, _]) (by simp [results, Try.results23, go_sem]) rfl ⟨hs, f, _, _, rfl, R⟩
    · have d6 : decide ((hs.length : Int) < (ln : Int)) = false := decide_eq_false (by omega)
      go_wp2
      refine bodyPost_ret (v := .tuple #[_, _, _, _, _]) (by simp [results, Try.results23, go_sem]) rfl ⟨hs, f, _, _, rfl, R⟩
end Go.Proofs.Ytgihoicppeegaaa.Thing
