/-
  penfoldlaw12.ModelMemory returns true for every byte, bool and slice of pairs of bytes, and changes nothing that was there; no condition.
-/
import Derived.Test.YtneggppfffekdaaGreatRows
import Derived.Test.YtneggppfffekdaaGreatBase
import Derived.Test.YtneggppfffekdaaGreatMemo
import Derived.Test.YtneggppfffekdaaGreatArrs
import Derived.Deep.DeepCutAuto
namespace Go.Proofs.YtneggppfffekdaaGreat.modelMemory
open Go.ChangeShapes Go.WideShapes Go.ChangeAt Go.RowKit
set_option linter.unusedVariables false

open Go.Proofs.YtneggppfffekdaaGreat.Mod Slic Sco

set_option maxRecDepth 100000 in
set_option maxHeartbeats 8000000 in
theorem walk (size : Int) (inn : Bool) (lA : Option Addr) (ln lc : Nat) (lz : Nat → Nat → Int) (w : World) (wsize : (Lit.int .u8 size).wf = true) (hl : Args.Recs [.u8, .u8] w lA ln lz) :
    Calls Tryz.prog 10 #[.int .u8 size, .bool inn, .slice lA ln lc] w fun e w' => e = .returned (.bool true) ∧ Below w.heap.size w w' := by
  have ⟨n0, n1⟩ := Held.bounds_u8 wsize
  obtain ⟨n, hn⟩ : ∃ n : Nat, (n : Int) = 1 + size := ⟨(1 + size).toNat, by omega⟩
  have n2 : 1 ≤ n := by omega
  have n3 : n ≤ 256 := by omega
  have hn' : 1 + size = (n : Int) := hn.symm
  clear hn wsize
  have hln := hl.len
  unfold maxLen at hln
  go_enter Tryz.func10, Tryz.ntmps10
  go_wp2_with fail
  refine (shown_any _).mono ?_
  rintro z w1 ⟨rfl, k1'⟩
  go_wp2_with fail
  refine (some_any _).mono ?_
  rintro z w1b ⟨rfl, kq⟩
  go_wp2_with fail
  refine (ms_new (bx := []) (k1'.trans (kq.mono k1'.size)) (fun x hx => absurd hx List.not_mem_nil) List.nodup_nil 4 2 128 512 _ [] (rows_nil _) ok_nil (by decide) (by decide)).mono ?_
  rintro z w2 ⟨Z, rfl, h2, _⟩
  have h2 : Ms w w2 Z [] 4 2 0 sh0 [] := h2
  obtain ⟨x3, y3, L3, m3, R3⟩ := exX [] sh0 2 0 ⟨2, 0, 0, 0, (n : Int), 0, 0⟩ (by decide)
  obtain ⟨x4, y4, L4, m4, R4⟩ := exX [] m3 2 0 ⟨4, 0, 0, 0, 1, 0, 0⟩ (by decide)
  obtain ⟨rfl, M3, rfl, M4⟩ := mem_at n2 n3 R3 R4
  replace R3 := Lib.hid R3
  replace R4 := Lib.hid R4
  replace M3 := Lib.hid M3
  replace M4 := Lib.hid M4
  go_wp2_with fail
  refine (ms_as h2 (by omega) (c := ⟨2, 0, 0, 0, (n : Int), 0, 0⟩) (cok (by omega) (by omega) (by omega) (by omega) (by omega) (by omega)) 0 R3.out).mono ?_
  rintro e w3 ⟨A3, c3, rfl, _, h3⟩
  have h3 := h3.new #[.int .i64 x3, .int .i64 1, .slice A3 L3.length c3] anT
  cases inn with
  | true =>
    have HM := M4
    go_wp2_with fail
    refine (ms_as h3 (by omega) (c := ⟨4, 0, 0, 0, 1, 0, 0⟩) (cok (by omega) (by omega) (by omega) (by omega) (by omega) (by omega)) 0 R4.out).mono ?_
    rintro e w4 ⟨A4, c4, rfl, _, h4⟩
    have h4 := h4.new #[.int .i64 0, .int .i64 y4, .slice A4 L4.length c4] anT
    obtain ⟨T, hT⟩ : ∃ T : Int, T = ((n : Int) + 7) / 8 * 8 := ⟨_, rfl⟩
    rw [← hT] at HM
    have td : Int.tdiv ((n : Int) + 7) 8 = ((n : Int) + 7) / 8 := Int.tdiv_eq_ediv_of_nonneg (by omega)
    have hT' : ((n : Int) + 7) / 8 * 8 = T := hT.symm
    have T0 : 0 ≤ T ∧ T ≤ 256 := by omega
    clear hT M3 M4 R3 R4
    go_wp2_with fail
    clear hT' td hn'
    go_loopw [13, 16] (fun lf u wr => ∃ (i : Nat) (m : Mo) (us : Int), i ≤ ln ∧ i ≤ 30 ∧ u = .int .i64 (i : Int) ∧ lf = .int .i64 (T - us) ∧ 0 ≤ us ∧ us ≤ T ∧ Hid (MM m 1 T us) ∧ Ms w wr Z [] 4 2 (5 + i) m []) (fun _ u _ => 30 - (intOf u).toNat)
    case atStart => exact ⟨0, m4, 0, by omega, by omega, rfl, by rw [Int.sub_zero], by omega, by omega, HM, (h4.drop 2).mono (by omega)⟩
    case round =>
      obtain ⟨i, m, us, hi1, hi2, rfl, rfl, us0, usz, HM, SO⟩ := hrel
      by_cases hlt : i < ln ∧ i < 30
      · obtain ⟨hi3, hi4⟩ := hlt
        obtain ⟨b, o, rfl, hb, hcell⟩ := hl.at_ i hi3
        have ⟨v0, v0'⟩ := Held.bounds_u8 (hl.wf i 0)
        have ⟨v1, v1'⟩ := Held.bounds_u8 (hl.wf i 1)
        have cc0 := (SO.below.cell (p := ⟨b, o + (i * 2 + 0), none⟩) hb).trans (hcell 0 (by decide))
        have cc1 := (SO.below.cell (p := ⟨b, o + (i * 2 + 1), none⟩) hb).trans (hcell 1 (by decide))
        rw [show o + (i * 2 + 0) = o + i * 2 by omega] at cc0
        rw [show o + (i * 2 + 1) = o + i * 2 + 1 by omega] at cc1
        obtain ⟨p, hp⟩ : ∃ p : Int, lz i 0 % 7 = p := ⟨_, rfl⟩
        obtain ⟨by', hby⟩ : ∃ p : Int, lz i 1 % 61 = p := ⟨_, rfl⟩
        have tp : Int.tmod (lz i 0) 7 = p := (Int.tmod_eq_emod_of_nonneg v0).trans hp
        have tb : Int.tmod (lz i 1) 61 = by' := (Int.tmod_eq_emod_of_nonneg v1).trans hby
        have p0 : 0 ≤ p := by omega
        have p6 : p ≤ 6 := by omega
        have b0 : 0 ≤ by' := by omega
        have b6 : by' ≤ 60 := by omega
        obtain ⟨ne, hne⟩ : ∃ ne : Int, ne = 8 * (2 + p + (by' + 7) / 8) := ⟨_, rfl⟩
        have td : Int.tdiv (by' + 7) 8 = (by' + 7) / 8 := Int.tdiv_eq_ediv_of_nonneg (by omega)
        have ne0 : 8 * (2 + p + (by' + 7) / 8) = ne := hne.symm
        have nb : 16 ≤ ne ∧ ne ≤ 128 := by omega
        have T := HM.out.step SO.iv p0 p6 b0 b6
        rw [← hne, SO.et] at T
        have HT := Lib.hid T
        clear T hne hp hby
        have i1 : decide ((i : Int) < (ln : Int)) = true := decide_eq_true (by omega)
        by_cases hbig : us + ne > T
        · have dj : decide (T - us < ne) = true := by simp; omega
          have R := HT.out.1 hbig
          replace R := Lib.hid R
          clear HT
          go_wp2_with fail
          refine (ms_as SO (by omega) (c := ⟨7, 0, 0, 0, p, by', 0⟩) (cok (by omega) (by omega) (by omega) (by omega) (by omega) (by omega)) 0 R.out).mono ?_
          rintro e w7 ⟨A7, c7, rfl, _, h7⟩
          have h8 := h7.new #[.int .i64 17, .int .i64 0, .slice A7 0 c7] anT
          go_wp2
          go_roundw
          case rel => exact ⟨i + 1, m, us, by omega, by omega, by go_num, rfl, us0, usz, HM, (h8.drop 1).mono (by omega)⟩
          case measure => simp [intOf]; omega
        · have dj : decide (T - us < ne) = false := by simp; omega
          obtain ⟨y, m2, R, M2⟩ := HT.out.2 (by omega)
          have HM2 := Lib.hid M2
          clear M2
          replace R := Lib.hid R
          clear HT
          go_wp2_with fail
          refine (ms_as SO (by omega) (c := ⟨7, 0, 0, 0, p, by', 0⟩) (cok (by omega) (by omega) (by omega) (by omega) (by omega) (by omega)) 0 R.out).mono ?_
          rintro e w7 ⟨A7, c7, rfl, _, h7⟩
          have h8 := h7.new #[.int .i64 0, .int .i64 y, .slice A7 0 c7] anT
          go_wp2
          go_roundw
          case rel => exact ⟨i + 1, m2, us + ne, by omega, by omega, by go_num, by rw [Int.sub_sub], by omega, by omega, HM2, (h8.drop 1).mono (by omega)⟩
          case measure => simp [intOf]; omega
      · have X1 : ∀ m : Mo, doX [] m 2 0 ⟨7, 0, 0, 0, 7, 0, 0⟩ = ((⟨1, 0, []⟩, m), 0) := fun m => alloc_bad [] m (by decide) (by decide)
        have X2 : ∀ m : Mo, doX [] m 2 0 ⟨7, 0, 0, 0, 0, 513, 0⟩ = ((⟨1, 0, []⟩, m), 0) := fun m => alloc_bad [] m (by decide) (by decide)
        have X3 : ∀ m : Mo, doX [] m 2 0 ⟨7, 0, 0, 0, 0, 9223372036854775807, 0⟩ = ((⟨1, 0, []⟩, m), 0) := fun m => alloc_bad [] m (by decide) (by decide)
        replace X1 := Lib.hid X1
        replace X2 := Lib.hid X2
        replace X3 := Lib.hid X3
        by_cases hi3 : i < ln
        · obtain rfl : i = 30 := by omega
          have i1 : decide ((30 : Int) < (ln : Int)) = true := decide_eq_true (by omega)
          go_wp2_with fail
          refine (ms_as SO (by omega) (c := ⟨7, 0, 0, 0, 7, 0, 0⟩) (cok (by omega) (by omega) (by omega) (by omega) (by omega) (by omega)) 0 (X1.out m)).mono ?_
          rintro e w3 ⟨A3, c3, rfl, _, h3⟩
          have h3 := h3.new #[.int .i64 1, .int .i64 0, .slice A3 0 c3] anT
          go_wp2_with fail
          refine (ms_as h3 (by omega) (c := ⟨7, 0, 0, 0, 0, 513, 0⟩) (cok (by omega) (by omega) (by omega) (by omega) (by omega) (by omega)) 0 (X2.out m)).mono ?_
          rintro e w4 ⟨A4, c4, rfl, _, h4⟩
          have h4 := h4.new #[.int .i64 1, .int .i64 0, .slice A4 0 c4] anT
          go_wp2_with fail
          refine (ms_as h4 (by omega) (c := ⟨7, 0, 0, 0, 0, 9223372036854775807, 0⟩) (cok (by omega) (by omega) (by omega) (by omega) (by omega) (by omega)) 0 (X3.out m)).mono ?_
          rintro e w5 ⟨A5, c5, rfl, _, h5⟩
          have h5 := h5.new #[.int .i64 1, .int .i64 0, .slice A5 0 c5] anT
          obtain ⟨x0, x1, _⟩ := h5.cells3 2 rfl
          obtain ⟨y0, y1, _⟩ := h5.cells3 1 rfl
          go_wp2
          go_ret
          exact ⟨rfl, h5.below⟩
        · have i1 : decide ((i : Int) < (ln : Int)) = false := decide_eq_false (by omega)
          go_wp2_with fail
          refine (ms_as SO (by omega) (c := ⟨7, 0, 0, 0, 7, 0, 0⟩) (cok (by omega) (by omega) (by omega) (by omega) (by omega) (by omega)) 0 (X1.out m)).mono ?_
          rintro e w3 ⟨A3, c3, rfl, _, h3⟩
          have h3 := h3.new #[.int .i64 1, .int .i64 0, .slice A3 0 c3] anT
          go_wp2_with fail
          refine (ms_as h3 (by omega) (c := ⟨7, 0, 0, 0, 0, 513, 0⟩) (cok (by omega) (by omega) (by omega) (by omega) (by omega) (by omega)) 0 (X2.out m)).mono ?_
          rintro e w4 ⟨A4, c4, rfl, _, h4⟩
          have h4 := h4.new #[.int .i64 1, .int .i64 0, .slice A4 0 c4] anT
          go_wp2_with fail
          refine (ms_as h4 (by omega) (c := ⟨7, 0, 0, 0, 0, 9223372036854775807, 0⟩) (cok (by omega) (by omega) (by omega) (by omega) (by omega) (by omega)) 0 (X3.out m)).mono ?_
          rintro e w5 ⟨A5, c5, rfl, _, h5⟩
          have h5 := h5.new #[.int .i64 1, .int .i64 0, .slice A5 0 c5] anT
          obtain ⟨x0, x1, _⟩ := h5.cells3 2 rfl
          obtain ⟨y0, y1, _⟩ := h5.cells3 1 rfl
          go_wp2
          go_ret
          exact ⟨rfl, h5.below⟩
  | false =>
    have HM := M3
    clear M4 R3 R4
    go_wp2_with fail
    clear hn'
    go_loopw [13, 16] (fun lf u wr => ∃ (i : Nat) (m : Mo) (us : Int), i ≤ ln ∧ i ≤ 30 ∧ u = .int .i64 (i : Int) ∧ lf = .int .i64 (128 - us) ∧ 0 ≤ us ∧ us ≤ 128 ∧ Hid (MM m 0 128 us) ∧ Ms w wr Z [] 4 2 (5 + i) m []) (fun _ u _ => 30 - (intOf u).toNat)
    case atStart => exact ⟨0, m3, 0, by omega, by omega, rfl, by rw [Int.sub_zero], by omega, by omega, HM, (h3.drop 1).mono (by omega)⟩
    case round =>
      obtain ⟨i, m, us, hi1, hi2, rfl, rfl, us0, usz, HM, SO⟩ := hrel
      by_cases hlt : i < ln ∧ i < 30
      · obtain ⟨hi3, hi4⟩ := hlt
        obtain ⟨b, o, rfl, hb, hcell⟩ := hl.at_ i hi3
        have ⟨v0, v0'⟩ := Held.bounds_u8 (hl.wf i 0)
        have ⟨v1, v1'⟩ := Held.bounds_u8 (hl.wf i 1)
        have cc0 := (SO.below.cell (p := ⟨b, o + (i * 2 + 0), none⟩) hb).trans (hcell 0 (by decide))
        have cc1 := (SO.below.cell (p := ⟨b, o + (i * 2 + 1), none⟩) hb).trans (hcell 1 (by decide))
        rw [show o + (i * 2 + 0) = o + i * 2 by omega] at cc0
        rw [show o + (i * 2 + 1) = o + i * 2 + 1 by omega] at cc1
        obtain ⟨p, hp⟩ : ∃ p : Int, lz i 0 % 7 = p := ⟨_, rfl⟩
        obtain ⟨by', hby⟩ : ∃ p : Int, lz i 1 % 61 = p := ⟨_, rfl⟩
        have tp : Int.tmod (lz i 0) 7 = p := (Int.tmod_eq_emod_of_nonneg v0).trans hp
        have tb : Int.tmod (lz i 1) 61 = by' := (Int.tmod_eq_emod_of_nonneg v1).trans hby
        have p0 : 0 ≤ p := by omega
        have p6 : p ≤ 6 := by omega
        have b0 : 0 ≤ by' := by omega
        have b6 : by' ≤ 60 := by omega
        obtain ⟨ne, hne⟩ : ∃ ne : Int, ne = 8 * (2 + p + (by' + 7) / 8) := ⟨_, rfl⟩
        have td : Int.tdiv (by' + 7) 8 = (by' + 7) / 8 := Int.tdiv_eq_ediv_of_nonneg (by omega)
        have ne0 : 8 * (2 + p + (by' + 7) / 8) = ne := hne.symm
        have nb : 16 ≤ ne ∧ ne ≤ 128 := by omega
        have T := HM.out.step SO.iv p0 p6 b0 b6
        rw [← hne, SO.et] at T
        have HT := Lib.hid T
        clear T hne hp hby
        have i1 : decide ((i : Int) < (ln : Int)) = true := decide_eq_true (by omega)
        by_cases hbig : us + ne > 128
        · have dj : decide (128 - us < ne) = true := by simp; omega
          have R := HT.out.1 hbig
          replace R := Lib.hid R
          clear HT
          go_wp2_with fail
          refine (ms_as SO (by omega) (c := ⟨7, 0, 0, 0, p, by', 0⟩) (cok (by omega) (by omega) (by omega) (by omega) (by omega) (by omega)) 0 R.out).mono ?_
          rintro e w7 ⟨A7, c7, rfl, _, h7⟩
          have h8 := h7.new #[.int .i64 17, .int .i64 0, .slice A7 0 c7] anT
          go_wp2
          go_roundw
          case rel => exact ⟨i + 1, m, us, by omega, by omega, by go_num, rfl, us0, usz, HM, (h8.drop 1).mono (by omega)⟩
          case measure => simp [intOf]; omega
        · have dj : decide (128 - us < ne) = false := by simp; omega
          obtain ⟨y, m2, R, M2⟩ := HT.out.2 (by omega)
          have HM2 := Lib.hid M2
          clear M2
          replace R := Lib.hid R
          clear HT
          go_wp2_with fail
          refine (ms_as SO (by omega) (c := ⟨7, 0, 0, 0, p, by', 0⟩) (cok (by omega) (by omega) (by omega) (by omega) (by omega) (by omega)) 0 R.out).mono ?_
          rintro e w7 ⟨A7, c7, rfl, _, h7⟩
          have h8 := h7.new #[.int .i64 0, .int .i64 y, .slice A7 0 c7] anT
          go_wp2
          go_roundw
          case rel => exact ⟨i + 1, m2, us + ne, by omega, by omega, by go_num, by rw [Int.sub_sub], by omega, by omega, HM2, (h8.drop 1).mono (by omega)⟩
          case measure => simp [intOf]; omega
      · have X1 : ∀ m : Mo, doX [] m 2 0 ⟨7, 0, 0, 0, 7, 0, 0⟩ = ((⟨1, 0, []⟩, m), 0) := fun m => alloc_bad [] m (by decide) (by decide)
        have X2 : ∀ m : Mo, doX [] m 2 0 ⟨7, 0, 0, 0, 0, 513, 0⟩ = ((⟨1, 0, []⟩, m), 0) := fun m => alloc_bad [] m (by decide) (by decide)
        have X3 : ∀ m : Mo, doX [] m 2 0 ⟨7, 0, 0, 0, 0, 9223372036854775807, 0⟩ = ((⟨1, 0, []⟩, m), 0) := fun m => alloc_bad [] m (by decide) (by decide)
        replace X1 := Lib.hid X1
        replace X2 := Lib.hid X2
        replace X3 := Lib.hid X3
        by_cases hi3 : i < ln
        · obtain rfl : i = 30 := by omega
          have i1 : decide ((30 : Int) < (ln : Int)) = true := decide_eq_true (by omega)
          go_wp2_with fail
          refine (ms_as SO (by omega) (c := ⟨7, 0, 0, 0, 7, 0, 0⟩) (cok (by omega) (by omega) (by omega) (by omega) (by omega) (by omega)) 0 (X1.out m)).mono ?_
          rintro e w3 ⟨A3, c3, rfl, _, h3⟩
          have h3 := h3.new #[.int .i64 1, .int .i64 0, .slice A3 0 c3] anT
          go_wp2_with fail
          refine (ms_as h3 (by omega) (c := ⟨7, 0, 0, 0, 0, 513, 0⟩) (cok (by omega) (by omega) (by omega) (by omega) (by omega) (by omega)) 0 (X2.out m)).mono ?_
          rintro e w4 ⟨A4, c4, rfl, _, h4⟩
          have h4 := h4.new #[.int .i64 1, .int .i64 0, .slice A4 0 c4] anT
          go_wp2_with fail
          refine (ms_as h4 (by omega) (c := ⟨7, 0, 0, 0, 0, 9223372036854775807, 0⟩) (cok (by omega) (by omega) (by omega) (by omega) (by omega) (by omega)) 0 (X3.out m)).mono ?_
          rintro e w5 ⟨A5, c5, rfl, _, h5⟩
          have h5 := h5.new #[.int .i64 1, .int .i64 0, .slice A5 0 c5] anT
          obtain ⟨x0, x1, _⟩ := h5.cells3 2 rfl
          obtain ⟨y0, y1, _⟩ := h5.cells3 1 rfl
          go_wp2
          go_ret
          exact ⟨rfl, h5.below⟩
        · have i1 : decide ((i : Int) < (ln : Int)) = false := decide_eq_false (by omega)
          go_wp2_with fail
          refine (ms_as SO (by omega) (c := ⟨7, 0, 0, 0, 7, 0, 0⟩) (cok (by omega) (by omega) (by omega) (by omega) (by omega) (by omega)) 0 (X1.out m)).mono ?_
          rintro e w3 ⟨A3, c3, rfl, _, h3⟩
          have h3 := h3.new #[.int .i64 1, .int .i64 0, .slice A3 0 c3] anT
          go_wp2_with fail
          refine (ms_as h3 (by omega) (c := ⟨7, 0, 0, 0, 0, 513, 0⟩) (cok (by omega) (by omega) (by omega) (by omega) (by omega) (by omega)) 0 (X2.out m)).mono ?_
          rintro e w4 ⟨A4, c4, rfl, _, h4⟩
          have h4 := h4.new #[.int .i64 1, .int .i64 0, .slice A4 0 c4] anT
          go_wp2_with fail
          refine (ms_as h4 (by omega) (c := ⟨7, 0, 0, 0, 0, 9223372036854775807, 0⟩) (cok (by omega) (by omega) (by omega) (by omega) (by omega) (by omega)) 0 (X3.out m)).mono ?_
          rintro e w5 ⟨A5, c5, rfl, _, h5⟩
          have h5 := h5.new #[.int .i64 1, .int .i64 0, .slice A5 0 c5] anT
          obtain ⟨x0, x1, _⟩ := h5.cells3 2 rfl
          obtain ⟨y0, y1, _⟩ := h5.cells3 1 rfl
          go_wp2
          go_ret
          exact ⟨rfl, h5.below⟩

set_option maxRecDepth 100000 in
theorem lifted (os : Os) (started : os.Started) (H : Type) (enc : TypeId × Value → H) :
    ReturnsInHanded {} Tryz.checked os 10 .any (Rows.modelMemorySpec.pre6 enc Tryz.prog Tryz.f10 Rows.modelMemoryRow.domain false) (Rows.modelMemorySpec.post enc Tryz.prog Tryz.f10 false true false false) := by
  refine returnsInHanded_of_change (C := Tryz.checked) Args.own started (by kernel_rfl) Tryz.func10
    (ChangeSpec.witness6 (enc := enc) (C := Tryz.checked) false ⟨#[], #[.int .u8 0, .bool false, .slice none 0 0], []⟩ 8 (by kernel_rfl) (by kernel_rfl) (by kernel_rfl) (by kernel_rfl)) ?_
  intro W base args ds gs before hval0 hW hcnd _
  have hval : ∀ (j : Nat) t v, Tryz.f10.params[j]? = some t → args[j]? = some v → Value.okWide Tryz.prog W .any base t v := hval0
  have hW' := hW
  obtain ⟨p, q, hA0, hV, rfl, hfz, hnd⟩ := hW
  have hA : DataW.TrodAll enc Tryz.prog W 0 (fun _ => true) true Tryz.f10.params.toList args.toList ds p := hA0
  rw [Tryz.params10] at hA hval
  obtain ⟨v0, vs0, d0, ds0, p0, q0, hargs, rfl, rfl, h0, r0⟩ := trodAll_cons hA
  obtain ⟨v1, vs1, d1, ds1, p1, q1, rfl, rfl, rfl, h1, r1⟩ := trodAll_cons r0
  obtain ⟨v2, vs2, d2, ds2, p2, q2, rfl, rfl, rfl, h2, r2⟩ := trodAll_cons r1
  obtain ⟨rfl, rfl, rfl⟩ := trodAll_nil r2
  obtain rfl : args = #[v0, v1, v2] := by cases args; simp_all
  obtain ⟨rfl, rfl⟩ := trodVars_none hV
  have lt0 := Args.trod_below h0
  obtain ⟨size, rfl, rfl, rfl, wsize⟩ := open_int Tryz.underlying5 (hval 0 5 v0 rfl rfl) h0
  have lt1 := Args.trod_below h1
  obtain ⟨inn, rfl⟩ := okWide_bool Tryz.underlying4 (hval 1 4 v1 rfl rfl)
  have lt2 := Args.trod_below h2
  obtain ⟨lA, ln, lc, lz, rfl, hl⟩ := Arrs.arrs_in (k := .u8) (m := 2) (e := 99) (q := 5) (by kernel_rfl) (by kernel_rfl) (by kernel_rfl) (by kernel_rfl) (by kernel_rfl) (by decide) (hval 2 98 v2 rfl rfl) h2
  clear hA0 hval0
  refine (walk size inn lA ln lc lz W wsize hl).mono fun e W' ⟨he, bel⟩ => ?_
  subst he
  exact ⟨_, rfl, _, _, _, [], _, [], hW', trodAll_mk1 (shut_bool Tryz.underlying4 _), trodAll_cons_mk (Below.trod Args.laidOut (by kernel_rfl) (of_decide_eq_true (by kernel_rfl)) h0 bel lt0) (trodAll_cons_mk (Below.trod Args.laidOut (by kernel_rfl) (of_decide_eq_true (by kernel_rfl)) h1 bel lt1) (trodAll_cons_mk (Below.trod Args.laidOut (by kernel_rfl) (of_decide_eq_true (by kernel_rfl)) h2 bel lt2) (trodAll_mk0))), rfl, bel.frame _, fun h => by cases h⟩

theorem over : Rows.modelMemoryRow.holds Tryz.pinned (OpenSpec.ofChange Rows.modelMemorySpec) :=
  OpenClaim.holds_of_wide 10 Tryz.f10 rfl rfl rfl rfl rfl rfl rfl ⟨rfl, rfl, rfl, rfl, rfl⟩ rfl rfl rfl rfl rfl (by kernel_rfl) Tryz.func10 (by kernel_rfl)
    (of_decide_eq_true (by kernel_rfl)) (by unfold Func.isWrapper; rw [if_neg (of_decide_eq_false (by kernel_rfl))]; exact ⟨rfl, rfl⟩)
    (fun os started H enc _ => lifted os started H enc)

theorem proved : Rows.ModelMemorySaid :=
  over
end Go.Proofs.YtneggppfffekdaaGreat.modelMemory
