/-
  penfoldlaw02.ArenaCas returns true for every 20 uint64, every byte and every two uint64; no condition.
-/
import Derived.Test.YtpaioclagnmblaaRows
import Derived.Test.YtpaioclagnmblaaArgs
import Derived.Test.YtpaioclagnmblaaFilled
namespace Go.Proofs.Ytpaioclagnmblaa.arenaCas
open Go.ChangeShapes Go.WideShapes Go.ChangeAt Go.RowKit
set_option linter.unusedVariables false

open Arena Mem
theorem ofFn2 (f : Nat → Value) : Array.ofFn (n := 2) (fun i => f i) = #[f 0, f 1] := rfl
theorem boxed2 {w w1 : World} {z : Nat → Int} {c d : Value} {t : TypeId}
    (k : Below ((w.alloc (.cells (cs20 z) 55)).alloc (.cells #[c, d] t)).heap.size ((w.alloc (.cells (cs20 z) 55)).alloc (.cells #[c, d] t)) w1) :
    w1.heap[w.heap.size]? = some (.cells (cs20 z) 55 (0, 0)) ∧ w1.rowIs (w.heap.size + 1) t 2 (fun i => if i = 0 then c else d) ∧ Below w.heap.size w w1 ∧ w.heap.size + 2 ≤ w1.heap.size := by
  have hz := k.size
  have k' := k.block
  rw [size_alloc, size_alloc] at hz k'
  refine ⟨?_, ?_, ?_, by omega⟩
  · rw [k' _ (by omega), Below.heap_alloc _ _ _ (by rw [size_alloc]; omega), heap_new]
  · have h := World.rowIs_alloc (w.alloc (.cells (cs20 z) 55)) #[c, d] t (fun i => if i = 0 then c else d) (by
      intro i hi
      have : i = 0 ∨ i = 1 := by simp at hi; omega
      rcases this with rfl | rfl <;> rfl)
    rw [size_alloc] at h
    exact h.of_block (k' _ (by omega))
  · exact (((Below.refl _ _).alloc (Nat.le_refl _) _).alloc (by simp) _).trans (k.mono (by simp; omega))

set_option maxRecDepth 100000 in
set_option maxHeartbeats 8000000 in
theorem walk (lz : Nat → Int) (at_ : Int) (nz : Nat → Int) (w : World) (hl : ∀ i, (Lit.int .u64 (lz i)).wf = true) (wat_ : (Lit.int .u8 at_).wf = true) (hn : ∀ i, (Lit.int .u64 (nz i)).wf = true) :
    Calls Try.prog 7 #[.agg (Array.ofFn (n := 20) fun i => .int .u64 (lz i)), .int .u8 at_, .agg (Array.ofFn (n := 2) fun i => .int .u64 (nz i))] w fun e w' => e = .returned (.bool true) ∧ Below w.heap.size w w' := by
  have ⟨a1, a2⟩ := bounds_u8 wat_
  have ⟨n1, n2⟩ := bounds_u64 (hn 0)
  have ⟨n3, n4⟩ := bounds_u64 (hn 1)
  rw [ofFn2 (fun i => .int .u64 (nz i)), show (Array.ofFn (n := 20) fun i => Value.int .u64 (lz i)) = cs20 lz from rfl]
  clear hn wat_
  generalize nz 0 = x at *
  generalize nz 1 = y at *
  go_enter Try.func7, Try.ntmps7
  go_wp2_with fail
  refine (shown_any _).mono ?_
  rintro e w1 ⟨rfl, k1⟩
  obtain ⟨H0, R1, K1, z1⟩ := boxed2 k1
  clear k1
  have R0 := cs20_of H0
  have HH := Lib.hid H0
  clear H0
  go_wp2_with (with_reducible refine wpList_load_row rfl 55 (.tmp 3) rfl w.heap.size rfl 55 (cs20 lz) (0, 0) _ HH.out Try.underlying55 rfl (info20 lz) ?_)
  refine (filled_any _ lz hl).mono ?_
  rintro e w2 ⟨rfl, h2, k2, z2⟩
  have R2 := R0.of_block (k2.block _ (by omega))
  have S2 := R1.of_block (k2.block _ (by omega))
  have K2 := K1.trans (k2.mono (by omega))
  clear HH R0 R1 k2
  have q0 : w2.cell? ⟨w.heap.size + 1, 0, none⟩ = some (.int .u64 x) := S2.cell (i := 0) (by decide)
  have q1 : w2.cell? ⟨w.heap.size + 1, 1, none⟩ = some (.int .u64 y) := S2.cell (i := 1) (by decide)
  obtain ⟨k, hk⟩ : ∃ k : Nat, at_ % 20 = (k : Int) := ⟨(at_ % 20).toNat, by omega⟩
  have hk2 : k < 20 := by omega
  have q2 : w2.cell? ⟨w.heap.size, k, none⟩ = some (.int .u64 (lz k)) := R2.cell (i := k) hk2
  have FK := Lib.hid (upTo_at lz 20 k hk2)
  have ⟨l1, l2⟩ := bounds_u64 (hl k)
  by_cases h128 : 128 ≤ at_
  · by_cases hy : y = lz k
    · subst hy
      · go_wp2_with fail
        refine (cas_yes _ _ _ 20 k _ _ (lz k) (lz k) h2 hk2 (by omega) l1 l2 FK.out).mono ?_
        rintro e w3 ⟨rfl, h3, g3⟩
        have q3 : w3.cell? ⟨w.heap.size + 1, 1, none⟩ = some (.int .u64 (lz k)) := (S2.of_block (g3.block _ (by omega) (by intro e; injection e; omega))).cell (i := 1) (by decide)
        go_wp2_with fail
        refine (word_ok _ _ _ 20 k _ _ h3 hk2 (by omega)).mono ?_
        rintro e w' ⟨rfl, rfl⟩
        rw [setF_same]
        go_wp2_with fail
        refine (cas_yes _ _ _ 20 k _ _ (lz k) (lz k) h3 hk2 (by omega) l1 l2 (setF_same _ _ _)).mono ?_
        rintro e w4 ⟨rfl, h4, g4⟩
        have G4 := only_trans g3 g4
        have R4 := R2.of_block (G4.block _ (by omega) (by intro e; injection e; omega))
        have S4 := S2.of_block (G4.block _ (by omega) (by intro e; injection e; omega))
        have q4 : w4.cell? ⟨w.heap.size, k, none⟩ = some (.int .u64 (lz k)) := R4.cell (i := k) hk2
        have q5 : w4.cell? ⟨w.heap.size + 1, 1, none⟩ = some (.int .u64 (lz k)) := S4.cell (i := 1) (by decide)
        clear q1 q2 q3
        go_wp2_with fail
        try rw [hk]
        clear hk
        go_loop [17] (fun t => ∃ i : Nat, i ≤ 20 ∧ t = .int .i64 i) (fun t => 20 - (intOf t).toNat)
        case atStart => exact ⟨0, by omega, rfl⟩
        case round =>
          obtain ⟨i, hi, rfl⟩ := hrel
          by_cases hlt : i < 20
          · have q6 : w4.cell? ⟨w.heap.size, i, none⟩ = some (.int .u64 (lz i)) := R4.cell (i := i) hlt
            by_cases hik : i = k
            · subst hik
              go_wp2_with fail
              refine (word_ok _ _ _ 20 i _ _ h4 hlt (by omega)).mono ?_
              rintro e w' ⟨rfl, rfl⟩
              go_wp2_with fail
              go_round
              case rel => exact ⟨i + 1, by omega, by go_num⟩
              case measure => simp [intOf]; omega
            · have b1 : ((i : Int) != (k : Int)) = true := by simp; omega
              have FI := Lib.hid (show setF (setF (upTo lz 20) k (lz k)) k (lz k) i = lz i by simp [setF, upTo, hik, hlt])
              go_wp2_with fail
              refine (word_ok _ _ _ 20 i _ _ h4 hlt (by omega)).mono ?_
              rintro e w' ⟨rfl, rfl⟩
              rw [FI.out]
              go_wp2_with fail
              go_round
              case rel => exact ⟨i + 1, by omega, by go_num⟩
              case measure => simp [intOf]; omega
          · go_wp2_with fail
            go_ret
            exact ⟨rfl, below_only K2 G4 (by omega) (by omega)⟩
    · have c1 : (y == lz k) = false := by simpa using hy
      have c2 : (y != lz k) = true := by simpa using hy
      · go_wp2_with fail
        refine (cas_yes _ _ _ 20 k _ _ (lz k) y h2 hk2 (by omega) n3 n4 FK.out).mono ?_
        rintro e w3 ⟨rfl, h3, g3⟩
        have q3 : w3.cell? ⟨w.heap.size + 1, 1, none⟩ = some (.int .u64 y) := (S2.of_block (g3.block _ (by omega) (by intro e; injection e; omega))).cell (i := 1) (by decide)
        go_wp2_with fail
        refine (word_ok _ _ _ 20 k _ _ h3 hk2 (by omega)).mono ?_
        rintro e w' ⟨rfl, rfl⟩
        rw [setF_same]
        go_wp2_with fail
        refine (cas_no _ _ _ 20 k _ _ (lz k) y h3 hk2 (by omega) n3 n4 (by rw [setF_same]; exact hy)).mono ?_
        rintro e w4 ⟨rfl, h4, g4⟩
        have G4 := only_trans g3 g4
        have R4 := R2.of_block (G4.block _ (by omega) (by intro e; injection e; omega))
        have S4 := S2.of_block (G4.block _ (by omega) (by intro e; injection e; omega))
        have q4 : w4.cell? ⟨w.heap.size, k, none⟩ = some (.int .u64 (lz k)) := R4.cell (i := k) hk2
        have q5 : w4.cell? ⟨w.heap.size + 1, 1, none⟩ = some (.int .u64 y) := S4.cell (i := 1) (by decide)
        clear q1 q2 q3
        go_wp2_with fail
        try rw [hk]
        clear hk
        go_loop [17] (fun t => ∃ i : Nat, i ≤ 20 ∧ t = .int .i64 i) (fun t => 20 - (intOf t).toNat)
        case atStart => exact ⟨0, by omega, rfl⟩
        case round =>
          obtain ⟨i, hi, rfl⟩ := hrel
          by_cases hlt : i < 20
          · have q6 : w4.cell? ⟨w.heap.size, i, none⟩ = some (.int .u64 (lz i)) := R4.cell (i := i) hlt
            by_cases hik : i = k
            · subst hik
              go_wp2_with fail
              refine (word_ok _ _ _ 20 i _ _ h4 hlt (by omega)).mono ?_
              rintro e w' ⟨rfl, rfl⟩
              go_wp2_with fail
              go_round
              case rel => exact ⟨i + 1, by omega, by go_num⟩
              case measure => simp [intOf]; omega
            · have b1 : ((i : Int) != (k : Int)) = true := by simp; omega
              have FI := Lib.hid (show setF (upTo lz 20) k y i = lz i by simp [setF, upTo, hik, hlt])
              go_wp2_with fail
              refine (word_ok _ _ _ 20 i _ _ h4 hlt (by omega)).mono ?_
              rintro e w' ⟨rfl, rfl⟩
              rw [FI.out]
              go_wp2_with fail
              go_round
              case rel => exact ⟨i + 1, by omega, by go_num⟩
              case measure => simp [intOf]; omega
          · go_wp2_with fail
            go_ret
            exact ⟨rfl, below_only K2 G4 (by omega) (by omega)⟩
  · by_cases hx : x = lz k
    · subst hx
      by_cases hy : y = lz k
      · subst hy
        go_wp2_with fail
        refine (cas_yes _ _ _ 20 k _ _ (lz k) (lz k) h2 hk2 (by omega) l1 l2 FK.out).mono ?_
        rintro e w3 ⟨rfl, h3, g3⟩
        have q3 : w3.cell? ⟨w.heap.size + 1, 1, none⟩ = some (.int .u64 (lz k)) := (S2.of_block (g3.block _ (by omega) (by intro e; injection e; omega))).cell (i := 1) (by decide)
        go_wp2_with fail
        refine (word_ok _ _ _ 20 k _ _ h3 hk2 (by omega)).mono ?_
        rintro e w' ⟨rfl, rfl⟩
        rw [setF_same]
        go_wp2_with fail
        refine (cas_yes _ _ _ 20 k _ _ (lz k) (lz k) h3 hk2 (by omega) l1 l2 (setF_same _ _ _)).mono ?_
        rintro e w4 ⟨rfl, h4, g4⟩
        have G4 := only_trans g3 g4
        have R4 := R2.of_block (G4.block _ (by omega) (by intro e; injection e; omega))
        have S4 := S2.of_block (G4.block _ (by omega) (by intro e; injection e; omega))
        have q4 : w4.cell? ⟨w.heap.size, k, none⟩ = some (.int .u64 (lz k)) := R4.cell (i := k) hk2
        have q5 : w4.cell? ⟨w.heap.size + 1, 1, none⟩ = some (.int .u64 (lz k)) := S4.cell (i := 1) (by decide)
        clear q1 q2 q3
        go_wp2_with fail
        try rw [hk]
        clear hk
        go_loop [17] (fun t => ∃ i : Nat, i ≤ 20 ∧ t = .int .i64 i) (fun t => 20 - (intOf t).toNat)
        case atStart => exact ⟨0, by omega, rfl⟩
        case round =>
          obtain ⟨i, hi, rfl⟩ := hrel
          by_cases hlt : i < 20
          · have q6 : w4.cell? ⟨w.heap.size, i, none⟩ = some (.int .u64 (lz i)) := R4.cell (i := i) hlt
            by_cases hik : i = k
            · subst hik
              go_wp2_with fail
              refine (word_ok _ _ _ 20 i _ _ h4 hlt (by omega)).mono ?_
              rintro e w' ⟨rfl, rfl⟩
              go_wp2_with fail
              go_round
              case rel => exact ⟨i + 1, by omega, by go_num⟩
              case measure => simp [intOf]; omega
            · have b1 : ((i : Int) != (k : Int)) = true := by simp; omega
              have FI := Lib.hid (show setF (setF (upTo lz 20) k (lz k)) k (lz k) i = lz i by simp [setF, upTo, hik, hlt])
              go_wp2_with fail
              refine (word_ok _ _ _ 20 i _ _ h4 hlt (by omega)).mono ?_
              rintro e w' ⟨rfl, rfl⟩
              rw [FI.out]
              go_wp2_with fail
              go_round
              case rel => exact ⟨i + 1, by omega, by go_num⟩
              case measure => simp [intOf]; omega
          · go_wp2_with fail
            go_ret
            exact ⟨rfl, below_only K2 G4 (by omega) (by omega)⟩
      · have c1 : (y == lz k) = false := by simpa using hy
        have c2 : (y != lz k) = true := by simpa using hy
        go_wp2_with fail
        refine (cas_yes _ _ _ 20 k _ _ (lz k) y h2 hk2 (by omega) n3 n4 FK.out).mono ?_
        rintro e w3 ⟨rfl, h3, g3⟩
        have q3 : w3.cell? ⟨w.heap.size + 1, 1, none⟩ = some (.int .u64 y) := (S2.of_block (g3.block _ (by omega) (by intro e; injection e; omega))).cell (i := 1) (by decide)
        go_wp2_with fail
        refine (word_ok _ _ _ 20 k _ _ h3 hk2 (by omega)).mono ?_
        rintro e w' ⟨rfl, rfl⟩
        rw [setF_same]
        go_wp2_with fail
        refine (cas_no _ _ _ 20 k _ _ (lz k) y h3 hk2 (by omega) n3 n4 (by rw [setF_same]; exact hy)).mono ?_
        rintro e w4 ⟨rfl, h4, g4⟩
        have G4 := only_trans g3 g4
        have R4 := R2.of_block (G4.block _ (by omega) (by intro e; injection e; omega))
        have S4 := S2.of_block (G4.block _ (by omega) (by intro e; injection e; omega))
        have q4 : w4.cell? ⟨w.heap.size, k, none⟩ = some (.int .u64 (lz k)) := R4.cell (i := k) hk2
        have q5 : w4.cell? ⟨w.heap.size + 1, 1, none⟩ = some (.int .u64 y) := S4.cell (i := 1) (by decide)
        clear q1 q2 q3
        go_wp2_with fail
        try rw [hk]
        clear hk
        go_loop [17] (fun t => ∃ i : Nat, i ≤ 20 ∧ t = .int .i64 i) (fun t => 20 - (intOf t).toNat)
        case atStart => exact ⟨0, by omega, rfl⟩
        case round =>
          obtain ⟨i, hi, rfl⟩ := hrel
          by_cases hlt : i < 20
          · have q6 : w4.cell? ⟨w.heap.size, i, none⟩ = some (.int .u64 (lz i)) := R4.cell (i := i) hlt
            by_cases hik : i = k
            · subst hik
              go_wp2_with fail
              refine (word_ok _ _ _ 20 i _ _ h4 hlt (by omega)).mono ?_
              rintro e w' ⟨rfl, rfl⟩
              go_wp2_with fail
              go_round
              case rel => exact ⟨i + 1, by omega, by go_num⟩
              case measure => simp [intOf]; omega
            · have b1 : ((i : Int) != (k : Int)) = true := by simp; omega
              have FI := Lib.hid (show setF (upTo lz 20) k y i = lz i by simp [setF, upTo, hik, hlt])
              go_wp2_with fail
              refine (word_ok _ _ _ 20 i _ _ h4 hlt (by omega)).mono ?_
              rintro e w' ⟨rfl, rfl⟩
              rw [FI.out]
              go_wp2_with fail
              go_round
              case rel => exact ⟨i + 1, by omega, by go_num⟩
              case measure => simp [intOf]; omega
          · go_wp2_with fail
            go_ret
            exact ⟨rfl, below_only K2 G4 (by omega) (by omega)⟩
    · have c1 : (x == lz k) = false := by simpa using hx
      have c2 : (x != lz k) = true := by simpa using hx
      have c3 : (lz k == x) = false := by simpa using fun e => hx e.symm
      go_wp2_with fail
      refine (cas_no _ _ _ 20 k _ _ x y h2 hk2 (by omega) n3 n4 (by rw [FK.out]; exact fun e => hx e.symm)).mono ?_
      rintro e w3 ⟨rfl, h3, g3⟩
      have q3 : w3.cell? ⟨w.heap.size + 1, 1, none⟩ = some (.int .u64 y) := (S2.of_block (g3.block _ (by omega) (by intro e; injection e; omega))).cell (i := 1) (by decide)
      go_wp2_with fail
      refine (word_ok _ _ _ 20 k _ _ h3 hk2 (by omega)).mono ?_
      rintro e w' ⟨rfl, rfl⟩
      rw [FK.out]
      go_wp2_with fail
      refine (cas_no _ _ _ 20 k _ _ x y h3 hk2 (by omega) n3 n4 (by rw [FK.out]; exact fun e => hx e.symm)).mono ?_
      rintro e w4 ⟨rfl, h4, g4⟩
      have G4 := only_trans g3 g4
      have R4 := R2.of_block (G4.block _ (by omega) (by intro e; injection e; omega))
      have S4 := S2.of_block (G4.block _ (by omega) (by intro e; injection e; omega))
      have q4 : w4.cell? ⟨w.heap.size, k, none⟩ = some (.int .u64 (lz k)) := R4.cell (i := k) hk2
      have q5 : w4.cell? ⟨w.heap.size + 1, 1, none⟩ = some (.int .u64 y) := S4.cell (i := 1) (by decide)
      clear q1 q2 q3
      go_wp2_with fail
      try rw [hk]
      clear hk
      go_loop [17] (fun t => ∃ i : Nat, i ≤ 20 ∧ t = .int .i64 i) (fun t => 20 - (intOf t).toNat)
      case atStart => exact ⟨0, by omega, rfl⟩
      case round =>
        obtain ⟨i, hi, rfl⟩ := hrel
        by_cases hlt : i < 20
        · have q6 : w4.cell? ⟨w.heap.size, i, none⟩ = some (.int .u64 (lz i)) := R4.cell (i := i) hlt
          by_cases hik : i = k
          · subst hik
            go_wp2_with fail
            refine (word_ok _ _ _ 20 i _ _ h4 hlt (by omega)).mono ?_
            rintro e w' ⟨rfl, rfl⟩
            go_wp2_with fail
            go_round
            case rel => exact ⟨i + 1, by omega, by go_num⟩
            case measure => simp [intOf]; omega
          · have b1 : ((i : Int) != (k : Int)) = true := by simp; omega
            have FI := Lib.hid (upTo_at lz 20 i hlt)
            go_wp2_with fail
            refine (word_ok _ _ _ 20 i _ _ h4 hlt (by omega)).mono ?_
            rintro e w' ⟨rfl, rfl⟩
            rw [FI.out]
            go_wp2_with fail
            go_round
            case rel => exact ⟨i + 1, by omega, by go_num⟩
            case measure => simp [intOf]; omega
        · go_wp2_with fail
          go_ret
          exact ⟨rfl, below_only K2 G4 (by omega) (by omega)⟩

set_option maxRecDepth 100000 in
theorem lifted (os : Os) (started : os.Started) (H : Type) (enc : TypeId × Value → H) :
    ReturnsInHanded {} Try.checked os 7 .any (Rows.arenaCasSpec.pre6 enc Try.prog Try.f7 Rows.arenaCasRow.domain false) (Rows.arenaCasSpec.post enc Try.prog Try.f7 false true false false) := by
  refine returnsInHanded_of_change (C := Try.checked) Args.own started (by kernel_rfl) Try.func7
    (ChangeSpec.witness6 (enc := enc) (C := Try.checked) false ⟨#[], #[.agg #[.int .u64 0, .int .u64 0, .int .u64 0, .int .u64 0, .int .u64 0, .int .u64 0, .int .u64 0, .int .u64 0, .int .u64 0, .int .u64 0, .int .u64 0, .int .u64 0, .int .u64 0, .int .u64 0, .int .u64 0, .int .u64 0, .int .u64 0, .int .u64 0, .int .u64 0, .int .u64 0], .int .u8 0, .agg #[.int .u64 0, .int .u64 0]], []⟩ 8 (by kernel_rfl) (by kernel_rfl) (by kernel_rfl) (by kernel_rfl)) ?_
  intro W base args ds gs before hval0 hW hcnd _
  have hval : ∀ (j : Nat) t v, Try.f7.params[j]? = some t → args[j]? = some v → Value.okWide Try.prog W .any base t v := hval0
  have hW' := hW
  obtain ⟨p, q, hA0, hV, rfl, hfz, hnd⟩ := hW
  have hA : DataW.TrodAll enc Try.prog W 0 (fun _ => true) true Try.f7.params.toList args.toList ds p := hA0
  rw [Try.params7] at hA hval
  obtain ⟨v0, vs0, d0, ds0, p0, q0, hargs, rfl, rfl, h0, r0⟩ := trodAll_cons hA
  obtain ⟨v1, vs1, d1, ds1, p1, q1, rfl, rfl, rfl, h1, r1⟩ := trodAll_cons r0
  obtain ⟨v2, vs2, d2, ds2, p2, q2, rfl, rfl, rfl, h2, r2⟩ := trodAll_cons r1
  obtain ⟨rfl, rfl, rfl⟩ := trodAll_nil r2
  obtain rfl : args = #[v0, v1, v2] := by cases args; simp_all
  obtain ⟨rfl, rfl⟩ := trodVars_none hV
  have lt0 := Args.trod_below h0
  obtain ⟨lz, rfl, hl⟩ := Args.arr_in (m := 20) (k := .u64) (e := 30) (by kernel_rfl) (by kernel_rfl) (by kernel_rfl) (by kernel_rfl) (hval 0 55 v0 rfl rfl) h0
  have lt1 := Args.trod_below h1
  obtain ⟨at_, rfl, rfl, rfl, wat_⟩ := open_int Try.underlying5 (hval 1 5 v1 rfl rfl) h1
  have lt2 := Args.trod_below h2
  obtain ⟨nz, rfl, hn⟩ := Args.arr_in (m := 2) (k := .u64) (e := 30) (by kernel_rfl) (by kernel_rfl) (by kernel_rfl) (by kernel_rfl) (hval 2 51 v2 rfl rfl) h2
  clear hA0 hval0
  refine (walk lz at_ nz W hl wat_ hn).mono fun e W' ⟨he, bel⟩ => ?_
  subst he
  exact ⟨_, rfl, _, _, _, [], _, [], hW', trodAll_mk1 (shut_bool Try.underlying4 _), trodAll_cons_mk (Below.trod Args.laidOut (by kernel_rfl) (of_decide_eq_true (by kernel_rfl)) h0 bel lt0) (trodAll_cons_mk (Below.trod Args.laidOut (by kernel_rfl) (of_decide_eq_true (by kernel_rfl)) h1 bel lt1) (trodAll_cons_mk (Below.trod Args.laidOut (by kernel_rfl) (of_decide_eq_true (by kernel_rfl)) h2 bel lt2) (trodAll_mk0))), rfl, bel.frame _, fun h => by cases h⟩

theorem over : Rows.arenaCasRow.holds Try.pinned (OpenSpec.ofChange Rows.arenaCasSpec) :=
  OpenClaim.holds_of_wide 7 Try.f7 rfl rfl rfl rfl rfl rfl rfl ⟨rfl, rfl, rfl, rfl, rfl⟩ rfl rfl rfl rfl rfl (by kernel_rfl) Try.func7 (by kernel_rfl)
    (of_decide_eq_true (by kernel_rfl)) (by unfold Func.isWrapper; rw [if_neg (of_decide_eq_false (by kernel_rfl))]; exact ⟨rfl, rfl⟩)
    (fun os started H enc _ => lifted os started H enc)

theorem proved : Rows.ArenaCasSaid :=
  over
end Go.Proofs.Ytpaioclagnmblaa.arenaCas
