/-
  penfoldlaw02.ArenaApart returns true for every two bytes, two uint64 and two bytes; no condition.
-/
import Derived.Test.YtpaioclagnmblaaRows
import Derived.Test.YtpaioclagnmblaaArgs
import Derived.Test.YtpaioclagnmblaaShown
import Derived.Test.YtpaioclagnmblaaMemB
namespace Go.Proofs.Ytpaioclagnmblaa.arenaApart
open Go.ChangeShapes Go.WideShapes Go.ChangeAt Go.RowKit
set_option linter.unusedVariables false

open Arena Mem
def pick (a b : Value) : Nat → Value := fun i => if i = 0 then a else b
theorem two (a b : Value) : ∀ i, i < #[a, b].size → #[a, b][i]? = some (pick a b i) := by
  intro i hi
  have : i = 0 ∨ i = 1 := by simp at hi; omega
  rcases this with rfl | rfl <;> rfl
theorem boxed (w : World) (a b : Value) (s : TypeId) : (w.alloc (.cells #[a, b] s)).rowIs w.heap.size s 2 (pick a b) := World.rowIs_alloc w #[a, b] s (pick a b) (two a b)
theorem size_alloc (w : World) (o : Obj) : (w.alloc o).heap.size = w.heap.size + 1 := by simp
theorem boxed3 {w w1 : World} {a b c d e f : Value} {s t u : TypeId}
    (k : Below (((w.alloc (.cells #[a, b] s)).alloc (.cells #[c, d] t)).alloc (.cells #[e, f] u)).heap.size (((w.alloc (.cells #[a, b] s)).alloc (.cells #[c, d] t)).alloc (.cells #[e, f] u)) w1) :
    w1.rowIs w.heap.size s 2 (pick a b) ∧ w1.rowIs (w.heap.size + 1) t 2 (pick c d) ∧ w1.rowIs (w.heap.size + 1 + 1) u 2 (pick e f) ∧ Below w.heap.size w w1 ∧ w.heap.size + 3 ≤ w1.heap.size := by
  have z := k.size
  have k' := k.block
  rw [size_alloc, size_alloc, size_alloc] at z k'
  refine ⟨(((boxed w a b s).alloc _).alloc _).of_block (k' _ (by omega)), ?_, ?_, ?_, by omega⟩
  · have h := boxed (w.alloc (.cells #[a, b] s)) c d t
    rw [size_alloc] at h
    exact (h.alloc _).of_block (k' _ (by omega))
  · have h := boxed ((w.alloc (.cells #[a, b] s)).alloc (.cells #[c, d] t)) e f u
    rw [size_alloc, size_alloc] at h
    exact h.of_block (k' _ (by omega))
  · exact ((((Below.refl _ _).alloc (Nat.le_refl _) _).alloc (by simp) _).alloc (by simp; omega) _).trans (k.mono (by simp; omega))
theorem ofFn2 (f : Nat → Value) : Array.ofFn (n := 2) (fun i => f i) = #[f 0, f 1] := rfl

set_option maxRecDepth 100000 in
set_option maxHeartbeats 8000000 in
theorem walk (pz : Nat → Int) (nz : Nat → Int) (cz : Nat → Int) (w : World) (hp : ∀ i, (Lit.int .u8 (pz i)).wf = true) (hn : ∀ i, (Lit.int .u64 (nz i)).wf = true) (hc : ∀ i, (Lit.int .u8 (cz i)).wf = true) :
    Calls Try.prog 5 #[.agg (Array.ofFn (n := 2) fun i => .int .u8 (pz i)), .agg (Array.ofFn (n := 2) fun i => .int .u64 (nz i)), .agg (Array.ofFn (n := 2) fun i => .int .u8 (cz i))] w fun e w' => e = .returned (.bool true) ∧ Below w.heap.size w w' := by
  have ⟨p1, p2⟩ := bounds_u8 (hp 0)
  have ⟨p3, p4⟩ := bounds_u8 (hp 1)
  have ⟨n1, n2⟩ := bounds_u64 (hn 0)
  have ⟨n3, n4⟩ := bounds_u64 (hn 1)
  have ⟨c1, c2⟩ := bounds_u8 (hc 0)
  have ⟨c3, c4⟩ := bounds_u8 (hc 1)
  rw [ofFn2 (fun i => .int .u8 (pz i)), ofFn2 (fun i => .int .u64 (nz i)), ofFn2 (fun i => .int .u8 (cz i))]
  clear hp hn hc
  generalize pz 0 = p at *
  generalize pz 1 = q at *
  generalize nz 0 = x at *
  generalize nz 1 = y at *
  generalize cz 0 = c at *
  generalize cz 1 = d at *
  obtain ⟨I, hI⟩ : ∃ I : Nat, p % 20 = (I : Int) := ⟨(p % 20).toNat, by omega⟩
  obtain ⟨J, hJ⟩ : ∃ J : Nat, q % 20 = (J : Int) := ⟨(q % 20).toNat, by omega⟩
  obtain ⟨k, hk⟩ : ∃ k : Nat, c % 8 = (k : Int) := ⟨(c % 8).toNat, by omega⟩
  have hI2 : I < 20 := by omega
  have hJ2 : J < 20 := by omega
  have hk2 : k < 8 := by omega
  have hap := apart y d k hk2 n3 n4 c3 c4
  go_enter Try.func5, Try.ntmps5
  go_wp2_with fail
  refine (shown_any _).mono ?_
  rintro e w1 ⟨rfl, k1⟩
  obtain ⟨R0, R1, R2, K1, z1⟩ := boxed3 k1
  clear k1
  have q0 : w1.cell? ⟨w.heap.size, 0, none⟩ = some (.int .u8 p) := R0.cell (i := 0) (by decide)
  have q1 : w1.cell? ⟨w.heap.size, 1, none⟩ = some (.int .u8 q) := R0.cell (i := 1) (by decide)
  have q2 : w1.cell? ⟨w.heap.size + 1, 0, none⟩ = some (.int .u64 x) := R1.cell (i := 0) (by decide)
  have q3 : w1.cell? ⟨w.heap.size + 1, 1, none⟩ = some (.int .u64 y) := R1.cell (i := 1) (by decide)
  go_wp2_with fail
  refine (new_at _ _ 20 rfl (by omega)).mono ?_
  rintro e w2 ⟨rfl, h2, k2, z2⟩
  have Z2 := Lib.hid z2
  have R2' := R2.of_block (k2.block _ (by omega))
  have K2 := K1.trans (k2.mono (by omega))
  clear z2 q0 q1 q2 q3 R0 R1 R2
  go_wp2_with fail
  refine (put_ok _ _ _ 20 I _ _ x h2 hI2 (by omega) n1 n2).mono ?_
  rintro e w3 ⟨rfl, h3, g3⟩
  go_wp2_with fail
  refine (put_ok _ _ _ 20 J _ _ y h3 hJ2 (by omega) n3 n4).mono ?_
  rintro e w4 ⟨rfl, h4, g4⟩
  have G4 := only_trans g3 g4
  have R4 := R2'.of_block (G4.block _ (by have := Z2.out; omega) (by intro e; injection e; omega))
  have q4 : w4.cell? ⟨w.heap.size + 1 + 1, 0, none⟩ = some (.int .u8 c) := R4.cell (i := 0) (by decide)
  have q5 : w4.cell? ⟨w.heap.size + 1 + 1, 1, none⟩ = some (.int .u8 d) := R4.cell (i := 1) (by decide)
  have K4 := below_only K2 G4 (by have := Z2.out; omega) (by omega)
  have FJ := Lib.hid (show setF (setF (fun _ => 0) I x) J y J = y from setF_same _ _ _)
  clear R2'
  by_cases hIJ : I = J
  · subst hIJ
    go_wp2_with fail
    refine (word_ok _ _ _ 20 I _ _ h4 hI2 (by omega)).mono ?_
    rintro e w' ⟨rfl, rfl⟩
    rw [FJ.out]
    go_wp2_with fail
    refine (word_ok _ _ _ 20 I _ _ h4 hI2 (by omega)).mono ?_
    rintro e w' ⟨rfl, rfl⟩
    rw [FJ.out]
    go_wp2_with fail
    rw [hk]
    clear hk
    go_loop [19] (fun t => ∃ h : Nat, h ≤ 8 ∧ t = .int .i64 h) (fun t => 8 - (intOf t).toNat)
    case atStart => exact ⟨0, by omega, rfl⟩
    case round =>
      obtain ⟨h, hh, rfl⟩ := hrel
      by_cases hlt : h < 8
      · have hm := mask y h n3 n4
        have HV := Lib.hid (show byteV (setF (setF (fun _ => 0) I x) I y ((8 * I + h) / 8)) ((8 * I + h) % 8) = y / 2 ^ (8 * h) % 256 by rw [show (8 * I + h) / 8 = I by omega, show (8 * I + h) % 8 = h by omega, setF_same]; rfl)
        go_wp2_with fail
        refine (byte_ok _ _ _ 20 (8 * I + h) _ _ h4 (by omega) (by omega)).mono ?_
        rintro e w' ⟨rfl, rfl⟩
        rw [HV.out]
        go_wp2_with fail
        go_round
        case rel => exact ⟨h + 1, by omega, by go_num⟩
        case measure => simp [intOf]; omega
      · have P0 := Lib.hid (show byteV (setF (setF (setF (fun _ => 0) I x) I y) ((8 * I + k) / 8) (putB (setF (setF (fun _ => 0) I x) I y ((8 * I + k) / 8)) ((8 * I + k) % 8) d) ((8 * I + k) / 8)) ((8 * I + k) % 8) = d by
            rw [setF_same, show (8 * I + k) / 8 = I by omega, show (8 * I + k) % 8 = k by omega, setF_same, byte_putB _ _ _ hk2 _ hk2 n3 n4 c3 c4, if_pos rfl])
        have P1 := Lib.hid (show setF (setF (setF (fun _ => 0) I x) I y) ((8 * I + k) / 8) (putB (setF (setF (fun _ => 0) I x) I y ((8 * I + k) / 8)) ((8 * I + k) % 8) d) I = putB y k d by
            rw [show (8 * I + k) / 8 = I by omega, show (8 * I + k) % 8 = k by omega, setF_same, setF_same])
        have P2 := Lib.hid (show setF (setF (setF (fun _ => 0) I x) I y) ((8 * I + k) / 8) (putB (setF (setF (fun _ => 0) I x) I y ((8 * I + k) / 8)) ((8 * I + k) % 8) d) I = putB y k d by rw [show (8 * I + k) / 8 = I by omega, show (8 * I + k) % 8 = k by omega, setF_same, setF_same])
        go_wp2_with fail
        refine (putbyte_ok _ _ _ 20 (8 * I + k) _ _ d h4 (by omega) (by omega) c3 c4).mono ?_
        rintro e w5 ⟨rfl, h5, g5⟩
        have q6 : w5.cell? ⟨w.heap.size + 1 + 1, 1, none⟩ = some (.int .u8 d) := (R4.of_block (g5.block _ (by have := Z2.out; have := G4.size; omega) (by intro e; injection e; omega))).cell (i := 1) (by decide)
        go_wp2_with fail
        refine (byte_ok _ _ _ 20 (8 * I + k) _ _ h5 (by omega) (by omega)).mono ?_
        rintro e w' ⟨rfl, rfl⟩
        rw [P0.out]
        go_wp2_with fail
        refine (word_ok _ _ _ 20 I _ _ h5 hI2 (by omega)).mono ?_
        rintro e w' ⟨rfl, rfl⟩
        rw [P1.out]
        go_wp2_with fail
        refine (word_ok _ _ _ 20 I _ _ h5 hI2 (by omega)).mono ?_
        rintro e w' ⟨rfl, rfl⟩
        rw [P2.out]
        go_wp2_with fail
        go_ret
        exact ⟨rfl, below_only K4 g5 (by have := Z2.out; have := G4.size; omega) (by omega)⟩
  · have FI := Lib.hid (show setF (setF (fun _ => 0) I x) J y I = x by rw [setF_other _ _ _ _ hIJ, setF_same])
    have n1' : ((I : Int) == (J : Int)) = false := by simp; omega
    have n2' : ((I : Int) != (J : Int)) = true := by simp; omega
    go_wp2_with fail
    refine (word_ok _ _ _ 20 I _ _ h4 hI2 (by omega)).mono ?_
    rintro e w' ⟨rfl, rfl⟩
    rw [FI.out]
    go_wp2_with fail
    refine (word_ok _ _ _ 20 J _ _ h4 hJ2 (by omega)).mono ?_
    rintro e w' ⟨rfl, rfl⟩
    rw [FJ.out]
    go_wp2_with fail
    rw [hk]
    clear hk
    go_loop [19] (fun t => ∃ h : Nat, h ≤ 8 ∧ t = .int .i64 h) (fun t => 8 - (intOf t).toNat)
    case atStart => exact ⟨0, by omega, rfl⟩
    case round =>
      obtain ⟨h, hh, rfl⟩ := hrel
      by_cases hlt : h < 8
      · have hm := mask y h n3 n4
        have HV := Lib.hid (show byteV (setF (setF (fun _ => 0) I x) J y ((8 * J + h) / 8)) ((8 * J + h) % 8) = y / 2 ^ (8 * h) % 256 by rw [show (8 * J + h) / 8 = J by omega, show (8 * J + h) % 8 = h by omega, setF_same]; rfl)
        go_wp2_with fail
        refine (byte_ok _ _ _ 20 (8 * J + h) _ _ h4 (by omega) (by omega)).mono ?_
        rintro e w' ⟨rfl, rfl⟩
        rw [HV.out]
        go_wp2_with fail
        go_round
        case rel => exact ⟨h + 1, by omega, by go_num⟩
        case measure => simp [intOf]; omega
      · have P0 := Lib.hid (show byteV (setF (setF (setF (fun _ => 0) I x) J y) ((8 * J + k) / 8) (putB (setF (setF (fun _ => 0) I x) J y ((8 * J + k) / 8)) ((8 * J + k) % 8) d) ((8 * J + k) / 8)) ((8 * J + k) % 8) = d by
            rw [setF_same, show (8 * J + k) / 8 = J by omega, show (8 * J + k) % 8 = k by omega, setF_same, byte_putB _ _ _ hk2 _ hk2 n3 n4 c3 c4, if_pos rfl])
        have P1 := Lib.hid (show setF (setF (setF (fun _ => 0) I x) J y) ((8 * J + k) / 8) (putB (setF (setF (fun _ => 0) I x) J y ((8 * J + k) / 8)) ((8 * J + k) % 8) d) J = putB y k d by
            rw [show (8 * J + k) / 8 = J by omega, show (8 * J + k) % 8 = k by omega, setF_same, setF_same])
        have P2 := Lib.hid (show setF (setF (setF (fun _ => 0) I x) J y) ((8 * J + k) / 8) (putB (setF (setF (fun _ => 0) I x) J y ((8 * J + k) / 8)) ((8 * J + k) % 8) d) I = x by rw [show (8 * J + k) / 8 = J by omega, setF_other _ _ _ _ hIJ, setF_other _ _ _ _ hIJ, setF_same])
        go_wp2_with fail
        refine (putbyte_ok _ _ _ 20 (8 * J + k) _ _ d h4 (by omega) (by omega) c3 c4).mono ?_
        rintro e w5 ⟨rfl, h5, g5⟩
        have q6 : w5.cell? ⟨w.heap.size + 1 + 1, 1, none⟩ = some (.int .u8 d) := (R4.of_block (g5.block _ (by have := Z2.out; have := G4.size; omega) (by intro e; injection e; omega))).cell (i := 1) (by decide)
        go_wp2_with fail
        refine (byte_ok _ _ _ 20 (8 * J + k) _ _ h5 (by omega) (by omega)).mono ?_
        rintro e w' ⟨rfl, rfl⟩
        rw [P0.out]
        go_wp2_with fail
        refine (word_ok _ _ _ 20 J _ _ h5 hJ2 (by omega)).mono ?_
        rintro e w' ⟨rfl, rfl⟩
        rw [P1.out]
        go_wp2_with fail
        refine (word_ok _ _ _ 20 I _ _ h5 hI2 (by omega)).mono ?_
        rintro e w' ⟨rfl, rfl⟩
        rw [P2.out]
        go_wp2_with fail
        go_ret
        exact ⟨rfl, below_only K4 g5 (by have := Z2.out; have := G4.size; omega) (by omega)⟩

set_option maxRecDepth 100000 in
theorem lifted (os : Os) (started : os.Started) (H : Type) (enc : TypeId × Value → H) :
    ReturnsInHanded {} Try.checked os 5 .any (Rows.arenaApartSpec.pre6 enc Try.prog Try.f5 Rows.arenaApartRow.domain false) (Rows.arenaApartSpec.post enc Try.prog Try.f5 false true false false) := by
  refine returnsInHanded_of_change (C := Try.checked) Args.own started (by kernel_rfl) Try.func5
    (ChangeSpec.witness6 (enc := enc) (C := Try.checked) false ⟨#[], #[.agg #[.int .u8 0, .int .u8 0], .agg #[.int .u64 0, .int .u64 0], .agg #[.int .u8 0, .int .u8 0]], []⟩ 8 (by kernel_rfl) (by kernel_rfl) (by kernel_rfl) (by kernel_rfl)) ?_
  intro W base args ds gs before hval0 hW hcnd _
  have hval : ∀ (j : Nat) t v, Try.f5.params[j]? = some t → args[j]? = some v → Value.okWide Try.prog W .any base t v := hval0
  have hW' := hW
  obtain ⟨p, q, hA0, hV, rfl, hfz, hnd⟩ := hW
  have hA : DataW.TrodAll enc Try.prog W 0 (fun _ => true) true Try.f5.params.toList args.toList ds p := hA0
  rw [Try.params5] at hA hval
  obtain ⟨v0, vs0, d0, ds0, p0, q0, hargs, rfl, rfl, h0, r0⟩ := trodAll_cons hA
  obtain ⟨v1, vs1, d1, ds1, p1, q1, rfl, rfl, rfl, h1, r1⟩ := trodAll_cons r0
  obtain ⟨v2, vs2, d2, ds2, p2, q2, rfl, rfl, rfl, h2, r2⟩ := trodAll_cons r1
  obtain ⟨rfl, rfl, rfl⟩ := trodAll_nil r2
  obtain rfl : args = #[v0, v1, v2] := by cases args; simp_all
  obtain ⟨rfl, rfl⟩ := trodVars_none hV
  have lt0 := Args.trod_below h0
  obtain ⟨pz, rfl, hp⟩ := Args.arr_in (m := 2) (k := .u8) (e := 5) (by kernel_rfl) (by kernel_rfl) (by kernel_rfl) (by kernel_rfl) (hval 0 50 v0 rfl rfl) h0
  have lt1 := Args.trod_below h1
  obtain ⟨nz, rfl, hn⟩ := Args.arr_in (m := 2) (k := .u64) (e := 30) (by kernel_rfl) (by kernel_rfl) (by kernel_rfl) (by kernel_rfl) (hval 1 51 v1 rfl rfl) h1
  have lt2 := Args.trod_below h2
  obtain ⟨cz, rfl, hc⟩ := Args.arr_in (m := 2) (k := .u8) (e := 5) (by kernel_rfl) (by kernel_rfl) (by kernel_rfl) (by kernel_rfl) (hval 2 50 v2 rfl rfl) h2
  clear hA0 hval0
  refine (walk pz nz cz W hp hn hc).mono fun e W' ⟨he, bel⟩ => ?_
  subst he
  exact ⟨_, rfl, _, _, _, [], _, [], hW', trodAll_mk1 (shut_bool Try.underlying4 _), trodAll_cons_mk (Below.trod Args.laidOut (by kernel_rfl) (of_decide_eq_true (by kernel_rfl)) h0 bel lt0) (trodAll_cons_mk (Below.trod Args.laidOut (by kernel_rfl) (of_decide_eq_true (by kernel_rfl)) h1 bel lt1) (trodAll_cons_mk (Below.trod Args.laidOut (by kernel_rfl) (of_decide_eq_true (by kernel_rfl)) h2 bel lt2) (trodAll_mk0))), rfl, bel.frame _, fun h => by cases h⟩

theorem over : Rows.arenaApartRow.holds Try.pinned (OpenSpec.ofChange Rows.arenaApartSpec) :=
  OpenClaim.holds_of_wide 5 Try.f5 rfl rfl rfl rfl rfl rfl rfl ⟨rfl, rfl, rfl, rfl, rfl⟩ rfl rfl rfl rfl rfl (by kernel_rfl) Try.func5 (by kernel_rfl)
    (of_decide_eq_true (by kernel_rfl)) (by unfold Func.isWrapper; rw [if_neg (of_decide_eq_false (by kernel_rfl))]; exact ⟨rfl, rfl⟩)
    (fun os started H enc _ => lifted os started H enc)

theorem proved : Rows.ArenaApartSaid :=
  over
end Go.Proofs.Ytpaioclagnmblaa.arenaApart
