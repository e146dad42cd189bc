/-
  Contract of package model: which registers a call names, and whether one of them is none.
-/
import Derived.Test.YtneggppfffekdaaGreatExit
namespace Go.Proofs.YtneggppfffekdaaGreat.Mod
open Go.ChangeShapes Go.WideShapes Go.ChangeAt Go.RowKit Go.Shelf
open Slic Sco
set_option linter.unusedVariables false
set_option linter.unusedSimpArgs false
set_option maxRecDepth 8000
attribute [local go_sem] Oper.semAt_some

def kB : Kd Int := { X := 161, T := 5, m := 1, by_ := 1, z := .int .u8 0, enc := fun x => [.int .u8 x], len := fun _ => rfl, one := fun _ u h => by simp at h; subst h; rfl, pos := by decide, small := by decide, zs := rfl, under := by kernel_rfl, info := by kernel_rfl, elem := by kernel_rfl }
set_option maxHeartbeats 400000 in
theorem noreg_any (w : World) (r : Int) : Calls Tryz.prog 74 #[.int .u8 r] w fun e w' => e = .returned (.bool (badR r)) ∧ w' = w := by
  have q : decide (r ≥ 4) = badR r := rfl
  generalize badR r = b at *
  go_enter Tryz.func74, Tryz.ntmps74
  go_wp2
  go_ret
  exact ⟨rfl, rfl⟩
set_option maxHeartbeats 2000000 in
theorem idxB_any (w : World) (A : Option Addr) (c : Nat) (L : List Int) (hS : Sr kB w (.slice A L.length c) L) (hl : L.length ≤ 1000000) :
    Calls Tryz.prog 106 #[.slice A L.length c, .func (.func 74) #[] #[]] w fun e w' => (∃ i : Int, e = .returned (.int .i64 i) ∧ decide (i ≥ 0) = L.any badR) ∧ w' = w := by
  go_enter Tryz.func106, Tryz.ntmps106
  go_wp2
  go_loopw [8] (fun t wr => ∃ k : Nat, k ≤ L.length ∧ t = .int .i64 k ∧ wr = w ∧ Hid ((L.take k).any badR = false)) (fun t _ => L.length - (intOf t).toNat)
  case atStart => exact ⟨0, Nat.zero_le _, rfl, rfl, Lib.hid rfl⟩
  case round =>
    obtain ⟨k, hk, rfl, rfl, hno⟩ := hrel
    by_cases hlt : k < L.length
    · obtain ⟨g, o, rfl, hg, hc⟩ := hS.at k hlt
      have c0 := hc 0 _ rfl
      rw [show o + (k * kB.m + 0) = o + k from by simp [kB]] at c0
      have ht : L.take (k + 1) = L.take k ++ [L[k]] := List.take_succ_eq_append_getElem hlt
      have HT := Lib.hid ht
      clear ht
      cases hb : badR L[k] with
      | true =>
        have HB := Lib.hid hb
        go_wp2_with (go_at_call 74; refine (noreg_any _ L[k]).mono ?_; rintro e W1 ⟨rfl, rfl⟩; rw [HB.out])
        go_ret
        refine ⟨⟨k, rfl, ?_⟩, rfl⟩
        rw [decide_eq_true (by omega : (k : Int) ≥ 0)]
        exact (List.any_eq_true.2 ⟨L[k], List.getElem_mem hlt, HB.out⟩).symm
      | false =>
        have HB := Lib.hid hb
        go_wp2_with (go_at_call 74; refine (noreg_any _ L[k]).mono ?_; rintro e W1 ⟨rfl, rfl⟩; rw [HB.out])
        go_roundw
        case rel => exact ⟨k + 1, by omega, by go_num, by trivial, Lib.hid (by rw [HT.out, List.any_append, hno.out]; simp [HB.out])⟩
        case measure => simp [intOf]; omega
    · obtain rfl : k = L.length := by omega
      have hn := hno.out
      rw [List.take_length] at hn
      go_wp2
      go_ret
      exact ⟨⟨-1, rfl, by rw [hn]; rfl⟩, by trivial⟩
set_option maxHeartbeats 2000000 in
theorem contB_any (w : World) (A : Option Addr) (c : Nat) (L : List Int) (hS : Sr kB w (.slice A L.length c) L) (hl : L.length ≤ 1000000) :
    Calls Tryz.prog 73 #[.slice A L.length c, .func (.func 74) #[] #[]] w fun e w' => e = .returned (.bool (L.any badR)) ∧ w' = w := by
  go_enter Tryz.func73, Tryz.ntmps73
  go_wp2_with (go_at_call 106; refine (idxB_any _ A c L hS hl).mono ?_; rintro e W1 ⟨⟨i, rfl, hi⟩, rfl⟩)
  go_ret
  exact ⟨by rw [← hi]; rfl, rfl⟩
/-- The registers that a call names. -/
def regsC (c : Ca) : List Int :=
  if c.op = 1 then [c.r] else if c.op = 7 then [c.r] else if c.op = 8 then [c.r, c.h] else if c.op = 9 then [c.h, c.v] else if c.op = 10 then [c.r] else if c.op = 11 then [c.v] else []
theorem regs_bad (c : Ca) : (regsC c).any badR = badC c := by
  unfold regsC badC
  by_cases h1 : c.op = 1
  · simp [h1]
  by_cases h7 : c.op = 7
  · simp [h7]
  by_cases h8 : c.op = 8
  · simp [h8]
  by_cases h9 : c.op = 9
  · simp [h9]
  by_cases h10 : c.op = 10
  · simp [h10]
  by_cases h11 : c.op = 11
  · simp [h11]
  simp [h1, h7, h8, h9, h10, h11]
/-- What does a call. -/
theorem lit1 (w : World) (o : Obj) (r : Int) : Sr kB (((w.alloc o).alloc (.cells #[.int .u8 r] 5)).drew) (.slice (some ⟨w.heap.size + 1, 0, none⟩) 1 1) [r] := by
  have := (Slic.Own.lit (K := kB) (w.alloc o) 0 (Nat.zero_le _) [r] #[.int .u8 r] rfl (by show 1 ≤ maxLen; decide) 1 rfl).sr.drew
  rw [World.size_alloc] at this
  exact this
theorem lit2 (w : World) (o : Obj) (r s : Int) : Sr kB (((w.alloc o).alloc (.cells #[.int .u8 r, .int .u8 s] 5)).drew) (.slice (some ⟨w.heap.size + 1, 0, none⟩) 2 2) [r, s] := by
  have := (Slic.Own.lit (K := kB) (w.alloc o) 0 (Nat.zero_le _) [r, s] #[.int .u8 r, .int .u8 s] rfl (by show 2 ≤ maxLen; decide) 2 rfl).sr.drew
  rw [World.size_alloc] at this
  exact this
theorem below_two (w : World) (o p : Obj) : Below w.heap.size w (((w.alloc o).alloc p).drew) := (((Below.refl _ w).alloc (Nat.le_refl _) o).alloc (by simp) p).drew
def wayF (Z : Fx) (t : Nat) (c : Ca) : Value :=
  if c.op = 0 then .func (.func 94) #[doV Z t c] #[] else
  if c.op = 1 then .func (.func 95) #[doV Z t c] #[] else
  if c.op = 2 then .func (.func 96) #[doV Z t c] #[] else
  if c.op = 3 then .func (.func 97) #[doV Z t c] #[] else
  if c.op = 4 then .func (.func 98) #[doV Z t c] #[] else
  if c.op = 5 then .func (.func 99) #[doV Z t c] #[] else
  if c.op = 6 then .func (.func 100) #[doV Z t c] #[] else
  if c.op = 7 then .func (.func 101) #[doV Z t c] #[] else
  if c.op = 8 then .func (.func 102) #[doV Z t c] #[] else
  if c.op = 9 then .func (.func 103) #[doV Z t c] #[] else
  if c.op = 10 then .func (.func 104) #[doV Z t c] #[] else
  if c.op = 11 then .func (.func 105) #[doV Z t c] #[] else
  .nilFunc
set_option maxHeartbeats 4000000 in
theorem way_any (w : World) (Z : Fx) (t : Nat) (c : Ca) : Calls Tryz.prog 72 #[doV Z t c] w fun e w' => ∃ v, e = .returned (.tuple #[wayF Z t c, v]) ∧ Sr kB w' v (regsC c) ∧ Below w.heap.size w w' := by
  obtain ⟨op, r, h, v, a, b, d⟩ := c
  by_cases h0 : op = 0
  · subst h0
    go_enter Tryz.func72, Tryz.ntmps72
    go_wp2
    exact bodyPost_ret (v := .tuple #[.func (.func 94) #[doV Z t ⟨0, r, h, v, a, b, d⟩] #[], .slice none 0 0]) (by simp [results, Tryz.results72, go_sem]) rfl ⟨_, rfl, Sr.nil _, below_one w _⟩
  by_cases h1 : op = 1
  · subst h1
    go_enter Tryz.func72, Tryz.ntmps72
    go_wp2
    go_region
    all_goals
      go_wp2
      refine bodyPost_ret (v := .tuple #[.func (.func 95) #[doV Z t ⟨1, r, h, v, a, b, d⟩] #[], .slice (some ⟨w.heap.size + 1, 0, none⟩) 1 1]) (by simp [results, Tryz.results72, go_sem]) rfl ⟨_, rfl, lit1 _ _ r, below_two ..⟩
  by_cases h2 : op = 2
  · subst h2
    go_enter Tryz.func72, Tryz.ntmps72
    go_wp2
    exact bodyPost_ret (v := .tuple #[.func (.func 96) #[doV Z t ⟨2, r, h, v, a, b, d⟩] #[], .slice none 0 0]) (by simp [results, Tryz.results72, go_sem]) rfl ⟨_, rfl, Sr.nil _, below_one w _⟩
  by_cases h3 : op = 3
  · subst h3
    go_enter Tryz.func72, Tryz.ntmps72
    go_wp2
    exact bodyPost_ret (v := .tuple #[.func (.func 97) #[doV Z t ⟨3, r, h, v, a, b, d⟩] #[], .slice none 0 0]) (by simp [results, Tryz.results72, go_sem]) rfl ⟨_, rfl, Sr.nil _, below_one w _⟩
  by_cases h4 : op = 4
  · subst h4
    go_enter Tryz.func72, Tryz.ntmps72
    go_wp2
    exact bodyPost_ret (v := .tuple #[.func (.func 98) #[doV Z t ⟨4, r, h, v, a, b, d⟩] #[], .slice none 0 0]) (by simp [results, Tryz.results72, go_sem]) rfl ⟨_, rfl, Sr.nil _, below_one w _⟩
  by_cases h5 : op = 5
  · subst h5
    go_enter Tryz.func72, Tryz.ntmps72
    go_wp2
    exact bodyPost_ret (v := .tuple #[.func (.func 99) #[doV Z t ⟨5, r, h, v, a, b, d⟩] #[], .slice none 0 0]) (by simp [results, Tryz.results72, go_sem]) rfl ⟨_, rfl, Sr.nil _, below_one w _⟩
  by_cases h6 : op = 6
  · subst h6
    go_enter Tryz.func72, Tryz.ntmps72
    go_wp2
    exact bodyPost_ret (v := .tuple #[.func (.func 100) #[doV Z t ⟨6, r, h, v, a, b, d⟩] #[], .slice none 0 0]) (by simp [results, Tryz.results72, go_sem]) rfl ⟨_, rfl, Sr.nil _, below_one w _⟩
  by_cases h7 : op = 7
  · subst h7
    go_enter Tryz.func72, Tryz.ntmps72
    go_wp2
    go_region
    all_goals
      go_wp2
      refine bodyPost_ret (v := .tuple #[.func (.func 101) #[doV Z t ⟨7, r, h, v, a, b, d⟩] #[], .slice (some ⟨w.heap.size + 1, 0, none⟩) 1 1]) (by simp [results, Tryz.results72, go_sem]) rfl ⟨_, rfl, lit1 _ _ r, below_two ..⟩
  by_cases h8 : op = 8
  · subst h8
    go_enter Tryz.func72, Tryz.ntmps72
    go_wp2
    go_region
    all_goals
      go_wp2
      refine bodyPost_ret (v := .tuple #[.func (.func 102) #[doV Z t ⟨8, r, h, v, a, b, d⟩] #[], .slice (some ⟨w.heap.size + 1, 0, none⟩) 2 2]) (by simp [results, Tryz.results72, go_sem]) rfl ⟨_, rfl, lit2 _ _ r h, below_two ..⟩
  by_cases h9 : op = 9
  · subst h9
    go_enter Tryz.func72, Tryz.ntmps72
    go_wp2
    go_region
    all_goals
      go_wp2
      refine bodyPost_ret (v := .tuple #[.func (.func 103) #[doV Z t ⟨9, r, h, v, a, b, d⟩] #[], .slice (some ⟨w.heap.size + 1, 0, none⟩) 2 2]) (by simp [results, Tryz.results72, go_sem]) rfl ⟨_, rfl, lit2 _ _ h v, below_two ..⟩
  by_cases h10 : op = 10
  · subst h10
    go_enter Tryz.func72, Tryz.ntmps72
    go_wp2
    go_region
    all_goals
      go_wp2
      refine bodyPost_ret (v := .tuple #[.func (.func 104) #[doV Z t ⟨10, r, h, v, a, b, d⟩] #[], .slice (some ⟨w.heap.size + 1, 0, none⟩) 1 1]) (by simp [results, Tryz.results72, go_sem]) rfl ⟨_, rfl, lit1 _ _ r, below_two ..⟩
  by_cases h11 : op = 11
  · subst h11
    go_enter Tryz.func72, Tryz.ntmps72
    go_wp2
    go_region
    all_goals
      go_wp2
      refine bodyPost_ret (v := .tuple #[.func (.func 105) #[doV Z t ⟨11, r, h, v, a, b, d⟩] #[], .slice (some ⟨w.heap.size + 1, 0, none⟩) 1 1]) (by simp [results, Tryz.results72, go_sem]) rfl ⟨_, rfl, lit1 _ _ v, below_two ..⟩
  have z0 : (op == 0) = false := beq_eq_false_iff_ne.2 h0
  have z1 : (op == 1) = false := beq_eq_false_iff_ne.2 h1
  have z2 : (op == 2) = false := beq_eq_false_iff_ne.2 h2
  have z3 : (op == 3) = false := beq_eq_false_iff_ne.2 h3
  have z4 : (op == 4) = false := beq_eq_false_iff_ne.2 h4
  have z5 : (op == 5) = false := beq_eq_false_iff_ne.2 h5
  have z6 : (op == 6) = false := beq_eq_false_iff_ne.2 h6
  have z7 : (op == 7) = false := beq_eq_false_iff_ne.2 h7
  have z8 : (op == 8) = false := beq_eq_false_iff_ne.2 h8
  have z9 : (op == 9) = false := beq_eq_false_iff_ne.2 h9
  have z10 : (op == 10) = false := beq_eq_false_iff_ne.2 h10
  have z11 : (op == 11) = false := beq_eq_false_iff_ne.2 h11
  have e1 : wayF Z t ⟨op, r, h, v, a, b, d⟩ = .nilFunc := by unfold wayF; simp only [h0, h1, h2, h3, h4, h5, h6, h7, h8, h9, h10, h11, if_false]
  have e2 : regsC ⟨op, r, h, v, a, b, d⟩ = [] := by unfold regsC; simp only [h0, h1, h2, h3, h4, h5, h6, h7, h8, h9, h10, h11, if_false]
  have E1 := Lib.hid e1
  have E2 := Lib.hid e2
  clear e1 e2 h0 h1 h2 h3 h4 h5 h6 h7 h8 h9 h10 h11
  go_enter Tryz.func72, Tryz.ntmps72
  go_wp2
  exact bodyPost_ret (v := .tuple #[.nilFunc, .slice none 0 0]) (by simp [results, Tryz.results72, go_sem]) rfl ⟨_, by rw [E1.out], by rw [E2.out]; exact Sr.nil _, below_one w _⟩
end Go.Proofs.YtneggppfffekdaaGreat.Mod
