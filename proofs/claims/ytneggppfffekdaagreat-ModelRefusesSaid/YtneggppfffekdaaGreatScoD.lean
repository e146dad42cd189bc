/-
  Contracts of package scopes: Create, Destroy, Enter, Leave, Open, Hold.
-/
import Derived.Test.YtneggppfffekdaaGreatScoC
import Derived.Test.YtneggppfffekdaaGreatNump
namespace Go.Proofs.YtneggppfffekdaaGreat.Sco
open Go.ChangeShapes Go.WideShapes Go.ChangeAt Go.RowKit
open Slic Gm
set_option linter.unusedVariables false
set_option maxRecDepth 8000
set_option linter.unusedSimpArgs false
attribute [local go_sem ↓] Go.wp_at_zero Go.wp_at_succ

set_option maxHeartbeats 400000 in
theorem isfree_any (x : Cx) (w : World) :
    Calls Tryz.prog 143 #[.agg #[.int .i64 x.s, .int .i64 x.c, .int .i64 x.p, .int .i64 x.e, .int .i64 x.a, .int .i64 x.z]] w fun e w' => e = .returned (.bool (fr x)) ∧ Below w.heap.size w w' := by
  have q : (x.s == 0) = fr x := by unfold fr; exact Bool.beq_eq_decide_eq _ _
  generalize fr x = b at *
  go_enter Tryz.func143, Tryz.ntmps143
  go_wp2
  go_ret
  exact ⟨rfl, below_one w _⟩

def idxR (R : List Cx) : Int := if R.findIdx fr < R.length then (R.findIdx fr : Int) else -1
theorem find_at {R : List Cx} {k : Nat} (h : ∀ i (hi : i < R.length), i < k → fr R[i] = false) (hk : k < R.length) (hp : fr R[k] = true) : R.findIdx fr = k := by
  rw [List.findIdx_eq hk]
  exact ⟨hp, fun j hj => by rw [h j (by omega) hj]⟩
theorem find_none {R : List Cx} (h : ∀ i (hi : i < R.length), i < R.length → fr R[i] = false) : R.findIdx fr = R.length := by
  rw [List.findIdx_eq_length]
  intro e he
  obtain ⟨i, hi, rfl⟩ := List.mem_iff_getElem.1 he
  exact h i hi hi

section
variable {w w' : World} {Y : Fr} {B g K n : Nat} {A S : Int} {F : Fo}
set_option maxHeartbeats 2000000 in
theorem idx_any (h : Sc w Y B g K n A S F) (n8 : n ≤ 8) :
    Calls Tryz.prog 142 #[.slice (some ⟨g, 0, none⟩) n n, .func (.func 143) #[] #[]] w fun e w' => e = .returned (.int .i64 (idxR F.R)) ∧ Below w.heap.size w w' := by
  have hn := h.len
  go_enter Tryz.func142, Tryz.ntmps142
  go_wp2
  go_loopw [8] (fun t wr => ∃ k : Nat, k ≤ n ∧ t = .int .i64 k ∧ Below w.heap.size w wr ∧ Hid (∀ i (hi : i < F.R.length), i < k → fr F.R[i] = false)) (fun t _ => n - (intOf t).toNat)
  case atStart => exact ⟨0, by omega, rfl, Below.refl _ _, Lib.hid (fun i _ h => by omega)⟩
  case round =>
    obtain ⟨k, hk, rfl, hb, hno⟩ := hrel
    by_cases hlt : k < n
    · have hx : F.R[k]? = some F.R[k] := List.getElem?_eq_getElem (by omega)
      obtain ⟨⟨x0, x1, x2, x3, x4, x5⟩, _⟩ := (h.below hb).at hx
      have HX := Lib.hid hx
      clear hx
      have hkl : k < F.R.length := by omega
      cases hp : fr F.R[k] with
      | true =>
        have HP := Lib.hid hp
        go_wp2_with (go_at_call 143; refine (isfree_any F.R[k] _).mono ?_; rintro e W1 ⟨rfl, B1⟩; rw [HP.out])
        go_ret
        exact ⟨ret_int (by unfold idxR; rw [find_at hno.out hkl HP.out, if_pos hkl]), hb.trans (B1.mono hb.size)⟩
      | false =>
        have HP := Lib.hid hp
        go_wp2_with (go_at_call 143; refine (isfree_any F.R[k] _).mono ?_; rintro e W1 ⟨rfl, B1⟩; rw [HP.out])
        go_roundw
        case rel =>
          refine ⟨k + 1, by omega, by go_num, hb.trans (B1.mono hb.size), Lib.hid fun i hi h => ?_⟩
          by_cases e : i = k
          · subst e; exact HP.out
          · exact hno.out i hi (by omega)
        case measure => simp [intOf]; omega
    · obtain rfl : k = n := by omega
      have HN := Lib.hid (find_none (R := F.R) (fun i hi _ => hno.out i hi (by omega)))
      go_wp2
      go_ret
      exact ⟨ret_int (by unfold idxR; rw [HN.out, if_neg (by omega)]), hb⟩

set_option maxRecDepth 8000 in
set_option maxHeartbeats 4000000 in
theorem create_any (h : Sc w Y B g K n A S F) (n8 : n ≤ 8) (ok : Ok A S F.L) (hK : K < w.heap.size) (z : Int) (z1 : -9223372036854775808 ≤ z) (z2 : z ≤ 9223372036854775807) :
    Calls Tryz.prog 118 #[ptr B, .int .i64 z] w fun e w' => e = .returned (.tuple #[.int .i64 (createV F z).v, .int .i64 (createV F z).x]) ∧ Sc w' Y B g K n A S (createV F z).F ∧ Only [B, g] w w' := by
  have c0 := h.all
  by_cases hz : z < 1 ∨ 8192 < z
  · have E := Lib.hid (show createV F z = ⟨0, 1, false, F⟩ by unfold createV; rw [if_pos hz])
    have hw : Ctl.withinB z 1 8192 = false := decide_eq_false (by omega)
    clear hz
    go_enter Tryz.func118, Tryz.ntmps118
    go_wp2_with (go_at_call 61; refine (Ctl.within_any _ _ _ _).mono ?_; rintro e w' ⟨rfl, rfl⟩)
    go_ret2
    rw [E.out]
    exact ⟨rfl, h, Only.refl _ _⟩
  · have hw : Ctl.withinB z 1 8192 = true := decide_eq_true (by omega)
    obtain ⟨u1, u2, u3, u4, u5⟩ := upz_all hz
    have uV : Num.upV z = upz z := Num.upV_ok z (by omega) (by omega)
    have hup := Num.up_ok z w (by omega) (by omega)
    rw [uV] at hup
    cases hl : F.R[F.R.findIdx fr]? with
    | none =>
      have E := Lib.hid (show createV F z = ⟨0, 13, false, F⟩ by unfold createV; rw [if_neg hz, hl])
      have hi := Lib.hid (show idxR F.R = -1 by unfold idxR; rw [if_neg (by have := List.getElem?_eq_none_iff.1 hl; omega)])
      clear hz hl
      go_enter Tryz.func118, Tryz.ntmps118
      go_wp2_with (first
        | (go_at_call 61; refine (Ctl.within_any _ _ _ _).mono ?_; rintro e w' ⟨rfl, rfl⟩)
        | (go_at_call 141; refine hup.mono ?_; rintro e w' ⟨rfl, rfl⟩)
        | (go_at_call 142; refine (idx_any h n8).mono ?_; rintro e w1 ⟨rfl, k1⟩; rw [hi.out]))
      go_ret2
      rw [E.out]
      exact ⟨rfl, h.below k1, Only.below k1⟩
    | some x =>
      have hkl := (List.getElem?_eq_some_iff.1 hl).1
      have hi := Lib.hid (show idxR F.R = (F.R.findIdx fr : Nat) by unfold idxR; rw [if_pos hkl])
      have EC := Lib.hid (show createV F z = if Gr.carveB (upz z) F.L = true then ⟨(F.R.findIdx fr : Nat), 0, false, ⟨F.R.set (F.R.findIdx fr) (made x (carveA (upz z) F.L) (upz z)), carveL (upz z) F.L⟩⟩ else ⟨0, 14, false, F⟩ by unfold createV; rw [if_neg hz, hl])
      rw [h.len] at hkl
      generalize F.R.findIdx fr = k at *
      cases hb : Gr.carveB (upz z) F.L with
      | false =>
        have E := Lib.hid (show createV F z = ⟨0, 14, false, F⟩ by rw [EC.out, if_neg (by rw [hb]; decide)])
        have HB := Lib.hid hb
        have HV := Lib.hid (show Gr.carveV (upz z) F.L = 0 by unfold Gr.carveV; rw [if_neg (by rw [hb]; decide)])
        have HF := Lib.hid (show Gr.carveF (upz z) F.L = F.L by unfold Gr.carveF; rw [if_neg (by rw [hb]; decide)])
        clear hz hl hb
        go_enter Tryz.func118, Tryz.ntmps118
        go_wp2_with (first
          | (go_at_call 61; refine (Ctl.within_any _ _ _ _).mono ?_; rintro e w' ⟨rfl, rfl⟩)
          | (go_at_call 141; refine hup.mono ?_; rintro e w' ⟨rfl, rfl⟩)
          | (go_at_call 142; refine (idx_any h n8).mono ?_; rintro e w1 ⟨rfl, k1⟩; rw [hi.out]; have h1 := h.below k1; have c1 := h1.all; have hK1 := Nat.lt_of_lt_of_le hK k1.size)
          | (go_at_call 144; refine (Gr.carve_any w1 (ly Y g n) B K A S F.L (upz z) h1.gr hK1 ok (by omega) (by omega)).mono ?_; rintro e w2 ⟨rfl, g2, k2⟩; rw [HB.out, HV.out]))
        go_ret2
        rw [E.out]
        rw [HF.out] at g2
        exact ⟨rfl, h1.ground g2 k2, (Only.below k1).trans (Only.grown k2 (by simp))⟩
      | true =>
        have E := Lib.hid (show createV F z = ⟨(k : Nat), 0, false, ⟨F.R.set k (made x (carveA (upz z) F.L) (upz z)), carveL (upz z) F.L⟩⟩ by rw [EC.out, if_pos hb])
        have HB := Lib.hid hb
        have HV := Lib.hid (show Gr.carveV (upz z) F.L = carveA (upz z) F.L by unfold Gr.carveV; rw [if_pos hb])
        have HF := Lib.hid (show Gr.carveF (upz z) F.L = carveL (upz z) F.L by unfold Gr.carveF; rw [if_pos hb])
        have HL := Lib.hid hl
        have n1 : B ≠ g := h.ne
        have n2 : g ≠ B := fun e => h.ne e.symm
        clear hz hl hb
        go_enter Tryz.func118, Tryz.ntmps118
        go_wp2_with (first
          | (go_at_call 61; refine (Ctl.within_any _ _ _ _).mono ?_; rintro e w' ⟨rfl, rfl⟩)
          | (go_at_call 141; refine hup.mono ?_; rintro e w' ⟨rfl, rfl⟩)
          | (go_at_call 142; refine (idx_any h n8).mono ?_; rintro e w1 ⟨rfl, k1⟩; rw [hi.out]; have h1 := h.below k1; have c1 := h1.all; have hK1 := Nat.lt_of_lt_of_le hK k1.size)
          | fail)
        refine (Gr.carve_any w1 (ly Y g n) B K A S F.L (upz z) h1.gr hK1 ok (by omega) (by omega)).mono ?_
        rintro e w2 ⟨rfl, g2, k2⟩
        rw [HB.out, HV.out]
        rw [HF.out] at g2
        have h2 := h1.ground g2 k2
        obtain ⟨⟨x0, x1, x2, x3, x4, x5⟩, hf⟩ := h2.at HL.out
        have c2 := h2.all
        have f0 := hf (k * 6)
        have f4 := hf (k * 6 + 4)
        have f5 := hf (k * 6 + 5)
        have C2 := (h2.cg.put1 k HL.out 1).put2 k (set_read HL.out _) (carveA (upz z) F.L) (upz z)
        rw [List.set_set] at C2
        clear c0 c1 x1 x2 x3 hf
        go_wp2
        go_ret2
        rw [E.out]
        exact ⟨rfl, h2.of_cg C2, ((Only.below k1).trans (Only.grown k2 (by simp))).trans (C2.only.mono (by simp))⟩
end
end Go.Proofs.YtneggppfffekdaaGreat.Sco
