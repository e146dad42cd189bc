/-
  The laws' rows of words; what a law's call puts.
-/
import Derived.Test.YtbpmnjmegffllaaFouL
namespace Go.Proofs.Ytbpmnjmegffllaa.Fou
open Go.ChangeShapes Go.WideShapes Go.ChangeAt Go.RowKit
open Go.Proofs.Ytbpmnjmegffllaa.Mod Sco Amem Beg Gm
set_option linter.unusedVariables false
set_option linter.unusedSimpArgs false
set_option maxRecDepth 100000
attribute [local go_sem ↓] Go.wp_at_zero Go.wp_at_succ
variable {P : Pn} {f : Nat → Int} {F : Fo} {G : Nat} {w w' : World}
/-- Words that a law's call puts: of one block alone, and none where it is refused. -/
theorem putX_other {k i : Nat} {x : Cx} (h : i / 8 ≠ k) : putX f k x i = f i := by
  unfold putX
  rw [setF_other _ _ _ _ (by omega), setF_other _ _ _ _ (by omega), setF_other _ _ _ _ (by omega)]
inductive OpW (f : Nat → Int) (F : Fo) (mk : Bool) (v : Int) : Prop
  | no (h : (opR F mk v).x ≠ 0) (hv : (opR F mk v).v = 0) (e : (opR F mk v).F = F) (w : opW f F mk v = f)
  | yes (k : Nat) (h : (opR F mk v).x = 0) (hk : (k : Int) = if mk = true then (opR F mk v).v else opA mk v) (w : ∀ i, i / 8 ≠ k → opW f F mk v i = f i)
theorem op_words (f : Nat → Int) (F : Fo) (mk : Bool) (v : Int) : OpW f F mk v := by
  have hb := op_bd mk v
  cases mk with
  | true =>
    have ew : opW f F true v = createW f F (opA true v) := rfl
    rcases op_cases F true v with ⟨hx0, hv0, hFF⟩ | ⟨x, hmk, hx, hx0, hv0, hc, hFF⟩ | ⟨x, s, hmk, hs, hx, hx1, hx0, hv0, hFF⟩
    · refine .no hx0 hv0 hFF ?_
      rw [ew]
      unfold createW
      cases hx : F.R[F.R.findIdx fr]? with
      | none => rfl
      | some x =>
        dsimp only
        cases hc : Gr.carveB (upz (opA true v)) F.L with
        | false => rfl
        | true =>
          exfalso
          apply hx0
          have e2 : createV F (opA true v) = ⟨(F.R.findIdx fr : Nat), 0, false, ⟨F.R.set (F.R.findIdx fr) (made x (carveA (upz (opA true v)) F.L) (upz (opA true v))), carveL (upz (opA true v)) F.L⟩⟩ := by unfold createV; rw [if_neg (by omega), hx]; dsimp only; rw [if_pos hc]
          show (createV F (opA true v)).x = 0
          rw [e2]
    · refine .yes (F.R.findIdx fr) hx0 (by rw [hv0]; rfl) fun i hi => ?_
      rw [ew]
      unfold createW
      rw [hx]
      dsimp only
      rw [if_pos hc, setF_other _ _ _ _ (by omega), setF_other _ _ _ _ (by omega), putX_other hi]
    · cases hmk
  | false =>
    have ew : opW f F false v = destroyW f F (opA false v) := rfl
    rcases op_cases F false v with ⟨hx0, hv0, hFF⟩ | ⟨x, hmk, hx, hx0, hv0, hc, hFF⟩ | ⟨x, s, hmk, hs, hx, hx1, hx0, hv0, hFF⟩
    · refine .no hx0 hv0 hFF ?_
      rw [ew]
      unfold destroyW
      cases hx : Sco.look F.R (opA false v) with
      | none => rfl
      | some x =>
        dsimp only
        by_cases h1 : x.s = 1
        · exfalso
          apply hx0
          show (destroyV F (opA false v)).x = 0
          unfold destroyV
          rw [hx]
          dsimp only
          rw [if_neg (by omega), if_pos h1]
        · rw [if_neg h1]
    · cases hmk
    · refine .yes s hx0 (by rw [hs]; rfl) fun i hi => ?_
      have lk : Sco.look F.R (opA false v) = F.R[s]? := by unfold Sco.look; rw [if_pos (by omega), hs, Int.toNat_natCast]
      rw [ew]
      unfold destroyW
      rw [lk, hx]
      dsimp only
      rw [if_pos hx1]
      rw [hs, Int.toNat_natCast]
      exact putX_other hi
set_option maxHeartbeats 2000000 in
theorem words_any (w : World) (h : P.ar w f) (hN : P.N ≤ 8191) :
    Calls Try.prog 16 #[.pointer (some ⟨P.B, 0, none⟩)] w fun e w' => ∃ v, e = .returned v ∧ Slic.Own Fina.kU w' w.heap.size v ((List.range P.N).map f) ∧ Below w.heap.size w w' := by
  have HN := Lib.hid hN
  clear hN
  go_enter Try.func16, Try.ntmps16
  go_wp2_with fail
  go_loopw [3, 4] (fun v t' wr => ∃ k : Nat, k ≤ P.N ∧ t' = .int .i64 (8 * (k : Int)) ∧ Slic.Own Fina.kU wr w.heap.size v ((List.range k).map f) ∧ Below w.heap.size w wr) (fun _ t' _ => 8 * P.N - (intOf t').toNat)
  case atStart => exact ⟨0, by omega, rfl, Slic.Own.lit (K := Fina.kU) w _ (Nat.le_refl _) [] #[] rfl (show 0 ≤ maxLen by decide) 0 rfl, (Below.refl _ _).alloc (Nat.le_refl _) _⟩
  case round =>
    obtain ⟨k, hk, rfl, O1, bl⟩ := hrel
    have ar := Ar.keep h bl
    obtain ⟨A1, c1, rfl, _, _⟩ := O1.sr.form
    obtain ⟨L, hL⟩ : ∃ L, (List.range k).map f = L := ⟨_, rfl⟩
    have HL1 := Lib.hid (show (List.range (k + 1)).map f = L ++ [f k] by rw [← hL, List.range_succ, List.map_append]; rfl)
    have HL0 := Lib.hid hL
    have hlen : L.length = k := by rw [← hL, List.length_map, List.length_range]
    rw [hL] at O1 ⊢
    rw [hlen] at O1 ⊢
    have HLN := Lib.hid hlen
    clear hL hlen
    by_cases hlt : k < P.N
    · have hl := (Slic.Own.lit (K := Fina.kU) wr 0 (Nat.zero_le _) [f k] #[.int .u64 (f k)] rfl (show 1 ≤ maxLen by decide) 1 rfl).sr
      have OB := O1.below ((Below.refl _ _).alloc (Nat.le_refl _) (.cells #[.int .u64 (f k)] 33))
      have lb := bl.size
      have q8 : 8 * (k : Int) < 65536 := by have := HN.out; omega
      have q9 : k < 8191 := by have := HN.out; omega
      have LQ := Lib.hid (show L.length + 1 ≤ 1000000 by rw [HLN.out]; omega)
      clear q9
      go_wp2_with (first
        | (go_at_call 11; refine (Arena.len_any _ P.B P.g P.N f ar).mono ?_; rintro e w4 ⟨rfl, rfl⟩)
        | (go_at_call 13; refine (Arena.word_ok _ P.B P.g P.N k f _ ar hlt rfl).mono ?_; rintro e w4 ⟨rfl, rfl⟩)
        | (refine Slic.wpList_app (K := Fina.kU) (o := ⟨some 27, _, _, _, _, _⟩) rfl (.tmp 24) (.tmp 26) rfl rfl rfl rfl OB hl LQ.out (by simp; omega) ?_
           intro v2 w2 O2 g2 G2))
      go_roundw
      case rel => exact ⟨k + 1, by omega, by go_num, by rw [HL1.out]; exact O2, G2.below _ _ (Nat.le_refl _) (bl.alloc bl.size _)⟩
      case measure => simp [intOf]; omega
    · obtain rfl : k = P.N := by omega
      go_wp2_with (first
        | (go_at_call 11; refine (Arena.len_any _ P.B P.g P.N f ar).mono ?_; rintro e w4 ⟨rfl, rfl⟩))
      go_ret
      exact ⟨_, rfl, by rw [HL0.out]; exact O1, bl⟩
end Go.Proofs.Ytbpmnjmegffllaa.Fou
