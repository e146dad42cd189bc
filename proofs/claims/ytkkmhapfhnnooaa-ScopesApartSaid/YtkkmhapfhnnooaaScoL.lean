/-
  What Create tells, case by case; whether a free extent is great enough; sizes rounded up.
-/
import Derived.Test.YtkkmhapfhnnooaaScoY
import Derived.Test.YtkkmhapfhnnooaaCtlF
import Derived.Test.YtkkmhapfhnnooaaNum
namespace Go.Proofs.Ytkkmhapfhnnooaa.Sco
open Gm
set_option linter.unusedVariables false
set_option linter.unusedSimpArgs false

theorem create_cases {n : Nat} {A S I J : Int} {F : Fo} (h : Inv n A S I J F) (z : Int) :
    ((z < 1 ∨ 8192 < z) ∧ createV F z = ⟨0, 1, false, F⟩) ∨
    (1 ≤ z ∧ z ≤ 8192 ∧ F.R.findIdx fr = n ∧ createV F z = ⟨0, 13, false, F⟩) ∨
    (1 ≤ z ∧ z ≤ 8192 ∧ F.R.findIdx fr < n ∧ fits (upz z) F.L = false ∧ createV F z = ⟨0, 14, false, F⟩) ∨
    (∃ (e a : Int) (G : Fo) (y : Cx), 1 ≤ z ∧ z ≤ 8192 ∧ F.R.findIdx fr < n ∧ fits (upz z) F.L = true ∧ createV F z = ⟨(F.R.findIdx fr : Nat), 0, false, G⟩ ∧ G.R[F.R.findIdx fr]? = some ⟨1, 0, -1, e, a, upz z⟩ ∧ F.R[F.R.findIdx fr]? = some y ∧ y.e = e) := by
  unfold createV
  by_cases hz : z < 1 ∨ 8192 < z
  · exact .inl ⟨hz, by rw [if_pos hz]⟩
  · right
    rw [if_neg hz]
    have hu := upz_all hz
    cases hl : F.R[F.R.findIdx fr]? with
    | none =>
      have h1 := List.getElem?_eq_none_iff.1 hl
      have h2 : F.R.findIdx fr ≤ F.R.length := List.findIdx_le_length
      have h3 := h.len
      exact .inl ⟨by omega, by omega, by omega, rfl⟩
    | some x =>
      right
      have hk := (List.getElem?_eq_some_iff.1 hl).1
      have h3 := h.len
      have hb : Gr.carveB (upz z) F.L = fits (upz z) F.L := by
        unfold Gr.carveB
        have : Gr.sizeB (upz z) = true := decide_eq_true ⟨hu.1, hu.2.1⟩
        rw [this, Bool.true_and]
      cases hf : fits (upz z) F.L with
      | false =>
        left
        rw [hf] at hb
        refine ⟨by omega, by omega, by omega, rfl, ?_⟩
        simp only [hb]
        rfl
      | true =>
        right
        rw [hf] at hb
        have hs := fr_at hl
        have hr := rightI (h.right _ x hl)
        refine ⟨x.e, carveA (upz z) F.L, ⟨F.R.set (F.R.findIdx fr) (made x (carveA (upz z) F.L) (upz z)), carveL (upz z) F.L⟩, x, by omega, by omega, by omega, rfl, ?_, ?_, rfl, rfl⟩
        · simp only [hb, if_true]
        · show (F.R.set (F.R.findIdx fr) (made x (carveA (upz z) F.L) (upz z)))[F.R.findIdx fr]? = _
          rw [set_get hk]
          have hc : x.c = 0 := by omega
          have hp : x.p = -1 := by omega
          unfold made
          rw [hc, hp]

theorem fits_ex {z : Int} : ∀ {L : List E}, fits z L = true ↔ ∃ i, ∃ hi : i < L.length, z ≤ (L[i]).2
  | [] => by simp [fits]
  | e :: r => by
    unfold fits
    by_cases c : z ≤ e.2
    · rw [if_pos c]
      exact ⟨fun _ => ⟨0, by simp, c⟩, fun _ => rfl⟩
    · rw [if_neg c, fits_ex]
      constructor
      · rintro ⟨i, hi, h⟩
        exact ⟨i + 1, by simp; omega, by simpa using h⟩
      · rintro ⟨i, hi, h⟩
        cases i with
        | zero => exact absurd h c
        | succ i => exact ⟨i, by simp at hi; omega, by simpa using h⟩
/-- Of the first so many. -/
def roomB (z : Int) (L : List E) (k : Nat) : Bool := fits z (L.take k)
theorem room_zero (z : Int) (L : List E) : roomB z L 0 = false := rfl
theorem room_all (z : Int) (L : List E) : roomB z L L.length = fits z L := by unfold roomB; rw [List.take_length]
theorem fits_app (z : Int) (L : List E) (e : E) : fits z (L ++ [e]) = (fits z L || decide (z ≤ e.2)) := by
  induction L with
  | nil =>
    by_cases c : z ≤ e.2 <;> simp [fits, c]
  | cons a r ih =>
    by_cases c : z ≤ a.2
    · simp [fits, c]
    · simp [fits, c, ih]
theorem room_next (z : Int) {L : List E} {k : Nat} (hk : k < L.length) : roomB z L (k + 1) = (roomB z L k || decide (z ≤ (L[k]).2)) := by
  unfold roomB
  rw [List.take_succ_eq_append_getElem hk, fits_app]

theorem up_sizes (z : Int) (z1 : -9223372036854775808 ≤ z) (z2 : z ≤ 9223372036854775807) : ∃ a b c : Int, bits .andNot .i64 z 7 = a ∧ IntKind.i64.wrap (a + 8) = b ∧ bits .andNot .i64 b 7 = c ∧ bits .and .i64 z 7 = z % 8 ∧ (1 ≤ z ∧ z ≤ 8192 → z % 8 ≠ 0 → c = upz z) ∧ (1 ≤ z ∧ z ≤ 8192 → z % 8 = 0 → z = upz z) := by
  refine ⟨_, _, _, rfl, rfl, rfl, by simpa using Ctl.mask_i64 3 (by decide) z, ?_, ?_⟩
  · intro ⟨h1, h2⟩ h3
    have e := Num.clear3 z (by omega) (by omega)
    rw [e]
    have e2 : IntKind.i64.wrap (z / 8 * 8 + 8) = z / 8 * 8 + 8 := by rw [IntKind.wrap_i64]; omega
    rw [e2, Num.clear3 _ (by omega) (by omega)]
    unfold upz
    omega
  · intro ⟨h1, h2⟩ h3
    unfold upz
    omega
/-- A number of a whole All. -/
theorem all_c {R : List Cx} {i : Nat} {x : Cx} (hx : R[i]? = some x) (h8 : R.length ≤ 8) : (allA R)[i * 4]? = some (.int .i64 x.s) ∧ (allA R)[i * 4 + 1]? = some (.int .i64 x.c) ∧ (allA R)[i * 4 + 2]? = some (.int .i64 x.p) ∧ (allA R)[i * 4 + 3]? = some (.int .i64 x.e) := by
  have hi := (List.getElem?_eq_some_iff.1 hx).1
  have hcv : ∀ t, cv R i t = if t = 0 then .int .i64 x.s else if t = 1 then .int .i64 x.c else if t = 2 then .int .i64 x.p else .int .i64 x.e := fun t => by unfold cv; rw [hx]
  refine ⟨?_, ?_, ?_, ?_⟩
  · rw [allA_get _ _ (by omega)]
    unfold cell2
    rw [if_pos (by omega), if_pos (by omega), show i * 4 / 4 = i by omega, show i * 4 % 4 = 0 by omega, hcv]
    rfl
  · rw [allA_get _ _ (by omega)]
    unfold cell2
    rw [if_pos (by omega), if_pos (by omega), show (i * 4 + 1) / 4 = i by omega, show (i * 4 + 1) % 4 = 1 by omega, hcv]
    rfl
  · rw [allA_get _ _ (by omega)]
    unfold cell2
    rw [if_pos (by omega), if_pos (by omega), show (i * 4 + 2) / 4 = i by omega, show (i * 4 + 2) % 4 = 2 by omega, hcv]
    rfl
  · rw [allA_get _ _ (by omega)]
    unfold cell2
    rw [if_pos (by omega), if_pos (by omega), show (i * 4 + 3) / 4 = i by omega, show (i * 4 + 3) % 4 = 3 by omega, hcv]
    rfl
theorem all_x {R : List Cx} {i : Nat} {x : Cx} (hx : R[i]? = some x) (h8 : R.length ≤ 8) : (allA R)[32 + i * 2]? = some (.int .i64 x.a) ∧ (allA R)[32 + i * 2 + 1]? = some (.int .i64 x.z) := by
  have hi := (List.getElem?_eq_some_iff.1 hx).1
  have hxv : ∀ t, xv R i t = if t = 0 then .int .i64 x.a else .int .i64 x.z := fun t => by unfold xv; rw [hx]
  refine ⟨?_, ?_⟩
  · rw [allA_get _ _ (by omega)]
    unfold cell2
    rw [if_neg (by omega), if_pos (by omega), show (32 + i * 2 - 32) / 2 = i by omega, show (32 + i * 2 - 32) % 2 = 0 by omega, hxv]
    rfl
  · rw [allA_get _ _ (by omega)]
    unfold cell2
    rw [if_neg (by omega), if_pos (by omega), show (32 + i * 2 + 1 - 32) / 2 = i by omega, show (32 + i * 2 + 1 - 32) % 2 = 1 by omega, hxv]
    rfl
/-- The least that is free, looked for from 1 on. -/
theorem fr_step {n : Nat} {A S I J : Int} {F : Fo} (h : Inv n A S I J F) {j : Nat} (hj : j ≤ F.R.findIdx fr) (hn : j < n) : ∃ x : Cx, F.R[j]? = some x ∧ ((x.s = 0 ∧ F.R.findIdx fr = j) ∨ (x.s ≠ 0 ∧ j + 1 ≤ F.R.findIdx fr)) := by
  have hl : j < F.R.length := by rw [h.len]; exact hn
  refine ⟨F.R[j], List.getElem?_eq_getElem hl, ?_⟩
  by_cases hs : (F.R[j]).s = 0
  · left
    refine ⟨hs, ?_⟩
    rcases Nat.lt_or_ge j (F.R.findIdx fr) with c | c
    · have := List.not_of_lt_findIdx (p := fr) c
      exact absurd (decide_eq_true hs) (by simpa [fr] using this)
    · omega
  · right
    refine ⟨hs, ?_⟩
    rcases Nat.lt_or_ge j (F.R.findIdx fr) with c | c
    · exact c
    · have e : F.R.findIdx fr = j := by omega
      have := fr_at (R := F.R) (x := F.R[j]) (by rw [e]; exact List.getElem?_eq_getElem hl)
      exact absurd this hs
end Go.Proofs.Ytkkmhapfhnnooaa.Sco
