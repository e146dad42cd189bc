/-
  Package found: the words tell the forest; the least scope that is free.
-/
import Derived.Test.YteakglkagmghpaaGreatFouB
namespace Go.Proofs.YteakglkagmghpaaGreat.Fou
open Go.ChangeShapes Go.WideShapes Go.ChangeAt Go.RowKit
open Sco Amem
set_option linter.unusedVariables false
set_option linter.unusedSimpArgs false
set_option maxRecDepth 8000
attribute [local go_sem ↓] Go.wp_at_zero Go.wp_at_succ
variable {P : Pn} {f : Nat → Int} {F : Fo} {G : Nat} {w w' : World}
/-- The words tell what each scope is and has. -/
def Wf (f : Nat → Int) (R : List Cx) : Prop := ∀ (i : Nat) (x : Cx), R[i]? = some x → f (8 * i) = Ctl.packV x.s x.c x.p x.e ∧ f (8 * i + 1) = x.a ∧ f (8 * i + 2) = x.z
def Pn.A (P : Pn) : Int := 64 * (P.n : Int) + P.i
def Pn.Iv (P : Pn) (F : Fo) : Prop := Inv P.n P.A P.j (64 * (P.n : Int)) P.i F
/-- The arena and the ground that tell a forest. -/
structure Fd (w : World) (P : Pn) (G : Nat) (f : Nat → Int) (F : Fo) : Prop where
  ar : P.ar w f
  gr : Gr.Gr w Gr.y0 G P.K P.A P.j F.L
  wf : Wf f F.R
  iv : P.Iv F
  kl : P.K < w.heap.size
theorem un_pack {s c p e : Int} (hr : Ctl.rightB s c p e = true) : Ctl.unV (Ctl.packV s c p e) = ⟨s, c, p, e, 0⟩ := by
  have h := rightI hr
  have e1 : Ctl.packV s c p e % 4 = s := by unfold Ctl.packV; rw [if_pos hr]; omega
  have e2 : Ctl.packV s c p e / 4 % 256 = c := by unfold Ctl.packV; rw [if_pos hr]; omega
  have e3 : Ctl.packV s c p e / 1024 % 256 - 1 = p := by unfold Ctl.packV; rw [if_pos hr]; omega
  have e4 : Ctl.packV s c p e / 262144 = e := by unfold Ctl.packV; rw [if_pos hr]; omega
  unfold Ctl.unV Ctl.unB
  rw [e1, e2, e3, e4, if_pos hr]
theorem Fd.see (h : Fd w P G f F) {i : Nat} {x : Cx} (hx : F.R[i]? = some x) : seeV (f (8 * i)) = ⟨x.s, x.c, x.p, x.e, 0⟩ := by
  rw [(h.wf i x hx).1]
  exact see_ok (un_pack (h.iv.right i x hx)) rfl
theorem Fd.ne (h : Fd w P G f F) : G ≠ P.B ∧ G ≠ P.g := by
  obtain ⟨v, h1, _⟩ := h.gr
  exact ⟨Arena.rows_ne h1 h.ar.head (by decide), Arena.rows_ne h1 h.ar.body (by decide)⟩
theorem Fd.keep (h : Fd w P G f F) (k : Below w.heap.size w w') : Fd w' P G f F := ⟨Ar.keep h.ar k, h.gr.below k, h.wf, h.iv, Nat.lt_of_lt_of_le h.kl k.size⟩
theorem find_free {R : List Cx} {k : Nat} {x : Cx} (h : ∀ (m : Nat) y, m < k → R[m]? = some y → fr y = false) (hx : R[k]? = some x) (h0 : fr x = true) : R.findIdx fr = k := by
  obtain ⟨hk, e⟩ := List.getElem?_eq_some_iff.1 hx
  have h1 : R.findIdx fr ≤ k := by
    rcases Nat.lt_or_ge k (R.findIdx fr) with hlt | hge
    · have := List.not_of_lt_findIdx hlt
      rw [e, h0] at this
      cases this
    · exact hge
  rcases Nat.lt_or_ge (R.findIdx fr) k with hlt | hge
  · have hl : R.findIdx fr < R.length := by omega
    have := h _ _ hlt (List.getElem?_eq_getElem hl)
    rw [List.findIdx_getElem (w := hl)] at this
    cases this
  · omega
theorem find_none {R : List Cx} (h : ∀ (m : Nat) y, R[m]? = some y → fr y = false) : R.findIdx fr = R.length := by
  rcases Nat.lt_or_ge (R.findIdx fr) R.length with hlt | hge
  · have := h _ _ (List.getElem?_eq_getElem hlt)
    rw [List.findIdx_getElem (w := hlt)] at this
    cases this
  · have := List.findIdx_le_length (xs := R) (p := fr)
    omega
/-- What leastFree tells. -/
def LeastD (F : Fo) (e : Ending) : Prop :=
  (∃ x, F.R[F.R.findIdx fr]? = some x ∧ e = .returned (.tuple #[.int .i64 (F.R.findIdx fr : Nat), .agg #[.int .i64 x.s, .int .i64 x.c, .int .i64 x.p, .int .i64 x.e], .bool true])) ∨
  (F.R[F.R.findIdx fr]? = none ∧ e = .returned (.tuple #[.int .i64 0, .agg #[.int .i64 0, .int .i64 0, .int .i64 0, .int .i64 0], .bool false]))

set_option maxHeartbeats 2000000 in
theorem least_any (w : World) (R : Pr P) (h : Fd w P G f F) :
    Calls Tryz.prog 125 #[P.blk] w fun e w' => LeastD F e ∧ Below w.heap.size w w' := by
  have S0 := ((Held.St.start w).new (blkL P) 174).new [.int .i64 0, .int .i64 0, .int .i64 0, .int .i64 0] 64
  simp only [World.size_alloc] at S0
  obtain ⟨b1, b2, b3, _⟩ := R.b
  have hz := h.iv.zero
  have hlen := h.iv.len
  go_enter Tryz.func125, Tryz.ntmps125
  go_wp2_with fail
  go_loopw [9] (fun t wr => ∃ k : Nat, k ≤ 7 ∧ t = .int .i64 (k : Int) ∧ (∀ (m : Nat) y, m < k + 1 → F.R[m]? = some y → fr y = false) ∧ Held.St w wr [(w.heap.size + 1, [.int .i64 0, .int .i64 0, .int .i64 0, .int .i64 0]), (w.heap.size, blkL P)]) (fun t _ => 7 - (intOf t).toNat)
  case atStart =>
    refine ⟨0, by omega, rfl, fun m y hm hy => ?_, S0⟩
    obtain rfl : m = 0 := by omega
    rw [hz] at hy
    obtain rfl := Option.some.inj hy
    rfl
  case round =>
    clear S0
    obtain ⟨k, hk, rfl, hno, S1⟩ := hrel
    have hr := Ar.keep h.ar S1.below
    have A1 := S1.get 1 rfl
    have c0 := A1.cell 0 _ rfl
    have c1 := A1.cell 1 _ rfl
    have c2 := A1.cell 2 _ rfl
    have c3 := A1.cell 3 _ rfl
    have c4 := A1.cell 4 _ rfl
    clear A1
    by_cases hlt : k < 7
    · by_cases hin : k + 1 < P.n
      · obtain ⟨x, hx⟩ : ∃ x, F.R[k + 1]? = some x := ⟨_, List.getElem?_eq_getElem (by omega)⟩
        have HS := Lib.hid (h.see hx)
        go_wp2_with fail
        refine (ctl_ok _ R hr (k + 1) hin).mono ?_
        rintro e w1 ⟨rfl, k1⟩
        rw [HS.out]
        have S2 := (S1.call k1).new [.int .i64 x.s, .int .i64 x.c, .int .i64 x.p, .int .i64 x.e] 64
        have A2 := S2.get 0 rfl
        have d0 := A2.cell 0 _ rfl
        have d1 := A2.cell 1 _ rfl
        have d2 := A2.cell 2 _ rfl
        have d3 := A2.cell 3 _ rfl
        have A3 := S2.get 1 rfl
        have e0 := A3.cell 0 _ rfl
        have e1 := A3.cell 1 _ rfl
        have e2 := A3.cell 2 _ rfl
        have e3 := A3.cell 3 _ rfl
        have fz := A3.fz
        by_cases h0 : x.s = 0
        · have q0 : (x.s == 0) = true := by rw [h0]; rfl
          have HF := Lib.hid (find_free hno hx (decide_eq_true h0))
          have HX := Lib.hid hx
          clear hx hno h0
          go_wp2
          go_region
          go_wp2
          refine bodyPost_ret (v := .tuple #[.int .i64 ((k + 1 : Nat) : Int), .agg #[.int .i64 x.s, .int .i64 x.c, .int .i64 x.p, .int .i64 x.e], .bool true]) (by simp [results, Tryz.results125, go_sem, e0, e1, e2, e3]) rfl ?_
          exact ⟨.inl ⟨x, by rw [HF.out]; exact HX.out, by rw [HF.out]⟩, ((((S2.below.setCell A3.own _).setCell A3.own _).setCell A3.own _).setCell A3.own _).drew⟩
        · have q0 : (x.s == 0) = false := by simpa using h0
          have HN := Lib.hid (show ∀ (m : Nat) y, m < k + 1 + 1 → F.R[m]? = some y → fr y = false from fun m y hm hy => by
            rcases Nat.lt_or_ge m (k + 1) with hl | hl
            · exact hno m y hl hy
            · obtain rfl : m = k + 1 := by omega
              rw [hx] at hy
              obtain rfl := Option.some.inj hy
              exact decide_eq_false h0)
          have S3 := Lx.start w [] (fun x hx => absurd hx List.not_mem_nil)
          have T2 : Held.St w (w1.alloc (.cells #[.int .i64 x.s, .int .i64 x.c, .int .i64 x.p, .int .i64 x.e] 64)) [(w.heap.size + 1, [.int .i64 0, .int .i64 0, .int .i64 0, .int .i64 0]), (w.heap.size, blkL P)] := (S1.call k1).alloc _
          clear hx hno h0 hin
          go_wp2
          go_roundw
          case rel => exact ⟨k + 1, by omega, by go_num, HN.out, T2⟩
          case measure => simp [intOf]; omega
      · have HN := Lib.hid (show ∀ (m : Nat) y, m < k + 1 + 1 → F.R[m]? = some y → fr y = false from fun m y hm hy => by
          rcases Nat.lt_or_ge m (k + 1) with hl | hl
          · exact hno m y hl hy
          · obtain ⟨hl', _⟩ := List.getElem?_eq_some_iff.1 hy
            omega)
        clear hno
        go_wp2_with fail
        refine (ctl_no _ R hr _ (.inr (by omega))).mono ?_
        rintro e w1 ⟨rfl, k1⟩
        have T2 : Held.St w (w1.alloc (.cells #[.int .i64 0, .int .i64 0, .int .i64 0, .int .i64 0] 64)) [(w.heap.size + 1, [.int .i64 0, .int .i64 0, .int .i64 0, .int .i64 0]), (w.heap.size, blkL P)] := (S1.call k1).alloc _
        go_wp2
        go_roundw
        case rel => exact ⟨k + 1, by omega, by go_num, HN.out, T2⟩
        case measure => simp [intOf]; omega
    · obtain rfl : k = 7 := by omega
      have HF := Lib.hid (show F.R[F.R.findIdx fr]? = none by
        rw [find_none (fun m y hy => ?_), List.getElem?_eq_none (Nat.le_refl _)]
        obtain ⟨hl', _⟩ := List.getElem?_eq_some_iff.1 hy
        exact hno m y (by omega) hy)
      have A3 := S1.get 0 rfl
      have e0 := A3.cell 0 _ rfl
      have e1 := A3.cell 1 _ rfl
      have e2 := A3.cell 2 _ rfl
      have e3 := A3.cell 3 _ rfl
      have fz := A3.fz
      clear hno
      go_wp2
      refine bodyPost_ret (v := .tuple #[.int .i64 0, .agg #[.int .i64 0, .int .i64 0, .int .i64 0, .int .i64 0], .bool false]) (by simp [results, Tryz.results125, go_sem, e0, e1, e2, e3]) rfl ?_
      exact ⟨.inr ⟨HF.out, rfl⟩, (((S1.below.setCell A3.own _).setCell A3.own _).setCell A3.own _).setCell A3.own _⟩
end Go.Proofs.YteakglkagmghpaaGreat.Fou
