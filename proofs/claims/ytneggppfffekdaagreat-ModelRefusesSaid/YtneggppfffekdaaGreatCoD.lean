/-
  Contracts of package model: check, holder, fits, reached.
-/
import Derived.Test.YtneggppfffekdaaGreatCoC
namespace Go.Proofs.YtneggppfffekdaaGreat.Mod
open Go.ChangeShapes Go.WideShapes Go.ChangeAt Go.RowKit
open Slic Sco
set_option linter.unusedVariables false
set_option linter.unusedSimpArgs false
set_option maxRecDepth 8000
attribute [local go_sem ↓] Go.wp_at_zero Go.wp_at_succ
section
variable {w0 w w' : World} {Z : Fx} {m : Mo} {bx : Bx}
theorem blk_obs : ∀ (O : List Ob) (M : List (Nat × Tri)) (x : Int), M.length = O.length → (blk O M x).isSome = (O.find? (fun o => o.h == x)).isSome
  | [], M, x, _ => by cases M <;> rfl
  | o :: O, [], x, h => by simp at h
  | o :: O, p :: M, x, h => by
    unfold blk
    rw [List.find?_cons]
    by_cases e : o.h = x
    · rw [if_pos e, show (o.h == x) = true from beq_iff_eq.2 e]
      rfl
    · rw [if_neg e, show (o.h == x) = false from beq_eq_false_iff_ne.2 e]
      exact blk_obs O M x (by simpa using h)
theorem blk_at : ∀ (O : List Ob) (M : List (Nat × Tri)) (x : Int), M.length = O.length → ∀ o, O.find? (fun o => o.h == x) = some o → ∃ (i : Nat) (p : Nat × Tri), O[i]? = some o ∧ M[i]? = some p ∧ o.h = x ∧ blk O M x = some p.1
  | [], M, x, _, o, h => by simp at h
  | o :: O, [], x, h, _, _ => by simp at h
  | o :: O, p :: M, x, h, q, hq => by
    rw [List.find?_cons] at hq
    unfold blk
    by_cases e : o.h = x
    · rw [show (o.h == x) = true from beq_iff_eq.2 e] at hq
      injection hq with hq
      subst hq
      exact ⟨0, p, rfl, rfl, e, if_pos e⟩
    · rw [show (o.h == x) = false from beq_eq_false_iff_ne.2 e] at hq
      obtain ⟨i, p', a, b, c, d⟩ := blk_at O M x (by simpa using h) q hq
      exact ⟨i + 1, p', a, b, c, by rw [if_neg e]; exact d⟩
def ckO (m : Mo) (L : List Chain.E) (om : List (Nat × Tri)) (x : Int) : Option Nat := if m.chk L x = 0 then blk m.O om x else none
def hoO (m : Mo) (L : List Chain.E) (om : List (Nat × Tri)) (x b : Int) : Option Nat := if holdX m L x b = 0 then blk m.O om x else none
/-- The words of all handles say what they were made of. -/
def Rt (m : Mo) : Prop := ∀ o ∈ m.O, Refs.rightB o.s o.e o.a = true
theorem un_handle {s e a : Int} (h : Refs.rightB s e a = true) : Refs.unV (Refs.handle s e a) = ⟨s, e, a, 0⟩ := by
  obtain ⟨b1, b2, b3, b4, b5, b6, b7⟩ := Refs.rbounds h
  have e1 : Refs.handle s e a / 16777216 % 256 = s := by unfold Refs.handle; omega
  have e2 : Refs.handle s e a / 4294967296 = e := by unfold Refs.handle; omega
  have e3 : 8 * (Refs.handle s e a % 16777216) = a := by unfold Refs.handle; omega
  unfold Refs.unV Refs.unB
  rw [e1, e2, e3, if_pos h]
theorem Rt.un {m : Mo} (R : Rt m) {o : Ob} (ho : o ∈ m.O) : Refs.unV o.h = ⟨o.s, o.e, o.a, 0⟩ := un_handle (R o ho)
section
variable {H : Hp}
theorem Mh.mw (h : Mh w0 w Z H (m.gs H.om) bx) : Mw w0 w Z m bx := ⟨H, h⟩
theorem Mh.map (h : Mh w0 w Z H (m.gs H.om) bx) : Mp w Z.bm m.O.length (blk m.O H.om) := h.md.map
theorem Mh.oml (h : Mh w0 w Z H (m.gs H.om) bx) : H.om.length = m.O.length := h.md.oml
/-- An object, as a walk loads it. -/
theorem Mh.objAt (h : Mh w0 w Z H (m.gs H.om) bx) {x : Int} {o : Ob} (ho : m.obs x = some o) : ∃ (i : Nat) (p : Nat × Tri), m.O[i]? = some o ∧ H.om[i]? = some p ∧ o.h = x ∧ blk m.O H.om x = some p.1 ∧
    w.heap[p.1]? = some (.cells (obV o p.2).toArray 142 (0, 0)) ∧ Own Fina.kU w 0 (sl3 p.2) o.sl := by
  obtain ⟨i, p, a, b, c, d⟩ := blk_at m.O H.om x h.oml o ho
  exact ⟨i, p, a, b, c, d, h.md.obj i o p a b, h.md.slo i o p a b⟩
theorem obj_cells {w : World} {b : Nat} {o : Ob} {x : Tri} (h : w.heap[b]? = some (.cells (obV o x).toArray 142 (0, 0))) :
    w.cell? ⟨b, 0, none⟩ = some (.int .i64 o.s) ∧ w.cell? ⟨b, 3, none⟩ = some (sl3 x) ∧ w.cell? ⟨b, 4, none⟩ = some (.int .i64 o.tag) ∧ w.cell? ⟨b, 5, none⟩ = some (.bool o.d) ∧ ∀ k, w.frozen? ⟨b, k, none⟩ = false :=
  ⟨cell_of h 0 _ rfl, cell_of h 3 _ rfl, cell_of h 4 _ rfl, cell_of h 5 _ rfl, fz_of h⟩
end
set_option maxHeartbeats 2000000 in
theorem check_any {H : Hp} (h : Mh w0 w Z H (m.gs H.om) bx) (n8 : Z.n ≤ 8) {t : Nat} (ht : t < Z.nt) (c : Ca) (x : Int) (hx : wf64 x) : Calls Tryz.prog 160 #[doV Z t c, .int .u64 x] w fun e w' => e = .returned (.tuple #[ptrO (ckO m (m.ents t) H.om x), .int .i64 (m.chk (m.ents t) x)]) ∧ Below w.heap.size w w' := by
  have hm := h.new (doA Z t c) doT
  by_cases h1 : (Refs.unV x).err = 0
  · have h1' := Lib.hid h1
    by_cases h2 : (seeC m.F.R (Refs.unV x).s).x = 0
    · have h2' := Lib.hid h2
      by_cases hr : Chain.reachV (m.ents t) (Refs.unV x).s = true
      · by_cases he : (Refs.unV x).e = (seeC m.F.R (Refs.unV x).s).e
        · have z : ((Refs.unV x).e != (seeC m.F.R (Refs.unV x).s).e) = false := by simpa using he
          cases ho : m.obs x with
          | none =>
            have hk : blk m.O H.om x = none := by
              have := blk_obs m.O H.om x h.oml
              rw [show m.O.find? (fun o => o.h == x) = none from ho] at this
              cases hb : blk m.O H.om x with
              | none => rfl
              | some b => rw [hb] at this; cases this
            have HV := Lib.hid (show m.chk (m.ents t) x = 18 by unfold Mo.chk; rw [if_neg (by rw [h1]; simp), if_neg (by rw [h2]; simp), if_neg (by rw [hr]; simp), if_neg (by rw [he]; simp), if_pos (by rw [ho]; rfl)])
            have HO := Lib.hid (show ckO m (m.ents t) H.om x = none by unfold ckO; rw [HV.out]; exact if_neg (by decide))
            clear h1 h2 he
            go_enter Tryz.func160, Tryz.ntmps160
            go_wp2_with fail
            refine (Refs.unpack_any x _ hx.1 hx.2).mono ?_
            rintro e w2 ⟨rfl, k2⟩
            have b2 := (below_one w (.cells (doA Z t c) doT)).trans (k2.mono (by simp))
            have m2 := hm.call k2
            rw [h1'.out]
            have n2 := m2.new #[.int .i64 (Refs.unV x).s, .int .i64 (Refs.unV x).e, .int .i64 (Refs.unV x).a] 95
            obtain ⟨d0, d1, _, _, _, _, _, _, _⟩ := do_cells n2.mw 1 rfl
            obtain ⟨rc, _⟩ := n2.mw.cell 0 rfl
            have rc0 := rc 0 _ rfl
            have rc1 := rc 1 _ rfl
            go_wp2_with fail
            refine (ctlM_any n2.mw n8 (Refs.unV x).s).mono ?_
            rintro e w3 ⟨rfl, k3⟩
            delta tellR
            have m3 := n2.call k3
            have b3 := (b2.alloc b2.size _).trans (k3.mono (by have := b2.size; simp; omega))
            rw [h2'.out]
            have n3 := m3.new #[.int .i64 (seeC m.F.R (Refs.unV x).s).s, .int .i64 (seeC m.F.R (Refs.unV x).s).c, .int .i64 (seeC m.F.R (Refs.unV x).s).p, .int .i64 (seeC m.F.R (Refs.unV x).s).e] 64
            obtain ⟨x3, ⟨_, _, _, _, r3⟩, f3, O3, _⟩ := n3.mw.thr ht
            obtain ⟨_, p1, _, _, _, _, _, _, _⟩ := do_cells n3.mw 2 rfl
            obtain ⟨sc, _⟩ := n3.mw.cell 1 rfl
            have sc0 := sc 0 _ rfl
            have sc1 := sc 1 _ rfl
            obtain ⟨tc, _⟩ := n3.mw.cell 0 rfl
            have tc3 := tc 3 _ rfl
            clear rc sc tc
            go_wp2_with fail
            go_region_held3 (fun w' => w'.cell? ⟨w.heap.size, 1, none⟩ = some (.pointer (some ⟨Z.bt, t * 5, none⟩)) ∧ w'.cell? ⟨Z.bt, t * 5 + 4, none⟩ = some (sl3 x3) ∧ w'.cell? ⟨w2.heap.size, 0, none⟩ = some (.int .i64 (Refs.unV x).s) ∧ w'.cell? ⟨w2.heap.size, 1, none⟩ = some (.int .i64 (Refs.unV x).e) ∧ w'.cell? ⟨w3.heap.size, 3, none⟩ = some (.int .i64 (seeC m.F.R (Refs.unV x).s).e))
              (first | exact ⟨p1, r3, sc0, sc1, tc3⟩ | exact T4)
              ((go_at_call 126; refine (Chain.reach_any _ (sl3 x3) (m.ents t) _ O3.drew.sr).mono ?_; rintro e w4 ⟨rfl, k4⟩
                rw [hr]
                have m4 := n3.drew.call k4
                have T4 : w4.cell? ⟨w.heap.size, 1, none⟩ = some (.pointer (some ⟨Z.bt, t * 5, none⟩)) ∧ w4.cell? ⟨Z.bt, t * 5 + 4, none⟩ = some (sl3 x3) ∧ w4.cell? ⟨w2.heap.size, 0, none⟩ = some (.int .i64 (Refs.unV x).s) ∧ w4.cell? ⟨w2.heap.size, 1, none⟩ = some (.int .i64 (Refs.unV x).e) ∧ w4.cell? ⟨w3.heap.size, 3, none⟩ = some (.int .i64 (seeC m.F.R (Refs.unV x).s).e) := ⟨(do_cells m4.mw 2 rfl).2.1, (k4.cell (p := ⟨Z.bt, t * 5 + 4, none⟩) n3.mw.bt_lt).trans r3, (m4.mw.cell 1 rfl).1 0 _ rfl, (m4.mw.cell 1 rfl).1 1 _ rfl, (m4.mw.cell 0 rfl).1 3 _ rfl⟩))
            all_goals
              have b4 := ((b3.alloc b3.size _).drew).trans (k4.mono (by have := b3.size; simp; omega))
              obtain ⟨_, _, rc0, rc1, tc3⟩ := T4
              obtain ⟨d0, _, _, _, _, _, _, _, _⟩ := do_cells m4.mw 2 rfl
              obtain ⟨_, _, _, mc⟩ := m4.mw.cells
              have lk := m4.map.look hx
              rw [hk] at lk
              go_wp2
              go_ret2
              exact ⟨by rw [HO.out, HV.out]; rfl, b4⟩
          | some o =>
            obtain ⟨i, p, _, _, _, hk, _, _⟩ := h.objAt ho
            have HV := Lib.hid (show m.chk (m.ents t) x = 0 by unfold Mo.chk; rw [if_neg (by rw [h1]; simp), if_neg (by rw [h2]; simp), if_neg (by rw [hr]; simp), if_neg (by rw [he]; simp), if_neg (by rw [ho]; simp)])
            have HO := Lib.hid (show ckO m (m.ents t) H.om x = some p.1 by unfold ckO; rw [if_pos HV.out, hk])
            clear h1 h2 he
            go_enter Tryz.func160, Tryz.ntmps160
            go_wp2_with fail
            refine (Refs.unpack_any x _ hx.1 hx.2).mono ?_
            rintro e w2 ⟨rfl, k2⟩
            have b2 := (below_one w (.cells (doA Z t c) doT)).trans (k2.mono (by simp))
            have m2 := hm.call k2
            rw [h1'.out]
            have n2 := m2.new #[.int .i64 (Refs.unV x).s, .int .i64 (Refs.unV x).e, .int .i64 (Refs.unV x).a] 95
            obtain ⟨d0, d1, _, _, _, _, _, _, _⟩ := do_cells n2.mw 1 rfl
            obtain ⟨rc, _⟩ := n2.mw.cell 0 rfl
            have rc0 := rc 0 _ rfl
            have rc1 := rc 1 _ rfl
            go_wp2_with fail
            refine (ctlM_any n2.mw n8 (Refs.unV x).s).mono ?_
            rintro e w3 ⟨rfl, k3⟩
            delta tellR
            have m3 := n2.call k3
            have b3 := (b2.alloc b2.size _).trans (k3.mono (by have := b2.size; simp; omega))
            rw [h2'.out]
            have n3 := m3.new #[.int .i64 (seeC m.F.R (Refs.unV x).s).s, .int .i64 (seeC m.F.R (Refs.unV x).s).c, .int .i64 (seeC m.F.R (Refs.unV x).s).p, .int .i64 (seeC m.F.R (Refs.unV x).s).e] 64
            obtain ⟨x3, ⟨_, _, _, _, r3⟩, f3, O3, _⟩ := n3.mw.thr ht
            obtain ⟨_, p1, _, _, _, _, _, _, _⟩ := do_cells n3.mw 2 rfl
            obtain ⟨sc, _⟩ := n3.mw.cell 1 rfl
            have sc0 := sc 0 _ rfl
            have sc1 := sc 1 _ rfl
            obtain ⟨tc, _⟩ := n3.mw.cell 0 rfl
            have tc3 := tc 3 _ rfl
            clear rc sc tc
            go_wp2_with fail
            go_region_held3 (fun w' => w'.cell? ⟨w.heap.size, 1, none⟩ = some (.pointer (some ⟨Z.bt, t * 5, none⟩)) ∧ w'.cell? ⟨Z.bt, t * 5 + 4, none⟩ = some (sl3 x3) ∧ w'.cell? ⟨w2.heap.size, 0, none⟩ = some (.int .i64 (Refs.unV x).s) ∧ w'.cell? ⟨w2.heap.size, 1, none⟩ = some (.int .i64 (Refs.unV x).e) ∧ w'.cell? ⟨w3.heap.size, 3, none⟩ = some (.int .i64 (seeC m.F.R (Refs.unV x).s).e))
              (first | exact ⟨p1, r3, sc0, sc1, tc3⟩ | exact T4)
              ((go_at_call 126; refine (Chain.reach_any _ (sl3 x3) (m.ents t) _ O3.drew.sr).mono ?_; rintro e w4 ⟨rfl, k4⟩
                rw [hr]
                have m4 := n3.drew.call k4
                have T4 : w4.cell? ⟨w.heap.size, 1, none⟩ = some (.pointer (some ⟨Z.bt, t * 5, none⟩)) ∧ w4.cell? ⟨Z.bt, t * 5 + 4, none⟩ = some (sl3 x3) ∧ w4.cell? ⟨w2.heap.size, 0, none⟩ = some (.int .i64 (Refs.unV x).s) ∧ w4.cell? ⟨w2.heap.size, 1, none⟩ = some (.int .i64 (Refs.unV x).e) ∧ w4.cell? ⟨w3.heap.size, 3, none⟩ = some (.int .i64 (seeC m.F.R (Refs.unV x).s).e) := ⟨(do_cells m4.mw 2 rfl).2.1, (k4.cell (p := ⟨Z.bt, t * 5 + 4, none⟩) n3.mw.bt_lt).trans r3, (m4.mw.cell 1 rfl).1 0 _ rfl, (m4.mw.cell 1 rfl).1 1 _ rfl, (m4.mw.cell 0 rfl).1 3 _ rfl⟩))
            all_goals
              have b4 := ((b3.alloc b3.size _).drew).trans (k4.mono (by have := b3.size; simp; omega))
              obtain ⟨_, _, rc0, rc1, tc3⟩ := T4
              obtain ⟨d0, _, _, _, _, _, _, _, _⟩ := do_cells m4.mw 2 rfl
              obtain ⟨_, _, _, mc⟩ := m4.mw.cells
              have lk := m4.map.look hx
              rw [hk] at lk
              go_wp2
              go_ret2
              exact ⟨by rw [HO.out, HV.out]; rfl, b4⟩
        · have z : ((Refs.unV x).e != (seeC m.F.R (Refs.unV x).s).e) = true := bne_iff_ne.2 he
          have HV := Lib.hid (show m.chk (m.ents t) x = 19 by unfold Mo.chk; rw [if_neg (by rw [h1]; simp), if_neg (by rw [h2]; simp), if_neg (by rw [hr]; simp), if_pos he])
          have HO := Lib.hid (show ckO m (m.ents t) H.om x = none by unfold ckO; rw [HV.out]; exact if_neg (by decide))
          clear h1 h2 he
          go_enter Tryz.func160, Tryz.ntmps160
          go_wp2_with fail
          refine (Refs.unpack_any x _ hx.1 hx.2).mono ?_
          rintro e w2 ⟨rfl, k2⟩
          have b2 := (below_one w (.cells (doA Z t c) doT)).trans (k2.mono (by simp))
          have m2 := hm.call k2
          rw [h1'.out]
          have n2 := m2.new #[.int .i64 (Refs.unV x).s, .int .i64 (Refs.unV x).e, .int .i64 (Refs.unV x).a] 95
          obtain ⟨d0, d1, _, _, _, _, _, _, _⟩ := do_cells n2.mw 1 rfl
          obtain ⟨rc, _⟩ := n2.mw.cell 0 rfl
          have rc0 := rc 0 _ rfl
          have rc1 := rc 1 _ rfl
          go_wp2_with fail
          refine (ctlM_any n2.mw n8 (Refs.unV x).s).mono ?_
          rintro e w3 ⟨rfl, k3⟩
          delta tellR
          have m3 := n2.call k3
          have b3 := (b2.alloc b2.size _).trans (k3.mono (by have := b2.size; simp; omega))
          rw [h2'.out]
          have n3 := m3.new #[.int .i64 (seeC m.F.R (Refs.unV x).s).s, .int .i64 (seeC m.F.R (Refs.unV x).s).c, .int .i64 (seeC m.F.R (Refs.unV x).s).p, .int .i64 (seeC m.F.R (Refs.unV x).s).e] 64
          obtain ⟨x3, ⟨_, _, _, _, r3⟩, f3, O3, _⟩ := n3.mw.thr ht
          obtain ⟨_, p1, _, _, _, _, _, _, _⟩ := do_cells n3.mw 2 rfl
          obtain ⟨sc, _⟩ := n3.mw.cell 1 rfl
          have sc0 := sc 0 _ rfl
          have sc1 := sc 1 _ rfl
          obtain ⟨tc, _⟩ := n3.mw.cell 0 rfl
          have tc3 := tc 3 _ rfl
          clear rc sc tc
          go_wp2_with fail
          go_region_held3 (fun w' => w'.cell? ⟨w.heap.size, 1, none⟩ = some (.pointer (some ⟨Z.bt, t * 5, none⟩)) ∧ w'.cell? ⟨Z.bt, t * 5 + 4, none⟩ = some (sl3 x3) ∧ w'.cell? ⟨w2.heap.size, 0, none⟩ = some (.int .i64 (Refs.unV x).s) ∧ w'.cell? ⟨w2.heap.size, 1, none⟩ = some (.int .i64 (Refs.unV x).e) ∧ w'.cell? ⟨w3.heap.size, 3, none⟩ = some (.int .i64 (seeC m.F.R (Refs.unV x).s).e))
            (first | exact ⟨p1, r3, sc0, sc1, tc3⟩ | exact T4)
            ((go_at_call 126; refine (Chain.reach_any _ (sl3 x3) (m.ents t) _ O3.drew.sr).mono ?_; rintro e w4 ⟨rfl, k4⟩
              rw [hr]
              have m4 := n3.drew.call k4
              have T4 : w4.cell? ⟨w.heap.size, 1, none⟩ = some (.pointer (some ⟨Z.bt, t * 5, none⟩)) ∧ w4.cell? ⟨Z.bt, t * 5 + 4, none⟩ = some (sl3 x3) ∧ w4.cell? ⟨w2.heap.size, 0, none⟩ = some (.int .i64 (Refs.unV x).s) ∧ w4.cell? ⟨w2.heap.size, 1, none⟩ = some (.int .i64 (Refs.unV x).e) ∧ w4.cell? ⟨w3.heap.size, 3, none⟩ = some (.int .i64 (seeC m.F.R (Refs.unV x).s).e) := ⟨(do_cells m4.mw 2 rfl).2.1, (k4.cell (p := ⟨Z.bt, t * 5 + 4, none⟩) n3.mw.bt_lt).trans r3, (m4.mw.cell 1 rfl).1 0 _ rfl, (m4.mw.cell 1 rfl).1 1 _ rfl, (m4.mw.cell 0 rfl).1 3 _ rfl⟩))
          all_goals
            have b4 := ((b3.alloc b3.size _).drew).trans (k4.mono (by have := b3.size; simp; omega))
            obtain ⟨_, _, rc0, rc1, tc3⟩ := T4
            go_wp2
            go_ret2
            exact ⟨by rw [HO.out, HV.out]; rfl, b4⟩
      · have hr : Chain.reachV (m.ents t) (Refs.unV x).s = false := by simpa using hr
        have HV := Lib.hid (show m.chk (m.ents t) x = 20 by unfold Mo.chk; rw [if_neg (by rw [h1]; simp), if_neg (by rw [h2]; simp), if_pos hr])
        have HO := Lib.hid (show ckO m (m.ents t) H.om x = none by unfold ckO; rw [HV.out]; exact if_neg (by decide))
        clear h1 h2
        go_enter Tryz.func160, Tryz.ntmps160
        go_wp2_with fail
        refine (Refs.unpack_any x _ hx.1 hx.2).mono ?_
        rintro e w2 ⟨rfl, k2⟩
        have b2 := (below_one w (.cells (doA Z t c) doT)).trans (k2.mono (by simp))
        have m2 := hm.call k2
        rw [h1'.out]
        have n2 := m2.new #[.int .i64 (Refs.unV x).s, .int .i64 (Refs.unV x).e, .int .i64 (Refs.unV x).a] 95
        obtain ⟨d0, d1, _, _, _, _, _, _, _⟩ := do_cells n2.mw 1 rfl
        obtain ⟨rc, _⟩ := n2.mw.cell 0 rfl
        have rc0 := rc 0 _ rfl
        have rc1 := rc 1 _ rfl
        go_wp2_with fail
        refine (ctlM_any n2.mw n8 (Refs.unV x).s).mono ?_
        rintro e w3 ⟨rfl, k3⟩
        delta tellR
        have m3 := n2.call k3
        have b3 := (b2.alloc b2.size _).trans (k3.mono (by have := b2.size; simp; omega))
        rw [h2'.out]
        have n3 := m3.new #[.int .i64 (seeC m.F.R (Refs.unV x).s).s, .int .i64 (seeC m.F.R (Refs.unV x).s).c, .int .i64 (seeC m.F.R (Refs.unV x).s).p, .int .i64 (seeC m.F.R (Refs.unV x).s).e] 64
        obtain ⟨x3, ⟨_, _, _, _, r3⟩, f3, O3, _⟩ := n3.mw.thr ht
        obtain ⟨_, p1, _, _, _, _, _, _, _⟩ := do_cells n3.mw 2 rfl
        obtain ⟨sc, _⟩ := n3.mw.cell 1 rfl
        have sc0 := sc 0 _ rfl
        have sc1 := sc 1 _ rfl
        obtain ⟨tc, _⟩ := n3.mw.cell 0 rfl
        have tc3 := tc 3 _ rfl
        clear rc sc tc
        go_wp2_with fail
        go_region_held3 (fun w' => w'.cell? ⟨w.heap.size, 1, none⟩ = some (.pointer (some ⟨Z.bt, t * 5, none⟩)) ∧ w'.cell? ⟨Z.bt, t * 5 + 4, none⟩ = some (sl3 x3) ∧ w'.cell? ⟨w2.heap.size, 0, none⟩ = some (.int .i64 (Refs.unV x).s) ∧ w'.cell? ⟨w2.heap.size, 1, none⟩ = some (.int .i64 (Refs.unV x).e) ∧ w'.cell? ⟨w3.heap.size, 3, none⟩ = some (.int .i64 (seeC m.F.R (Refs.unV x).s).e))
          (first | exact ⟨p1, r3, sc0, sc1, tc3⟩ | exact T4)
          ((go_at_call 126; refine (Chain.reach_any _ (sl3 x3) (m.ents t) _ O3.drew.sr).mono ?_; rintro e w4 ⟨rfl, k4⟩
            rw [hr]
            have m4 := n3.drew.call k4
            have T4 : w4.cell? ⟨w.heap.size, 1, none⟩ = some (.pointer (some ⟨Z.bt, t * 5, none⟩)) ∧ w4.cell? ⟨Z.bt, t * 5 + 4, none⟩ = some (sl3 x3) ∧ w4.cell? ⟨w2.heap.size, 0, none⟩ = some (.int .i64 (Refs.unV x).s) ∧ w4.cell? ⟨w2.heap.size, 1, none⟩ = some (.int .i64 (Refs.unV x).e) ∧ w4.cell? ⟨w3.heap.size, 3, none⟩ = some (.int .i64 (seeC m.F.R (Refs.unV x).s).e) := ⟨(do_cells m4.mw 2 rfl).2.1, (k4.cell (p := ⟨Z.bt, t * 5 + 4, none⟩) n3.mw.bt_lt).trans r3, (m4.mw.cell 1 rfl).1 0 _ rfl, (m4.mw.cell 1 rfl).1 1 _ rfl, (m4.mw.cell 0 rfl).1 3 _ rfl⟩))
        all_goals
          have b4 := ((b3.alloc b3.size _).drew).trans (k4.mono (by have := b3.size; simp; omega))
          obtain ⟨_, _, rc0, rc1, tc3⟩ := T4
          go_wp2
          go_ret2
          exact ⟨by rw [HO.out, HV.out]; rfl, b4⟩
    · have z2 : ((seeC m.F.R (Refs.unV x).s).x != 0) = true := bne_iff_ne.2 h2
      have HV := Lib.hid (show m.chk (m.ents t) x = 18 by unfold Mo.chk; rw [if_neg (by rw [h1]; simp), if_pos h2])
      have HO := Lib.hid (show ckO m (m.ents t) H.om x = none by unfold ckO; rw [HV.out]; exact if_neg (by decide))
      clear h1 h2
      go_enter Tryz.func160, Tryz.ntmps160
      go_wp2_with fail
      refine (Refs.unpack_any x _ hx.1 hx.2).mono ?_
      rintro e w2 ⟨rfl, k2⟩
      have b2 := (below_one w (.cells (doA Z t c) doT)).trans (k2.mono (by simp))
      have m2 := hm.call k2
      rw [h1'.out]
      have n2 := m2.new #[.int .i64 (Refs.unV x).s, .int .i64 (Refs.unV x).e, .int .i64 (Refs.unV x).a] 95
      obtain ⟨d0, d1, _, _, _, _, _, _, _⟩ := do_cells n2.mw 1 rfl
      obtain ⟨rc, _⟩ := n2.mw.cell 0 rfl
      have rc0 := rc 0 _ rfl
      have rc1 := rc 1 _ rfl
      go_wp2_with fail
      refine (ctlM_any n2.mw n8 (Refs.unV x).s).mono ?_
      rintro e w3 ⟨rfl, k3⟩
      delta tellR
      have m3 := n2.call k3
      have b3 := (b2.alloc b2.size _).trans (k3.mono (by have := b2.size; simp; omega))
      go_wp2
      go_ret2
      exact ⟨by rw [HO.out, HV.out]; rfl, (b3.alloc b3.size _)⟩
  · have z1 : ((Refs.unV x).err != 0) = true := bne_iff_ne.2 h1
    have HV := Lib.hid (show m.chk (m.ents t) x = (Refs.unV x).err by unfold Mo.chk; rw [if_pos h1])
    have HO := Lib.hid (show ckO m (m.ents t) H.om x = none by unfold ckO; rw [HV.out]; exact if_neg (by exact h1))
    clear h1
    go_enter Tryz.func160, Tryz.ntmps160
    go_wp2_with fail
    refine (Refs.unpack_any x _ hx.1 hx.2).mono ?_
    rintro e w2 ⟨rfl, k2⟩
    have b2 := (below_one w (.cells (doA Z t c) doT)).trans (k2.mono (by simp))
    have m2 := hm.call k2
    go_wp2
    go_ret2
    exact ⟨by rw [HO.out, HV.out]; rfl, (b2.alloc b2.size _)⟩
theorem chk_obs {L : List Chain.E} {x : Int} (h : m.chk L x = 0) : ∃ o, m.obs x = some o := by
  cases ho : m.obs x with
  | some o => exact ⟨o, rfl⟩
  | none =>
    exfalso
    unfold Mo.chk at h
    split at h
    · rename_i c
      exact c h
    · split at h
      · exact absurd h (by decide)
      · split at h
        · exact absurd h (by decide)
        · split at h
          · exact absurd h (by decide)
          · rw [if_pos (by rw [ho]; rfl)] at h
            exact absurd h (by decide)
set_option maxHeartbeats 2000000 in
theorem reached_any {H : Hp} (h : Mh w0 w Z H (m.gs H.om) bx) (n8 : Z.n ≤ 8) {t : Nat} (ht : t < Z.nt) (c : Ca) : Calls Tryz.prog 133 #[doV Z t c] w fun e w' => e = .returned (.int .i64 (reachX m (m.ents t) c.a)) ∧ Below w.heap.size w w' := by
  have hm := h.new (doA Z t c) doT
  by_cases hs : scopeB m c.a = true
  · by_cases hr : Chain.reachV (m.ents t) c.a = true
    · have HV := Lib.hid (show reachX m (m.ents t) c.a = 0 by unfold reachX; rw [if_neg (by rw [hs]; simp), if_neg (by rw [hr]; simp)])
      go_enter Tryz.func133, Tryz.ntmps133
      go_wp2_with fail
      refine (isS_any hm.mw n8 t c).mono ?_
      rintro e w2 ⟨rfl, k2⟩
      rw [hs]
      have m2 := hm.call k2
      have b2 := (below_one w (.cells (doA Z t c) doT)).trans (k2.mono (by simp))
      obtain ⟨_, p1, _, _, _, _, p6, _, _⟩ := do_cells m2.mw 0 rfl
      obtain ⟨x3, ⟨_, _, _, _, r3⟩, f3, O3, _⟩ := m2.mw.thr ht
      go_wp2_with fail
      go_region_held3 (fun w' => w'.cell? ⟨w.heap.size, 1, none⟩ = some (.pointer (some ⟨Z.bt, t * 5, none⟩)) ∧ w'.cell? ⟨w.heap.size, 6, none⟩ = some (.int .i64 c.a) ∧ w'.cell? ⟨Z.bt, t * 5 + 4, none⟩ = some (sl3 x3))
        (first | exact ⟨p1, p6, r3⟩ | exact T3)
        ((go_at_call 126; refine (Chain.reach_any _ (sl3 x3) (m.ents t) c.a O3.drew.sr).mono ?_; rintro e w3 ⟨rfl, k3⟩
          rw [hr]
          have m3 := m2.drew.call k3
          have T3 : w3.cell? ⟨w.heap.size, 1, none⟩ = some (.pointer (some ⟨Z.bt, t * 5, none⟩)) ∧ w3.cell? ⟨w.heap.size, 6, none⟩ = some (.int .i64 c.a) ∧ w3.cell? ⟨Z.bt, t * 5 + 4, none⟩ = some (sl3 x3) := ⟨(do_cells m3.mw 0 rfl).2.1, (do_cells m3.mw 0 rfl).2.2.2.2.2.2.1, (k3.cell (p := ⟨Z.bt, t * 5 + 4, none⟩) m2.mw.bt_lt).trans r3⟩))
      all_goals
        go_wp2
        go_ret
        exact ⟨by rw [HV.out]; rfl, (b2.drew).trans (k3.mono b2.size)⟩
    · have hr : Chain.reachV (m.ents t) c.a = false := by simpa using hr
      have HV := Lib.hid (show reachX m (m.ents t) c.a = 20 by unfold reachX; rw [if_neg (by rw [hs]; simp), if_pos hr])
      go_enter Tryz.func133, Tryz.ntmps133
      go_wp2_with fail
      refine (isS_any hm.mw n8 t c).mono ?_
      rintro e w2 ⟨rfl, k2⟩
      rw [hs]
      have m2 := hm.call k2
      have b2 := (below_one w (.cells (doA Z t c) doT)).trans (k2.mono (by simp))
      obtain ⟨_, p1, _, _, _, _, p6, _, _⟩ := do_cells m2.mw 0 rfl
      obtain ⟨x3, ⟨_, _, _, _, r3⟩, f3, O3, _⟩ := m2.mw.thr ht
      go_wp2_with fail
      go_region_held3 (fun w' => w'.cell? ⟨w.heap.size, 1, none⟩ = some (.pointer (some ⟨Z.bt, t * 5, none⟩)) ∧ w'.cell? ⟨w.heap.size, 6, none⟩ = some (.int .i64 c.a) ∧ w'.cell? ⟨Z.bt, t * 5 + 4, none⟩ = some (sl3 x3))
        (first | exact ⟨p1, p6, r3⟩ | exact T3)
        ((go_at_call 126; refine (Chain.reach_any _ (sl3 x3) (m.ents t) c.a O3.drew.sr).mono ?_; rintro e w3 ⟨rfl, k3⟩
          rw [hr]
          have m3 := m2.drew.call k3
          have T3 : w3.cell? ⟨w.heap.size, 1, none⟩ = some (.pointer (some ⟨Z.bt, t * 5, none⟩)) ∧ w3.cell? ⟨w.heap.size, 6, none⟩ = some (.int .i64 c.a) ∧ w3.cell? ⟨Z.bt, t * 5 + 4, none⟩ = some (sl3 x3) := ⟨(do_cells m3.mw 0 rfl).2.1, (do_cells m3.mw 0 rfl).2.2.2.2.2.2.1, (k3.cell (p := ⟨Z.bt, t * 5 + 4, none⟩) m2.mw.bt_lt).trans r3⟩))
      all_goals
        go_wp2
        go_ret
        exact ⟨by rw [HV.out]; rfl, (b2.drew).trans (k3.mono b2.size)⟩
  · have hs : scopeB m c.a = false := by simpa using hs
    have HV := Lib.hid (show reachX m (m.ents t) c.a = 11 by unfold reachX; rw [if_pos hs])
    go_enter Tryz.func133, Tryz.ntmps133
    go_wp2_with fail
    refine (isS_any hm.mw n8 t c).mono ?_
    rintro e w2 ⟨rfl, k2⟩
    rw [hs]
    have m2 := hm.call k2
    have b2 := (below_one w (.cells (doA Z t c) doT)).trans (k2.mono (by simp))
    go_wp2
    go_ret
    exact ⟨by rw [HV.out]; rfl, b2⟩
set_option maxHeartbeats 2000000 in
theorem holder_any {H : Hp} (h : Mh w0 w Z H (m.gs H.om) bx) (n8 : Z.n ≤ 8) {t : Nat} (ht : t < Z.nt) (c : Ca) (r0 : 0 ≤ c.h) (r4 : c.h < 4) (hw : wf64 (m.reg t c.h)) (hsl : ∀ o ∈ m.O, o.sl.length ≤ 1000000) : Calls Tryz.prog 131 #[doV Z t c] w fun e w' => e = .returned (.tuple #[ptrO (hoO m (m.ents t) H.om (m.reg t c.h) c.b), .int .i64 (holdX m (m.ents t) (m.reg t c.h) c.b)]) ∧ Below w.heap.size w w' := by
  have hm := h.new (doA Z t c) doT
  obtain ⟨d0, d1, d2, d3, d4, d5, d6, d7, d8⟩ := do_cells hm.mw 0 rfl
  obtain ⟨q1, _⟩ := hm.mw.regAt ht r0 r4
  by_cases hc : m.chk (m.ents t) (m.reg t c.h) = 0
  · obtain ⟨o, ho⟩ := chk_obs hc
    obtain ⟨i, p, e1, e2, e3, e4, e5, e6⟩ := h.objAt ho
    have CV := Lib.hid hc
    have CO := Lib.hid (show ckO m (m.ents t) H.om (m.reg t c.h) = some p.1 by unfold ckO; rw [if_pos hc, e4])
    have hlt : p.1 < w.heap.size := (Array.getElem?_eq_some_iff.1 e5).1
    obtain ⟨_, o3, _, _, _⟩ := obj_cells e5
    obtain ⟨A, n, hA⟩ : ∃ A n, sl3 p.2 = .slice A o.sl.length n := by
      obtain ⟨A, n, e, _⟩ := e6.sr
      exact ⟨A, n, e⟩
    rw [hA] at o3
    have hl : o.sl.length ≤ 1000000 := hsl o (List.mem_of_getElem? e1)
    have wr : IntKind.i64.wrap ((o.sl.length : Int) - 1) = (o.sl.length : Int) - 1 := IntWalk.i64_in _ (by omega)
    cases hb : Ctl.withinB c.b 0 ((o.sl.length : Int) - 1) with
    | true =>
      have hb' : decide (0 ≤ c.b ∧ c.b < (o.sl.length : Int)) = true := by
        have := of_decide_eq_true hb
        exact decide_eq_true (by omega)
      have HV := Lib.hid (show holdX m (m.ents t) (m.reg t c.h) c.b = 0 by unfold holdX; rw [if_neg (by rw [hc]; simp), ho]; exact if_pos hb')
      have HO := Lib.hid (show hoO m (m.ents t) H.om (m.reg t c.h) c.b = some p.1 by unfold hoO; rw [if_pos HV.out, e4])
      clear hc
      go_enter Tryz.func131, Tryz.ntmps131
      go_wp2_with fail
      go_region_held3 (fun w' => w'.cell? ⟨w.heap.size, 0, none⟩ = some (.pointer (some ⟨Z.B, 0, none⟩)) ∧ w'.cell? ⟨w.heap.size, 1, none⟩ = some (.pointer (some ⟨Z.bt, t * 5, none⟩)) ∧ w'.cell? ⟨w.heap.size, 2, none⟩ = some (.int .u8 c.op) ∧ w'.cell? ⟨w.heap.size, 3, none⟩ = some (.int .u8 c.r) ∧ w'.cell? ⟨w.heap.size, 4, none⟩ = some (.int .u8 c.h) ∧ w'.cell? ⟨w.heap.size, 5, none⟩ = some (.int .u8 c.v) ∧ w'.cell? ⟨w.heap.size, 6, none⟩ = some (.int .i64 c.a) ∧ w'.cell? ⟨w.heap.size, 7, none⟩ = some (.int .i64 c.b) ∧ w'.cell? ⟨w.heap.size, 8, none⟩ = some (.int .i64 c.c) ∧ w'.cell? ⟨Z.bt, t * 5 + c.h.toNat, none⟩ = some (.int .u64 (m.reg t c.h)))
        (first | exact ⟨d0, d1, d2, d3, d4, d5, d6, d7, d8, q1⟩ | exact T2)
        ((go_at_call 160; refine (check_any hm.drew n8 ht c _ hw).mono ?_; rintro e w2 ⟨rfl, k2⟩
          have m2 := hm.drew.call k2
          have T2 : w2.cell? ⟨w.heap.size, 0, none⟩ = some (.pointer (some ⟨Z.B, 0, none⟩)) ∧ w2.cell? ⟨w.heap.size, 1, none⟩ = some (.pointer (some ⟨Z.bt, t * 5, none⟩)) ∧ w2.cell? ⟨w.heap.size, 2, none⟩ = some (.int .u8 c.op) ∧ w2.cell? ⟨w.heap.size, 3, none⟩ = some (.int .u8 c.r) ∧ w2.cell? ⟨w.heap.size, 4, none⟩ = some (.int .u8 c.h) ∧ w2.cell? ⟨w.heap.size, 5, none⟩ = some (.int .u8 c.v) ∧ w2.cell? ⟨w.heap.size, 6, none⟩ = some (.int .i64 c.a) ∧ w2.cell? ⟨w.heap.size, 7, none⟩ = some (.int .i64 c.b) ∧ w2.cell? ⟨w.heap.size, 8, none⟩ = some (.int .i64 c.c) ∧ w2.cell? ⟨Z.bt, t * 5 + c.h.toNat, none⟩ = some (.int .u64 (m.reg t c.h)) := ⟨(do_cells m2.mw 0 rfl).1, (do_cells m2.mw 0 rfl).2.1, (do_cells m2.mw 0 rfl).2.2.1, (do_cells m2.mw 0 rfl).2.2.2.1, (do_cells m2.mw 0 rfl).2.2.2.2.1, (do_cells m2.mw 0 rfl).2.2.2.2.2.1, (do_cells m2.mw 0 rfl).2.2.2.2.2.2.1, (do_cells m2.mw 0 rfl).2.2.2.2.2.2.2.1, (do_cells m2.mw 0 rfl).2.2.2.2.2.2.2.2, (m2.mw.regAt ht r0 r4).1⟩))
      all_goals
        have b2 := ((below_one w (.cells (doA Z t c) doT)).drew).trans (k2.mono (by simp))
        rw [CO.out, CV.out, show ptrO (some p.1) = .pointer (some ⟨p.1, 0, none⟩) from rfl]
        have p7 := T2.2.2.2.2.2.2.2.1
        have v3 : w2.cell? ⟨p.1, 3, none⟩ = some (.slice A o.sl.length n) := (k2.cell (p := ⟨p.1, 3, none⟩) (by simp; omega)).trans (((below_one w (.cells (doA Z t c) doT)).cell (p := ⟨p.1, 3, none⟩) hlt).trans o3)
        go_wp2_with fail
        go_region_held3 (fun w' => w'.cell? ⟨w.heap.size, 7, none⟩ = some (.int .i64 c.b) ∧ w'.cell? ⟨p.1, 3, none⟩ = some (.slice A o.sl.length n))
          (first | exact ⟨p7, v3⟩)
          ((go_at_call 61; refine (Ctl.within_any _ _ _ _).mono ?_; rintro e w3 ⟨rfl, rfl⟩; rw [hb]))
        all_goals
          go_wp2
          go_ret2
          exact ⟨by rw [HO.out, HV.out]; rfl, b2.drew⟩
    | false =>
      have hb' : decide (0 ≤ c.b ∧ c.b < (o.sl.length : Int)) = false := by
        have := of_decide_eq_false hb
        exact decide_eq_false (by omega)
      have HV := Lib.hid (show holdX m (m.ents t) (m.reg t c.h) c.b = 21 by unfold holdX; rw [if_neg (by rw [hc]; simp), ho]; exact if_neg (by rw [hb']; simp))
      have HO := Lib.hid (show hoO m (m.ents t) H.om (m.reg t c.h) c.b = none by unfold hoO; rw [HV.out]; exact if_neg (by decide))
      clear hc
      go_enter Tryz.func131, Tryz.ntmps131
      go_wp2_with fail
      go_region_held3 (fun w' => w'.cell? ⟨w.heap.size, 0, none⟩ = some (.pointer (some ⟨Z.B, 0, none⟩)) ∧ w'.cell? ⟨w.heap.size, 1, none⟩ = some (.pointer (some ⟨Z.bt, t * 5, none⟩)) ∧ w'.cell? ⟨w.heap.size, 2, none⟩ = some (.int .u8 c.op) ∧ w'.cell? ⟨w.heap.size, 3, none⟩ = some (.int .u8 c.r) ∧ w'.cell? ⟨w.heap.size, 4, none⟩ = some (.int .u8 c.h) ∧ w'.cell? ⟨w.heap.size, 5, none⟩ = some (.int .u8 c.v) ∧ w'.cell? ⟨w.heap.size, 6, none⟩ = some (.int .i64 c.a) ∧ w'.cell? ⟨w.heap.size, 7, none⟩ = some (.int .i64 c.b) ∧ w'.cell? ⟨w.heap.size, 8, none⟩ = some (.int .i64 c.c) ∧ w'.cell? ⟨Z.bt, t * 5 + c.h.toNat, none⟩ = some (.int .u64 (m.reg t c.h)))
        (first | exact ⟨d0, d1, d2, d3, d4, d5, d6, d7, d8, q1⟩ | exact T2)
        ((go_at_call 160; refine (check_any hm.drew n8 ht c _ hw).mono ?_; rintro e w2 ⟨rfl, k2⟩
          have m2 := hm.drew.call k2
          have T2 : w2.cell? ⟨w.heap.size, 0, none⟩ = some (.pointer (some ⟨Z.B, 0, none⟩)) ∧ w2.cell? ⟨w.heap.size, 1, none⟩ = some (.pointer (some ⟨Z.bt, t * 5, none⟩)) ∧ w2.cell? ⟨w.heap.size, 2, none⟩ = some (.int .u8 c.op) ∧ w2.cell? ⟨w.heap.size, 3, none⟩ = some (.int .u8 c.r) ∧ w2.cell? ⟨w.heap.size, 4, none⟩ = some (.int .u8 c.h) ∧ w2.cell? ⟨w.heap.size, 5, none⟩ = some (.int .u8 c.v) ∧ w2.cell? ⟨w.heap.size, 6, none⟩ = some (.int .i64 c.a) ∧ w2.cell? ⟨w.heap.size, 7, none⟩ = some (.int .i64 c.b) ∧ w2.cell? ⟨w.heap.size, 8, none⟩ = some (.int .i64 c.c) ∧ w2.cell? ⟨Z.bt, t * 5 + c.h.toNat, none⟩ = some (.int .u64 (m.reg t c.h)) := ⟨(do_cells m2.mw 0 rfl).1, (do_cells m2.mw 0 rfl).2.1, (do_cells m2.mw 0 rfl).2.2.1, (do_cells m2.mw 0 rfl).2.2.2.1, (do_cells m2.mw 0 rfl).2.2.2.2.1, (do_cells m2.mw 0 rfl).2.2.2.2.2.1, (do_cells m2.mw 0 rfl).2.2.2.2.2.2.1, (do_cells m2.mw 0 rfl).2.2.2.2.2.2.2.1, (do_cells m2.mw 0 rfl).2.2.2.2.2.2.2.2, (m2.mw.regAt ht r0 r4).1⟩))
      all_goals
        have b2 := ((below_one w (.cells (doA Z t c) doT)).drew).trans (k2.mono (by simp))
        rw [CO.out, CV.out, show ptrO (some p.1) = .pointer (some ⟨p.1, 0, none⟩) from rfl]
        have p7 := T2.2.2.2.2.2.2.2.1
        have v3 : w2.cell? ⟨p.1, 3, none⟩ = some (.slice A o.sl.length n) := (k2.cell (p := ⟨p.1, 3, none⟩) (by simp; omega)).trans (((below_one w (.cells (doA Z t c) doT)).cell (p := ⟨p.1, 3, none⟩) hlt).trans o3)
        go_wp2_with fail
        go_region_held3 (fun w' => w'.cell? ⟨w.heap.size, 7, none⟩ = some (.int .i64 c.b) ∧ w'.cell? ⟨p.1, 3, none⟩ = some (.slice A o.sl.length n))
          (first | exact ⟨p7, v3⟩)
          ((go_at_call 61; refine (Ctl.within_any _ _ _ _).mono ?_; rintro e w3 ⟨rfl, rfl⟩; rw [hb]))
        all_goals
          go_wp2
          go_ret2
          exact ⟨by rw [HO.out, HV.out]; rfl, b2.drew⟩
  · have CO := Lib.hid (show ckO m (m.ents t) H.om (m.reg t c.h) = none from if_neg hc)
    have HV := Lib.hid (show holdX m (m.ents t) (m.reg t c.h) c.b = m.chk (m.ents t) (m.reg t c.h) by unfold holdX; exact if_pos hc)
    have HO := Lib.hid (show hoO m (m.ents t) H.om (m.reg t c.h) c.b = none by unfold hoO; rw [HV.out]; exact if_neg hc)
    have z : (m.chk (m.ents t) (m.reg t c.h) != 0) = true := bne_iff_ne.2 hc
    go_enter Tryz.func131, Tryz.ntmps131
    go_wp2_with fail
    go_region_held3 (fun w' => w'.cell? ⟨w.heap.size, 0, none⟩ = some (.pointer (some ⟨Z.B, 0, none⟩)) ∧ w'.cell? ⟨w.heap.size, 1, none⟩ = some (.pointer (some ⟨Z.bt, t * 5, none⟩)) ∧ w'.cell? ⟨w.heap.size, 2, none⟩ = some (.int .u8 c.op) ∧ w'.cell? ⟨w.heap.size, 3, none⟩ = some (.int .u8 c.r) ∧ w'.cell? ⟨w.heap.size, 4, none⟩ = some (.int .u8 c.h) ∧ w'.cell? ⟨w.heap.size, 5, none⟩ = some (.int .u8 c.v) ∧ w'.cell? ⟨w.heap.size, 6, none⟩ = some (.int .i64 c.a) ∧ w'.cell? ⟨w.heap.size, 7, none⟩ = some (.int .i64 c.b) ∧ w'.cell? ⟨w.heap.size, 8, none⟩ = some (.int .i64 c.c) ∧ w'.cell? ⟨Z.bt, t * 5 + c.h.toNat, none⟩ = some (.int .u64 (m.reg t c.h)))
      (first | exact ⟨d0, d1, d2, d3, d4, d5, d6, d7, d8, q1⟩ | exact T2)
      ((go_at_call 160; refine (check_any hm.drew n8 ht c _ hw).mono ?_; rintro e w2 ⟨rfl, k2⟩
        have m2 := hm.drew.call k2
        have T2 : w2.cell? ⟨w.heap.size, 0, none⟩ = some (.pointer (some ⟨Z.B, 0, none⟩)) ∧ w2.cell? ⟨w.heap.size, 1, none⟩ = some (.pointer (some ⟨Z.bt, t * 5, none⟩)) ∧ w2.cell? ⟨w.heap.size, 2, none⟩ = some (.int .u8 c.op) ∧ w2.cell? ⟨w.heap.size, 3, none⟩ = some (.int .u8 c.r) ∧ w2.cell? ⟨w.heap.size, 4, none⟩ = some (.int .u8 c.h) ∧ w2.cell? ⟨w.heap.size, 5, none⟩ = some (.int .u8 c.v) ∧ w2.cell? ⟨w.heap.size, 6, none⟩ = some (.int .i64 c.a) ∧ w2.cell? ⟨w.heap.size, 7, none⟩ = some (.int .i64 c.b) ∧ w2.cell? ⟨w.heap.size, 8, none⟩ = some (.int .i64 c.c) ∧ w2.cell? ⟨Z.bt, t * 5 + c.h.toNat, none⟩ = some (.int .u64 (m.reg t c.h)) := ⟨(do_cells m2.mw 0 rfl).1, (do_cells m2.mw 0 rfl).2.1, (do_cells m2.mw 0 rfl).2.2.1, (do_cells m2.mw 0 rfl).2.2.2.1, (do_cells m2.mw 0 rfl).2.2.2.2.1, (do_cells m2.mw 0 rfl).2.2.2.2.2.1, (do_cells m2.mw 0 rfl).2.2.2.2.2.2.1, (do_cells m2.mw 0 rfl).2.2.2.2.2.2.2.1, (do_cells m2.mw 0 rfl).2.2.2.2.2.2.2.2, (m2.mw.regAt ht r0 r4).1⟩))
    all_goals
      have b2 := ((below_one w (.cells (doA Z t c) doT)).drew).trans (k2.mono (by simp))
      rw [CO.out]
      go_wp2
      go_ret2
      exact ⟨by rw [HO.out, HV.out]; rfl, b2⟩
set_option maxHeartbeats 2000000 in
theorem fits_any {H : Hp} (h : Mh w0 w Z H (m.gs H.om) bx) (n8 : Z.n ≤ 8) {t : Nat} (ht : t < Z.nt) (c : Ca) (r0 : 0 ≤ c.v) (r4 : c.v < 4) (hw : wf64 (m.reg t c.v)) (R : Rt m) (f : Int) : Calls Tryz.prog 132 #[doV Z t c, .int .i64 f] w fun e w' => e = .returned (.int .i64 (m.fits (m.ents t) (m.reg t c.v) f)) ∧ Below w.heap.size w w' := by
  have hm := h.new (doA Z t c) doT
  obtain ⟨d0, d1, d2, d3, d4, d5, d6, d7, d8⟩ := do_cells hm.mw 0 rfl
  obtain ⟨q1, _⟩ := hm.mw.regAt ht r0 r4
  by_cases hv : m.reg t c.v = 0
  · have HV := Lib.hid (show m.fits (m.ents t) (m.reg t c.v) f = 0 from if_pos hv)
    have z : (m.reg t c.v == 0) = true := beq_iff_eq.2 hv
    clear hv
    go_enter Tryz.func132, Tryz.ntmps132
    go_wp2_with fail
    go_region
    go_wp2
    go_ret
    exact ⟨by rw [HV.out]; rfl, (below_one w (.cells (doA Z t c) doT)).drew⟩
  · have z : (m.reg t c.v == 0) = false := beq_eq_false_iff_ne.2 hv
    by_cases hc : m.chk (m.ents t) (m.reg t c.v) = 0
    · obtain ⟨o, ho⟩ := chk_obs hc
      obtain ⟨i, p, e1, e2, e3, e4, e5, e6⟩ := h.objAt ho
      have CV := Lib.hid hc
      have CO := Lib.hid (show ckO m (m.ents t) H.om (m.reg t c.v) = some p.1 by unfold ckO; rw [if_pos hc, e4])
      have hlt : p.1 < w.heap.size := (Array.getElem?_eq_some_iff.1 e5).1
      obtain ⟨o0, _, _, _, _⟩ := obj_cells e5
      have hu : (Refs.unV (m.reg t c.v)).s = o.s := by rw [← e3, R.un (List.mem_of_getElem? e1)]
      cases ha : Chain.aboveV (m.ents t) o.s f with
      | true =>
        have HV := Lib.hid (show m.fits (m.ents t) (m.reg t c.v) f = 0 by unfold Mo.fits; rw [if_neg hv, if_neg (by rw [hc]; simp), hu, if_neg (by rw [ha]; simp)])
        clear hc hv hu
        go_enter Tryz.func132, Tryz.ntmps132
        go_wp2_with fail
        go_region
        go_wp2_with fail
        refine (check_any hm.drew n8 ht c _ hw).mono ?_
        rintro e w2 ⟨rfl, k2⟩
        have m2 := hm.drew.call k2
        have b2 := ((below_one w (.cells (doA Z t c) doT)).drew).trans (k2.mono (by simp))
        rw [CO.out, CV.out, show ptrO (some p.1) = .pointer (some ⟨p.1, 0, none⟩) from rfl]
        obtain ⟨x3, ⟨_, _, _, _, r3⟩, f3, O3, _⟩ := m2.mw.thr ht
        obtain ⟨_, p1, _, _, _, _, _, _, _⟩ := do_cells m2.mw 0 rfl
        have v0 : w2.cell? ⟨p.1, 0, none⟩ = some (.int .i64 o.s) := (k2.cell (p := ⟨p.1, 0, none⟩) (by simp; omega)).trans (((below_one w (.cells (doA Z t c) doT)).cell (p := ⟨p.1, 0, none⟩) hlt).trans o0)
        go_wp2_with fail
        go_region_held3 (fun w' => w'.cell? ⟨w.heap.size, 1, none⟩ = some (.pointer (some ⟨Z.bt, t * 5, none⟩)) ∧ w'.cell? ⟨Z.bt, t * 5 + 4, none⟩ = some (sl3 x3) ∧ w'.cell? ⟨p.1, 0, none⟩ = some (.int .i64 o.s))
          (first | exact ⟨p1, r3, v0⟩ | exact T3)
          ((go_at_call 161; refine (Chain.above_any _ (sl3 x3) (m.ents t) _ _ O3.drew.sr).mono ?_; rintro e w3 ⟨rfl, k3⟩
            rw [ha]
            have m3 := m2.drew.call k3
            have T3 : w3.cell? ⟨w.heap.size, 1, none⟩ = some (.pointer (some ⟨Z.bt, t * 5, none⟩)) ∧ w3.cell? ⟨Z.bt, t * 5 + 4, none⟩ = some (sl3 x3) ∧ w3.cell? ⟨p.1, 0, none⟩ = some (.int .i64 o.s) := ⟨(do_cells m3.mw 0 rfl).2.1, (k3.cell (p := ⟨Z.bt, t * 5 + 4, none⟩) m2.mw.bt_lt).trans r3, (k3.cell (p := ⟨p.1, 0, none⟩) (by have := b2.size; show p.1 < w2.heap.size; omega)).trans v0⟩))
        all_goals
          go_wp2
          go_ret
          exact ⟨by rw [HV.out]; rfl, (b2.drew).trans (k3.mono b2.size)⟩
      | false =>
        have HV := Lib.hid (show m.fits (m.ents t) (m.reg t c.v) f = 22 by unfold Mo.fits; rw [if_neg hv, if_neg (by rw [hc]; simp), hu, if_pos ha])
        clear hc hv hu
        go_enter Tryz.func132, Tryz.ntmps132
        go_wp2_with fail
        go_region
        go_wp2_with fail
        refine (check_any hm.drew n8 ht c _ hw).mono ?_
        rintro e w2 ⟨rfl, k2⟩
        have m2 := hm.drew.call k2
        have b2 := ((below_one w (.cells (doA Z t c) doT)).drew).trans (k2.mono (by simp))
        rw [CO.out, CV.out, show ptrO (some p.1) = .pointer (some ⟨p.1, 0, none⟩) from rfl]
        obtain ⟨x3, ⟨_, _, _, _, r3⟩, f3, O3, _⟩ := m2.mw.thr ht
        obtain ⟨_, p1, _, _, _, _, _, _, _⟩ := do_cells m2.mw 0 rfl
        have v0 : w2.cell? ⟨p.1, 0, none⟩ = some (.int .i64 o.s) := (k2.cell (p := ⟨p.1, 0, none⟩) (by simp; omega)).trans (((below_one w (.cells (doA Z t c) doT)).cell (p := ⟨p.1, 0, none⟩) hlt).trans o0)
        go_wp2_with fail
        go_region_held3 (fun w' => w'.cell? ⟨w.heap.size, 1, none⟩ = some (.pointer (some ⟨Z.bt, t * 5, none⟩)) ∧ w'.cell? ⟨Z.bt, t * 5 + 4, none⟩ = some (sl3 x3) ∧ w'.cell? ⟨p.1, 0, none⟩ = some (.int .i64 o.s))
          (first | exact ⟨p1, r3, v0⟩ | exact T3)
          ((go_at_call 161; refine (Chain.above_any _ (sl3 x3) (m.ents t) _ _ O3.drew.sr).mono ?_; rintro e w3 ⟨rfl, k3⟩
            rw [ha]
            have m3 := m2.drew.call k3
            have T3 : w3.cell? ⟨w.heap.size, 1, none⟩ = some (.pointer (some ⟨Z.bt, t * 5, none⟩)) ∧ w3.cell? ⟨Z.bt, t * 5 + 4, none⟩ = some (sl3 x3) ∧ w3.cell? ⟨p.1, 0, none⟩ = some (.int .i64 o.s) := ⟨(do_cells m3.mw 0 rfl).2.1, (k3.cell (p := ⟨Z.bt, t * 5 + 4, none⟩) m2.mw.bt_lt).trans r3, (k3.cell (p := ⟨p.1, 0, none⟩) (by have := b2.size; show p.1 < w2.heap.size; omega)).trans v0⟩))
        all_goals
          go_wp2
          go_ret
          exact ⟨by rw [HV.out]; rfl, (b2.drew).trans (k3.mono b2.size)⟩
    · have CO := Lib.hid (show ckO m (m.ents t) H.om (m.reg t c.v) = none from if_neg hc)
      have HV := Lib.hid (show m.fits (m.ents t) (m.reg t c.v) f = m.chk (m.ents t) (m.reg t c.v) by unfold Mo.fits; rw [if_neg hv, if_pos hc])
      have z2 : (m.chk (m.ents t) (m.reg t c.v) != 0) = true := bne_iff_ne.2 hc
      clear hv
      go_enter Tryz.func132, Tryz.ntmps132
      go_wp2_with fail
      go_region
      go_wp2_with fail
      refine (check_any hm.drew n8 ht c _ hw).mono ?_
      rintro e w2 ⟨rfl, k2⟩
      have m2 := hm.drew.call k2
      have b2 := ((below_one w (.cells (doA Z t c) doT)).drew).trans (k2.mono (by simp))
      rw [CO.out]
      go_wp2
      go_ret
      exact ⟨by rw [HV.out]; rfl, b2⟩
end
end Go.Proofs.YtneggppfffekdaaGreat.Mod
