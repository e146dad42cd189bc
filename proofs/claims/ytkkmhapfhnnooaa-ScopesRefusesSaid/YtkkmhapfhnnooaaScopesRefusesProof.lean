/-
  penfoldlaw11.ScopesRefuses returns true for every plan and every slice of things done, and changes nothing that was there; no condition.
-/
import Derived.Test.YtkkmhapfhnnooaaRows
import Derived.Test.YtkkmhapfhnnooaaArgs
import Derived.Test.YtkkmhapfhnnooaaScoY
import Derived.Test.YtkkmhapfhnnooaaSt
import Derived.Deep.DeepCutAuto
namespace Go.Proofs.Ytkkmhapfhnnooaa.scopesRefuses
open Go.ChangeShapes Go.WideShapes Go.ChangeAt Go.RowKit
set_option linter.unusedVariables false

open Sco Slic Gm Gr

set_option maxRecDepth 100000 in
set_option maxHeartbeats 8000000 in
theorem walk (q0 q1 q2 q3 : Int) (lA : Option Addr) (ln lc : Nat) (lz : Nat → Nat → Int) (w : World) (wq0 : (Lit.int .i64 q0).wf = true) (wq1 : (Lit.int .i64 q1).wf = true) (wq2 : (Lit.int .i64 q2).wf = true) (wq3 : (Lit.int .i64 q3).wf = true) (hl : Args.Recs [.u8, .i64, .i64] w lA ln lz) :
    Calls Try.prog 7 #[.agg #[.int .i64 q0, .int .i64 q1, .int .i64 q2, .int .i64 q3], .slice lA ln lc] w fun e w' => e = .returned (.bool true) ∧ Below w.heap.size w w' := by
  obtain ⟨s, t, i, h, ⟨b1, b2, b3, b4, b5, b6, b7, b8, b9, b10⟩, FT⟩ := Plan.fit_all q0 q1 q2 q3
  obtain ⟨n, rfl⟩ : ∃ n : Nat, s = n := ⟨s.toNat, by omega⟩
  have n1 : 1 ≤ n := by omega
  have n8 : n ≤ 8 := by omega
  have HR : Hid (Plan.rightB (n : Int) t i h = true) := Lib.hid (decide_eq_true (by omega))
  clear wq0 wq1 wq2 wq3
  have hln := hl.len
  unfold maxLen at hln
  have Q0 : Bt w (w.alloc (.cells #[.int .i64 q0, .int .i64 q1, .int .i64 q2, .int .i64 q3] 23)) w.heap.size [.int .i64 q0, .int .i64 q1, .int .i64 q2, .int .i64 q3] 23 := ⟨Nat.le_refl _, heap_alloc_new w _⟩
  go_enter Try.func7, Try.ntmps7
  go_wp2_with fail
  refine (shown_any _).mono ?_
  rintro z w1 ⟨rfl, k1⟩
  have Q1 := Q0.below k1
  have B1 := (below_one w (.cells #[.int .i64 q0, .int .i64 q1, .int .i64 q2, .int .i64 q3] 23)).trans (k1.mono (by simp))
  have c0 := Q1.cell 0 _ rfl
  have c1 := Q1.cell 1 _ rfl
  have c2 := Q1.cell 2 _ rfl
  have c3 := Q1.cell 3 _ rfl
  clear Q0 Q1 k1
  go_wp2_with fail
  refine (FT _).mono ?_
  rintro z w2 ⟨rfl, k2⟩
  have B2 := B1.trans (k2.mono B1.size)
  have P3 : Bt w (w2.alloc (.cells #[.int .i64 (n : Int), .int .i64 t, .int .i64 i, .int .i64 h] 23)) w2.heap.size [.int .i64 (n : Int), .int .i64 t, .int .i64 i, .int .i64 h] 23 := ⟨B2.size, heap_alloc_new w2 _⟩
  clear c0 c1 c2 c3 FT B1 k2
  go_wp2_with fail
  refine (so_new (B2.alloc B2.size _) (n : Int) t i h HR.out [(w2.heap.size, [.int .i64 (n : Int), .int .i64 t, .int .i64 i, .int .i64 h], 23)] (fun x hx => by rw [List.mem_singleton.1 hx]; exact P3)).mono ?_
  rintro z w3 ⟨B, g, rfl, h3, k3, hB, hg⟩
  rw [Int.toNat_natCast] at h3
  obtain ⟨A, hA⟩ : ∃ A : Int, A = 64 * (n : Int) + i := ⟨_, rfl⟩
  obtain ⟨I, hI⟩ : ∃ I : Int, I = 64 * (n : Int) := ⟨_, rfl⟩
  rw [← hA, ← hI] at h3
  generalize hF0 : Sco.start n A h I i = F0 at *
  clear k3 hB hg P3 B2 hA hF0
  have HI := Lib.hid hI
  clear hI
  go_wp2_with fail
  go_loopw [9] (fun u wr => ∃ (k : Nat) (F : Fo), k ≤ ln ∧ k ≤ 60 ∧ u = .int .i64 (k : Int) ∧ So w wr B g n A h I i F [(w2.heap.size, [.int .i64 (n : Int), .int .i64 t, .int .i64 i, .int .i64 h], 23)]) (fun u _ => 60 - (intOf u).toNat)
  case atStart => exact ⟨0, F0, by omega, by omega, rfl, h3⟩
  case round =>
    obtain ⟨k, F, hk1, hk2, rfl, SO⟩ := hrel
    by_cases hlt : k < ln ∧ k < 60
    · obtain ⟨hk3, hk4⟩ := hlt
      obtain ⟨b, o, rfl, hb, hcell⟩ := hl.at_ k hk3
      have ⟨v0, v0'⟩ := Held.bounds_u8 (hl.wf k 0)
      have ⟨v2, v2'⟩ := Held.bounds_i64 (hl.wf k 2)
      have HL := Lib.hid SO.inv.lenL
      obtain ⟨p0, p1, p2, p3⟩ := SO.get4 0 rfl
      go_wp2_with fail
      with_reducible refine (seen_any SO t i h).mono ?_
      rintro z w5 ⟨rfl, k5⟩
      have S5 := SO.call k5
      have hs := allA_size F.R
      have h1 := allA_one F.R
      generalize hCA : allA F.R = CA at *
      have HCA := Lib.hid hCA
      have S6 := S5.whole cs48 CA 63 (by rw [cs48_size, hs])
      clear hCA p0 p1 p2 p3
      go_wp2_with (first
        | (with_reducible refine wpList_a48 (o := ⟨some 10, _, _, _, _, _⟩) rfl rfl ?_)
        | (with_reducible refine wpList_s48 (o := ⟨none, _, _, _, _, _⟩) rfl (.tmp 10) (.tmp 46) rfl w5.heap.size CA cs48 rfl rfl (heap_alloc_new _ _) cs48_size hs h1 ?_))
      have HZ6 : Hid (((w5.alloc (.cells cs48 63)).setRow w5.heap.size CA).heap.size = w5.heap.size + 1) := Lib.hid (by simp [World.setRow])
      generalize (w5.alloc (.cells cs48 63)).setRow w5.heap.size CA = W6 at *
      refine (so_free (S6.alloc _)).mono ?_
      rintro z w7 ⟨V, c, rfl, E7, N7, S7, k7⟩
      have ht : Gr.Tight w7 (.slice (some ⟨W6.heap.size, 0, none⟩) 0 0) [] := .inr ⟨W6.heap.size, rfl, by have := k7.size; simp at this; omega, fun i hi => by simp at hi⟩
      obtain ⟨v1, w8, r1, E8, g8, hat⟩ := Gr.app1 w7 ht E7.sr (by have := HL.out; simp; omega)
      rw [List.nil_append] at E8
      obtain ⟨V1, c1, rfl⟩ := E8.form
      have S8 := S7.call (Gr.below_only g8)
      have e0 : w8.cell? ⟨b, o + k * 3, none⟩ = some (.int .u8 (lz k 0)) := (S8.below.cell hb).trans (hcell 0 (by decide))
      have e1 : w8.cell? ⟨b, o + k * 3 + 1, none⟩ = some (.int .i64 (lz k 1)) := (S8.below.cell hb).trans (hcell 1 (by decide))
      have e2 : w8.cell? ⟨b, o + k * 3 + 2, none⟩ = some (.int .i64 (lz k 2)) := (S8.below.cell hb).trans (hcell 2 (by decide))
      have kB := S6.sc.ltB
      have kg := S6.sc.ltg
      have k7s : W6.heap.size < w7.heap.size := by have := k7.size; simp at this; omega
      have far : ∀ q, (Value.slice V1 F.L.length c1).ownBlock = some q → q ∉ [B, g] := by
        intro q hq
        rcases hat q hq with e | e
        · have e' : W6.heap.size = q := by simpa [Value.ownBlock] using e
          simp; omega
        · simp; omega
      have FAR := Lib.hid far
      clear far hat hcell N7
      go_upto_region 11 with (at_builtin; refine Gr.wpList_run rfl (.tmp 47) (.tmp 49) 50 rfl (.slice (some ⟨W6.heap.size, 0, none⟩) 0 0) (.slice V F.L.length c) (by simp [Act.eval, HZ6.out]) (by simp [Act.eval]) r1 ?_)
      go_wp2_with fail
      refine (doeso_any S8 (lz k 0) (lz k 1) (lz k 2) v2 v2' v0 v0').mono ?_
      rintro z w9 ⟨rfl, S9, O9⟩
      have E9 := E8.keep O9.size (fun q hq => O9.block q (E8.lt hq) (FAR.out q hq))
      have HREF := Lib.hid (do_refused F (lz k 0) (lz k 1) (lz k 2))
      generalize doV F (lz k 0) (lz k 1) (lz k 2) = r at *
      clear E7 E8 FAR S7 S6 S5 S8 SO g8 ht k7 k5 e0 e1 e2 r1 O9
      obtain ⟨p0, p1, p2, p3⟩ := S9.get4 1 rfl
      go_wp2_with fail
      with_reducible refine (seen_any S9 t i h).mono ?_
      rintro z w10 ⟨rfl, k10⟩
      have S10 := S9.call k10
      have hs2 := allA_size r.F.R
      have h12 := allA_one r.F.R
      obtain ⟨z0, z1, z2, z3, z4, z5⟩ := all_zero S9.inv
      generalize hCB : allA r.F.R = CB at *
      have HCB := Lib.hid hCB
      have E10 := E9.below k10
      have S11 := S10.whole cs48 CB 63 (by rw [cs48_size, hs2])
      have E11 := E10.below (whole_below w10 cs48 CB 63)
      clear hCB p0 p1 p2 p3
      go_wp2_with (first
        | (with_reducible refine wpList_a48 (o := ⟨some 14, _, _, _, _, _⟩) rfl rfl ?_)
        | (with_reducible refine wpList_s48 (o := ⟨none, _, _, _, _, _⟩) rfl (.tmp 14) (.tmp 62) rfl w10.heap.size CB cs48 rfl rfl (heap_alloc_new _ _) cs48_size hs2 h12 ?_))
      generalize (w10.alloc (.cells cs48 63)).setRow w10.heap.size CB = W11 at *
      refine (so_free S11).mono ?_
      rintro z w12 ⟨V2, c2, rfl, E12, _, S12, k12⟩
      have E11' := E11.below k12
      go_wp2_with fail
      rw [HI.out] at z4
      by_cases hx : r.x = 0
      · have q1 : (r.x != 0) = false := by simpa using hx
        clear hx
        refine (Gr.same_some w12 V1 V2 c1 c2 F.L r.F.L E11' E12 HL.out S12.inv.lenL).mono ?_
        rintro z w13 ⟨⟨bb, rfl⟩, k13⟩
        have S13 := S12.call k13
        clear E11' E12 E11 E10 E9 S12 S11 S10 S9 k13 k12 k10
        have N0 : w13.cell? ⟨w10.heap.size, 0, none⟩ = some (.int .i64 2) := (S13.at 0 rfl).cell 0 _ (by rw [Array.getElem?_toList]; exact z0)
        have N1 : w13.cell? ⟨w10.heap.size, 1, none⟩ = some (.int .i64 1) := (S13.at 0 rfl).cell 1 _ (by rw [Array.getElem?_toList]; exact z1)
        have N2 : w13.cell? ⟨w10.heap.size, 2, none⟩ = some (.int .i64 (-1)) := (S13.at 0 rfl).cell 2 _ (by rw [Array.getElem?_toList]; exact z2)
        have N3 : w13.cell? ⟨w10.heap.size, 3, none⟩ = some (.int .i64 0) := (S13.at 0 rfl).cell 3 _ (by rw [Array.getElem?_toList]; exact z3)
        have N4 : w13.cell? ⟨w10.heap.size, 32, none⟩ = some (.int .i64 (64 * (n : Int))) := (S13.at 0 rfl).cell 32 _ (by rw [Array.getElem?_toList]; exact z4)
        have N5 : w13.cell? ⟨w10.heap.size, 33, none⟩ = some (.int .i64 i) := (S13.at 0 rfl).cell 33 _ (by rw [Array.getElem?_toList]; exact z5)
        obtain ⟨p0, p1, p2, p3⟩ := S13.get4 2 rfl
        have LB := (S13.at 0 rfl).lt
        have LP := (S13.at 2 rfl).lt
        have SD := S13.drew
        have T13 : w13.cell? ⟨w10.heap.size, 32, none⟩ = some (.int .i64 (64 * (n : Int))) ∧ w13.cell? ⟨w10.heap.size, 33, none⟩ = some (.int .i64 i) ∧ w13.cell? ⟨w2.heap.size, 0, none⟩ = some (.int .i64 (n : Int)) ∧ w13.cell? ⟨w2.heap.size, 1, none⟩ = some (.int .i64 t) ∧ w13.cell? ⟨w2.heap.size, 2, none⟩ = some (.int .i64 i) ∧ w13.cell? ⟨w2.heap.size, 3, none⟩ = some (.int .i64 h) ∧ w13.cell? ⟨w10.heap.size, 0, none⟩ = some (.int .i64 2) ∧ w13.cell? ⟨w10.heap.size, 1, none⟩ = some (.int .i64 1) ∧ w13.cell? ⟨w10.heap.size, 2, none⟩ = some (.int .i64 (-1)) ∧ w13.cell? ⟨w10.heap.size, 3, none⟩ = some (.int .i64 0) := ⟨N4, N5, p0, p1, p2, p3, N0, N1, N2, N3⟩
        clear z0 z1 z2 z3 z4 z5
        go_wp2_with fail
        go_region_held3 (fun w' => w'.cell? ⟨w10.heap.size, 32, none⟩ = some (.int .i64 (64 * (n : Int))) ∧ w'.cell? ⟨w10.heap.size, 33, none⟩ = some (.int .i64 i) ∧ w'.cell? ⟨w2.heap.size, 0, none⟩ = some (.int .i64 (n : Int)) ∧ w'.cell? ⟨w2.heap.size, 1, none⟩ = some (.int .i64 t) ∧ w'.cell? ⟨w2.heap.size, 2, none⟩ = some (.int .i64 i) ∧ w'.cell? ⟨w2.heap.size, 3, none⟩ = some (.int .i64 h) ∧ w'.cell? ⟨w10.heap.size, 0, none⟩ = some (.int .i64 2) ∧ w'.cell? ⟨w10.heap.size, 1, none⟩ = some (.int .i64 1) ∧ w'.cell? ⟨w10.heap.size, 2, none⟩ = some (.int .i64 (-1)) ∧ w'.cell? ⟨w10.heap.size, 3, none⟩ = some (.int .i64 0))
          (first | with_reducible exact T14 | with_reducible exact T13 | exact T13)
          ((go_at_call 36; refine (Plan.refimm_any (n : Int) t i h w13.drew HR.out).mono ?_; rintro z w14 ⟨rfl, k14⟩; have S14 := SD.call k14; have T14 := (And.intro (Gr.bel k14 T13.1) (And.intro (Gr.bel k14 T13.2.1) (And.intro (Gr.bel k14 p0) (And.intro (Gr.bel k14 p1) (And.intro (Gr.bel k14 p2) (And.intro (Gr.bel k14 p3) (And.intro (Gr.bel k14 N0) (And.intro (Gr.bel k14 N1) (And.intro (Gr.bel k14 N2) (Gr.bel k14 N3))))))))))))
        all_goals
          go_wp2
          go_roundw
          case rel => exact ⟨k + 1, _, by omega, by omega, by go_num, S14.drop 2⟩
          case measure => simp [intOf]; omega
      · have q1 : (r.x != 0) = true := by simpa using hx
        have eF := HREF.out hx
        obtain ⟨rv, rx, rd, rF⟩ := r
        dsimp only at *
        subst eF
        have hCC : CB = CA := HCB.out.symm.trans HCA.out
        subst hCC
        have HE : ∀ W, (Op.equalIn 10000 63 (.agg CB) (.agg CB)).run Try.prog W = .ok true W := by rw [← HCB.out]; exact same_all _
        clear hx
        refine (Gr.same_yes w12 V1 V2 c1 c2 _ E11' E12 HL.out).mono ?_
        rintro z w13 ⟨rfl, k13⟩
        have S13 := S12.call k13
        have b14 : w13.heap[w10.heap.size]? = some (.cells CB 63 (0, 0)) := by simpa using (S13.at 0 rfl).hp
        have b10 : w13.heap[w5.heap.size]? = some (.cells CB 63 (0, 0)) := by simpa using (S13.at 1 rfl).hp
        clear E11' E12 E11 E10 E9 S12 S11 S10 S9 k13 k12 k10
        have N0 : w13.cell? ⟨w10.heap.size, 0, none⟩ = some (.int .i64 2) := (S13.at 0 rfl).cell 0 _ (by rw [Array.getElem?_toList]; exact z0)
        have N1 : w13.cell? ⟨w10.heap.size, 1, none⟩ = some (.int .i64 1) := (S13.at 0 rfl).cell 1 _ (by rw [Array.getElem?_toList]; exact z1)
        have N2 : w13.cell? ⟨w10.heap.size, 2, none⟩ = some (.int .i64 (-1)) := (S13.at 0 rfl).cell 2 _ (by rw [Array.getElem?_toList]; exact z2)
        have N3 : w13.cell? ⟨w10.heap.size, 3, none⟩ = some (.int .i64 0) := (S13.at 0 rfl).cell 3 _ (by rw [Array.getElem?_toList]; exact z3)
        have N4 : w13.cell? ⟨w10.heap.size, 32, none⟩ = some (.int .i64 (64 * (n : Int))) := (S13.at 0 rfl).cell 32 _ (by rw [Array.getElem?_toList]; exact z4)
        have N5 : w13.cell? ⟨w10.heap.size, 33, none⟩ = some (.int .i64 i) := (S13.at 0 rfl).cell 33 _ (by rw [Array.getElem?_toList]; exact z5)
        obtain ⟨p0, p1, p2, p3⟩ := S13.get4 2 rfl
        have LB := (S13.at 0 rfl).lt
        have LP := (S13.at 2 rfl).lt
        have SD := S13.drew
        have T13 : w13.cell? ⟨w10.heap.size, 32, none⟩ = some (.int .i64 (64 * (n : Int))) ∧ w13.cell? ⟨w10.heap.size, 33, none⟩ = some (.int .i64 i) ∧ w13.cell? ⟨w2.heap.size, 0, none⟩ = some (.int .i64 (n : Int)) ∧ w13.cell? ⟨w2.heap.size, 1, none⟩ = some (.int .i64 t) ∧ w13.cell? ⟨w2.heap.size, 2, none⟩ = some (.int .i64 i) ∧ w13.cell? ⟨w2.heap.size, 3, none⟩ = some (.int .i64 h) ∧ w13.cell? ⟨w10.heap.size, 0, none⟩ = some (.int .i64 2) ∧ w13.cell? ⟨w10.heap.size, 1, none⟩ = some (.int .i64 1) ∧ w13.cell? ⟨w10.heap.size, 2, none⟩ = some (.int .i64 (-1)) ∧ w13.cell? ⟨w10.heap.size, 3, none⟩ = some (.int .i64 0) := ⟨N4, N5, p0, p1, p2, p3, N0, N1, N2, N3⟩
        clear z0 z1 z2 z3 z4 z5
        go_wp2_with (first
          | (refine wpList_g48 (o := ⟨some 70, _, _, _, _, _⟩) (by first | rfl | simp [Region.wanted, yielded]) (.tmp 14) rfl w10.heap.size CB rfl b14 hs ?_)
          | (refine wpList_g48 (o := ⟨some 71, _, _, _, _, _⟩) (by first | rfl | simp [Region.wanted, yielded]) (.tmp 10) rfl w5.heap.size CB rfl b10 hs ?_))
        go_region_held3 (fun w' => w'.cell? ⟨w10.heap.size, 32, none⟩ = some (.int .i64 (64 * (n : Int))) ∧ w'.cell? ⟨w10.heap.size, 33, none⟩ = some (.int .i64 i) ∧ w'.cell? ⟨w2.heap.size, 0, none⟩ = some (.int .i64 (n : Int)) ∧ w'.cell? ⟨w2.heap.size, 1, none⟩ = some (.int .i64 t) ∧ w'.cell? ⟨w2.heap.size, 2, none⟩ = some (.int .i64 i) ∧ w'.cell? ⟨w2.heap.size, 3, none⟩ = some (.int .i64 h) ∧ w'.cell? ⟨w10.heap.size, 0, none⟩ = some (.int .i64 2) ∧ w'.cell? ⟨w10.heap.size, 1, none⟩ = some (.int .i64 1) ∧ w'.cell? ⟨w10.heap.size, 2, none⟩ = some (.int .i64 (-1)) ∧ w'.cell? ⟨w10.heap.size, 3, none⟩ = some (.int .i64 0))
          (first | with_reducible exact T14 | with_reducible exact T13 | exact T13)
          ((go_at_call 36; refine (Plan.refimm_any (n : Int) t i h w13.drew HR.out).mono ?_; rintro z w14 ⟨rfl, k14⟩; have S14 := SD.call k14; have T14 := (And.intro (Gr.bel k14 T13.1) (And.intro (Gr.bel k14 T13.2.1) (And.intro (Gr.bel k14 p0) (And.intro (Gr.bel k14 p1) (And.intro (Gr.bel k14 p2) (And.intro (Gr.bel k14 p3) (And.intro (Gr.bel k14 N0) (And.intro (Gr.bel k14 N1) (And.intro (Gr.bel k14 N2) (Gr.bel k14 N3))))))))))))
        all_goals
          go_wp2
          go_roundw
          case rel => exact ⟨k + 1, _, by omega, by omega, by go_num, S14.drop 2⟩
          case measure => simp [intOf]; omega
    · have hend : ¬ k < ln ∨ (k < ln ∧ ¬ k < 60) := by omega
      clear hlt
      rcases hend with hend | ⟨hend, hend'⟩
      all_goals
        go_wp2
        go_ret
        exact ⟨rfl, SO.below⟩

set_option maxRecDepth 100000 in
theorem lifted (os : Os) (started : os.Started) (H : Type) (enc : TypeId × Value → H) :
    ReturnsInHanded {} Try.checked os 7 .any (Rows.scopesRefusesSpec.pre6 enc Try.prog Try.f7 Rows.scopesRefusesRow.domain false) (Rows.scopesRefusesSpec.post enc Try.prog Try.f7 false true false false) := by
  refine returnsInHanded_of_change (C := Try.checked) Args.own started (by kernel_rfl) Try.func7
    (ChangeSpec.witness6 (enc := enc) (C := Try.checked) false ⟨#[], #[.agg #[.int .i64 0, .int .i64 0, .int .i64 0, .int .i64 0], .slice none 0 0], []⟩ 8 (by kernel_rfl) (by kernel_rfl) (by kernel_rfl) (by kernel_rfl)) ?_
  intro W base args ds gs before hval0 hW hcnd _
  have hval : ∀ (j : Nat) t v, Try.f7.params[j]? = some t → args[j]? = some v → Value.okWide Try.prog W .any base t v := hval0
  have hW' := hW
  obtain ⟨p, q, hA0, hV, rfl, hfz, hnd⟩ := hW
  have hA : DataW.TrodAll enc Try.prog W 0 (fun _ => true) true Try.f7.params.toList args.toList ds p := hA0
  rw [Try.params7] at hA hval
  obtain ⟨v0, vs0, d0, ds0, p0, q0, hargs, rfl, rfl, h0, r0⟩ := trodAll_cons hA
  obtain ⟨v1, vs1, d1, ds1, p1, q1, rfl, rfl, rfl, h1, r1⟩ := trodAll_cons r0
  obtain ⟨rfl, rfl, rfl⟩ := trodAll_nil r1
  obtain rfl : args = #[v0, v1] := by cases args; simp_all
  obtain ⟨rfl, rfl⟩ := trodVars_none hV
  have lt0 := Args.trod_below h0
  obtain ⟨qz, hv0, hq⟩ := Args.rec_in (ks := [.i64, .i64, .i64, .i64]) Try.underlying23 (by kernel_rfl) (by kernel_rfl) (hval 0 23 v0 rfl rfl) h0
  obtain rfl : v0 = .agg #[.int .i64 (qz 0), .int .i64 (qz 1), .int .i64 (qz 2), .int .i64 (qz 3)] := hv0
  have lt1 := Args.trod_below h1
  obtain ⟨lA, ln, lc, lz, rfl, hl⟩ := Args.recs_in (ks := [.u8, .i64, .i64]) (e := 34) (by kernel_rfl) Try.underlying34 (by kernel_rfl) (by kernel_rfl) (by decide) (hval 1 24 v1 rfl rfl) h1
  clear hA0 hval0
  refine (walk (qz 0) (qz 1) (qz 2) (qz 3) lA ln lc lz W (hq 0) (hq 1) (hq 2) (hq 3) hl).mono fun e W' ⟨he, bel⟩ => ?_
  subst he
  exact ⟨_, rfl, _, _, _, [], _, [], hW', trodAll_mk1 (shut_bool Try.underlying4 _), trodAll_cons_mk (Below.trod Args.laidOut (by kernel_rfl) (of_decide_eq_true (by kernel_rfl)) h0 bel lt0) (trodAll_cons_mk (Below.trod Args.laidOut (by kernel_rfl) (of_decide_eq_true (by kernel_rfl)) h1 bel lt1) (trodAll_mk0)), rfl, bel.frame _, fun h => by cases h⟩

theorem over : Rows.scopesRefusesRow.holds Try.pinned (OpenSpec.ofChange Rows.scopesRefusesSpec) :=
  OpenClaim.holds_of_wide 7 Try.f7 rfl rfl rfl rfl rfl rfl rfl ⟨rfl, rfl, rfl, rfl, rfl⟩ rfl rfl rfl rfl rfl (by kernel_rfl) Try.func7 (by kernel_rfl)
    (of_decide_eq_true (by kernel_rfl)) (by unfold Func.isWrapper; rw [if_neg (of_decide_eq_false (by kernel_rfl))]; exact ⟨rfl, rfl⟩)
    (fun os started H enc _ => lifted os started H enc)

theorem proved : Rows.ScopesRefusesSaid :=
  over
end Go.Proofs.Ytkkmhapfhnnooaa.scopesRefuses
