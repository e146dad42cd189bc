/-
  Contract of package ground: Give, for every place and size: the walk.
-/
import Derived.Test.YtkkmhapfhnnooaaGrG
namespace Go.Proofs.Ytkkmhapfhnnooaa.Gr
open Go.ChangeShapes Go.WideShapes Go.ChangeAt Go.RowKit Gm
set_option linter.unusedVariables false
set_option linter.unusedSimpArgs false

/-- A local struct of two integers. -/
structure Bx (w : World) (b : Nat) (x y : Int) : Prop where
  c0 : w.cell? ⟨b, 0, none⟩ = some (.int .i64 x)
  c1 : w.cell? ⟨b, 1, none⟩ = some (.int .i64 y)
  fz : ∀ o, w.frozen? ⟨b, o, none⟩ = false
theorem Bx.lt {w : World} {b : Nat} {x y : Int} (h : Bx w b x y) : b < w.heap.size := cell_lt h.c0
theorem Bx.new (w : World) (x y : Int) (t : TypeId) : Bx (w.alloc (.cells #[.int .i64 x, .int .i64 y] t)) w.heap.size x y := ⟨by simp [go_sem], by simp [go_sem], fun o => by simp⟩
theorem Bx.bel {w w' : World} {b : Nat} {x y : Int} (h : Bx w b x y) (k : Below w.heap.size w w') : Bx w' b x y := ⟨Gr.bel k h.c0, Gr.bel k h.c1, fun o => (k.frozen (p := ⟨b, o, none⟩) h.lt).trans (h.fz o)⟩
theorem Bx.alloc {w : World} {b : Nat} {x y : Int} (h : Bx w b x y) (o : Obj) : Bx (w.alloc o) b x y := h.bel ((Below.refl _ _).alloc (Nat.le_refl _) _)
theorem Bx.drew {w : World} {b : Nat} {x y : Int} (h : Bx w b x y) : Bx w.drew b x y := ⟨h.c0, h.c1, h.fz⟩
theorem Bx.put {w : World} {b : Nat} {x y : Int} (h : Bx w b x y) (x' y' : Int) : Bx ((w.setCell ⟨b, 0, none⟩ (.int .i64 x')).setCell ⟨b, 1, none⟩ (.int .i64 y')) b x' y' :=
  ⟨by simp [go_sem, h.c0], by simp [go_sem, h.c1], fun o => by simp [h.fz o]⟩

set_option maxHeartbeats 2000000 in
theorem give_ref (w : World) (Y : Ly) (B K : Nat) (A S : Int) (L : List E) (a z : Int) (h : Gr w Y B K A S L) (hK : K < w.heap.size) (ok : Ok A S L) (a1 : -9223372036854775808 ≤ a) (a2 : a ≤ 9223372036854775807) (z1 : -9223372036854775808 ≤ z) (z2 : z ≤ 9223372036854775807)
    (hno : sizeB z = false ∨ (sizeB z = true ∧ ¬ a % 8 = 0) ∨ (sizeB z = true ∧ a % 8 = 0 ∧ hasB A S a z = false)) :
    Calls Try.prog 50 #[.pointer (some ⟨B, Y.o, none⟩), .int .i64 a, .int .i64 z] w fun e w' => e = .returned (.int .i64 (giveE A S L a z)) ∧ Gr w' Y B K A S (giveF A S L a z) ∧ w.grownBy w' (some B) := by
  have h0 := h.alloc (.cells #[.int .i64 a] 3)
  have g0 : w.grownBy (w.alloc (.cells #[.int .i64 a] 3)) none := only_alloc (World.grownBy.refl _ _) _
  have c0 : (w.alloc (.cells #[.int .i64 a] 3)).cell? ⟨w.heap.size, 0, none⟩ = some (.int .i64 a) := by simp [go_sem]
  have e8 := tmod8 a
  rcases hno with hs | ⟨hs, h8⟩ | ⟨hs, h8, hh⟩
  · have ⟨E1, E2⟩ := give_no (show giveB A S L a z = false by unfold giveB; rw [hs]; rfl)
    have E1 := Lib.hid E1
    have E2 := Lib.hid E2
    clear e8
    go_enter Try.func50, Try.ntmps50
    go_wp2_with fail
    generalize w.alloc (.cells #[.int .i64 a] 3) = W0 at *
    refine (size_any _ _ z1 z2).mono ?_
    rintro e w' ⟨rfl, rfl⟩
    go_wp2
    go_ret
    exact ⟨ret_int E1.out.symm, by rw [E2.out]; exact h0, only_wide g0⟩
  · have ⟨E1, E2⟩ := give_no (show giveB A S L a z = false by unfold giveB; rw [hs, decide_eq_false h8]; rfl)
    have E1 := Lib.hid E1
    have E2 := Lib.hid E2
    have q1 : (a.tmod 8 != 0) = true := by simp; exact fun e => h8 (e8.1 e)
    have q2 : (a % 8 != 0) = true := by simpa using h8
    clear e8 h8
    go_enter Try.func50, Try.ntmps50
    go_wp2_with fail
    generalize w.alloc (.cells #[.int .i64 a] 3) = W0 at *
    refine (size_any _ _ z1 z2).mono ?_
    rintro e w' ⟨rfl, rfl⟩
    go_wp2
    go_ret
    exact ⟨ret_int E1.out.symm, by rw [E2.out]; exact h0, only_wide g0⟩
  · have ⟨E1, E2⟩ := give_no (show giveB A S L a z = false by unfold giveB; rw [hs, decide_eq_true h8, hh]; rfl)
    have E1 := Lib.hid E1
    have E2 := Lib.hid E2
    have q1 : (a.tmod 8 != 0) = false := by simp; exact e8.2 h8
    have q2 : (a % 8 != 0) = false := by simpa using h8
    obtain ⟨v, hr, hv, _, _⟩ := id h0
    have y0 := Ly.cell0 hr
    have y1 := Ly.cell1 hr
    have HH := Lib.hid hh
    clear e8 h8 hr hv hh
    go_enter Try.func50, Try.ntmps50
    go_wp2_with fail
    generalize w.alloc (.cells #[.int .i64 a] 3) = W0 at *
    refine (size_any _ _ z1 z2).mono ?_
    rintro e w' ⟨rfl, rfl⟩
    go_wp2_with fail
    refine (has_any W0 Y B A S a z y0 y1 ok.a0 ok.a1 ok.s0 ok.s1).mono ?_
    rintro e w1 ⟨rfl, k1⟩
    rw [HH.out]
    go_wp2
    go_ret
    exact ⟨ret_int E1.out.symm, by rw [E2.out]; exact h0.below k1, only_wide (only_trans g0 (only_below k1))⟩

set_option maxHeartbeats 8000000 in
theorem give_go (w : World) (Y : Ly) (B K : Nat) (A S : Int) (L : List E) (a z : Int) (h : Gr w Y B K A S L) (hK : K < w.heap.size) (ok : Ok A S L) (hs : sizeB z = true) (h8 : a % 8 = 0) (hh : hasB A S a z = true) :
    Calls Try.prog 50 #[.pointer (some ⟨B, Y.o, none⟩), .int .i64 a, .int .i64 z] w fun e w' => e = .returned (.int .i64 (giveE A S L a z)) ∧ Gr w' Y B K A S (giveF A S L a z) ∧ w.grownBy w' (some B) := by
  have ⟨s1, s2⟩ : 0 < z ∧ z % 8 = 0 := of_decide_eq_true hs
  have ⟨t1, t2, t3⟩ : A ≤ a ∧ a ≤ A + S ∧ z ≤ A + S - a := of_decide_eq_true hh
  have o1 := ok.a0
  have o2 := ok.a1
  have o3 := ok.s1
  have hl := ok.len
  have h0 := h.alloc (.cells #[.int .i64 a] 3)
  have g0 : w.grownBy (w.alloc (.cells #[.int .i64 a] 3)) none := only_alloc (World.grownBy.refl _ _) _
  have c0 : (w.alloc (.cells #[.int .i64 a] 3)).cell? ⟨w.heap.size, 0, none⟩ = some (.int .i64 a) := by simp [go_sem]
  have q2 : (a % 8 != 0) = false := by simpa using h8
  obtain ⟨v, hr, hv, _, _⟩ := id h0
  have y0 := Ly.cell0 hr
  have y1 := Ly.cell1 hr
  have HH := Lib.hid hh
  have H8 := Lib.hid h8
  have HS := Lib.hid hs
  have hlh : low a L ≤ high (a + z) L := low_le_high (by omega) ok.norm
  have hhl := high_le (a + z) L
  clear hr hv hh h8
  go_enter Try.func50, Try.ntmps50
  go_wp2_with fail
  generalize w.alloc (.cells #[.int .i64 a] 3) = W0 at *
  refine (size_any _ _ (by omega) (by omega)).mono ?_
  rintro e w' ⟨rfl, rfl⟩
  go_wp2_with fail
  refine (has_any W0 Y B A S a z y0 y1 ok.a0 ok.a1 ok.s0 ok.s1).mono ?_
  rintro e w1 ⟨rfl, k1⟩
  rw [HH.out]
  have h1 := h0.below k1
  have c1 := bel k1 c0
  have g1 : w.grownBy w1 none := only_trans g0 (only_below k1)
  clear y0 y1
  go_wp2_with fail
  have h2 := h1.alloc (.cells #[.int .i64 a, .int .i64 z] 46)
  have c2 := cell_alloc c1 (.cells #[.int .i64 a, .int .i64 z] 46)
  have g2 : w.grownBy (w1.alloc (.cells #[.int .i64 a, .int .i64 z] 46)) none := only_alloc g1 _
  have d0 : (w1.alloc (.cells #[.int .i64 a, .int .i64 z] 46)).cell? ⟨w1.heap.size, 0, none⟩ = some (.int .i64 a) := by simp [go_sem]
  have d1 : (w1.alloc (.cells #[.int .i64 a, .int .i64 z] 46)).cell? ⟨w1.heap.size, 1, none⟩ = some (.int .i64 z) := by simp [go_sem]
  generalize w1.alloc (.cells #[.int .i64 a, .int .i64 z] 46) = W2 at *
  refine (first2_any W2 Y B K A S L w.heap.size a h2 c2 (by omega) (fun i hi => by have := ok.at_ hi; omega)).mono ?_
  rintro e w3 ⟨rfl, k3⟩
  rw [show L.findIdx (fun e => decide (a ≤ e.1 + e.2)) = low a L from rfl]
  have h3 := h2.below k3
  have d0' := bel k3 d0
  have d1' := bel k3 d1
  have g3 : w.grownBy w3 none := only_trans g2 (only_below k3)
  clear d0 d1
  go_wp2_with fail
  refine (first3_any w3 Y B K A S L w1.heap.size a z h3 d0' d1' (by omega) (by omega) (by omega) (by omega) (by omega)).mono ?_
  rintro e w4 ⟨rfl, k4⟩
  rw [show L.findIdx (fun e => decide (a + z < e.1)) = high (a + z) L from rfl]
  have h4 := h3.below k4
  have d0 := bel k4 d0'
  have d1 := bel k4 d1'
  have g4 : w.grownBy w4 none := only_trans g3 (only_below k4)
  clear d0' d1'
  obtain ⟨v, hr, hv, hvB, hvK⟩ := id h4
  have hform : ∃ V c, v = .slice V L.length c ∧ L.length ≤ c ∧ (V = none → L.length = 0 ∧ c = 0) ∧ (∀ x, V = some x → ∃ g, x = ⟨g, 0, none⟩) := by
    rcases hv with ⟨rfl, rfl⟩ | ⟨g, c, rfl, x1, _⟩
    · exact ⟨none, 0, rfl, Nat.le_refl _, fun _ => ⟨rfl, rfl⟩, fun x hx => by cases hx⟩
    · exact ⟨_, c, rfl, x1, (fun hx => by cases hx), fun x hx => ⟨g, by injection hx with hx; exact hx.symm⟩⟩
  obtain ⟨V, c, rfl, n1, n2, n3⟩ := hform
  obtain ⟨V', c', sl1, sl2, sl3⟩ := slice_mid V L.length c (low a L) (high (a + z) L) hlh hhl n1 n2 n3
  have x2 : (w4.alloc (.cells #[.int .i64 a, .int .i64 z] 46)).cell? ⟨B, Y.o + 2, none⟩ = some (.slice V L.length c) := cell_alloc (Ly.cell2 hr) (.cells #[.int .i64 a, .int .i64 z] 46)
  have SL3 := Lib.hid sl3
  have N2 := Lib.hid n2
  have N3 := Lib.hid n3
  clear n2 n3 sl3
  have e4 := Bx.new w4 a z 46
  have d00 := cell_alloc d0 (.cells #[.int .i64 a, .int .i64 z] 46)
  have d10 := cell_alloc d1 (.cells #[.int .i64 a, .int .i64 z] 46)
  have B5 : Below w4.heap.size w4 (w4.alloc (.cells #[.int .i64 a, .int .i64 z] 46)) := (Below.refl _ _).alloc (Nat.le_refl _) _
  have z5 : w4.heap.size < (w4.alloc (.cells #[.int .i64 a, .int .i64 z] 46)).heap.size := by simp
  go_wp2_with fail
  generalize w4.alloc (.cells #[.int .i64 a, .int .i64 z] 46) = W5 at *
  have hml := mid_len hlh
  have HML := Lib.hid hml
  clear hml
  go_loopw [46] (fun t wr => ∃ k : Nat, k ≤ high (a + z) L - low a L ∧ t = .int .i64 k ∧ Below w4.heap.size w4 wr ∧ w4.heap.size < wr.heap.size ∧
      Bx wr w4.heap.size (((mid a (a + z) L).take k).foldl join (a, a + z - a)).1 (((mid a (a + z) L).take k).foldl join (a, a + z - a)).2 ∧
      Hid (∀ i (hi : i < (mid a (a + z) L).length), i < k → ov a (a + z) (mid a (a + z) L)[i] = false)) (fun t _ => high (a + z) L - low a L - (intOf t).toNat)
  case atStart => exact ⟨0, by omega, rfl, B5, z5, by rw [show a + z - a = z by omega]; exact e4, Lib.hid (fun i _ h => by omega)⟩
  case round =>
    obtain ⟨k, hk, rfl, hb, hz, hJ, hno⟩ := hrel
    by_cases hlt : k < high (a + z) L - low a L
    · obtain ⟨g, rfl, rfl⟩ := SL3.out (by omega)
      have hkl : low a L + k < L.length := by omega
      obtain ⟨g', c'', e1, _, _, hg, hc⟩ := (hv.below hb).at_ (by omega)
      injection e1 with e2 e3 e4
      injection e2 with e2
      injection e2 with e2
      subst e2
      clear e3 e4
      obtain ⟨x0, x1⟩ := hc (low a L + k) hkl
      rw [Nat.add_mul] at x0 x1
      have hkm : k < (mid a (a + z) L).length := by rw [HML.out]; exact hlt
      have HX := Lib.hid (mid_get hkm hkl)
      obtain ⟨b1, b2, b3, b4, b5, b6, b7, b8⟩ := ok.at_ hkl
      have f0 := (hb.cell (p := ⟨w1.heap.size, 0, none⟩) (cell_lt d0)).trans d0
      have f1 := (hb.cell (p := ⟨w1.heap.size, 1, none⟩) (cell_lt d1)).trans d1
      have MB := mid_bd ok (a := a) (b := a + z) (by omega) (by omega) (by omega) (by omega) (by omega) k
      have FS := Lib.hid (fold_step (J := (a, a + z - a)) hkm)
      generalize hj : ((mid a (a + z) L).take k).foldl join (a, a + z - a) = J at *
      obtain ⟨m1, m2, m3, m4⟩ := MB
      have HJ := Lib.hid hj
      clear hj hc
      rw [HX.out] at FS
      have hov : ov a (a + z) (mid a (a + z) L)[k] = ovB (L[low a L + k]).1 (L[low a L + k]).2 a z := by rw [HX.out]; rfl
      generalize L[low a L + k] = y at *
      have HOV := Lib.hid hov
      clear hov
      have B6 : Below w4.heap.size w4 (wr.alloc (.cells #[.int .i64 y.1, .int .i64 y.2] 46)) := hb.alloc (by omega) _
      have q0 := cell_alloc f0 (.cells #[.int .i64 y.1, .int .i64 y.2] 46)
      have q1 := cell_alloc f1 (.cells #[.int .i64 y.1, .int .i64 y.2] 46)
      have p0 := hJ.alloc (.cells #[.int .i64 y.1, .int .i64 y.2] 46)
      have r0 := Bx.new wr y.1 y.2 46
      have z6 : wr.heap.size ≤ (wr.alloc (.cells #[.int .i64 y.1, .int .i64 y.2] 46)).heap.size := by simp
      go_wp2_with fail
      generalize wr.alloc (.cells #[.int .i64 y.1, .int .i64 y.2] 46) = W6 at *
      clear f0 f1 x0 x1
      refine (overlap_any y.1 y.2 a z W6 (by omega) (by omega) (by omega) (by omega) (by omega) (by omega) (by omega) (by omega)).mono ?_
      rintro e w7 ⟨rfl, k7⟩
      have B7 := B6.trans (k7.mono (by omega))
      cases hq : ovB y.1 y.2 a z with
      | true =>
        have ⟨E1, E2⟩ := give_no (show giveB A S L a z = false by unfold giveB bad; rw [any_of hkm (HOV.out.trans hq)]; simp)
        have E1 := Lib.hid E1
        have E2 := Lib.hid E2
        clear hq
        go_wp2
        go_ret
        exact ⟨ret_int E1.out.symm, by rw [E2.out]; exact h4.below B7, only_wide (only_trans g4 (only_below B7))⟩
      | false =>
        have HQ := Lib.hid hq
        clear hq
        have p7 := p0.bel k7
        have r7 := r0.bel k7
        obtain ⟨t0, t1', _⟩ := id p7
        obtain ⟨u0, u1, _⟩ := id r7
        go_wp2_with fail
        refine (join_any J.1 J.2 y.1 y.2 w7 m1 m2 m3 m4 (by omega) (by omega) (by omega) (by omega)).mono ?_
        rintro e w8 ⟨rfl, k8⟩
        have p8 := p7.bel k8
        have B8 := B7.trans (k8.mono B7.size)
        obtain ⟨n0, n1', n2'⟩ := id p8
        have fz0 := n2' 0
        have fz1 := n2' 1
        clear t0 t1' u0 u1 n2'
        go_wp2_with fail
        go_roundw
        case rel =>
          refine ⟨k + 1, by omega, by go_num, bset (bset B8 w4.heap.size 0 (Nat.le_refl _) _) w4.heap.size 1 (Nat.le_refl _) _, ?_, ?_, Lib.hid (fun i hi h => ?_)⟩
          · have := k8.size
            have := k7.size
            simp [World.setCell]
            omega
          · rw [FS.out]
            exact p8.put _ _
          · by_cases e : i = k
            · subst e
              exact HOV.out.trans HQ.out
            · exact hno.out i hi (by omega)
        case measure => simp [intOf]; omega
    · obtain rfl : k = high (a + z) L - low a L := by omega
      have hbad : bad a (a + z) L = false := by
        unfold bad
        refine any_no fun i hi _ => hno.out i hi ?_
        rw [HML.out] at hi
        exact hi
      have HB := Lib.hid (show giveB A S L a z = true by unfold giveB; rw [HS.out, decide_eq_true H8.out, HH.out, hbad]; rfl)
      have htk : (mid a (a + z) L).take (high (a + z) L - low a L) = mid a (a + z) L := List.take_of_length_le (by rw [HML.out]; exact Nat.le_refl _)
      have HG := Lib.hid (show giveL a (a + z) L = L.take (low a L) ++ ([((((mid a (a + z) L).take (high (a + z) L - low a L)).foldl join (a, a + z - a)).1, (((mid a (a + z) L).take (high (a + z) L - low a L)).foldl join (a, a + z - a)).2)] ++ L.drop (high (a + z) L)) by rw [htk]; rfl)
      clear htk hbad hlt
      generalize ((mid a (a + z) L).take (high (a + z) L - low a L)).foldl join (a, a + z - a) = J at *
      obtain ⟨t0, t1', _⟩ := id hJ
      have h6 := (h4.below hb).alloc (.cells #[.int .i64 J.1, .int .i64 J.2] 46)
      have g6 : w.grownBy (wr.alloc (.cells #[.int .i64 J.1, .int .i64 J.2] 46)) none := only_alloc (only_trans g4 (only_below hb)) _
      have X6 := one_row wr J.1 J.2
      go_wp2_with fail
      generalize wr.alloc (.cells #[.int .i64 J.1, .int .i64 J.2] 46) = W6 at *
      (with_reducible refine (replace_at W6 Y B K A S L [(J.1, J.2)] (low a L) (high (a + z) L) (low a L : Nat) (high (a + z) L : Nat) _ rfl rfl h6 (by have := g6.size; omega) hlh hhl X6 (by simp) (by omega)).mono ?_)
      rintro e w9 ⟨rfl, h9, g9⟩
      go_wp2
      go_ret
      exact ⟨ret_int (by unfold giveE; rw [if_pos HB.out]), by unfold giveF; rw [if_pos HB.out, HG.out]; exact h9, only_trans (only_wide g6) g9⟩

theorem give_any (w : World) (Y : Ly) (B K : Nat) (A S : Int) (L : List E) (a z : Int) (h : Gr w Y B K A S L) (hK : K < w.heap.size) (ok : Ok A S L) (a1 : -9223372036854775808 ≤ a) (a2 : a ≤ 9223372036854775807) (z1 : -9223372036854775808 ≤ z) (z2 : z ≤ 9223372036854775807) :
    Calls Try.prog 50 #[.pointer (some ⟨B, Y.o, none⟩), .int .i64 a, .int .i64 z] w fun e w' => e = .returned (.int .i64 (giveE A S L a z)) ∧ Gr w' Y B K A S (giveF A S L a z) ∧ w.grownBy w' (some B) := by
  cases hs : sizeB z with
  | false => exact give_ref w Y B K A S L a z h hK ok a1 a2 z1 z2 (.inl hs)
  | true =>
    by_cases h8 : a % 8 = 0
    · cases hh : hasB A S a z with
      | false => exact give_ref w Y B K A S L a z h hK ok a1 a2 z1 z2 (.inr (.inr ⟨hs, h8, hh⟩))
      | true => exact give_go w Y B K A S L a z h hK ok hs h8 hh
    · exact give_ref w Y B K A S L a z h hK ok a1 a2 z1 z2 (.inr (.inl ⟨hs, h8⟩))
end Go.Proofs.Ytkkmhapfhnnooaa.Gr
