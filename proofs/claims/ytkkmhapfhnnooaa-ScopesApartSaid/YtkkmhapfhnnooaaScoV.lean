/-
  The law's own seen, over what a walk carries.
-/
import Derived.Test.YtkkmhapfhnnooaaScoU
namespace Go.Proofs.Ytkkmhapfhnnooaa.Sco
open Go.ChangeShapes Go.WideShapes Go.ChangeAt Go.RowKit
open Slic Gm
set_option linter.unusedVariables false
set_option linter.unusedSimpArgs false
attribute [local go_sem ↓] Go.wp_at_zero Go.wp_at_succ
section
variable {w0 w w' : World} {B g n : Nat} {A S I J : Int} {F F' : Fo} {bx : List (Nat × List Value × TypeId)}
theorem far_4 {W : World} {g b : Nat} (hne : b ≠ g) (a0 a1 a2 a3 : Nat) (v0 v1 v2 v3 : Value) : ((((W.setCell ⟨g, a0, none⟩ v0).setCell ⟨g, a1, none⟩ v1).setCell ⟨g, a2, none⟩ v2).setCell ⟨g, a3, none⟩ v3).heap[b]? = W.heap[b]? :=
  (heap_setCell_other _ ⟨g, a3, none⟩ b v3 hne).trans ((heap_setCell_other _ ⟨g, a2, none⟩ b v2 hne).trans ((heap_setCell_other _ ⟨g, a1, none⟩ b v1 hne).trans (heap_setCell_other _ ⟨g, a0, none⟩ b v0 hne)))
theorem far_2 {W : World} {g b : Nat} (hne : b ≠ g) (a0 a1 : Nat) (v0 v1 : Value) : ((W.setCell ⟨g, a0, none⟩ v0).setCell ⟨g, a1, none⟩ v1).heap[b]? = W.heap[b]? :=
  (heap_setCell_other _ ⟨g, a1, none⟩ b v1 hne).trans (heap_setCell_other _ ⟨g, a0, none⟩ b v0 hne)
set_option maxRecDepth 20000 in
set_option maxHeartbeats 8000000 in
theorem seen_any (h : So w0 w B g n A S I J F bx) (t i' h' : Int) :
    Calls Try.prog 34 #[ptr B, .agg #[.int .i64 (n : Int), .int .i64 t, .int .i64 i', .int .i64 h']] w fun e w' => e = .returned (.agg (allA F.R)) ∧ Below w.heap.size w w' := by
  have n8 := h.inv.n8
  have hn := h.inv.len
  go_enter Try.func34, Try.ntmps34
  go_wp2_with (first
    | (refine wpList_b48 (o := ⟨some 7, _, _, _, _, _⟩) rfl rfl ?_)
    | (refine wpList_a48 (o := ⟨some 4, _, _, _, _, _⟩) rfl rfl ?_)
    | (refine wpList_a48 (o := ⟨some 5, _, _, _, _, _⟩) rfl rfl ?_)
    | (refine wpList_s48 (o := ⟨none, _, _, _, _, _⟩) rfl (.tmp 5) (.tmp 7) rfl _ cs48 cs48 rfl rfl (heap_alloc_new _ _) cs48_size cs48_size one48 ?_))
  have B3 : Below w.heap.size w ((((w.alloc (.cells #[.int .i64 (n : Int), .int .i64 t, .int .i64 i', .int .i64 h'] 23)).alloc (.cells cs48 63)).alloc (.cells cs48 63)).setRow (w.heap.size + 1 + 1) cs48) :=
    ((((Below.refl w.heap.size w).alloc (Nat.le_refl _) _).alloc (by simp) _).alloc (by simp; omega) _).trans ⟨rfl, rfl, rfl, by simp [World.setRow], fun k hk => setRow_other _ _ k _ (by omega)⟩
  have hb3 : (((w.alloc (.cells #[.int .i64 (n : Int), .int .i64 t, .int .i64 i', .int .i64 h'] 23)).alloc (.cells cs48 63)).alloc (.cells cs48 63)).heap[w.heap.size + 1 + 1]? = some (.cells cs48 63 (0, 0)) := by
    have := heap_alloc_new ((w.alloc (.cells #[.int .i64 (n : Int), .int .i64 t, .int .i64 i', .int .i64 h'] 23)).alloc (.cells cs48 63)) (.cells cs48 63)
    simpa using this
  have hb2 : (((w.alloc (.cells #[.int .i64 (n : Int), .int .i64 t, .int .i64 i', .int .i64 h'] 23)).alloc (.cells cs48 63)).alloc (.cells cs48 63)).heap[w.heap.size + 1]? = some (.cells cs48 63 (0, 0)) := by
    have := heap_alloc_new (w.alloc (.cells #[.int .i64 (n : Int), .int .i64 t, .int .i64 i', .int .i64 h'] 23)) (.cells cs48 63)
    rw [World.size_alloc] at this
    rw [Below.heap_alloc _ _ _ (by simp)]
    exact this
  have hb1 : (((w.alloc (.cells #[.int .i64 (n : Int), .int .i64 t, .int .i64 i', .int .i64 h'] 23)).alloc (.cells cs48 63)).alloc (.cells cs48 63)).heap[w.heap.size]? = some (.cells #[.int .i64 (n : Int), .int .i64 t, .int .i64 i', .int .i64 h'] 23 (0, 0)) := by
    rw [Below.heap_alloc _ _ _ (by simp; omega), Below.heap_alloc _ _ _ (by simp)]
    exact heap_alloc_new w _
  have R3 := row48 F.R (setRow_heap _ _ cs48 cs48 _ _ hb3)
  have Z3 := (setRow_other _ (w.heap.size + 1 + 1) (w.heap.size + 1) cs48 (by omega)).trans hb2
  have P3 := (setRow_other _ (w.heap.size + 1 + 1) w.heap.size cs48 (by omega)).trans hb1
  have L3 : w.heap.size + 1 + 1 < ((((w.alloc (.cells #[.int .i64 (n : Int), .int .i64 t, .int .i64 i', .int .i64 h'] 23)).alloc (.cells cs48 63)).alloc (.cells cs48 63)).setRow (w.heap.size + 1 + 1) cs48).heap.size := R3.lt
  clear hb1 hb2 hb3
  generalize ((((w.alloc (.cells #[.int .i64 (n : Int), .int .i64 t, .int .i64 i', .int .i64 h'] 23)).alloc (.cells cs48 63)).alloc (.cells cs48 63)).setRow (w.heap.size + 1 + 1) cs48) = W3 at *
  go_loopw [6] (fun u wr => ∃ i : Nat, i ≤ n ∧ u = .int .i64 (i : Int) ∧ Below w.heap.size w wr ∧ wr.rowIs (w.heap.size + 1 + 1) 63 48 (cell2 F.R i i) ∧ wr.heap[w.heap.size + 1]? = some (.cells cs48 63 (0, 0)) ∧ wr.heap[w.heap.size]? = some (.cells #[.int .i64 (n : Int), .int .i64 t, .int .i64 i', .int .i64 h'] 23 (0, 0))) (fun u _ => n - (intOf u).toNat)
  case atStart => exact ⟨0, by omega, rfl, B3, R3, Z3, P3⟩
  case round =>
    obtain ⟨i, hi, rfl, hb, hR, hZ, hP⟩ := hrel
    have p0 : wr.cell? ⟨w.heap.size, 0, none⟩ = some (.int .i64 (n : Int)) := by simp [World.cell?, hP]
    by_cases hlt : i < n
    · obtain ⟨x, hx⟩ : ∃ x, F.R[i]? = some x := ⟨_, List.getElem?_eq_getElem (by omega)⟩
      have E := Lib.hid (see_in hx)
      have s2 := hR.lt
      go_wp2_with fail
      refine (ctl_any (h.call hb).sc n8 (i : Int)).mono ?_
      rintro e w1 ⟨rfl, k1⟩
      rw [E.out.1]
      have R1 := hR.of_block (k1.block _ s2)
      have f0 := R1.frozen (i * 4)
      have f1 := R1.frozen (i * 4 + 1)
      have f2 := R1.frozen (i * 4 + 2)
      have f3 := R1.frozen (i * 4 + 3)
      have c0 := R1.cell (i := i * 4) (by omega)
      have c1 := R1.cell (i := i * 4 + 1) (by omega)
      have c2 := R1.cell (i := i * 4 + 2) (by omega)
      have c3 := R1.cell (i := i * 4 + 3) (by omega)
      have R2 := row_c R1 hx (by omega)
      have B2 : Below w.heap.size w ((((w1.setCell ⟨w.heap.size + 1 + 1, i * 4, none⟩ (.int .i64 x.s)).setCell ⟨w.heap.size + 1 + 1, i * 4 + 1, none⟩ (.int .i64 x.c)).setCell ⟨w.heap.size + 1 + 1, i * 4 + 2, none⟩ (.int .i64 x.p)).setCell ⟨w.heap.size + 1 + 1, i * 4 + 3, none⟩ (.int .i64 x.e)) :=
        Gr.bset (Gr.bset (Gr.bset (Gr.bset (hb.trans (k1.mono hb.size)) _ _ (by omega) _) _ _ (by omega) _) _ _ (by omega) _) _ _ (by omega) _
      have Z2 := (far_4 (W := w1) (g := w.heap.size + 1 + 1) (b := w.heap.size + 1) (by omega) (i * 4) (i * 4 + 1) (i * 4 + 2) (i * 4 + 3) (.int .i64 x.s) (.int .i64 x.c) (.int .i64 x.p) (.int .i64 x.e)).trans ((k1.block _ (by omega)).trans hZ)
      have P2 := (far_4 (W := w1) (g := w.heap.size + 1 + 1) (b := w.heap.size) (by omega) (i * 4) (i * 4 + 1) (i * 4 + 2) (i * 4 + 3) (.int .i64 x.s) (.int .i64 x.c) (.int .i64 x.p) (.int .i64 x.e)).trans ((k1.block _ (by omega)).trans hP)
      clear hZ hP hR
      go_wp2_with fail
      generalize ((((w1.setCell ⟨w.heap.size + 1 + 1, i * 4, none⟩ (.int .i64 x.s)).setCell ⟨w.heap.size + 1 + 1, i * 4 + 1, none⟩ (.int .i64 x.c)).setCell ⟨w.heap.size + 1 + 1, i * 4 + 2, none⟩ (.int .i64 x.p)).setCell ⟨w.heap.size + 1 + 1, i * 4 + 3, none⟩ (.int .i64 x.e)) = W2 at *
      refine (ext_any (h.call B2).sc n8 (i : Int)).mono ?_
      rintro e w3 ⟨rfl, k3⟩
      rw [E.out.2]
      have t2 := R2.lt
      have R4 := R2.of_block (k3.block _ t2)
      clear f0 f1 f2 f3 c0 c1 c2 c3
      have f0 := R4.frozen (32 + i * 2)
      have f1 := R4.frozen (32 + i * 2 + 1)
      have c0 := R4.cell (i := 32 + i * 2) (by omega)
      have c1 := R4.cell (i := 32 + i * 2 + 1) (by omega)
      have R5 := row_x R4 hx (by omega)
      have B5 : Below w.heap.size w ((w3.setCell ⟨w.heap.size + 1 + 1, 32 + i * 2, none⟩ (.int .i64 x.a)).setCell ⟨w.heap.size + 1 + 1, 32 + i * 2 + 1, none⟩ (.int .i64 x.z)) :=
        Gr.bset (Gr.bset (B2.trans (k3.mono B2.size)) _ _ (by omega) _) _ _ (by omega) _
      have Z5 := (far_2 (W := w3) (g := w.heap.size + 1 + 1) (b := w.heap.size + 1) (by omega) (32 + i * 2) (32 + i * 2 + 1) (.int .i64 x.a) (.int .i64 x.z)).trans ((k3.block _ (by omega)).trans Z2)
      have P5 := (far_2 (W := w3) (g := w.heap.size + 1 + 1) (b := w.heap.size) (by omega) (32 + i * 2) (32 + i * 2 + 1) (.int .i64 x.a) (.int .i64 x.z)).trans ((k3.block _ (by omega)).trans P2)
      clear Z2 P2 R2 R1
      go_wp2
      go_roundw
      case rel => exact ⟨i + 1, by omega, by go_num, B5, R5, Z5, P5⟩
      case measure => simp [intOf]; omega
    · obtain rfl : i = n := by omega
      rw [← hn] at hR
      have hA := allA_row hR
      have s2 := hR.lt
      have hs := allA_size F.R
      have h1 := allA_one F.R
      generalize hCA : allA F.R = CA at *
      have HCA := Lib.hid hCA
      clear hCA hR
      have HF := Lib.hid (setRow_heap wr (w.heap.size + 1) cs48 CA _ _ hZ)
      have HS := Lib.hid (show (Try.prog.info? 63).map (·.size) = some CA.size by rw [size48, hs])
      go_wp2_with (first
        | (with_reducible refine wpList_l48 (o := ⟨some 32, _, _, _, _, _⟩) rfl (.tmp 5) rfl (w.heap.size + 1 + 1) CA rfl hA hs ?_)
        | (with_reducible refine wpList_s48 (o := ⟨none, _, _, _, _, _⟩) rfl (.tmp 4) (.tmp 32) rfl (w.heap.size + 1) CA cs48 rfl rfl hZ cs48_size hs h1 ?_))
      refine bodyPost_ret (v := .agg CA) (results_cell_row rfl _ _ (w.heap.size + 1) 63 CA (0, 0) _ rfl HF.out Try.underlying63 rfl HS.out) rfl ⟨by rw [HCA.out], ?_⟩
      exact hb.trans ⟨rfl, rfl, rfl, by simp [World.setRow], fun k hk => setRow_other _ _ k _ (by omega)⟩
end
end Go.Proofs.Ytkkmhapfhnnooaa.Sco
