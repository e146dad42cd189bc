/-
  Contract of package scopes: New, at every plan that may be.
-/
import Derived.Test.YtneggppfffekdaaGreatScoF
import Derived.Test.YtneggppfffekdaaGreatScoE
import Derived.Test.YtneggppfffekdaaGreatNump
import Derived.Test.YtneggppfffekdaaGreatBase
namespace Go.Proofs.YtneggppfffekdaaGreat.Sco
open Go.ChangeShapes Go.WideShapes Go.ChangeAt Go.RowKit
open Slic Gm Held
set_option linter.unusedVariables false
set_option maxRecDepth 8000
set_option linter.unusedSimpArgs false
attribute [local go_sem ↓] Go.wp_at_zero Go.wp_at_succ

def free0 : Cx := ⟨0, 0, -1, 0, 0, 0⟩
theorem start_set (n : Nat) (hn : 1 ≤ n) (A S I J : Int) : (List.replicate n free0).set 0 ⟨2, 1, -1, 0, I, J⟩ = (start n A S I J).R := by
  obtain ⟨m, rfl⟩ : ∃ m, n = m + 1 := ⟨n - 1, by omega⟩
  rfl
theorem start_L (n : Nat) (A S I J : Int) (hS : 0 ≤ S) : Gr.newL A S = (start n A S I J).L := by
  unfold Gr.newL start
  by_cases h : S = 0
  · rw [if_pos h]
    simp only [h]
    rfl
  · rw [if_neg h]
    simp only [show 0 < S by omega, if_true]
/-- A ground, copied into a struct with the row of records. -/
theorem boxed {w : World} {Bg g n : Nat} {A S : Int} {L : List E} {v : Value} (h : w.rowIs Bg 111 3 (Gr.y0.hd A S v)) (hE : Gr.Ex w v L) (hT : Gr.Ty w v) :
    Gr.Gr (w.alloc (.cells #[.slice (some ⟨g, 0, none⟩) n n, .int .i64 A, .int .i64 S, v] 113)) (ly yS g n) w.heap.size w.heap.size A S L := by
  have hne : v.ownBlock ≠ some w.heap.size := fun e => by have := hE.lt e; omega
  refine ⟨v, World.rowIs_alloc w _ _ _ (fun i hi => ?_), hE.alloc _, hne, hne, hT.keep fun q hq => Below.heap_alloc w _ q (hE.lt hq)⟩
  have hi' : i < 4 := hi
  have : i = 0 ∨ i = 1 ∨ i = 2 ∨ i = 3 := by omega
  rcases this with rfl | rfl | rfl | rfl <;> rfl

theorem new_end {w w3 w5 W6 : World} {Bg g n cv : Nat} {V : Option Addr} {A S : Int} {F : Fo} (B6 : Below w.heap.size w w5) (hR5 : w5.rowIs Bg Gr.y0.T Gr.y0.n (Gr.y0.hd A S (.slice V F.L.length cv))) (hE5 : Gr.Ex w5 (.slice V F.L.length cv) F.L) (hT5 : Gr.Ty w5 (.slice V F.L.length cv))
    (hlt : ∀ {q : Nat}, (Value.slice V F.L.length cv).ownBlock = some q → q < w3.heap.size) (hgb : w3.heap.size + 1 ≤ g) (lt3 : Bg < w3.heap.size) (bw2 : w.heap.size ≤ w3.heap.size) (C : Cg w5 W6 g n F.R) (Bn : Nat) (hBn : W6.heap.size = Bn) :
    Sc (W6.alloc (.cells #[.slice (some ⟨g, 0, none⟩) n n, .int .i64 A, .int .i64 S, .slice V F.L.length cv] 113)) yS Bn g Bn n A S F ∧ w.heap.size ≤ Bn ∧ w.heap.size ≤ g ∧
      Below w.heap.size w (W6.alloc (.cells #[.slice (some ⟨g, 0, none⟩) n n, .int .i64 A, .int .i64 S, .slice V F.L.length cv] 113)) := by
  subst hBn
  have B7 := C.only.below_of B6 B6.size (fun x hx => by have := List.mem_singleton.1 hx; omega)
  have hR7 := hR5.of_block (C.only.block Bg hR5.lt (by simp; omega))
  have hE7 := hE5.keep C.only.size (fun q hq => C.only.block q (hE5.lt hq) (by
    have := hlt hq
    simp
    omega))
  have hT7 := hT5.keep (fun q hq => C.only.block q (hE5.lt hq) (by
    have := hlt hq
    simp
    omega))
  have hg6 : g < W6.heap.size := Nat.lt_of_lt_of_le C.lt C.only.size
  exact ⟨⟨C.len, boxed hR7 hE7 hT7, own_block C.row (Below.heap_alloc _ _ g hg6)⟩, B7.size, by omega, B7.alloc B7.size _⟩

set_option maxRecDepth 8000 in
set_option maxHeartbeats 8000000 in
theorem new_any (w : World) (s t i h : Int) (hr : Plan.rightB s t i h = true) :
    Calls Tryz.prog 39 #[.agg #[.int .i64 s, .int .i64 t, .int .i64 i, .int .i64 h]] w fun e w' => ∃ B g, e = .returned (.tuple #[ptr B, .int .i64 0]) ∧ Sc w' yS B g B s.toNat (64 * s + i) h (start s.toNat (64 * s + i) h (64 * s) i) ∧ w.heap.size ≤ B ∧ w.heap.size ≤ g ∧ Below w.heap.size w w' := by
  obtain ⟨r1, r2, r3, r4, r5, r6, r7, r8, r9, r10⟩ := Plan.rbounds hr
  have hI := Lib.hid (show Plan.immV s t i h = ⟨64 * s, i, 0⟩ by unfold Plan.immV; rw [if_pos hr])
  have hH := Lib.hid (show Plan.heapV s t i h = ⟨64 * s + i, h, 0⟩ by unfold Plan.heapV; rw [if_pos hr])
  obtain ⟨n, rfl⟩ : ∃ n : Nat, s = n := ⟨s.toNat, by omega⟩
  have S0 := (St.start w).new [.int .i64 (n : Int), .int .i64 t, .int .i64 i, .int .i64 h] 23
  obtain ⟨_, c0, c1, c2, c3⟩ := S0.get4 0 rfl
  go_enter Tryz.func39, Tryz.ntmps39
  go_wp2_with fail
  refine (lift S0 (Plan.imm_any (n : Int) t i h _)).mono ?_
  rintro e w1 ⟨rfl, S1⟩
  rw [hI.out]
  have S2 := S1.new [.int .i64 (64 * (n : Int)), .int .i64 i] 109
  obtain ⟨_, c0, c1, c2, c3⟩ := S2.get4 1 rfl
  go_wp2_with fail
  refine (lift S2 (Plan.heap_any (n : Int) t i h _)).mono ?_
  rintro e w2 ⟨rfl, S3⟩
  rw [hH.out]
  have S4 := S3.new [.int .i64 (64 * (n : Int) + i), .int .i64 h] 109
  obtain ⟨_, d0, d1⟩ := S4.get2 0 rfl
  go_wp2_with fail
  have bA : Gr.boundB (64 * (n : Int) + i) = true := decide_eq_true (by omega)
  have bS : Gr.boundB h = true := decide_eq_true (by omega)
  have EL := Lib.hid (start_L n (64 * (n : Int) + i) h (64 * (n : Int)) i r8)
  have ES := Lib.hid (start_set n (by omega) (64 * (n : Int) + i) h (64 * (n : Int)) i)
  refine (Gr.new_at _ (64 * (n : Int) + i) h _ bA bS (Nat.le_refl _)).mono ?_
  rintro e w3 ⟨rfl, G3, B3, lt3⟩
  have S5 := S4.call B3
  obtain ⟨v, hR, hE, _, _, hT⟩ := G3
  rw [EL.out] at hE
  obtain ⟨V, cv, rfl⟩ := hE.form
  clear c0 c1 c2 c3 d0 d1
  obtain ⟨_, c0, c1, c2, c3⟩ := S5.get4 2 rfl
  have bw2 : w2.heap.size < w3.heap.size := (S5.get 0 rfl).lt
  have S6 := S5.new [.int .i64 0, .int .i64 0, .int .i64 (-1), .int .i64 0, .int .i64 0, .int .i64 0] 157
  have hsr : Sr kD (w3.alloc (.cells #[.int .i64 0, .int .i64 0, .int .i64 (-1), .int .i64 0, .int .i64 0, .int .i64 0] 157)) (.slice (some ⟨w3.heap.size, 0, none⟩) 1 1) [free0] :=
    (Own.lit (K := kD) w3 0 (Nat.zero_le _) [free0] _ rfl (by decide) 1 rfl).sr
  have c0' := Gr.cell_alloc c0 (.cells #[.int .i64 0, .int .i64 0, .int .i64 (-1), .int .i64 0, .int .i64 0, .int .i64 0] 157)
  simp only [World.size_alloc] at hR
  go_wp2_with fail
  refine (repeat_any _ w3.heap.size 1 n free0 hsr (by omega) (by omega)).mono ?_
  rintro e w5 ⟨g, rfl, hg1, O5, B5⟩
  have S7 := S6.call B5
  have hR5 := (hR.alloc (.cells #[.int .i64 0, .int .i64 0, .int .i64 (-1), .int .i64 0, .int .i64 0, .int .i64 0] 157)).of_block (B5.block (w2.heap.size + 1) (by rw [World.size_alloc]; omega))
  have hE5 := (hE.alloc (.cells #[.int .i64 0, .int .i64 0, .int .i64 (-1), .int .i64 0, .int .i64 0, .int .i64 0] 157)).below B5
  have hT5 := hT.keep (w' := w5) (fun q hq => (B5.block q (by have := hE.lt hq; simp only [World.size_alloc]; omega)).trans (Below.heap_alloc w3 _ q (hE.lt hq)))
  have hgb : w3.heap.size + 1 ≤ g := by simpa using hg1
  have lt5 : g < w5.heap.size := (O5.lt g rfl).2
  have hr0 : (List.replicate n free0)[0]? = some free0 := by rw [List.getElem?_replicate, if_pos (by omega)]
  have C5 : Cg w5 w5 g n (List.replicate n free0) := ⟨lt5, by simp, Only.refl _ _, O5.zero (Nat.zero_le _)⟩
  have C6 := (C5.put4 0 hr0 2 1 (-1) 0).put2 0 (set_read hr0 _) (64 * (n : Int)) i
  rw [List.set_set] at C6
  simp only [Nat.zero_mul, Nat.zero_add] at C6
  have C6' : Cg w5 _ g n (start n (64 * (n : Int) + i) h (64 * (n : Int)) i).R := ES.out ▸ C6
  obtain ⟨g', cc, e, _, _, _, _, hf, hc⟩ := O5.form (by simp; omega)
  injection e with e e2 e3
  clear e2 e3
  injection e with e
  injection e with e
  subst e
  have hl0 : 0 < (List.replicate n free0).length := by simp; omega
  have y0 := hc 0 0 _ hl0 (by simp only [List.getElem_replicate]; rfl)
  have y1 := hc 0 1 _ hl0 (by simp only [List.getElem_replicate]; rfl)
  have y2 := hc 0 2 _ hl0 (by simp only [List.getElem_replicate]; rfl)
  have y3 := hc 0 3 _ hl0 (by simp only [List.getElem_replicate]; rfl)
  have y4 := hc 0 4 _ hl0 (by simp only [List.getElem_replicate]; rfl)
  have y5 := hc 0 5 _ hl0 (by simp only [List.getElem_replicate]; rfl)
  simp only [Nat.zero_mul, Nat.zero_add] at y0 y1 y2 y3 y4 y5
  have k0 := hf 0
  have k1 := hf 1
  have k2 := hf 2
  have k3 := hf 3
  have k4 := hf 4
  have k5 := hf 5
  clear hc hf c0 c1 c2 c3 c0'
  obtain ⟨_, m0, m1⟩ := S7.get2 2 rfl
  have v0 : w5.cell? ⟨w2.heap.size + 1, 0, none⟩ = some (.int .i64 (64 * (n : Int) + i)) := Gr.Ly.cell0 hR5
  have v1 : w5.cell? ⟨w2.heap.size + 1, 1, none⟩ = some (.int .i64 h) := Gr.Ly.cell1 hR5
  have v2 : w5.cell? ⟨w2.heap.size + 1, 2, none⟩ = some (.slice V (start n (64 * (n : Int) + i) h (64 * (n : Int)) i).L.length cv) := Gr.Ly.cell2 hR5
  have hne1 : w2.heap.size + 1 ≠ g := by omega
  have hne2 : g ≠ w2.heap.size + 1 := by omega
  have HC := Lib.hid C6'
  have HO := Lib.hid O5
  generalize hF : start n (64 * (n : Int) + i) h (64 * (n : Int)) i = F0 at *
  have HF := Lib.hid hF
  clear hF C6 C5 hr0 C6' O5 hsr
  have l2 := (S5.get 2 rfl).lt
  have l3 := S5.below.size
  have FIN := new_end (w := w) (w3 := w3) (w5 := w5) (Bg := w2.heap.size + 1) (A := 64 * (n : Int) + i) (S := h) (V := V) (cv := cv) (F := F0) S7.below hR5 hE5 hT5 hE.lt hgb (by simpa using lt3) (by omega) HC.out w5.heap.size (by simp [World.setCell])
  clear S0 S1 S2 S3 S4 S5 S6 S7 hR5 hE5 hT5 hR hE hT
  go_wp2
  go_ret2
  rw [Int.toNat_natCast, HF.out]
  exact ⟨_, g, rfl, FIN⟩
end Go.Proofs.YtneggppfffekdaaGreat.Sco
