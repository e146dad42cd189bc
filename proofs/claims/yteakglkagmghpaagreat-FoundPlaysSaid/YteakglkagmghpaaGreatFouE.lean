/-
  Package found: New.
-/
import Derived.Test.YteakglkagmghpaaGreatFouD
namespace Go.Proofs.YteakglkagmghpaaGreat.Fou
open Go.ChangeShapes Go.WideShapes Go.ChangeAt Go.RowKit
open Sco Amem Gm
set_option linter.unusedVariables false
set_option linter.unusedSimpArgs false
set_option maxRecDepth 8000
attribute [local go_sem ↓] Go.wp_at_zero Go.wp_at_succ
variable {P : Pn} {f : Nat → Int} {F : Fo} {G : Nat} {w w' : World}
/-- The words of a new arena. -/
def newW (n : Nat) (i : Int) : Nat → Int := putX (fun _ => 0) 0 ⟨2, 1, -1, 0, 64 * (n : Int), i⟩
abbrev planV (n : Nat) (t i j : Int) : Value := .agg #[.int .i64 (n : Int), .int .i64 t, .int .i64 i, .int .i64 j]
def sizeN (n : Nat) (i j : Int) : Nat := ((64 * (n : Int) + i + j) / 8).toNat
theorem newpr {n : Nat} {t i j : Int} (hr : Plan.rightB (n : Int) t i j = true) (B g K : Nat) : Pr ⟨n, t, i, j, B, g, sizeN n i j, K⟩ := by
  obtain ⟨b1, b2, b3, b4, b5, b6, b7, b8, b9, b10⟩ := Plan.rbounds hr
  refine ⟨hr, ?_⟩
  show 8 * (((64 * (n : Int) + i + j) / 8).toNat : Int) = 64 * (n : Int) + i + j
  omega
theorem st_only {X : List Nat} {w0 : World} {L : List (Nat × List Value)} (S : Held.St w0 w L) (k : Only X w w') (h1 : ∀ x ∈ X, w0.heap.size ≤ x) (h2 : ∀ y ∈ L, y.1 ∉ X) : Held.St w0 w' L :=
  ⟨k.below_of S.below S.below.size h1, fun y hy => at_only (S.at_ y hy) k (h2 y hy), S.nd⟩
set_option maxHeartbeats 1000000 in
theorem arenaof_ok (w : World) (n : Nat) (t i j : Int) (hr : Plan.rightB (n : Int) t i j = true) :
    Calls Tryz.prog 67 #[planV n t i j] w fun e w' => ∃ B g, e = .returned (.tuple #[.pointer (some ⟨B, 0, none⟩), .int .i64 0]) ∧ Pn.ar ⟨n, t, i, j, B, g, sizeN n i j, 0⟩ w' (newW n i) ∧ Below w.heap.size w w' ∧ w.heap.size ≤ B ∧ w.heap.size ≤ g := by
  obtain ⟨b1, b2, b3, b4, b5, b6, b7, b8, b9, b10⟩ := Plan.rbounds hr
  have S0 := (Held.St.start w).new [.int .i64 (n : Int), .int .i64 t, .int .i64 i, .int .i64 j] 23
  have HS : Hid (Plan.sizeV (n : Int) t i j = ⟨64 * (n : Int) + i + j, 0⟩) := Lib.hid (by unfold Plan.sizeV; rw [if_pos hr])
  have HI : Hid (Plan.immV (n : Int) t i j = ⟨64 * (n : Int), i, 0⟩) := Lib.hid (by unfold Plan.immV; rw [if_pos hr])
  have R := fun B g => newpr hr B g 0
  have HR := Lib.hid hr
  clear hr
  go_enter Tryz.func67, Tryz.ntmps67
  go_wp2_with fail
  refine (Plan.size_any _ _ _ _ _).mono ?_
  rintro e w1 ⟨rfl, k1⟩
  rw [HS.out]
  have S1 := S0.call k1
  obtain ⟨_, c0, c1, c2, c3⟩ := S1.get4 0 rfl
  go_wp2_with fail
  refine (Plan.imm_any _ _ _ _ _).mono ?_
  rintro e w2 ⟨rfl, k2⟩
  rw [HI.out]
  have S2 := (S1.call k2).new [.int .i64 (64 * (n : Int)), .int .i64 i] 119
  clear c0 c1 c2 c3
  go_wp2_with fail
  refine (Arena.new_at _ _ (sizeN n i j) (by unfold sizeN; omega) (by unfold sizeN; omega)).mono ?_
  rintro e w3 ⟨rfl, a3, k3, s3⟩
  have S3 := S2.call k3
  obtain ⟨_, c0, c1, c2, c3⟩ := S3.get4 1 rfl
  obtain ⟨_, i0, i1⟩ := S3.get2 0 rfl
  have own := S2.below.size
  have S4 := S3.new (blkL ⟨n, t, i, j, (w2.alloc (.cells [.int .i64 (64 * (n : Int)), .int .i64 i].toArray 119)).heap.size + 1, (w2.alloc (.cells [.int .i64 (64 * (n : Int)), .int .i64 i].toArray 119)).heap.size, sizeN n i j, 0⟩) 174
  have a4 := Ar.keep a3 ((Below.refl _ _).alloc (Nat.le_refl _) (.cells (blkL ⟨n, t, i, j, (w2.alloc (.cells [.int .i64 (64 * (n : Int)), .int .i64 i].toArray 119)).heap.size + 1, (w2.alloc (.cells [.int .i64 (64 * (n : Int)), .int .i64 i].toArray 119)).heap.size, sizeN n i j, 0⟩).toArray 174))
  have lg : (w2.alloc (.cells [.int .i64 (64 * (n : Int)), .int .i64 i].toArray 119)).heap.size = w2.heap.size + 1 := by simp
  have le := S2.below.size
  have lw := (S1.call k2).below.size
  have l1 := S1.below.size
  rw [lg] at a4 S4 le s3 a3
  obtain ⟨_, p0⟩ := And.intro trivial ((S4.get 0 rfl).cell 0 _ rfl)
  have p1 := (S4.get 0 rfl).cell 1 _ rfl
  have p2 := (S4.get 0 rfl).cell 2 _ rfl
  have p3 := (S4.get 0 rfl).cell 3 _ rfl
  have p4 := (S4.get 0 rfl).cell 4 _ rfl
  have w0lt : w.heap.size < w2.heap.size := by have := ((S1.call k2).get 0 rfl).lt; exact this
  have hn0 : 0 < n := by omega
  have HN := Lib.hid (show ∀ y ∈ [(w3.heap.size, blkL ⟨n, t, i, j, w2.heap.size + 1 + 1, w2.heap.size + 1, sizeN n i j, 0⟩), (w2.heap.size, [.int .i64 (64 * (n : Int)), .int .i64 i]), (w.heap.size, [.int .i64 (n : Int), .int .i64 t, .int .i64 i, .int .i64 j])], y.1 ∉ [w2.heap.size + 1] from fun y hy => by
    rcases List.mem_cons.1 hy with rfl | hy
    · exact fun e => by have := List.mem_singleton.1 e; dsimp only at this; omega
    · rcases List.mem_cons.1 hy with rfl | hy
      · exact fun e => by have := List.mem_singleton.1 e; dsimp only at this; omega
      · rcases List.mem_cons.1 hy with rfl | hy
        · exact fun e => by have := List.mem_singleton.1 e; dsimp only at this; omega
        · cases hy)
  clear s3
  simp only [lg]
  go_wp2_with fail
  refine (putctl_ok (P := ⟨n, t, i, j, w2.heap.size + 1 + 1, w2.heap.size + 1, sizeN n i j, 0⟩) _ (R _ _) a4 0 hn0 2 1 (-1) 0 (by decide)).mono ?_
  rintro e w5 ⟨rfl, a5, k5⟩
  have S5 := st_only S4 k5 (fun x hx => by rw [List.mem_singleton.1 hx]; omega) HN.out
  clear p0 p1 p2 p3 p4 c0 c1 c2 c3 i0 i1
  obtain ⟨_, i0, i1⟩ := S5.get2 1 rfl
  have B5 := S5.get 0 rfl
  have c0 := B5.cell 0 _ rfl
  have c1 := B5.cell 1 _ rfl
  have c2 := B5.cell 2 _ rfl
  have c3 := B5.cell 3 _ rfl
  have c4 := B5.cell 4 _ rfl
  clear B5
  go_wp2_with fail
  refine (putext_ok (P := ⟨n, t, i, j, w2.heap.size + 1 + 1, w2.heap.size + 1, sizeN n i j, 0⟩) _ (R _ _) a5 0 hn0 (64 * (n : Int)) i (by omega) (by omega) (by omega) (by omega)).mono ?_
  rintro e w6 ⟨rfl, a6, k6⟩
  have S6 := st_only S5 k6 (fun x hx => by rw [List.mem_singleton.1 hx]; omega) HN.out
  go_wp2
  go_ret2
  exact ⟨_, _, rfl, a6, S6.below, by omega, by omega⟩
set_option maxHeartbeats 1000000 in
theorem groundof_ok (w : World) (n : Nat) (t i j : Int) (hr : Plan.rightB (n : Int) t i j = true) (K : Nat) (hK : K < w.heap.size) :
    Calls Tryz.prog 68 #[planV n t i j] w fun e w' => ∃ G, e = .returned (.tuple #[.pointer (some ⟨G, 0, none⟩), .int .i64 0]) ∧ Gr.Gr w' Gr.y0 G K (64 * (n : Int) + i) j (Gr.newL (64 * (n : Int) + i) j) ∧ Below w.heap.size w w' ∧ w.heap.size ≤ G := by
  obtain ⟨b1, b2, b3, b4, b5, b6, b7, b8, b9, b10⟩ := Plan.rbounds hr
  have S0 := (Held.St.start w).new [.int .i64 (n : Int), .int .i64 t, .int .i64 i, .int .i64 j] 23
  have HH : Hid (Plan.heapV (n : Int) t i j = ⟨64 * (n : Int) + i, j, 0⟩) := Lib.hid (by unfold Plan.heapV; rw [if_pos hr])
  clear hr
  have hA : Gr.boundB (64 * (n : Int) + i) = true := decide_eq_true (by omega)
  have hS : Gr.boundB j = true := decide_eq_true (by omega)
  go_enter Tryz.func68, Tryz.ntmps68
  go_wp2_with fail
  refine (Plan.heap_any _ _ _ _ _).mono ?_
  rintro e w1 ⟨rfl, k1⟩
  rw [HH.out]
  have S1 := (S0.call k1).new [.int .i64 (64 * (n : Int) + i), .int .i64 j] 119
  obtain ⟨_, i0, i1⟩ := S1.get2 0 rfl
  have l1 := S1.below.size
  go_wp2_with fail
  refine (Gr.new_at _ _ _ K hA hS (by omega)).mono ?_
  rintro e w2 ⟨rfl, g2, k2, l2⟩
  have S2 := S1.call k2
  go_wp2
  go_ret2
  simp only [World.size_alloc] at g2 l1
  exact ⟨_, rfl, g2, S2.below, l1⟩
theorem wf_new (n : Nat) (A S i : Int) : Wf (newW n i) (Sco.start n A S (64 * (n : Int)) i).R := by
  intro k x hx
  unfold Sco.start at hx
  cases k with
  | zero =>
    obtain rfl := Option.some.inj hx
    exact ⟨rfl, rfl, rfl⟩
  | succ k =>
    have hx' : (List.replicate (n - 1) (⟨0, 0, -1, 0, 0, 0⟩ : Cx))[k]? = some x := hx
    rw [List.getElem?_replicate] at hx'
    split at hx'
    · obtain rfl := Option.some.inj hx'
      unfold newW putX
      refine ⟨?_, ?_, ?_⟩ <;> rw [setF_other _ _ _ _ (by omega), setF_other _ _ _ _ (by omega), setF_other _ _ _ _ (by omega)]
      rfl
    · cases hx'
theorem newl_start {n : Nat} {A S I J : Int} (h : 0 ≤ S) : (Sco.start n A S I J).L = Gr.newL A S := by
  unfold Sco.start Gr.newL
  by_cases e : S = 0
  · subst e
    rfl
  · simp only [show 0 < S by omega, if_true, if_neg e]
/-- What New tells of a plan that may be. -/
def NewD (w : World) (n : Nat) (t i j : Int) (e : Ending) (w' : World) : Prop := ∃ B g G, e = .returned (.tuple #[.pointer (some ⟨B, 0, none⟩), .pointer (some ⟨G, 0, none⟩), .int .i64 0]) ∧
  Fd w' ⟨n, t, i, j, B, g, sizeN n i j, g⟩ G (newW n i) (Sco.start n (64 * (n : Int) + i) j (64 * (n : Int)) i) ∧ Below w.heap.size w w' ∧ w.heap.size ≤ B ∧ w.heap.size ≤ g ∧ w.heap.size ≤ G
set_option maxHeartbeats 1000000 in
theorem new_ok (w : World) (n : Nat) (t i j : Int) (hr : Plan.rightB (n : Int) t i j = true) :
    Calls Tryz.prog 28 #[planV n t i j] w (NewD w n t i j) := by
  obtain ⟨b1, b2, b3, b4, b5, b6, b7, b8, b9, b10⟩ := Plan.rbounds hr
  have S0 := (Held.St.start w).new [.int .i64 (n : Int), .int .i64 t, .int .i64 i, .int .i64 j] 23
  have HR := Lib.hid hr
  have IV := Lib.hid (Sco.start_inv (n := n) (A := 64 * (n : Int) + i) (S := j) (I := 64 * (n : Int)) (J := i) (by omega) (by omega) (by omega) (by omega) (by omega) (by omega) (by omega) (by omega))
  have NL := Lib.hid (newl_start (n := n) (A := 64 * (n : Int) + i) (S := j) (I := 64 * (n : Int)) (J := i) b8)
  have WN := Lib.hid (wf_new n (64 * (n : Int) + i) j i)
  clear hr
  go_enter Tryz.func28, Tryz.ntmps28
  go_wp2_with fail
  refine (arenaof_ok _ n t i j HR.out).mono ?_
  rintro e w1 ⟨B, g, rfl, a1, k1, l1, l2⟩
  have S1 := S0.call k1
  obtain ⟨_, c0, c1, c2, c3⟩ := S1.get4 0 rfl
  have lg := a1.body.lt
  have lb := S0.below.size
  go_wp2_with fail
  refine (groundof_ok _ n t i j HR.out g lg).mono ?_
  rintro e w2 ⟨G, rfl, g2, k2, l3⟩
  have S2 := S1.call k2
  have a2 := Ar.keep a1 k2
  have lc := S1.below.size
  go_wp2
  go_ret3
  exact ⟨_, _, _, rfl, ⟨a2, by rw [NL.out]; exact g2, WN.out, IV.out, Nat.lt_of_lt_of_le lg k2.size⟩, S2.below, by omega, by omega, by omega⟩
end Go.Proofs.YteakglkagmghpaaGreat.Fou
