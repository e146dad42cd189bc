/-
  Contract of package model: New.
-/
import Derived.Test.YtneggppfffekdaaGreatMade
namespace Go.Proofs.YtneggppfffekdaaGreat.Mod
open Go.ChangeShapes Go.WideShapes Go.ChangeAt Go.RowKit Go.Shelf
open Slic Sco
set_option linter.unusedVariables false
set_option linter.unusedSimpArgs false
set_option maxRecDepth 8000
attribute [local go_sem] Oper.semAt_some

theorem thr_cells (n : Nat) (h : n ≤ 4) : (madeCells #[.int .u64 0, .int .u64 0, .int .u64 0, .int .u64 0, .slice none 0 0] (n * 5)).toList = kT.flat (List.replicate n (th0, (none, 0, 0))) := by
  rcases n with _ | _ | _ | _ | _ | n
  all_goals first | omega | kernel_rfl | rfl
theorem are_cells (n : Nat) (h : n ≤ 8) : (madeCells #[.int .u64 0, .int .i64 0, .slice none 0 0] (n * 3)).toList = kA.flat (List.replicate n (ar0, (none, 0, 0))) := by
  rcases n with _ | _ | _ | _ | _ | _ | _ | _ | _ | n
  all_goals first | omega | kernel_rfl | rfl
theorem thr_own (W : World) (b n : Nat) (hb : b ≤ W.heap.size) (hn : n ≤ 4) : Slic.Own kT (W.alloc (.cells (madeCells #[.int .u64 0, .int .u64 0, .int .u64 0, .int .u64 0, .slice none 0 0] (n * 5)) 123)) b (.slice (some ⟨W.heap.size, 0, none⟩) n n) (List.replicate n (th0, (none, 0, 0))) :=
  Slic.Own.lit W b hb _ _ (thr_cells n hn) (by rw [List.length_replicate]; unfold maxLen; omega) n (by rw [List.length_replicate])
theorem are_own (W : World) (b n : Nat) (hb : b ≤ W.heap.size) (hn : n ≤ 8) : Slic.Own kA (W.alloc (.cells (madeCells #[.int .u64 0, .int .i64 0, .slice none 0 0] (n * 3)) 138)) b (.slice (some ⟨W.heap.size, 0, none⟩) n n) (List.replicate n (ar0, (none, 0, 0))) :=
  Slic.Own.lit W b hb _ _ (are_cells n hn) (by rw [List.length_replicate]; unfold maxLen; omega) n (by rw [List.length_replicate])
/-- The worlds behind what is made. -/
def tW (n : Nat) (W : World) : World := W.alloc (.cells (madeCells #[.int .u64 0, .int .u64 0, .int .u64 0, .int .u64 0, .slice none 0 0] (n * 5)) 123)
def aW (n : Nat) (W : World) : World := W.alloc (.cells (madeCells #[.int .u64 0, .int .i64 0, .slice none 0 0] (n * 3)) 138)
def mW (W : World) : World := W.alloc (.map #[] 0)
theorem tW_size (n : Nat) (W : World) : (tW n W).heap.size = W.heap.size + 1 := by simp [tW]
theorem aW_size (n : Nat) (W : World) : (aW n W).heap.size = W.heap.size + 1 := by simp [aW]
theorem mW_size (W : World) : (mW W).heap.size = W.heap.size + 1 := by simp [mW]
theorem tW_below {n : Nat} {W W0 : World} {b : Nat} (h : Below b W0 W) (hb : b ≤ W.heap.size) : Below b W0 (tW n W) := h.alloc hb _
theorem aW_below {n : Nat} {W W0 : World} {b : Nat} (h : Below b W0 W) (hb : b ≤ W.heap.size) : Below b W0 (aW n W) := h.alloc hb _
theorem mW_below {W W0 : World} {b : Nat} (h : Below b W0 W) (hb : b ≤ W.heap.size) : Below b W0 (mW W) := h.alloc hb _
theorem call_below {W W0 W1 : World} {b : Nat} (k : Below W.heap.size W W1) (h : Below b W0 W) (hb : b ≤ W.heap.size) : Below b W0 W1 := h.trans (k.mono hb)
/-- What has grown. -/
theorem gR (W : World) : Below W.heap.size W W := Below.refl _ _
theorem dG {W0 W : World} (h : Below W0.heap.size W0 W) : Below W0.heap.size W0 W.drew := h.drew
theorem tG {n : Nat} {W0 W : World} (h : Below W0.heap.size W0 W) : Below W0.heap.size W0 (tW n W) := tW_below h h.size
theorem aG {n : Nat} {W0 W : World} (h : Below W0.heap.size W0 W) : Below W0.heap.size W0 (aW n W) := aW_below h h.size
theorem mG {W0 W : World} (h : Below W0.heap.size W0 W) : Below W0.heap.size W0 (mW W) := mW_below h h.size
theorem oG {W0 W : World} {o : Obj} (h : Below W0.heap.size W0 W) : Below W0.heap.size W0 (W.alloc o) := h.alloc h.size o
theorem cG {W0 W W1 : World} (k : Below W.heap.size W W1) (h : Below W0.heap.size W0 W) : Below W0.heap.size W0 W1 := call_below k h h.size
theorem thr_mk (n : Nat) (hn : n ≤ 4) (W : World) : (Instr.makeSlice 114 (.int .i64 (n : Int)) (.int .i64 (n : Int))).run Tryz.prog W = .ok (.slice (some ⟨W.heap.size, 0, none⟩) n n) (tW n W) := by
  obtain ⟨i0, hi, hz0, hz1, hz2⟩ := info_parts kT.info
  have := run_make W 114 123 i0 kT.z kT.under hi hz0 .i64 .i64 (n : Int) (n : Int) (by omega) (Int.le_refl _) (by rw [hz2]; show ((56 : Nat) : Int) * (n : Int) ≤ _; omega) (by omega)
  rw [hz1, Int.toNat_natCast, show kT.z.cells = #[.int .u64 0, .int .u64 0, .int .u64 0, .int .u64 0, .slice none 0 0] from by kernel_rfl] at this
  exact this
theorem are_mk (n : Nat) (hn : n ≤ 8) (W : World) : (Instr.makeSlice 115 (.int .i64 (n : Int)) (.int .i64 (n : Int))).run Tryz.prog W = .ok (.slice (some ⟨W.heap.size, 0, none⟩) n n) (aW n W) := by
  obtain ⟨i0, hi, hz0, hz1, hz2⟩ := info_parts kA.info
  have := run_make W 115 138 i0 kA.z kA.under hi hz0 .i64 .i64 (n : Int) (n : Int) (by omega) (Int.le_refl _) (by rw [hz2]; show ((40 : Nat) : Int) * (n : Int) ≤ _; omega) (by omega)
  rw [hz1, Int.toNat_natCast, show kA.z.cells = #[.int .u64 0, .int .i64 0, .slice none 0 0] from by kernel_rfl] at this
  exact this
theorem map_mk (W : World) : (Instr.makeMap 116 none).run Tryz.prog W = .ok (.map (some W.heap.size)) (mW W) := by
  unfold mW
  kernel_rfl
/-- What New tells. -/
def NewP (w : World) (n nt : Nat) (A S I J : Int) (FF : List (List Fina.O)) (e : Ending) (w' : World) : Prop := ∃ Z : Fx, e = .returned (.tuple #[ptr Z.B, .int .i64 0]) ∧ Z.n = n ∧ Z.nt = nt ∧ Z.A = A ∧ Z.S = S ∧ Z.I = I ∧ Z.J = J ∧ Z.FF = FF ∧ Mw w w' Z (newM Z.n Z.nt Z.A Z.S Z.I Z.J) []
set_option maxHeartbeats 1000000 in
/-- All that New lays. -/
theorem new_end {w w3 W Wo w4 : World} {g n nt bt ba bm : Nat} {x y : Tri} {Hs : List Tri} {A S I J : Int} {FF : List (List Fina.O)} (hn : n ≤ 8) (hnt : nt ≤ 4)
    (hs : ∀ (w1 : World) (Y : Fr) (B' : Nat), Below w3.heap.size w3 w1 → w3.heap.size ≤ B' → w1.rowIs B' Y.T Y.m ((ly Y g n).hd A S (sl3 x)) → Sc w1 Y B' g B' n A S (Sco.start n A S I J))
    (hg : w.heap.size ≤ g) (h3 : Below w.heap.size w w3)
    (O4 : Slic.Own Fina.kR w4 Wo.heap.size (sl3 y) Hs) (hl4 : Hs.length = FF.length) (R4 : ∀ (i : Nat) (h : i < Hs.length) (h' : i < FF.length), Slic.Own Fina.kF w4 Wo.heap.size (sl3 Hs[i]) FF[i])
    (k4 : Below w4.heap.size w4 W) (kt : ∃ Wt : World, Below (tW nt Wt).heap.size (tW nt Wt) W ∧ Below w3.heap.size w3 Wt ∧ bt = Wt.heap.size) (ka : ∃ Wa : World, Below (aW n Wa).heap.size (aW n Wa) W ∧ Below w3.heap.size w3 Wa ∧ ba = Wa.heap.size)
    (km : ∃ Wm : World, Below (mW Wm).heap.size (mW Wm) W ∧ Below w3.heap.size w3 Wm ∧ bm = Wm.heap.size) (k : Below w3.heap.size w3 W) :
    NewP w n nt A S I J FF (.returned (.tuple #[.pointer (some ⟨W.heap.size, 0, none⟩), .int .i64 0])) (W.alloc (.cells #[.slice (some ⟨g, 0, none⟩) n n, .int .i64 A, .int .i64 S, sl3 x, sl3 y, .slice (some ⟨bt, 0, none⟩) nt nt, .slice (some ⟨ba, 0, none⟩) n n, .map (some bm)] 118)) := by
  obtain ⟨Wt, kt, kt0, rfl⟩ := kt
  obtain ⟨Wa, ka, ka0, rfl⟩ := ka
  obtain ⟨Wm, km, km0, rfl⟩ := km
  have kt0 := kt0.size
  have ka0 := ka0.size
  have km0 := km0.size
  have kW := below_one W (.cells #[.slice (some ⟨g, 0, none⟩) n n, .int .i64 A, .int .i64 S, sl3 x, sl3 y, .slice (some ⟨Wt.heap.size, 0, none⟩) nt nt, .slice (some ⟨Wa.heap.size, 0, none⟩) n n, .map (some Wm.heap.size)] 118)
  have s3 := h3.size
  have sW := k.size
  refine ⟨⟨W.heap.size, g, Wt.heap.size, Wa.heap.size, Wm.heap.size, n, nt, A, S, I, J, y, FF⟩, rfl, rfl, rfl, rfl, rfl, rfl, rfl, rfl, ?_⟩
  have q4 := call_below kW k4 k4.size
  refine made_any (Z := ⟨W.heap.size, g, Wt.heap.size, Wa.heap.size, Wm.heap.size, n, nt, A, S, I, J, y, FF⟩) (call_below kW (h3.trans (k.mono s3)) (by omega)) (hs _ _ _ (call_below kW k (by omega)) sW ?_) ⟨Hs, (O4.below q4).zero (Nat.zero_le _), hl4, fun i h h' => ((R4 i h h').below q4).zero (Nat.zero_le _)⟩ ?_ ?_ ?_ (by show w.heap.size ≤ W.heap.size; omega) hg (by show w.heap.size ≤ Wt.heap.size; omega) (by show w.heap.size ≤ Wa.heap.size; omega) (by show w.heap.size ≤ Wm.heap.size; omega)
  · refine World.rowIs_alloc W _ _ _ (fun i hi => ?_)
    have hi : i < 8 := hi
    rcases (show i = 0 ∨ i = 1 ∨ i = 2 ∨ i = 3 ∨ i = 4 ∨ i = 5 ∨ i = 6 ∨ i = 7 by omega) with rfl | rfl | rfl | rfl | rfl | rfl | rfl | rfl
    all_goals rfl
  · exact (thr_own Wt 0 nt (Nat.zero_le _) hnt).below (call_below kW kt kt.size)
  · exact (are_own Wa 0 n (Nat.zero_le _) hn).below (call_below kW ka ka.size)
  · refine (Mp.made Wm).block ?_
    have := call_below kW km km.size
    exact this.block _ (by rw [mW_size]; omega)
set_option maxHeartbeats 4000000 in
theorem new_bad (w : World) (s t i h : Int) (v : Value) (FF : List (List Fina.O)) (hF : Fina.Rows w v FF) (hb : Fina.okOs FF) (hr : Plan.rightB s t i h = false ∨ Fina.rightB FF = false) :
    Calls Tryz.prog 16 #[.agg #[.int .i64 s, .int .i64 t, .int .i64 i, .int .i64 h], v] w fun e w' => e = .returned (.tuple #[.pointer none, .int .i64 1]) ∧ Below w.heap.size w w' := by
  have b0 := below_one w (.cells #[.int .i64 s, .int .i64 t, .int .i64 i, .int .i64 h] 23)
  obtain ⟨A, c, rfl, _, _⟩ := hF.form
  cases hp : Plan.rightB s t i h with
  | false =>
    have HP := Lib.hid hp
    go_enter Tryz.func16, Tryz.ntmps16
    go_wp2_with fail
    refine (Plan.right_any s t i h _).mono ?_
    rintro e w1 ⟨rfl, k1⟩
    rw [HP.out]
    go_wp2
    refine bodyPost_ret (v := .tuple #[.pointer none, .int .i64 1]) (by simp [results, Tryz.results16, go_sem]) rfl ⟨rfl, b0.trans (k1.mono (by simp))⟩
  | true =>
    have hr : Fina.rightB FF = false := hr.resolve_left (by rw [hp]; simp)
    have HP := Lib.hid hp
    have HR := Lib.hid hr
    go_enter Tryz.func16, Tryz.ntmps16
    go_wp2_with fail
    refine (Plan.right_any s t i h _).mono ?_
    rintro e w1 ⟨rfl, k1⟩
    rw [HP.out]
    have b1 := b0.trans (k1.mono (by simp))
    go_wp2_with fail
    refine (Fina.right_any w1 _ FF (hF.below b1) hb).mono ?_
    rintro e w2 ⟨rfl, k2⟩
    rw [HR.out]
    go_wp2
    refine bodyPost_ret (v := .tuple #[.pointer none, .int .i64 1]) (by simp [results, Tryz.results16, go_sem]) rfl ⟨rfl, b1.trans (k2.mono b1.size)⟩
set_option maxHeartbeats 8000000 in
theorem new_nat (w : World) (n nt : Nat) (i h : Int) (v : Value) (FF : List (List Fina.O)) (hF : Fina.Rows w v FF) (hb : Fina.okOs FF) (hp : Plan.rightB n nt i h = true) (hr : Fina.rightB FF = true) :
    Calls Tryz.prog 16 #[.agg #[.int .i64 (n : Int), .int .i64 (nt : Int), .int .i64 i, .int .i64 h], v] w (NewP w n nt (64 * (n : Int) + i) h (64 * (n : Int)) i FF) := by
  have b0 := below_one w (.cells #[.int .i64 (n : Int), .int .i64 (nt : Int), .int .i64 i, .int .i64 h] 23)
  obtain ⟨A, c, rfl, _, _⟩ := hF.form
  have HP := Lib.hid hp
  have HR := Lib.hid hr
  have p0 := cell_of (heap_alloc_new w (.cells #[.int .i64 (n : Int), .int .i64 (nt : Int), .int .i64 i, .int .i64 h] 23)) 0 _ rfl
  have p1 := cell_of (heap_alloc_new w (.cells #[.int .i64 (n : Int), .int .i64 (nt : Int), .int .i64 i, .int .i64 h] 23)) 1 _ rfl
  have p2 := cell_of (heap_alloc_new w (.cells #[.int .i64 (n : Int), .int .i64 (nt : Int), .int .i64 i, .int .i64 h] 23)) 2 _ rfl
  have p3 := cell_of (heap_alloc_new w (.cells #[.int .i64 (n : Int), .int .i64 (nt : Int), .int .i64 i, .int .i64 h] 23)) 3 _ rfl
  have l1 : FF.length ≤ 1000 := by
    unfold Fina.rightB at hr
    rw [Bool.and_eq_true] at hr
    have := of_decide_eq_true hr.1
    omega
  have l2 : ∀ L ∈ FF, L.length ≤ 1000 := fun L hL => by
    have := (fok_right hr L hL).2.2
    omega
  go_enter Tryz.func16, Tryz.ntmps16
  go_wp2_with fail
  refine (Plan.right_any n nt i h _).mono ?_
  rintro e w1 ⟨rfl, k1⟩
  rw [HP.out]
  have b1 := b0.trans (k1.mono (by simp))
  go_wp2_with fail
  refine (Fina.right_any w1 _ FF (hF.below b1) hb).mono ?_
  rintro e w2 ⟨rfl, k2⟩
  rw [HR.out]
  have b2 := b1.trans (k2.mono b1.size)
  have k12 := k1.trans (k2.mono k1.size)
  have q0 := (k12.cell (p := ⟨w.heap.size, 0, none⟩) (by simp)).trans p0
  have q1 := (k12.cell (p := ⟨w.heap.size, 1, none⟩) (by simp)).trans p1
  have q2 := (k12.cell (p := ⟨w.heap.size, 2, none⟩) (by simp)).trans p2
  have q3 := (k12.cell (p := ⟨w.heap.size, 3, none⟩) (by simp)).trans p3
  have hlt2 : w.heap.size < w2.heap.size := by have := k12.size; simp at this; omega
  go_wp2_with fail
  refine (Sco.new_any w2 n nt i h hp).mono ?_
  rintro e w3 ⟨B, g, rfl, hs, hB, hg, k3⟩
  obtain ⟨x, s0, s1, s2, s3, mv⟩ := Sc.own4 hs
  have b3 := b2.trans (k3.mono b2.size)
  obtain ⟨r1, r2, r3, r4, r5, r6, r7, r8, r9, r10⟩ := Plan.rbounds hp
  rw [Int.toNat_natCast] at hs s0 mv
  have u0 := (k3.cell (p := ⟨w.heap.size, 0, none⟩) hlt2).trans q0
  have u1 := (k3.cell (p := ⟨w.heap.size, 1, none⟩) hlt2).trans q1
  have mkT := thr_mk nt (by omega)
  have mkA := are_mk n (by omega)
  have mkM := map_mk
  clear p0 p1 p2 p3 q0 q1 q2 q3 b0 b1
  have hFw := hF.below b3
  have hB3 : B < w3.heap.size := by
    have := hs.gr
    obtain ⟨_, hrow, _⟩ := this
    exact hrow.lt
  have hw3 : w.heap.size < w3.heap.size := Nat.lt_of_lt_of_le hlt2 k3.size
  have hgw : w.heap.size ≤ g := Nat.le_trans b2.size hg
  have keep : ∀ W : World, Below w3.heap.size w3 W → W.cell? ⟨w.heap.size, 0, none⟩ = some (.int .i64 (n : Int)) ∧ W.cell? ⟨w.heap.size, 1, none⟩ = some (.int .i64 (nt : Int)) ∧ W.cell? ⟨B, 0, none⟩ = some (.slice (some ⟨g, 0, none⟩) n n) ∧ W.cell? ⟨B, 1, none⟩ = some (.int .i64 (64 * (n : Int) + i)) ∧ W.cell? ⟨B, 2, none⟩ = some (.int .i64 h) ∧ W.cell? ⟨B, 3, none⟩ = some (sl3 x) := fun W k =>
    ⟨(k.cell (p := ⟨w.heap.size, 0, none⟩) hw3).trans u0, (k.cell (p := ⟨w.heap.size, 1, none⟩) hw3).trans u1, (k.cell (p := ⟨B, 0, none⟩) hB3).trans s0, (k.cell (p := ⟨B, 1, none⟩) hB3).trans s1, (k.cell (p := ⟨B, 2, none⟩) hB3).trans s2, (k.cell (p := ⟨B, 3, none⟩) hB3).trans s3⟩
  have hn8 : n ≤ 8 := by omega
  have hnt4 : nt ≤ 4 := by omega
  clear hs HP HR k1 k2 k12 k3 hb hr hF hp hB hg r1 r2 r3 r4 r5 r6 r7 r8 r9 r10 b2 hlt2
  go_wp2_with fail
  go_region_held3 (fun W => W.cell? ⟨w.heap.size, 0, none⟩ = some (.int .i64 (n : Int)) ∧ W.cell? ⟨w.heap.size, 1, none⟩ = some (.int .i64 (nt : Int)) ∧ W.cell? ⟨B, 0, none⟩ = some (.slice (some ⟨g, 0, none⟩) n n) ∧ W.cell? ⟨B, 1, none⟩ = some (.int .i64 (64 * (n : Int) + i)) ∧ W.cell? ⟨B, 2, none⟩ = some (.int .i64 h) ∧ W.cell? ⟨B, 3, none⟩ = some (sl3 x))
    (first | exact keep _ (by (repeat (first | with_reducible exact gR _ | with_reducible refine dG ?_ | with_reducible refine tG ?_ | with_reducible refine aG ?_ | with_reducible refine mG ?_ | with_reducible refine oG ?_ | with_reducible refine cG (by assumption) ?_))) | fail)
    ((go_at_call 40; refine (own_any _ _ FF (hFw.below (by (repeat (first | with_reducible exact gR _ | with_reducible refine dG ?_ | with_reducible refine tG ?_ | with_reducible refine aG ?_ | with_reducible refine mG ?_ | with_reducible refine oG ?_ | with_reducible refine cG (by assumption) ?_)))) l1 l2).mono ?_; rintro e w4 ⟨y, Hs, rfl, O4, hl4, R4, k4⟩))
  all_goals
    go_wp2
    go_ret2
    exact new_end hn8 hnt4 mv hgw b3 O4 hl4 R4 (by (repeat (first | with_reducible exact gR _ | with_reducible refine dG ?_ | with_reducible refine tG ?_ | with_reducible refine aG ?_ | with_reducible refine mG ?_ | with_reducible refine oG ?_ | with_reducible refine cG (by assumption) ?_))) ⟨_, by (repeat (first | with_reducible exact gR _ | with_reducible refine dG ?_ | with_reducible refine tG ?_ | with_reducible refine aG ?_ | with_reducible refine mG ?_ | with_reducible refine oG ?_ | with_reducible refine cG (by assumption) ?_)), by (repeat (first | with_reducible exact gR _ | with_reducible refine dG ?_ | with_reducible refine tG ?_ | with_reducible refine aG ?_ | with_reducible refine mG ?_ | with_reducible refine oG ?_ | with_reducible refine cG (by assumption) ?_)), by rfl⟩ ⟨_, by (repeat (first | with_reducible exact gR _ | with_reducible refine dG ?_ | with_reducible refine tG ?_ | with_reducible refine aG ?_ | with_reducible refine mG ?_ | with_reducible refine oG ?_ | with_reducible refine cG (by assumption) ?_)), by (repeat (first | with_reducible exact gR _ | with_reducible refine dG ?_ | with_reducible refine tG ?_ | with_reducible refine aG ?_ | with_reducible refine mG ?_ | with_reducible refine oG ?_ | with_reducible refine cG (by assumption) ?_)), by rfl⟩ ⟨_, by (repeat (first | with_reducible exact gR _ | with_reducible refine dG ?_ | with_reducible refine tG ?_ | with_reducible refine aG ?_ | with_reducible refine mG ?_ | with_reducible refine oG ?_ | with_reducible refine cG (by assumption) ?_)), by (repeat (first | with_reducible exact gR _ | with_reducible refine dG ?_ | with_reducible refine tG ?_ | with_reducible refine aG ?_ | with_reducible refine mG ?_ | with_reducible refine oG ?_ | with_reducible refine cG (by assumption) ?_)), by rfl⟩ (by (repeat (first | with_reducible exact gR _ | with_reducible refine dG ?_ | with_reducible refine tG ?_ | with_reducible refine aG ?_ | with_reducible refine mG ?_ | with_reducible refine oG ?_ | with_reducible refine cG (by assumption) ?_)))
theorem new_good (w : World) (s t i h : Int) (v : Value) (FF : List (List Fina.O)) (hF : Fina.Rows w v FF) (hb : Fina.okOs FF) (hp : Plan.rightB s t i h = true) (hr : Fina.rightB FF = true) :
    Calls Tryz.prog 16 #[.agg #[.int .i64 s, .int .i64 t, .int .i64 i, .int .i64 h], v] w fun e w' => ∃ Z : Fx, e = .returned (.tuple #[ptr Z.B, .int .i64 0]) ∧ Z.n = s.toNat ∧ Z.nt = t.toNat ∧ Z.A = 64 * s + i ∧ Z.S = h ∧ Z.I = 64 * s ∧ Z.J = i ∧ Z.FF = FF ∧ Mw w w' Z (newM Z.n Z.nt Z.A Z.S Z.I Z.J) [] := by
  obtain ⟨r1, r2, r3, r4, r5, r6, r7, r8, r9, r10⟩ := Plan.rbounds hp
  obtain ⟨n, rfl⟩ : ∃ n : Nat, s = n := ⟨s.toNat, by omega⟩
  obtain ⟨nt, rfl⟩ : ∃ n : Nat, t = n := ⟨t.toNat, by omega⟩
  exact new_nat w n nt i h v FF hF hb hp hr
end Go.Proofs.YtneggppfffekdaaGreat.Mod
