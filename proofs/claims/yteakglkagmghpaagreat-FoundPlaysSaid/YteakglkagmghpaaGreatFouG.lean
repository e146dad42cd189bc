/-
  Package found: Step, of a call that unmakes a scope.
-/
import Derived.Test.YteakglkagmghpaaGreatFouF
namespace Go.Proofs.YteakglkagmghpaaGreat.Fou
open Go.ChangeShapes Go.WideShapes Go.ChangeAt Go.RowKit
open Go.Proofs.YteakglkagmghpaaGreat.Mod Sco Amem Beg
set_option linter.unusedVariables false
set_option linter.unusedSimpArgs false
set_option maxRecDepth 100000
attribute [local go_sem ↓] Go.wp_at_zero Go.wp_at_succ
variable {P : Pn} {f : Nat → Int} {F : Fo} {G : Nat} {w w' : World}
theorem Fd.drew (h : Fd w P G f F) : Fd w.drew P G f F := h.keep (Below.refl _ _).drew
theorem info_blk : (Tryz.prog.info? 174).map (·.size) = some 5 := by kernel_rfl
set_option maxHeartbeats 2000000 in
theorem step_destroy (w : World) (R : Pr P) (h : Fd w P G f F) (r hh y b c ar ha va cd : Int) (s : Nat) (ch : Value) (s1 : 1 ≤ s) (hC : Slic.Sr kE w ch []) (own : ∀ b, ch.ownBlock = some b → b ∉ [P.g, G]) :
    Calls Tryz.prog 31 #[P.plan, .pointer (some ⟨P.B, 0, none⟩), .pointer (some ⟨G, 0, none⟩), runV (ofR ⟨3, r, hh, y, (s : Int), b, c⟩ ⟨cd, 1⟩ ar ha va ch)] w
      (StepD w P G (destroyW f F s) (destroyV F s).F ⟨3, r, hh, y, (s : Int), b, c⟩ ⟨cd, 1⟩ ar ha va (destroyV F s).x 0 []) := by
  have S0 := (((Lx.start w [P.g, G] (fd_lt h)).new [.int .i64 (P.n : Int), .int .i64 P.t, .int .i64 P.i, .int .i64 P.j] 23).new (stQ 3 r hh y (s : Int) b c ar ha va ch cd) 87).new zR 87
  simp only [World.size_alloc] at S0
  have h0 := h.keep (((Below.refl _ _ |>.alloc (Nat.le_refl _) (.cells [.int .i64 (P.n : Int), .int .i64 P.t, .int .i64 P.i, .int .i64 P.j].toArray 23)) |>.alloc (by simp) (.cells (stQ 3 r hh y (s : Int) b c ar ha va ch cd).toArray 87)) |>.alloc (by simp; omega) (.cells zR.toArray 87))
  have hC0 := hC.below (((Below.refl _ _ |>.alloc (Nat.le_refl _) (.cells [.int .i64 (P.n : Int), .int .i64 P.t, .int .i64 P.i, .int .i64 P.j].toArray 23)) |>.alloc (by simp) (.cells (stQ 3 r hh y (s : Int) b c ar ha va ch cd).toArray 87)) |>.alloc (by simp; omega) (.cells zR.toArray 87))
  rw [stq_run]
  obtain ⟨A1, c1, rfl, _⟩ := hC.form
  dsimp only [List.length_nil] at *
  go_enter Tryz.func31, Tryz.ntmps31
  obtain ⟨W, hW⟩ : ∃ W : World, W = ((w.alloc (.cells [.int .i64 (P.n : Int), .int .i64 P.t, .int .i64 P.i, .int .i64 P.j].toArray 23)).alloc (.cells (stQ 3 r hh y (s : Int) b c ar ha va (.slice A1 0 c1) cd).toArray 87)).alloc (.cells [.int .u8 0, .int .u8 0, .int .u8 0, .int .u8 0, .int .i64 0, .int .i64 0, .int .i64 0, .int .i64 0, .int .i64 0, .int .u64 0, .int .u64 0, .slice none 0 0, .int .u64 0, .int .u64 0, .int .i64 0, .int .i64 0, .slice none 0 0, .int .i64 0, .slice none 0 0, .int .i64 0, .bool false, .bool false, .bool false, .int .i64 0, .int .i64 0, .slice none 0 0].toArray 87) := ⟨_, rfl⟩
  have T0 := typ_new ((w.alloc (.cells [.int .i64 (P.n : Int), .int .i64 P.t, .int .i64 P.i, .int .i64 P.j].toArray 23)).alloc (.cells (stQ 3 r hh y (s : Int) b c ar ha va (.slice A1 0 c1) cd).toArray 87)) [.int .u8 0, .int .u8 0, .int .u8 0, .int .u8 0, .int .i64 0, .int .i64 0, .int .i64 0, .int .i64 0, .int .i64 0, .int .u64 0, .int .u64 0, .slice none 0 0, .int .u64 0, .int .u64 0, .int .i64 0, .int .i64 0, .slice none 0 0, .int .i64 0, .slice none 0 0, .int .i64 0, .bool false, .bool false, .bool false, .int .i64 0, .int .i64 0, .slice none 0 0].toArray 87
  rw [show ((w.alloc (.cells [.int .i64 (P.n : Int), .int .i64 P.t, .int .i64 P.i, .int .i64 P.j].toArray 23)).alloc (.cells (stQ 3 r hh y (s : Int) b c ar ha va (.slice A1 0 c1) cd).toArray 87)).heap.size = w.heap.size + 1 + 1 by simp] at T0
  rw [← hW] at S0 h0 hC0 T0
  go_upto_region 1 with (fail)
  rw [show ((w.alloc (.cells [.int .i64 (P.n : Int), .int .i64 P.t, .int .i64 P.i, .int .i64 P.j].toArray 23)).alloc (.cells (stQ 3 r hh y (s : Int) b c ar ha va (.slice A1 0 c1) cd).toArray 87)).alloc (.cells [.int .u8 0, .int .u8 0, .int .u8 0, .int .u8 0, .int .i64 0, .int .i64 0, .int .i64 0, .int .i64 0, .int .i64 0, .int .u64 0, .int .u64 0, .slice none 0 0, .int .u64 0, .int .u64 0, .int .i64 0, .int .i64 0, .slice none 0 0, .int .i64 0, .slice none 0 0, .int .i64 0, .bool false, .bool false, .bool false, .int .i64 0, .int .i64 0, .slice none 0 0].toArray 87) = W from hW.symm]
  clear hW
  have Q0 := S0.get 1 rfl
  have x0 := Q0.cell 0 _ rfl
  have x4 := Q0.cell 4 _ rfl
  have x7 := Q0.cell 7 _ rfl
  have x21 := Q0.cell 21 _ rfl
  have P0 := S0.get 2 rfl
  have p0 := P0.cell 0 _ rfl
  have p1 := P0.cell 1 _ rfl
  have p2 := P0.cell 2 _ rfl
  have p3 := P0.cell 3 _ rfl
  have S1 := S0.new (blkL P) 174
  have h1 := h0.keep (Below.refl _ _ |>.alloc (Nat.le_refl _) (.cells (blkL P).toArray 174))
  have hC1 := hC0.below (Below.refl _ _ |>.alloc (Nat.le_refl _) (.cells (blkL P).toArray 174))
  have B1 := S1.get 0 rfl
  have d0 := B1.cell 0 _ rfl
  have d1 := B1.cell 1 _ rfl
  have d2 := B1.cell 2 _ rfl
  have d3 := B1.cell 3 _ rfl
  have d4 := B1.cell 4 _ rfl
  have y4 := (S1.get 2 rfl).cell 4 _ rfl
  have y0 := (S1.get 2 rfl).cell 0 _ rfl
  go_upto_region 9 with (fail)
  clear p0 p1 p2 p3 d0 d1 d2 d3 d4 y4
  refine wp_region_held_drew (S := fun W' => W'.rangeAt (w.heap.size + 1) 0 (ofR ⟨3, r, hh, y, (s : Int), b, c⟩ ⟨cd, 1⟩ ar ha va (.slice A1 0 c1)).cells ∧ W'.rangeAt W.heap.size 0 (blkL P)) (by kernel_rfl) ?_ (fun hHeld => ?_)
  · exact ⟨at_range (S1.drew.get 2 rfl), at_range (S1.drew.get 0 rfl)⟩
  refine wpAnyH_take (i := 0) (oi := ⟨some 44, _, _, _, _, _⟩) (v := .agg ((ofR ⟨3, r, hh, y, (s : Int), b, c⟩ ⟨cd, 1⟩ ar ha va (.slice A1 0 c1)).cells).toArray) rfl (by kernel_rfl) (by kernel_rfl) (by kernel_rfl) (fun _ _ _ h => h) (yieldsIf_load_mid (by kernel_rfl) _ _ rfl (w.heap.size + 1) 0 rfl ((ofR ⟨3, r, hh, y, (s : Int), b, c⟩ ⟨cd, 1⟩ ar ha va (.slice A1 0 c1)).cells) _ (fun _ h => h.1) Tryz.underlying87 rfl info_run) (by assumption) ?_
  simp only [Act.put, List.setIfInBounds_toArray, List.set_cons_zero, List.set_cons_succ]
  refine wpAnyH_take (i := 1) (oi := ⟨some 45, _, _, _, _, _⟩) (v := .agg (blkL P).toArray) rfl (by kernel_rfl) (by kernel_rfl) (by kernel_rfl) (fun _ _ _ h => h) (yieldsIf_load_mid (by kernel_rfl) _ _ rfl (W.heap.size) 0 rfl (blkL P) _ (fun _ h => h.2) Tryz.underlying174 rfl info_blk) (by assumption) ?_
  simp only [Act.put, List.setIfInBounds_toArray, List.set_cons_zero, List.set_cons_succ]
  refine wpAnyH_take (i := 2) (oi := ⟨some 46, _, _, _, _, _⟩) (v := ?_) rfl (by kernel_rfl) (by kernel_rfl) (by kernel_rfl) (fun _ _ _ h => h) (Or.inl ⟨by kernel_rfl, ?_⟩) (by assumption) ?_
  rotate_left
  · intro w hSw
    try dsimp only at hSw
    first | (go_simp; done) | (go_simp; with_reducible rfl) | with_reducible rfl
  simp only [Act.put, List.setIfInBounds_toArray, List.set_cons_zero, List.set_cons_succ]
  refine wpAnyH_take (i := 3) (oi := ⟨some 47, _, _, _, _, _⟩) (v := ?_) rfl (by kernel_rfl) (by kernel_rfl) (by kernel_rfl) (fun _ _ _ h => h) (Or.inl ⟨by kernel_rfl, ?_⟩) (by assumption) ?_
  rotate_left
  · intro w hSw
    try dsimp only at hSw
    first | (go_simp; done) | (go_simp; with_reducible rfl) | with_reducible rfl
  simp only [Act.put, List.setIfInBounds_toArray, List.set_cons_zero, List.set_cons_succ]
  refine wpAnyH_take (i := 4) (oi := ⟨some 48, _, _, _, _, _⟩) (v := ?_) rfl (by kernel_rfl) (by kernel_rfl) (by kernel_rfl) (fun _ _ _ h => h) (Or.inl ⟨by kernel_rfl, ?_⟩) (by assumption) ?_
  rotate_left
  · intro w hSw
    try dsimp only at hSw
    first | (go_simp; done) | (go_simp; with_reducible rfl) | with_reducible rfl
  simp only [Act.put, List.setIfInBounds_toArray, List.set_cons_zero, List.set_cons_succ]
  refine wpAnyH_take (i := 5) (oi := ⟨some 49, _, _, _, _, _⟩) (v := ?_) rfl (by kernel_rfl) (by kernel_rfl) (by kernel_rfl) (fun _ _ _ h => h) (Or.inl ⟨by kernel_rfl, ?_⟩) (by assumption) ?_
  rotate_left
  · intro w hSw
    try dsimp only at hSw
    have hS4 : w.cell? ⟨_, 4, none⟩ = some (.int .i64 (s : Int)) := hSw.1 4 _ rfl
    first | (go_simp; done) | (go_simp; with_reducible rfl) | with_reducible rfl
  simp only [Act.put, List.setIfInBounds_toArray, List.set_cons_zero, List.set_cons_succ]
  refine wpAnyH_ready (rs := [6]) (by kernel_rfl) (by simp) ?_
  refine AllReadyH.cons (o := ⟨some 50, _, _, _, _, _⟩) rfl (fun K hK => ?_) AllReadyH.nil
  have h1d := h1.drew
  have S1d := S1.drew
  have hC1d := hC1.drew
  go_simp
  refine (destroy_any _ R h1d s s1).mono ?_
  rintro e w2 ⟨rfl, h2, k2⟩
  have S2 := S1d.go k2
  have hC2 := sr_only hC1d k2 own
  refine hK.out _ _ ?_ (fun hHeld => ?_)
  · exact ⟨at_range (S2.get 2 rfl), at_range (S2.get 0 rfl)⟩
  clear hK K
  refine wpAnyH_ready (rs := [7]) (by kernel_rfl) (by simp) ?_
  refine AllReadyH.cons (o := ⟨some 51, _, _, _, _, _⟩) rfl (fun K hK => ?_) AllReadyH.nil
  go_simp
  refine (tellR_any (ofR ⟨3, r, hh, y, (s : Int), b, c⟩ ⟨cd, 1⟩ ar ha va (.slice A1 0 c1)) [] [] [] (destroyV F s).x 0 _ hC2 (Slic.Sr.nil _) (Slic.Sr.nil _) rfl (by decide) (by decide) (by decide)).mono ?_
  rintro z w3 ⟨ch2, li2, sa2, as2, rfl, O2, I2, T2, V2, k3⟩
  rw [tell_ofR]
  obtain ⟨B1, d1', rfl, _, _⟩ := O2.form
  obtain ⟨B2, d2', rfl, _, _⟩ := I2.form
  obtain ⟨B3, d3', rfl, _, _⟩ := T2.form
  obtain ⟨B4, d4', rfl, _, _⟩ := V2.form
  obtain ⟨CS, hCS⟩ : ∃ CS : List Value, (ofT ⟨3, r, hh, y, (s : Int), b, c⟩ ⟨cd, 1⟩ ar ha va (destroyV F s).x 0 (.slice B1 0 d1') (.slice B2 0 d2') (.slice B3 0 d3') (.slice B4 0 d4')).cells = CS := ⟨_, rfl⟩
  have CE : runV (ofT ⟨3, r, hh, y, (s : Int), b, c⟩ ⟨cd, 1⟩ ar ha va (destroyV F s).x 0 (.slice B1 0 d1') (.slice B2 0 d2') (.slice B3 0 d3') (.slice B4 0 d4')) = .agg CS.toArray := by rw [← hCS]; rfl
  dsimp only [List.length_nil] at *
  rw [CE]
  have L26 : CS.length = 26 := by rw [← hCS]; rfl
  have ONE : ∀ u ∈ CS, u.oneCell' = true := by rw [← hCS]; exact cells_one rfl rfl rfl rfl
  have S3 := (S2.call k3).swap
  refine hK.out _ _ ?_ (fun hHeld => ?_)
  · exact ⟨at_range ((S2.call k3).get 2 rfl), at_range ((S2.call k3).get 0 rfl)⟩
  clear hK K
  refine wpAnyH_ready (rs := [8]) (by kernel_rfl) (by simp) ?_
  refine AllReadyH.cons (o := ⟨none, _, _, _, _, _⟩) rfl (fun K hK => ?_) AllReadyH.nil
  have h3 := h2.keep k3
  have SN := S3
  have AN := SN.get 0 rfl
  have TT : World.there w3 (w.heap.size + 1 + 1) 0 CS.toArray.size := by rw [show CS.toArray.size = 26 from L26]; exact at_there AN
  have IR : (Tryz.prog.info? 87).map (·.size) = some CS.toArray.size := by rw [show CS.toArray.size = 26 from L26]; exact info_run
  have SF := SN.fill CS L26
  have CE' := Lib.hid CE
  have RF := at_range (SF.get 0 rfl)
  have q3 := fill_only w3 (w.heap.size + 1 + 1) CS
  have HL := Lib.hid L26
  have HO := Lib.hid ONE
  clear CE hCS L26 ONE
  rw [if_pos (by rfl)]
  refine wp_store_mid _ _ _ rfl _ 0 CS.toArray rfl rfl TT IR (all_oneCell_toArray HO.out) ?_
  simp only [Act.put]
  refine hK.out _ _ ?_ (fun hHeld => ?_)
  · exact ⟨at_range (SF.get 2 rfl), at_range (SF.get 1 rfl)⟩
  clear hK K
  refine wpAnyH_ready (rs := [9]) (by kernel_rfl) (by simp) ?_
  refine AllReadyH.cons (o := ⟨some 9, _, _, _, _, _⟩) rfl (fun K hK => ?_) AllReadyH.nil
  go_simp
  refine hK.out _ _ ?_ (fun hHeld => ?_)
  · exact ⟨at_range (SF.get 2 rfl), at_range (SF.get 1 rfl)⟩
  clear hK K
  refine wpAnyH_done (by kernel_rfl) ?_ _
  go_wp2_with fail
  refine bodyPost_ret (v := .tuple #[.agg CS.toArray, .int .i64 0]) (results_mid2 rfl _ _ (w.heap.size + 1 + 1) CS _ _ rfl rfl RF Tryz.underlying87 rfl (by rw [HL.out]; exact info_run)) rfl ?_
  exact ⟨_, _, _, _, by rw [CE'.out], sr_nilK O2, sr_nilK I2, sr_nilK T2, sr_nilK V2, fd_local h3 (typ_go (X := []) (typ_go (typ_go (X := []) T0 (Only.below ((Below.refl _ _).alloc (Nat.le_refl _) _).drew) (by simp)) k2 (ar_at (S2.get 1 rfl) S2.old)) (Only.below k3) (by simp)) (by decide) (by decide) (by decide) (by decide) q3, SF.only⟩

end Go.Proofs.YteakglkagmghpaaGreat.Fou
