/-
  The document's example at the head of all laws of layer 14.
-/
import Derived.Test.YteakglkagmghpaaGreatFouG
namespace Go.Proofs.YteakglkagmghpaaGreat.Fou
open Go.ChangeShapes Go.WideShapes Go.ChangeAt Go.RowKit
open Go.Proofs.YteakglkagmghpaaGreat.Mod Sco Amem Beg
set_option linter.unusedVariables false
set_option linter.unusedSimpArgs false
set_option maxRecDepth 100000
attribute [local go_sem ↓] Go.wp_at_zero Go.wp_at_succ
variable {P : Pn} {f : Nat → Int} {F : Fo} {G : Nat} {w w' : World}
/-- What a law's walk carries: local blocks, and an arena and a ground of its own that tell a forest. -/
structure Wk (w0 w : World) (L : List (Nat × List Value)) (P : Pn) (G : Nat) (f : Nat → Int) (F : Fo) : Prop where
  st : Held.St w0 w L
  fd : Fd w P G f F
  og : w0.heap.size ≤ P.g
  oG : w0.heap.size ≤ G
  ap : ∀ y ∈ L, y.1 ≠ P.g ∧ y.1 ≠ G
section
variable {w0 : World} {L : List (Nat × List Value)}
theorem Wk.call (S : Wk w0 w L P G f F) (k : Below w.heap.size w w') : Wk w0 w' L P G f F := ⟨S.st.call k, S.fd.keep k, S.og, S.oG, S.ap⟩
theorem Wk.drew (S : Wk w0 w L P G f F) : Wk w0 w.drew L P G f F := S.call (Below.refl _ _).drew
theorem Wk.alloc (S : Wk w0 w L P G f F) (o : Obj) : Wk w0 (w.alloc o) L P G f F := S.call ((Below.refl _ _).alloc (Nat.le_refl _) _)
theorem Wk.new (S : Wk w0 w L P G f F) (vs : List Value) (t : TypeId) : Wk w0 (w.alloc (.cells vs.toArray t)) ((w.heap.size, vs) :: L) P G f F :=
  ⟨S.st.new vs t, (S.alloc _).fd, S.og, S.oG, fun y hy => by
    rcases List.mem_cons.1 hy with rfl | hy
    · have := S.fd.ar.body.lt
      have := S.fd.gr.lt
      exact ⟨by dsimp only; omega, by dsimp only; omega⟩
    · exact S.ap y hy⟩
/-- A block that is made, and stored into as a whole. -/
theorem Wk.made (S : Wk w0 w L P G f F) (zs us : List Value) (t : TypeId) (h : us.length = zs.length) : Wk w0 ((w.alloc (.cells zs.toArray t)).setCells w.heap.size 0 us) ((w.heap.size, us) :: L) P G f F := by
  have SN := S.new zs t
  have k : Below w.heap.size w ((w.alloc (.cells zs.toArray t)).setCells w.heap.size 0 us) := (fill_only _ _ _).below_of ((Below.refl _ _).alloc (Nat.le_refl _) _) (by simp) (fun x hx => by rw [List.mem_singleton.1 hx]; exact Nat.le_refl _)
  exact ⟨St.fill SN.st us h, S.fd.keep k, S.og, S.oG, fun y hy => by
    rcases List.mem_cons.1 hy with rfl | hy
    · exact SN.ap (w.heap.size, zs) (by simp)
    · exact S.ap y hy⟩
theorem Wk.step {f' : Nat → Int} {F' : Fo} (S : Wk w0 w L P G f F) (h : Fd w' P G f' F') (k : Only [P.g, G] w w') : Wk w0 w' L P G f' F' :=
  ⟨st_only S.st k (fun x hx => by
      rcases List.mem_cons.1 hx with rfl | hx
      · exact S.og
      · rw [List.mem_singleton.1 hx]; exact S.oG) (fun y hy e => by
      have := S.ap y hy
      rcases List.mem_cons.1 e with e | e
      · exact this.1 e
      · exact this.2 (List.mem_singleton.1 e)), h, S.og, S.oG, S.ap⟩
theorem Wk.start {w1 : World} {n : Nat} {t i j : Int} (S : Held.St w0 w L) (k : Below w.heap.size w w1) {B g G : Nat} (h : Fd w1 ⟨n, t, i, j, B, g, sizeN n i j, g⟩ G f F) (hg : w.heap.size ≤ g) (hG : w.heap.size ≤ G) : Wk w0 w1 L ⟨n, t, i, j, B, g, sizeN n i j, g⟩ G f F :=
  ⟨S.call k, h, Nat.le_trans S.below.size hg, Nat.le_trans S.below.size hG, fun y hy => by
    have := (S.at_ y hy).lt
    exact ⟨by dsimp only; omega, by omega⟩⟩
end
abbrev st0 (n : Nat) (i j : Int) : Fo := Sco.start n (64 * (n : Int) + i) j (64 * (n : Int)) i
theorem sh1 : (createV (st0 2 0 64) 8).x = 0 ∧ (createV (st0 2 0 64) 8).v = 1 := by decide +kernel
theorem sh2 : (createV (createV (st0 2 0 64) 8).F 8).x = 13 ∧ (createV (createV (st0 2 0 64) 8).F 8).v = 0 := by decide +kernel
set_option maxHeartbeats 2000000 in
theorem shown14_any (w : World) : Calls Tryz.prog 27 #[] w fun e w' => e = .returned (.bool true) ∧ Below w.heap.size w w' := by
  have S0 := (Held.St.start w).new [.int .i64 2, .int .i64 1, .int .i64 0, .int .i64 64] 23
  obtain ⟨_, p0, p1, p2, p3⟩ := S0.get4 0 rfl
  go_enter Tryz.func27, Tryz.ntmps27
  go_wp2_with fail
  refine (new_ok _ 2 1 0 64 (by decide)).mono ?_
  rintro e w1 ⟨B, g, G, rfl, h1, k1, l1, l2, l3⟩
  obtain ⟨F0, hF0⟩ : ∃ F0 : Fo, F0 = Sco.start 2 (64 * ((2 : Nat) : Int) + 0) 64 (64 * ((2 : Nat) : Int)) 0 := ⟨_, rfl⟩
  rw [← hF0] at h1
  have E1 := Lib.hid (show (createV F0 8).x = 0 ∧ (createV F0 8).v = 1 by rw [hF0]; exact sh1)
  have E2 := Lib.hid (show (createV (createV F0 8).F 8).x = 13 ∧ (createV (createV F0 8).F 8).v = 0 by rw [hF0]; exact sh2)
  clear hF0
  obtain ⟨f0, hf0⟩ : ∃ f0 : Nat → Int, f0 = newW 2 0 := ⟨_, rfl⟩
  rw [← hf0] at h1
  clear hf0
  have S1 := Wk.start S0 k1 h1 l2 l3
  have R := newpr (n := 2) (t := 1) (i := 0) (j := 64) (by decide) B g g
  clear p0 p1 p2 p3
  go_upto_region 5 with (fail)
  have S2n := S1.new zR 87
  have S2 := S1.made zR (ofR ⟨2, 0, 0, 0, 8, 0, 0⟩ ⟨0, 1⟩ 0 0 0 (.slice none 0 0)).cells 87 rfl
  have TT2 : World.there (w1.alloc (.cells zR.toArray 87)) w1.heap.size 0 26 := at_there (S2n.st.get 0 rfl)
  obtain ⟨CQ, hCQ⟩ : ∃ CQ : List Value, (ofR ⟨2, 0, 0, 0, 8, 0, 0⟩ ⟨0, 1⟩ 0 0 0 (.slice none 0 0)).cells = CQ := ⟨_, rfl⟩
  rw [hCQ] at S2
  have CE2 : runV (ofR ⟨2, 0, 0, 0, 8, 0, 0⟩ ⟨0, 1⟩ 0 0 0 (.slice none 0 0)) = .agg CQ.toArray := by rw [← hCQ]; rfl
  have O2 : ∀ u ∈ CQ, u.oneCell' = true := by rw [← hCQ]; exact cells_one rfl rfl rfl rfl
  have L2 : CQ.length = 26 := by rw [← hCQ]; rfl
  have IQ : (Tryz.prog.info? 87).map (·.size) = some CQ.toArray.size := by rw [show CQ.toArray.size = 26 from L2]; exact info_run
  have TQ : World.there (w1.alloc (.cells zR.toArray 87)) w1.heap.size 0 CQ.toArray.size := by rw [show CQ.toArray.size = 26 from L2]; exact TT2
  go_upto_region 6 with (refine wpList_store_mid rfl _ _ _ rfl w1.heap.size 0 CQ.toArray rfl CE2 TQ IQ (all_oneCell_toArray O2) ?_)
  obtain ⟨W2, hW2⟩ : ∃ W : World, W = (w1.alloc (.cells [.int .u8 0, .int .u8 0, .int .u8 0, .int .u8 0, .int .i64 0, .int .i64 0, .int .i64 0, .int .i64 0, .int .i64 0, .int .u64 0, .int .u64 0, .slice none 0 0, .int .u64 0, .int .u64 0, .int .i64 0, .int .i64 0, .slice none 0 0, .int .i64 0, .slice none 0 0, .int .i64 0, .bool false, .bool false, .bool false, .int .i64 0, .int .i64 0, .slice none 0 0].toArray 87)).setCells w1.heap.size 0 CQ := ⟨_, rfl⟩
  rw [← hW2] at S2
  rw [show (w1.alloc (.cells [.int .u8 0, .int .u8 0, .int .u8 0, .int .u8 0, .int .i64 0, .int .i64 0, .int .i64 0, .int .i64 0, .int .i64 0, .int .u64 0, .int .u64 0, .slice none 0 0, .int .u64 0, .int .u64 0, .int .i64 0, .int .i64 0, .slice none 0 0, .int .i64 0, .slice none 0 0, .int .i64 0, .bool false, .bool false, .bool false, .int .i64 0, .int .i64 0, .slice none 0 0].toArray 87)).setCells w1.heap.size 0 CQ.toArray.toList = W2 from hW2.symm]
  clear hW2 TQ IQ TT2 S2n
  have P2 := S2.st.get 1 rfl
  have p0 := P2.cell 0 _ rfl
  have p1 := P2.cell 1 _ rfl
  have p2 := P2.cell 2 _ rfl
  have p3 := P2.cell 3 _ rfl
  have RR := at_range (S2.st.get 0 rfl)
  go_wp2_with (refine wpList_load_mid rfl _ _ rfl w1.heap.size 0 rfl CQ _ RR Tryz.underlying87 rfl (by rw [L2]; exact info_run) ?_)
  rw [← CE2]
  refine (step_create _ R S2.fd 0 0 0 8 0 0 0 0 0 0 (.slice none 0 0) (by decide) (by decide) (Slic.Sr.nil _) (fun b e => by cases e)).mono ?_
  rintro e w3 ⟨ch3, li3, sa3, as3, rfl, O3, I3, T3, V3, h3, k3⟩
  have S3 := S2.step h3 k3
  obtain ⟨aA3, an3, rfl, _, _⟩ := O3.form
  obtain ⟨bA3, bn3, rfl, _, _⟩ := I3.form
  obtain ⟨cA3, cn3, rfl, _, _⟩ := T3.form
  obtain ⟨dA3, dn3, rfl, _, _⟩ := V3.form
  dsimp only [List.length_nil] at *
  obtain ⟨CS3, hCS3⟩ : ∃ CS : List Value, (ofT ⟨2, 0, 0, 0, 8, 0, 0⟩ ⟨0, 1⟩ 0 0 0 (createV F0 8).x (createV F0 8).v (.slice aA3 0 an3) (.slice bA3 0 bn3) (.slice cA3 0 cn3) (.slice dA3 0 dn3)).cells = CS := ⟨_, rfl⟩
  have CE3 : runV (ofT ⟨2, 0, 0, 0, 8, 0, 0⟩ ⟨0, 1⟩ 0 0 0 (createV F0 8).x (createV F0 8).v (.slice aA3 0 an3) (.slice bA3 0 bn3) (.slice cA3 0 cn3) (.slice dA3 0 dn3)) = .agg CS3.toArray := by rw [← hCS3]; rfl
  have ON3 : ∀ u ∈ CS3, u.oneCell' = true := by rw [← hCS3]; exact cells_one rfl rfl rfl rfl
  have LN3 : CS3.length = 26 := by rw [← hCS3]; rfl
  have D3 : CS3[21]? = some (.bool true) ∧ CS3[23]? = some (.int .i64 (createV F0 8).x) ∧ CS3[24]? = some (.int .i64 (createV F0 8).v) := by rw [← hCS3]; exact ⟨rfl, rfl, rfl⟩
  rw [CE3]
  clear CE3 hCS3
  have N3 := S3.made zR CS3 87 LN3
  have TT3 : World.there (w3.alloc (.cells zR.toArray 87)) w3.heap.size 0 CS3.toArray.size := by rw [show CS3.toArray.size = 26 from LN3]; exact at_there ((S3.new zR 87).st.get 0 rfl)
  have IR3 : (Tryz.prog.info? 87).map (·.size) = some CS3.toArray.size := by rw [show CS3.toArray.size = 26 from LN3]; exact info_run
  clear p0 p1 p2 p3
  go_upto_region 7 with (refine wpList_store_mid rfl _ _ _ rfl w3.heap.size 0 CS3.toArray rfl rfl TT3 IR3 (all_oneCell_toArray ON3) ?_)
  obtain ⟨W3, hW3⟩ : ∃ W : World, W = (w3.alloc (.cells [.int .u8 0, .int .u8 0, .int .u8 0, .int .u8 0, .int .i64 0, .int .i64 0, .int .i64 0, .int .i64 0, .int .i64 0, .int .u64 0, .int .u64 0, .slice none 0 0, .int .u64 0, .int .u64 0, .int .i64 0, .int .i64 0, .slice none 0 0, .int .i64 0, .slice none 0 0, .int .i64 0, .bool false, .bool false, .bool false, .int .i64 0, .int .i64 0, .slice none 0 0].toArray 87)).setCells w3.heap.size 0 CS3 := ⟨_, rfl⟩
  rw [← hW3] at N3
  rw [show (w3.alloc (.cells [.int .u8 0, .int .u8 0, .int .u8 0, .int .u8 0, .int .i64 0, .int .i64 0, .int .i64 0, .int .i64 0, .int .i64 0, .int .u64 0, .int .u64 0, .slice none 0 0, .int .u64 0, .int .u64 0, .int .i64 0, .int .i64 0, .slice none 0 0, .int .i64 0, .slice none 0 0, .int .i64 0, .bool false, .bool false, .bool false, .int .i64 0, .int .i64 0, .slice none 0 0].toArray 87)).setCells w3.heap.size 0 CS3.toArray.toList = W3 from hW3.symm]
  clear hW3 TT3 IR3
  have P3 := N3.st.get 2 rfl
  have p0 := P3.cell 0 _ rfl
  have p1 := P3.cell 1 _ rfl
  have p2 := P3.cell 2 _ rfl
  have p3 := P3.cell 3 _ rfl
  have RR3 := at_range (N3.st.get 1 rfl)
  go_wp2_with (refine wpList_load_mid rfl _ _ rfl w1.heap.size 0 rfl CQ _ RR3 Tryz.underlying87 rfl (by rw [L2]; exact info_run) ?_)
  rw [← CE2]
  refine (step_create _ R N3.fd 0 0 0 8 0 0 0 0 0 0 (.slice none 0 0) (by decide) (by decide) (Slic.Sr.nil _) (fun b e => by cases e)).mono ?_
  rintro e w4 ⟨ch4, li4, sa4, as4, rfl, O4, I4, T4, V4, h4, k4⟩
  have S4 := N3.step h4 k4
  obtain ⟨aA4, an4, rfl, _, _⟩ := O4.form
  obtain ⟨bA4, bn4, rfl, _, _⟩ := I4.form
  obtain ⟨cA4, cn4, rfl, _, _⟩ := T4.form
  obtain ⟨dA4, dn4, rfl, _, _⟩ := V4.form
  dsimp only [List.length_nil] at *
  obtain ⟨CS4, hCS4⟩ : ∃ CS : List Value, (ofT ⟨2, 0, 0, 0, 8, 0, 0⟩ ⟨0, 1⟩ 0 0 0 (createV (createV F0 8).F 8).x (createV (createV F0 8).F 8).v (.slice aA4 0 an4) (.slice bA4 0 bn4) (.slice cA4 0 cn4) (.slice dA4 0 dn4)).cells = CS := ⟨_, rfl⟩
  have CE4 : runV (ofT ⟨2, 0, 0, 0, 8, 0, 0⟩ ⟨0, 1⟩ 0 0 0 (createV (createV F0 8).F 8).x (createV (createV F0 8).F 8).v (.slice aA4 0 an4) (.slice bA4 0 bn4) (.slice cA4 0 cn4) (.slice dA4 0 dn4)) = .agg CS4.toArray := by rw [← hCS4]; rfl
  have ON4 : ∀ u ∈ CS4, u.oneCell' = true := by rw [← hCS4]; exact cells_one rfl rfl rfl rfl
  have LN4 : CS4.length = 26 := by rw [← hCS4]; rfl
  have D4 : CS4[21]? = some (.bool true) ∧ CS4[23]? = some (.int .i64 (createV (createV F0 8).F 8).x) ∧ CS4[24]? = some (.int .i64 (createV (createV F0 8).F 8).v) := by rw [← hCS4]; exact ⟨rfl, rfl, rfl⟩
  rw [CE4]
  clear CE4 hCS4
  have N4 := S4.made zR CS4 87 LN4
  have TT4 : World.there (w4.alloc (.cells zR.toArray 87)) w4.heap.size 0 CS4.toArray.size := by rw [show CS4.toArray.size = 26 from LN4]; exact at_there ((S4.new zR 87).st.get 0 rfl)
  have IR4 : (Tryz.prog.info? 87).map (·.size) = some CS4.toArray.size := by rw [show CS4.toArray.size = 26 from LN4]; exact info_run
  clear p0 p1 p2 p3
  have x21 := (N4.st.get 1 rfl).cell 21 _ D3.1
  have x24 := (N4.st.get 1 rfl).cell 24 _ D3.2.2
  have x23 := (N4.st.get 0 rfl).cell 23 _ D4.2.1
  rw [E1.out.2] at x24
  rw [E2.out.1] at x23
  go_wp2_with (refine wpList_store_mid rfl _ _ _ rfl w4.heap.size 0 CS4.toArray rfl rfl TT4 IR4 (all_oneCell_toArray ON4) ?_)
  go_ret
  exact ⟨rfl, N4.st.below⟩
end Go.Proofs.YteakglkagmghpaaGreat.Fou
