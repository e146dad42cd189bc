/-
  The laws' calls of layer 14: how one begins.
-/
import Derived.Test.YteakglkagmghpaaGreatFouH
namespace Go.Proofs.YteakglkagmghpaaGreat.Fou
open Go.ChangeShapes Go.WideShapes Go.ChangeAt Go.RowKit
open Go.Proofs.YteakglkagmghpaaGreat.Mod Sco Amem Beg
set_option linter.unusedVariables false
set_option linter.unusedSimpArgs false
set_option maxRecDepth 100000
attribute [local go_sem ↓] Go.wp_at_zero Go.wp_at_succ
variable {P : Pn} {f : Nat → Int} {F : Fo} {G : Nat} {w w' : World}
/-- The call that a law makes of a bool and a number. -/
def opA (mk : Bool) (k : Int) : Int := if mk = true then 1 + k % 512 else 1 + k % 8
def opC (mk : Bool) (k : Int) : Ca := ⟨if mk = true then 2 else 3, 0, 0, 0, opA mk k, 0, 0⟩
/-- Whether it goes on. -/
def opB (n : Nat) (mk : Bool) (k : Int) : Bool := mk || decide (opA mk k < (n : Int))
theorem op_beg {n : Nat} (mk : Bool) (k : Int) (n1 : 1 ≤ n) : begV (n : Int) [] (opC mk k) 0 0 = if opB n mk k = true then ⟨0, 1⟩ else ⟨11, 0⟩ := by
  cases mk with
  | true =>
    have h1 : wiE (1 + k % 512) 1 8192 1 = 0 := wi0 (by omega) (by omega)
    have e : wayV (n : Int) [] (opC true k) 0 0 = ⟨1, [0]⟩ := by
      show (⟨1, [wiE (1 + k % 512) 1 8192 1]⟩ : Wa) = _
      rw [h1]
    rw [beg_of e (fir1 0)]
    rfl
  | false =>
    by_cases h : 1 + k % 8 < (n : Int)
    · have h1 : wiE (1 + k % 8) 1 ((n : Int) - 1) 11 = 0 := wi0 (by omega) (by omega)
      have e : wayV (n : Int) [] (opC false k) 0 0 = ⟨1, [0]⟩ := by
        show (⟨1, [wiE (1 + k % 8) 1 ((n : Int) - 1) 11]⟩ : Wa) = _
        rw [h1]
      rw [beg_of e (fir1 0), if_pos (show opB n false k = true by simp [opB, opA, h])]
      rfl
    · have h1 : wiE (1 + k % 8) 1 ((n : Int) - 1) 11 = 11 := wi1 (by omega)
      have e : wayV (n : Int) [] (opC false k) 0 0 = ⟨1, [11]⟩ := by
        show (⟨1, [wiE (1 + k % 8) 1 ((n : Int) - 1) 11]⟩ : Wa) = _
        rw [h1]
      rw [beg_of e (fir1 11), if_neg (show ¬ opB n false k = true by simp [opB, opA, h])]
      rfl
/-- What begun tells. -/
def BegunD (w : World) (n : Nat) (mk : Bool) (k : Int) (e : Ending) (w' : World) : Prop := ∃ A c, e = .returned (runV (ofR (opC mk k) (if opB n mk k = true then ⟨0, 1⟩ else ⟨11, 0⟩) 0 0 0 (.slice A 0 c))) ∧
  Slic.Sr kE w' (.slice A 0 c) [] ∧ (∀ g, (Value.slice A 0 c).ownBlock = some g → w.heap.size ≤ g) ∧ Below w.heap.size w w'
theorem c7 {w0 W : World} {q : Nat} {op a : Int} (A : Held.At w0 W q [.int .u8 op, .int .u8 0, .int .u8 0, .int .u8 0, .int .i64 a, .int .i64 0, .int .i64 0]) : W.cell? ⟨q, 0, none⟩ = some (.int .u8 op) ∧ W.cell? ⟨q, 1, none⟩ = some (.int .u8 0) ∧ W.cell? ⟨q, 2, none⟩ = some (.int .u8 0) ∧ W.cell? ⟨q, 3, none⟩ = some (.int .u8 0) ∧ W.cell? ⟨q, 4, none⟩ = some (.int .i64 a) ∧ W.cell? ⟨q, 5, none⟩ = some (.int .i64 0) ∧ W.cell? ⟨q, 6, none⟩ = some (.int .i64 0) :=
  ⟨A.cell 0 _ rfl, A.cell 1 _ rfl, A.cell 2 _ rfl, A.cell 3 _ rfl, A.cell 4 _ rfl, A.cell 5 _ rfl, A.cell 6 _ rfl⟩
theorem info_call : (Tryz.prog.info? 37).map (·.size) = some 7 := by kernel_rfl
theorem info_plan : (Tryz.prog.info? 23).map (·.size) = some 4 := by kernel_rfl
abbrev call7 (op a : Int) : List Value := [.int .u8 op, .int .u8 0, .int .u8 0, .int .u8 0, .int .i64 a, .int .i64 0, .int .i64 0]
abbrev plan4L (n t i j : Int) : List Value := [.int .i64 n, .int .i64 t, .int .i64 i, .int .i64 j]

theorem St.toFront2 {w0 W : World} {a b c : Nat × List Value} {M : List (Nat × List Value)} (S : Held.St w0 W (a :: b :: c :: M)) : Held.St w0 W (c :: a :: b :: M) := by
  refine ⟨S.below, fun z hz => S.at_ z ?_, ?_⟩
  · simp only [List.mem_cons] at hz ⊢
    rcases hz with h | h | h | h
    · exact .inr (.inr (.inl h))
    · exact .inl h
    · exact .inr (.inl h)
    · exact .inr (.inr (.inr h))
  · have := S.nd
    simp only [List.map_cons, List.nodup_cons, List.mem_cons, not_or] at this ⊢
    exact ⟨⟨fun h => this.1.2.1 h.symm, fun h => this.2.1.1 h.symm, this.2.2.1⟩, ⟨this.1.1, this.1.2.2⟩, this.2.1.2, this.2.2.2⟩
set_option maxHeartbeats 2000000 in
theorem begun_any (w : World) (n : Nat) (t i j : Int) (mk : Bool) (k : Int) (n1 : 1 ≤ n) (n8 : n ≤ 8) :
    Calls Tryz.prog 30 #[planV n t i j, .bool mk, .int .i64 k] w (BegunD w n mk k) := by
  have S0 := ((Held.St.start w).new (plan4L n t i j) 23).new zR 87
  simp only [World.size_alloc] at S0
  have m7 : bits .and .i64 k 7 = k % 8 := Plan.mask_i64 3 (by decide) k
  have m511 : bits .and .i64 k 511 = k % 512 := Plan.mask_i64 9 (by decide) k
  have OB := Lib.hid (op_beg mk k n1)
  cases mk with
  | true =>
    have S1 := S0.new (call7 2 (1 + k % 512)) 37
    simp only [World.size_alloc] at S1
    go_enter Tryz.func30, Tryz.ntmps30
    go_upto_region 4 with (fail)
    obtain ⟨W, hW⟩ : ∃ W : World, W = ((w.alloc (.cells (plan4L n t i j).toArray 23)).alloc (.cells [.int .u8 0, .int .u8 0, .int .u8 0, .int .u8 0, .int .i64 0, .int .i64 0, .int .i64 0, .int .i64 0, .int .i64 0, .int .u64 0, .int .u64 0, .slice none 0 0, .int .u64 0, .int .u64 0, .int .i64 0, .int .i64 0, .slice none 0 0, .int .i64 0, .slice none 0 0, .int .i64 0, .bool false, .bool false, .bool false, .int .i64 0, .int .i64 0, .slice none 0 0].toArray 87)).alloc (.cells (call7 2 (1 + k % 512)).toArray 37) := ⟨_, rfl⟩
    rw [← hW] at S1
    rw [show ((w.alloc (.cells [.int .i64 (n : Int), .int .i64 t, .int .i64 i, .int .i64 j].toArray 23)).alloc (.cells [.int .u8 0, .int .u8 0, .int .u8 0, .int .u8 0, .int .i64 0, .int .i64 0, .int .i64 0, .int .i64 0, .int .i64 0, .int .u64 0, .int .u64 0, .slice none 0 0, .int .u64 0, .int .u64 0, .int .i64 0, .int .i64 0, .slice none 0 0, .int .i64 0, .slice none 0 0, .int .i64 0, .bool false, .bool false, .bool false, .int .i64 0, .int .i64 0, .slice none 0 0].toArray 87)).alloc (.cells [.int .u8 2, .int .u8 0, .int .u8 0, .int .u8 0, .int .i64 (1 + k % 512), .int .i64 0, .int .i64 0].toArray 37) = W from hW.symm]
    clear hW S0
    obtain ⟨p0, p1, p2, p3⟩ := plan4 (S1.get 2 rfl)
    have S2 := S1.new [.int .u64 0, .int .u64 0, .int .u64 0, .int .u64 0] 50
    obtain ⟨q0, q1, q2, q3, q4, q5, q6⟩ := c7 (S2.get 1 rfl)
    have RZ := rows4 (S2.get 0 rfl)
    go_wp2_with fail
    refine (refof_any _ _ [] [0, 0, 0, 0] n t i j 2 0 0 0 (1 + k % 512) 0 0 _ (by omega) (by omega) RZ rfl zeros_wf (Chain.Sr.nil _) (by decide) (by decide) (by decide) (by decide) (by decide)).mono ?_
    rintro e w3 ⟨ch, rfl, O3, OB3, k3⟩
    obtain ⟨A3, c3, rfl, _, _⟩ := O3.form
    dsimp only [List.length_nil] at *
    have EE : ∀ ch, runV (ofR ⟨2, 0, 0, 0, (1 + k % 512), 0, 0⟩ (begV (n : Int) [] ⟨2, 0, 0, 0, (1 + k % 512), 0, 0⟩ (regA [0, 0, 0, 0] 0) (regA [0, 0, 0, 0] 0)) (Chain.areaV []) (regA [0, 0, 0, 0] 0) (regA [0, 0, 0, 0] 0) ch) = runV (ofR (opC true k) (if opB n true k = true then ⟨0, 1⟩ else ⟨11, 0⟩) 0 0 0 ch) := fun ch => by
      rw [← OB.out]
      rfl
    rw [EE]
    clear EE OB
    obtain ⟨CS, hCS⟩ : ∃ CS : List Value, (ofR (opC true k) (if opB n true k = true then ⟨0, 1⟩ else ⟨11, 0⟩) 0 0 0 (.slice A3 0 c3)).cells = CS := ⟨_, rfl⟩
    have CE : runV (ofR (opC true k) (if opB n true k = true then ⟨0, 1⟩ else ⟨11, 0⟩) 0 0 0 (.slice A3 0 c3)) = .agg CS.toArray := by rw [← hCS]; rfl
    have ON : ∀ u ∈ CS, u.oneCell' = true := by rw [← hCS]; exact cells_one rfl rfl rfl rfl
    have LN : CS.length = 26 := by rw [← hCS]; rfl
    rw [CE]
    have CE' := Lib.hid CE
    clear CE hCS
    have S3 := St.toFront2 (S2.call k3)
    have TT : World.there w3 (w.heap.size + 1) 0 CS.toArray.size := by rw [show CS.toArray.size = 26 from LN]; exact at_there (S3.get 0 rfl)
    have IR : (Tryz.prog.info? 87).map (·.size) = some CS.toArray.size := by rw [show CS.toArray.size = 26 from LN]; exact info_run
    have SF := St.fill S3 CS LN
    have RF := at_range (SF.get 0 rfl)
    have ow : w.heap.size + 1 < W.heap.size := (S1.get 1 rfl).lt
    have ow2 := S1.below.size
    have sW : (W.alloc (.cells #[.int .u64 0, .int .u64 0, .int .u64 0, .int .u64 0] 50)).heap.size = W.heap.size + 1 := by simp
    have OW := Lib.hid (show ∀ g, (Value.slice A3 0 c3).ownBlock = some g → w.heap.size ≤ g from fun g hg => by have := OB3 g hg; omega)
    clear sW OB3
    go_wp2_with (refine wpList_store_mid rfl _ _ _ rfl (w.heap.size + 1) 0 CS.toArray rfl rfl TT IR (all_oneCell_toArray ON) ?_)
    refine bodyPost_ret (v := .agg CS.toArray) (results_cell_mid rfl _ _ (w.heap.size + 1) CS _ rfl RF Tryz.underlying87 rfl (by rw [LN]; exact info_run)) rfl ?_
    exact ⟨A3, c3, by rw [CE'.out], sr_nilK O3, OW.out, SF.below⟩
  | false =>
    have S1 := S0.new (call7 3 (1 + k % 8)) 37
    simp only [World.size_alloc] at S1
    go_enter Tryz.func30, Tryz.ntmps30
    go_upto_region 4 with (fail)
    obtain ⟨W, hW⟩ : ∃ W : World, W = ((w.alloc (.cells (plan4L n t i j).toArray 23)).alloc (.cells [.int .u8 0, .int .u8 0, .int .u8 0, .int .u8 0, .int .i64 0, .int .i64 0, .int .i64 0, .int .i64 0, .int .i64 0, .int .u64 0, .int .u64 0, .slice none 0 0, .int .u64 0, .int .u64 0, .int .i64 0, .int .i64 0, .slice none 0 0, .int .i64 0, .slice none 0 0, .int .i64 0, .bool false, .bool false, .bool false, .int .i64 0, .int .i64 0, .slice none 0 0].toArray 87)).alloc (.cells (call7 3 (1 + k % 8)).toArray 37) := ⟨_, rfl⟩
    rw [← hW] at S1
    rw [show ((w.alloc (.cells [.int .i64 (n : Int), .int .i64 t, .int .i64 i, .int .i64 j].toArray 23)).alloc (.cells [.int .u8 0, .int .u8 0, .int .u8 0, .int .u8 0, .int .i64 0, .int .i64 0, .int .i64 0, .int .i64 0, .int .i64 0, .int .u64 0, .int .u64 0, .slice none 0 0, .int .u64 0, .int .u64 0, .int .i64 0, .int .i64 0, .slice none 0 0, .int .i64 0, .slice none 0 0, .int .i64 0, .bool false, .bool false, .bool false, .int .i64 0, .int .i64 0, .slice none 0 0].toArray 87)).alloc (.cells [.int .u8 3, .int .u8 0, .int .u8 0, .int .u8 0, .int .i64 (1 + k % 8), .int .i64 0, .int .i64 0].toArray 37) = W from hW.symm]
    clear hW S0
    obtain ⟨p0, p1, p2, p3⟩ := plan4 (S1.get 2 rfl)
    have S2 := S1.new [.int .u64 0, .int .u64 0, .int .u64 0, .int .u64 0] 50
    obtain ⟨q0, q1, q2, q3, q4, q5, q6⟩ := c7 (S2.get 1 rfl)
    have RZ := rows4 (S2.get 0 rfl)
    go_wp2_with fail
    refine (refof_any _ _ [] [0, 0, 0, 0] n t i j 3 0 0 0 (1 + k % 8) 0 0 _ (by omega) (by omega) RZ rfl zeros_wf (Chain.Sr.nil _) (by decide) (by decide) (by decide) (by decide) (by decide)).mono ?_
    rintro e w3 ⟨ch, rfl, O3, OB3, k3⟩
    obtain ⟨A3, c3, rfl, _, _⟩ := O3.form
    dsimp only [List.length_nil] at *
    have EE : ∀ ch, runV (ofR ⟨3, 0, 0, 0, (1 + k % 8), 0, 0⟩ (begV (n : Int) [] ⟨3, 0, 0, 0, (1 + k % 8), 0, 0⟩ (regA [0, 0, 0, 0] 0) (regA [0, 0, 0, 0] 0)) (Chain.areaV []) (regA [0, 0, 0, 0] 0) (regA [0, 0, 0, 0] 0) ch) = runV (ofR (opC false k) (if opB n false k = true then ⟨0, 1⟩ else ⟨11, 0⟩) 0 0 0 ch) := fun ch => by
      rw [← OB.out]
      rfl
    rw [EE]
    clear EE OB
    obtain ⟨CS, hCS⟩ : ∃ CS : List Value, (ofR (opC false k) (if opB n false k = true then ⟨0, 1⟩ else ⟨11, 0⟩) 0 0 0 (.slice A3 0 c3)).cells = CS := ⟨_, rfl⟩
    have CE : runV (ofR (opC false k) (if opB n false k = true then ⟨0, 1⟩ else ⟨11, 0⟩) 0 0 0 (.slice A3 0 c3)) = .agg CS.toArray := by rw [← hCS]; rfl
    have ON : ∀ u ∈ CS, u.oneCell' = true := by rw [← hCS]; exact cells_one rfl rfl rfl rfl
    have LN : CS.length = 26 := by rw [← hCS]; rfl
    rw [CE]
    have CE' := Lib.hid CE
    clear CE hCS
    have S3 := St.toFront2 (S2.call k3)
    have TT : World.there w3 (w.heap.size + 1) 0 CS.toArray.size := by rw [show CS.toArray.size = 26 from LN]; exact at_there (S3.get 0 rfl)
    have IR : (Tryz.prog.info? 87).map (·.size) = some CS.toArray.size := by rw [show CS.toArray.size = 26 from LN]; exact info_run
    have SF := St.fill S3 CS LN
    have RF := at_range (SF.get 0 rfl)
    have ow : w.heap.size + 1 < W.heap.size := (S1.get 1 rfl).lt
    have ow2 := S1.below.size
    have sW : (W.alloc (.cells #[.int .u64 0, .int .u64 0, .int .u64 0, .int .u64 0] 50)).heap.size = W.heap.size + 1 := by simp
    have OW := Lib.hid (show ∀ g, (Value.slice A3 0 c3).ownBlock = some g → w.heap.size ≤ g from fun g hg => by have := OB3 g hg; omega)
    clear sW OB3
    go_wp2_with (refine wpList_store_mid rfl _ _ _ rfl (w.heap.size + 1) 0 CS.toArray rfl rfl TT IR (all_oneCell_toArray ON) ?_)
    refine bodyPost_ret (v := .agg CS.toArray) (results_cell_mid rfl _ _ (w.heap.size + 1) CS _ rfl RF Tryz.underlying87 rfl (by rw [LN]; exact info_run)) rfl ?_
    exact ⟨A3, c3, by rw [CE'.out], sr_nilK O3, OW.out, SF.below⟩
end Go.Proofs.YteakglkagmghpaaGreat.Fou
