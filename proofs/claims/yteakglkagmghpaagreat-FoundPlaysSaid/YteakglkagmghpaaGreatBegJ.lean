/-
  BegJ
-/
import Derived.Test.YteakglkagmghpaaGreatBegF
namespace Go.Proofs.YteakglkagmghpaaGreat.Beg
open Go.ChangeShapes Go.WideShapes Go.ChangeAt Go.RowKit
open Go.Proofs.YteakglkagmghpaaGreat.Mod Slic
set_option linter.unusedVariables false
set_option linter.unusedSimpArgs false
set_option maxRecDepth 100000
attribute [local go_sem ↓] Go.wp_at_zero Go.wp_at_succ

set_option maxHeartbeats 3000000 in
theorem reftell_any (op r h y a b c pc area ra rb : Int) (ch : Value) (wo ne at_ top : Int) (li : Value) (o : Int) (sa : Value) (m : Int) (he d p : Bool) (cd an : Int) (as_ : Value) (L : List Chain.E) (LI SA : List Int) (code n : Int) (w : World) (hC : Sr kE w ch L) (hI : Sr Fina.kI w li LI) (hS : Sr Fina.kI w sa SA) (hA : as_.oneCell' = true) :
    Calls Tryz.prog 132 #[runV ⟨⟨op, r, h, y, a, b, c⟩, pc, area, ra, rb, ch, wo, ne, at_, top, li, o, sa, m, he, d, p, cd, an, as_⟩, .int .i64 code, .int .i64 n] w (TellD w ⟨⟨op, r, h, y, a, b, c⟩, pc, area, ra, rb, ch, wo, ne, at_, top, li, o, sa, m, he, d, p, cd, an, as_⟩ L LI SA code n) := by
  have S0 := ((Held.St.start w).new (runG op r h y a b c pc area ra rb ch wo ne at_ top li o sa m he d p cd an as_) 87).new zR 87
  simp only [World.size_alloc] at S0
  obtain ⟨Ac, cc, rfl, _⟩ := hC.form
  obtain ⟨Ai, ci, rfl, _⟩ := hI.form
  obtain ⟨As, cs, rfl, _⟩ := hS.form
  have S1 := ((((((S0.put 1 21 rfl (.bool true) (show 21 < 26 by decide)).put 1 22 rfl (.bool true) (show 22 < 26 by decide))).put 1 23 rfl (.int .i64 code) (show 23 < 26 by decide)).put 1 24 rfl (.int .i64 n) (show 24 < 26 by decide)).put 1 25 rfl (.slice As SA.length cs) (show 25 < 26 by decide))
  have R1 := (S0.get 1 rfl).cell 21 _ rfl
  have R2 := (S0.get 1 rfl).cell 22 _ rfl
  have R3 := (S0.get 1 rfl).cell 23 _ rfl
  have R4 := (S0.get 1 rfl).cell 24 _ rfl
  have R5 := (S0.get 1 rfl).cell 25 _ rfl
  have R6 := (S0.get 1 rfl).cell 18 _ rfl
  have fz := (S0.get 1 rfl).fz
  obtain ⟨W, hW⟩ : ∃ W : World, W = (w.alloc (.cells (runG op r h y a b c pc area ra rb (.slice Ac L.length cc) wo ne at_ top (.slice Ai LI.length ci) o (.slice As SA.length cs) m he d p cd an as_).toArray 87)).alloc (.cells zR.toArray 87) := ⟨_, rfl⟩
  rw [← hW] at S0 S1 R1 R2 R3 R4 R5 R6 fz
  have RR := range_of (St.swap S1)
  have TT : World.there _ (w.heap.size + 1) 0 26 := there_of S1
  have SF := St.fill S1 [.int .u8 op, .int .u8 r, .int .u8 h, .int .u8 y, .int .i64 a, .int .i64 b, .int .i64 c, .int .i64 pc, .int .i64 area, .int .u64 ra, .int .u64 rb, .slice Ac L.length cc, .int .u64 wo, .int .u64 ne, .int .i64 at_, .int .i64 top, .slice Ai LI.length ci, .int .i64 o, .slice As SA.length cs, .int .i64 m, .bool he, .bool true, .bool true, .int .i64 code, .int .i64 n, .slice As SA.length cs] rfl
  have RF := range_of SF
  have ONE : ∀ u ∈ ([.int .u8 op, .int .u8 r, .int .u8 h, .int .u8 y, .int .i64 a, .int .i64 b, .int .i64 c, .int .i64 pc, .int .i64 area, .int .u64 ra, .int .u64 rb, .slice Ac L.length cc, .int .u64 wo, .int .u64 ne, .int .i64 at_, .int .i64 top, .slice Ai LI.length ci, .int .i64 o, .slice As SA.length cs, .int .i64 m, .bool he, .bool true, .bool true, .int .i64 code, .int .i64 n, .slice As SA.length cs] : List Value), u.oneCell' = true := runG_one (op := op) (r := r) (h := h) (y := y) (a := a) (b := b) (c := c) rfl rfl rfl rfl
  have BB := SF.below
  go_enter Tryz.func132, Tryz.ntmps132
  go_upto_region 1 with (fail)
  rw [show (w.alloc (.cells #[.int .u8 op, .int .u8 r, .int .u8 h, .int .u8 y, .int .i64 a, .int .i64 b, .int .i64 c, .int .i64 pc, .int .i64 area, .int .u64 ra, .int .u64 rb, .slice Ac L.length cc, .int .u64 wo, .int .u64 ne, .int .i64 at_, .int .i64 top, .slice Ai LI.length ci, .int .i64 o, .slice As SA.length cs, .int .i64 m, .bool he, .bool d, .bool p, .int .i64 cd, .int .i64 an, as_] 87)).alloc (.cells zR.toArray 87) = W from hW.symm]
  clear hW
  go_upto_region 4 with (fail)
  go_wp2_with (first
    | refine wpList_load_mid rfl _ _ rfl w.heap.size 0 rfl [.int .u8 op, .int .u8 r, .int .u8 h, .int .u8 y, .int .i64 a, .int .i64 b, .int .i64 c, .int .i64 pc, .int .i64 area, .int .u64 ra, .int .u64 rb, .slice Ac L.length cc, .int .u64 wo, .int .u64 ne, .int .i64 at_, .int .i64 top, .slice Ai LI.length ci, .int .i64 o, .slice As SA.length cs, .int .i64 m, .bool he, .bool true, .bool true, .int .i64 code, .int .i64 n, .slice As SA.length cs] _ RR Tryz.underlying87 rfl info_run ?_
    | refine wpList_store_mid rfl _ _ _ rfl (w.heap.size + 1) 0 ([.int .u8 op, .int .u8 r, .int .u8 h, .int .u8 y, .int .i64 a, .int .i64 b, .int .i64 c, .int .i64 pc, .int .i64 area, .int .u64 ra, .int .u64 rb, .slice Ac L.length cc, .int .u64 wo, .int .u64 ne, .int .i64 at_, .int .i64 top, .slice Ai LI.length ci, .int .i64 o, .slice As SA.length cs, .int .i64 m, .bool he, .bool true, .bool true, .int .i64 code, .int .i64 n, .slice As SA.length cs]).toArray rfl rfl TT info_run (all_oneCell_toArray ONE) ?_)
  refine bodyPost_ret (v := runV ⟨⟨op, r, h, y, a, b, c⟩, pc, area, ra, rb, .slice Ac L.length cc, wo, ne, at_, top, .slice Ai LI.length ci, o, .slice As SA.length cs, m, he, true, true, code, n, .slice As SA.length cs⟩) (results_cell_mid rfl _ _ (w.heap.size + 1) [.int .u8 op, .int .u8 r, .int .u8 h, .int .u8 y, .int .i64 a, .int .i64 b, .int .i64 c, .int .i64 pc, .int .i64 area, .int .u64 ra, .int .u64 rb, .slice Ac L.length cc, .int .u64 wo, .int .u64 ne, .int .i64 at_, .int .i64 top, .slice Ai LI.length ci, .int .i64 o, .slice As SA.length cs, .int .i64 m, .bool he, .bool true, .bool true, .int .i64 code, .int .i64 n, .slice As SA.length cs] _ rfl RF Tryz.underlying87 rfl info_run) rfl ?_
  exact ⟨_, _, _, _, rfl, hC.below BB, hI.below BB, hS.below BB, hS.below BB, BB⟩
end Go.Proofs.YteakglkagmghpaaGreat.Beg
