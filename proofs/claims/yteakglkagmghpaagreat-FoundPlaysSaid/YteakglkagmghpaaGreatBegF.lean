/-
  Contracts of package begin: Tell.
-/
import Derived.Test.YteakglkagmghpaaGreatBegE
namespace Go.Proofs.YteakglkagmghpaaGreat.Beg
open Go.ChangeShapes Go.WideShapes Go.ChangeAt Go.RowKit
open Go.Proofs.YteakglkagmghpaaGreat.Mod Slic
set_option linter.unusedVariables false
set_option linter.unusedSimpArgs false
set_option maxRecDepth 100000
attribute [local go_sem ↓] Go.wp_at_zero Go.wp_at_succ

/-- What Tell leaves: rows of its own. -/
def TellD (w : World) (R : Ru) (L : List Chain.E) (LI SA : List Int) (code n : Int) (e : Ending) (w' : World) : Prop := ∃ ch li said as_, e = .returned (runV ⟨R.c, R.pc, R.area, R.hand, R.val, ch, R.word, R.next, R.at_, R.top, li, R.op, said, R.n, R.held, true, true, code, n, as_⟩) ∧ Sr kE w' ch L ∧ Sr Fina.kI w' li LI ∧ Sr Fina.kI w' said SA ∧ Sr Fina.kI w' as_ SA ∧ Below w.heap.size w w'
def runG (op r h y a b c pc area ra rb : Int) (ch : Value) (wo ne at_ top : Int) (li : Value) (o : Int) (sa : Value) (m : Int) (he d p : Bool) (code an : Int) (as_ : Value) : List Value := [.int .u8 op, .int .u8 r, .int .u8 h, .int .u8 y, .int .i64 a, .int .i64 b, .int .i64 c, .int .i64 pc, .int .i64 area, .int .u64 ra, .int .u64 rb, ch, .int .u64 wo, .int .u64 ne, .int .i64 at_, .int .i64 top, li, .int .i64 o, sa, .int .i64 m, .bool he, .bool d, .bool p, .int .i64 code, .int .i64 an, as_]
theorem runG_one {op r h y a b c pc area ra rb wo ne at_ top o m cd an : Int} {ch li sa as_ : Value} {he d p : Bool} (h1 : ch.oneCell' = true) (h2 : li.oneCell' = true) (h3 : sa.oneCell' = true) (h4 : as_.oneCell' = true) : ∀ u ∈ runG op r h y a b c pc area ra rb ch wo ne at_ top li o sa m he d p cd an as_, u.oneCell' = true := by
  intro u hu
  simp only [runG, List.mem_cons, List.not_mem_nil, or_false] at hu
  rcases hu with rfl | rfl | rfl | rfl | rfl | rfl | rfl | rfl | rfl | rfl | rfl | rfl | rfl | rfl | rfl | rfl | rfl | rfl | rfl | rfl | rfl | rfl | rfl | rfl | rfl | rfl
  all_goals first | rfl | exact h1 | exact h2 | exact h3 | exact h4
section
variable {α : Type} {K : Kd α} {W : World} {v : Value} {M : List α}
theorem own_cell {base b : Nat} (h : Own K W base v M) (hb : b < base) (o : Nat) (x : Value) : Own K (W.setCell ⟨b, o, none⟩ x) base v M :=
  own_off h (Sco.Only.put (X := [b]) _ _ _ _ (by simp)) fun y hy e => by
    rw [List.mem_singleton.1 hy] at e
    have := (h.lt _ e).1
    omega
theorem own3 {q : Nat} {x y z : Value} (h : Own K W (q + 2) v M) : Own K (((W.setCell ⟨q, 11, none⟩ x).setCell ⟨q, 16, none⟩ y).setCell ⟨q, 18, none⟩ z) (q + 2) v M := own_cell (own_cell (own_cell h (by omega) _ _) (by omega) _ _) (by omega) _ _
theorem own4 {q : Nat} {x y z : Value} (h : Own K W (q + 2) v M) : Own K (((W.setCell ⟨q, 23, none⟩ x).setCell ⟨q, 24, none⟩ y).setCell ⟨q, 25, none⟩ z) (q + 2) v M := own_cell (own_cell (own_cell h (by omega) _ _) (by omega) _ _) (by omega) _ _
theorem srF {q : Nat} {us : List Value} (h : Own K W (q + 2) v M) : Sr K (W.setCells (q + 1) 0 us) v M :=
  h.sr.keep (Nat.le_of_eq (setCells_heap _ us 0 W).1.symm) fun g e _ => (setCells_heap _ us 0 W).2 g fun e2 => by
    have := (h.lt _ e).1
    omega
end
def TellC (w : World) (op r h y a b c pc area ra rb : Int) (wo ne at_ top : Int) (o m : Int) (he : Bool) (cd an : Int) (as_ : Value) (L : List Chain.E) (LI SA : List Int) (wx : World) : Prop := ∃ ch li sa, Held.St w wx [(w.heap.size + 1, zR), (w.heap.size, runG op r h y a b c pc area ra rb ch wo ne at_ top li o sa m he true true cd an as_)] ∧ Own kE wx (w.heap.size + 2) ch L ∧ Own Fina.kI wx (w.heap.size + 2) li LI ∧ Own Fina.kI wx (w.heap.size + 2) sa SA
set_option maxHeartbeats 40000000 in
theorem tell_any (op r h y a b c pc area ra rb : Int) (ch : Value) (wo ne at_ top : Int) (li : Value) (o : Int) (sa : Value) (m : Int) (he d p : Bool) (cd an : Int) (as_ : Value) (L : List Chain.E) (LI SA : List Int) (code n : Int) (w : World) (hC : Sr kE w ch L) (hI : Sr Fina.kI w li LI) (hS : Sr Fina.kI w sa SA) (hA : as_.oneCell' = true) (lL : L.length ≤ 100000) (lI : LI.length ≤ 100000) (lS : SA.length ≤ 100000) :
    Calls Tryz.prog 78 #[runV ⟨⟨op, r, h, y, a, b, c⟩, pc, area, ra, rb, ch, wo, ne, at_, top, li, o, sa, m, he, d, p, cd, an, as_⟩, .int .i64 code, .int .i64 n] w (TellD w ⟨⟨op, r, h, y, a, b, c⟩, pc, area, ra, rb, ch, wo, ne, at_, top, li, o, sa, m, he, d, p, cd, an, as_⟩ L LI SA code n) := by
  have S0 := ((Held.St.start w).new (runG op r h y a b c pc area ra rb ch wo ne at_ top li o sa m he d p cd an as_) 87).new zR 87
  simp only [World.size_alloc] at S0
  obtain ⟨Ac, cc, rfl, _⟩ := id hC
  obtain ⟨Ai, ci, rfl, _⟩ := id hI
  obtain ⟨As, cs, rfl, _⟩ := id hS
  have S1 := ((S0.put 1 21 rfl (.bool true) (show 21 < 26 by decide)).put 1 22 rfl (.bool true) (show 22 < 26 by decide))
  have R1 := (S0.get 1 rfl).cell 21 _ rfl
  have R2 := (S0.get 1 rfl).cell 22 _ rfl
  have fz := (S0.get 1 rfl).fz
  obtain ⟨W, hW⟩ : ∃ W : World, W = (w.alloc (.cells (runG op r h y a b c pc area ra rb (.slice Ac L.length cc) wo ne at_ top (.slice Ai LI.length ci) o (.slice As SA.length cs) m he d p cd an as_).toArray 87)).alloc (.cells zR.toArray 87) := ⟨_, rfl⟩
  rw [← hW] at S0 S1 R1 R2 fz
  go_enter Tryz.func78, Tryz.ntmps78
  go_upto_region 1 with (fail)
  rw [show (w.alloc (.cells #[.int .u8 op, .int .u8 r, .int .u8 h, .int .u8 y, .int .i64 a, .int .i64 b, .int .i64 c, .int .i64 pc, .int .i64 area, .int .u64 ra, .int .u64 rb, .slice Ac L.length cc, .int .u64 wo, .int .u64 ne, .int .i64 at_, .int .i64 top, .slice Ai LI.length ci, .int .i64 o, .slice As SA.length cs, .int .i64 m, .bool he, .bool d, .bool p, .int .i64 cd, .int .i64 an, as_] 87)).alloc (.cells zR.toArray 87) = W from hW.symm]
  clear hW
  go_upto_region 2 with (fail)
  have B1 := S1.below
  obtain ⟨W1, hW1⟩ : ∃ W1 : World, W1 = (W.setCell ⟨w.heap.size, 21, none⟩ (.bool true)).setCell ⟨w.heap.size, 22, none⟩ (.bool true) := ⟨_, rfl⟩
  rw [← hW1]
  rw [← hW1] at S1
  clear hW1 R1 R2 fz S0 B1
  go_cut [] (fun wx => TellC w op r h y a b c pc area ra rb wo ne at_ top o m he cd an as_ L LI SA wx)
  case first =>
    have x11 := (S1.get 1 rfl).cell 11 _ rfl
    have x16 := (S1.get 1 rfl).cell 16 _ rfl
    have x18 := (S1.get 1 rfl).cell 18 _ rfl
    have S2 := S1.drew
    go_region_with (first
      | ((go_at_call 60; refine (cloneE_any _ _ (hC.below S2.below) lL).mono ?_; rintro e wq ⟨uu, rfl, O, ku⟩; obtain ⟨Au, cu, rfl, _, _⟩ := O.sr.form; have y16 := ((S2.call ku).get 1 rfl).cell 16 _ rfl; have y18 := ((S2.call ku).get 1 rfl).cell 18 _ rfl))
      | ((go_at_call 129; refine (cloneI_any _ _ (hI.below (S2.call ku).below) lI).mono ?_; rintro e wi ⟨ui, rfl, Oi, ki⟩; obtain ⟨Bi, di, rfl, _, _⟩ := Oi.sr.form; have z18 := (((S2.call ku).call ki).get 1 rfl).cell 18 _ rfl))
      | ((go_at_call 129; refine (cloneI_any _ _ (hS.below ((S2.call ku).call ki).below) lS).mono ?_; rintro e ws ⟨us, rfl, Os, ks⟩; obtain ⟨Bs, ds, rfl, _, _⟩ := Os.sr.form; have S3 := ((S2.call ku).call ki).call ks; have v11 := (S3.get 1 rfl).cell 11 _ rfl; have v16 := (S3.get 1 rfl).cell 16 _ rfl; have v18 := (S3.get 1 rfl).cell 18 _ rfl; have fz := (S3.get 1 rfl).fz)))
    all_goals
      have S4 := ((S3.put 1 11 rfl (.slice Au L.length cu) (show 11 < 26 by decide)).put 1 16 rfl (.slice Bi LI.length di) (show 16 < 26 by decide)).put 1 18 rfl (.slice Bs SA.length ds) (show 18 < 26 by decide)
      have hb : w.heap.size + 2 ≤ W1.drew.heap.size := (S2.get 0 rfl).lt
      have b1 : w.heap.size + 2 ≤ wq.heap.size := Nat.le_trans hb ku.size
      have b2 : w.heap.size + 2 ≤ wi.heap.size := Nat.le_trans b1 ki.size
      go_wp2_with fail
      go_meet
      exact ⟨_, _, _, S4, own3 ((((O.below ki).below ks)).zero hb), own3 ((Oi.below ks).zero b1), own3 (Os.zero b2)⟩
  case rest =>
    obtain ⟨ch1, li1, sa1, S, O, Oi, Os⟩ := hcut
    obtain ⟨C1, d1, rfl, _⟩ := O.sr.form
    obtain ⟨C2, d2, rfl, _⟩ := Oi.sr.form
    obtain ⟨C3, d3, rfl, _⟩ := Os.sr.form
    have x18 := (S.get 1 rfl).cell 18 _ rfl
    go_wp2_with fail
    refine (cloneI_any _ _ Os.sr lS).mono ?_
    rintro e w4 ⟨ua, rfl, Oa, ka⟩
    obtain ⟨C4, d4, rfl, _⟩ := Oa.sr.form
    have S4 := S.call ka
    have x23 := (S4.get 1 rfl).cell 23 _ rfl
    have x24 := (S4.get 1 rfl).cell 24 _ rfl
    have x25 := (S4.get 1 rfl).cell 25 _ rfl
    have fz := (S4.get 1 rfl).fz
    have hb : w.heap.size + 2 ≤ wc.heap.size := (S.get 0 rfl).lt
    have S5 := ((S4.put 1 23 rfl (.int .i64 code) (show 23 < 26 by decide)).put 1 24 rfl (.int .i64 n) (show 24 < 26 by decide)).put 1 25 rfl (.slice C4 SA.length d4) (show 25 < 26 by decide)
    have P1 := own4 (x := .int .i64 code) (y := .int .i64 n) (z := .slice C4 SA.length d4) (O.below ka)
    have P2 := own4 (x := .int .i64 code) (y := .int .i64 n) (z := .slice C4 SA.length d4) (Oi.below ka)
    have P3 := own4 (x := .int .i64 code) (y := .int .i64 n) (z := .slice C4 SA.length d4) (Os.below ka)
    have P4 := own4 (x := .int .i64 code) (y := .int .i64 n) (z := .slice C4 SA.length d4) (Oa.zero hb)
    have R5 := range_of (St.swap S5)
    have T5 := there_of S5
    have S6 := St.fill S5 [.int .u8 op, .int .u8 r, .int .u8 h, .int .u8 y, .int .i64 a, .int .i64 b, .int .i64 c, .int .i64 pc, .int .i64 area, .int .u64 ra, .int .u64 rb, .slice C1 L.length d1, .int .u64 wo, .int .u64 ne, .int .i64 at_, .int .i64 top, .slice C2 LI.length d2, .int .i64 o, .slice C3 SA.length d3, .int .i64 m, .bool he, .bool true, .bool true, .int .i64 code, .int .i64 n, .slice C4 SA.length d4] rfl
    have R6 := range_of S6
    have ONE : ∀ u ∈ ([.int .u8 op, .int .u8 r, .int .u8 h, .int .u8 y, .int .i64 a, .int .i64 b, .int .i64 c, .int .i64 pc, .int .i64 area, .int .u64 ra, .int .u64 rb, .slice C1 L.length d1, .int .u64 wo, .int .u64 ne, .int .i64 at_, .int .i64 top, .slice C2 LI.length d2, .int .i64 o, .slice C3 SA.length d3, .int .i64 m, .bool he, .bool true, .bool true, .int .i64 code, .int .i64 n, .slice C4 SA.length d4] : List Value), u.oneCell' = true := runG_one (op := op) (r := r) (h := h) (y := y) (a := a) (b := b) (c := c) rfl rfl rfl rfl
    have TT : World.there _ (w.heap.size + 1) 0 26 := T5
    go_wp2_with (first
      | refine wpList_load_mid rfl _ _ rfl w.heap.size 0 rfl [.int .u8 op, .int .u8 r, .int .u8 h, .int .u8 y, .int .i64 a, .int .i64 b, .int .i64 c, .int .i64 pc, .int .i64 area, .int .u64 ra, .int .u64 rb, .slice C1 L.length d1, .int .u64 wo, .int .u64 ne, .int .i64 at_, .int .i64 top, .slice C2 LI.length d2, .int .i64 o, .slice C3 SA.length d3, .int .i64 m, .bool he, .bool true, .bool true, .int .i64 code, .int .i64 n, .slice C4 SA.length d4] _ R5 Tryz.underlying87 rfl info_run ?_
      | refine wpList_store_mid rfl _ _ _ rfl (w.heap.size + 1) 0 ([.int .u8 op, .int .u8 r, .int .u8 h, .int .u8 y, .int .i64 a, .int .i64 b, .int .i64 c, .int .i64 pc, .int .i64 area, .int .u64 ra, .int .u64 rb, .slice C1 L.length d1, .int .u64 wo, .int .u64 ne, .int .i64 at_, .int .i64 top, .slice C2 LI.length d2, .int .i64 o, .slice C3 SA.length d3, .int .i64 m, .bool he, .bool true, .bool true, .int .i64 code, .int .i64 n, .slice C4 SA.length d4]).toArray rfl rfl TT info_run (all_oneCell_toArray ONE) ?_)
    refine bodyPost_ret (v := runV ⟨⟨op, r, h, y, a, b, c⟩, pc, area, ra, rb, .slice C1 L.length d1, wo, ne, at_, top, .slice C2 LI.length d2, o, .slice C3 SA.length d3, m, he, true, true, code, n, .slice C4 SA.length d4⟩) (results_cell_mid rfl _ _ (w.heap.size + 1) [.int .u8 op, .int .u8 r, .int .u8 h, .int .u8 y, .int .i64 a, .int .i64 b, .int .i64 c, .int .i64 pc, .int .i64 area, .int .u64 ra, .int .u64 rb, .slice C1 L.length d1, .int .u64 wo, .int .u64 ne, .int .i64 at_, .int .i64 top, .slice C2 LI.length d2, .int .i64 o, .slice C3 SA.length d3, .int .i64 m, .bool he, .bool true, .bool true, .int .i64 code, .int .i64 n, .slice C4 SA.length d4] _ rfl R6 Tryz.underlying87 rfl info_run) rfl ?_
    exact ⟨_, _, _, _, rfl, srF P1, srF P2, srF P3, srF P4, S6.below⟩
end Go.Proofs.YteakglkagmghpaaGreat.Beg
