/-
  BegL
-/
import Derived.Test.YteakglkagmghpaaGreatBegH
import Derived.Test.YteakglkagmghpaaGreatBegJ
import Derived.Test.YteakglkagmghpaaGreatBegK
import Derived.Test.YteakglkagmghpaaGreatBegI
namespace Go.Proofs.YteakglkagmghpaaGreat.Beg
open Go.ChangeShapes Go.WideShapes Go.ChangeAt Go.RowKit
open Go.Proofs.YteakglkagmghpaaGreat.Mod Slic
set_option linter.unusedVariables false
set_option linter.unusedSimpArgs false
set_option maxRecDepth 100000
attribute [local go_sem ↓] Go.wp_at_zero Go.wp_at_succ

theorem cells_one {R : Ru} (h1 : R.ch.oneCell' = true) (h2 : R.li.oneCell' = true) (h3 : R.said.oneCell' = true) (h4 : R.as_.oneCell' = true) : ∀ u ∈ R.cells, u.oneCell' = true := by
  intro u hu
  simp only [Ru.cells, List.mem_cons, List.not_mem_nil, or_false] at hu
  rcases hu with rfl | rfl | rfl | rfl | rfl | rfl | rfl | rfl | rfl | rfl | rfl | rfl | rfl | rfl | rfl | rfl | rfl | rfl | rfl | rfl | rfl | rfl | rfl | rfl | rfl | rfl
  all_goals first | rfl | exact h1 | exact h2 | exact h3 | exact h4
theorem plan4 {w0 W : World} {b : Nat} {n t i j : Int} (A : Held.At w0 W b [.int .i64 n, .int .i64 t, .int .i64 i, .int .i64 j]) : W.cell? ⟨b, 0, none⟩ = some (.int .i64 n) ∧ W.cell? ⟨b, 1, none⟩ = some (.int .i64 t) ∧ W.cell? ⟨b, 2, none⟩ = some (.int .i64 i) ∧ W.cell? ⟨b, 3, none⟩ = some (.int .i64 j) :=
  ⟨A.cell 0 _ rfl, A.cell 1 _ rfl, A.cell 2 _ rfl, A.cell 3 _ rfl⟩
/-- Fewer blocks. -/
theorem St.sub {w0 W : World} {L M : List (Nat × List Value)} (S : Held.St w0 W L) (h : M.Sublist L) : Held.St w0 W M := ⟨S.below, fun x hx => S.at_ x (h.subset hx), (h.map _).nodup S.nd⟩
theorem St.one {w0 W : World} {x y : Nat × List Value} {M : List (Nat × List Value)} (S : Held.St w0 W (x :: y :: M)) : Held.St w0 W (x :: M) := St.sub S ((List.sublist_cons_self y M).cons_cons x)
theorem rows4 {w0 W : World} {b : Nat} {x0 x1 x2 x3 : Int} (A : Held.At w0 W b [.int .u64 x0, .int .u64 x1, .int .u64 x2, .int .u64 x3]) : Sr Fina.kU W (.slice (some ⟨b, 0, none⟩) 4 4) [x0, x1, x2, x3] := by
  refine ⟨_, 4, rfl, Nat.le_refl _, by show 4 ≤ maxLen; decide, fun e => (by cases e), fun _ => ⟨b, 0, rfl, A.lt, fun i j u hi hu => ?_⟩⟩
  have hj : j = 0 := by
    rcases Nat.lt_or_ge j 1 with k | k
    · omega
    · rw [List.getElem?_eq_none (by simpa [Fina.kU] using k)] at hu; cases hu
  subst hj
  have hi : i < 4 := hi
  have : i = 0 ∨ i = 1 ∨ i = 2 ∨ i = 3 := by omega
  rcases this with rfl | rfl | rfl | rfl
  · simp [Fina.kU] at hu ⊢
    subst hu
    exact A.cell 0 _ rfl
  · simp [Fina.kU] at hu ⊢
    subst hu
    exact A.cell 1 _ rfl
  · simp [Fina.kU] at hu ⊢
    subst hu
    exact A.cell 2 _ rfl
  · simp [Fina.kU] at hu ⊢
    subst hu
    exact A.cell 3 _ rfl
theorem tellR_any (R : Ru) (L : List Chain.E) (LI SA : List Int) (code n : Int) (w : World) (hC : Sr kE w R.ch L) (hI : Sr Fina.kI w R.li LI) (hS : Sr Fina.kI w R.said SA) (hA : R.as_.oneCell' = true) (lL : L.length ≤ 100000) (lI : LI.length ≤ 100000) (lS : SA.length ≤ 100000) :
    Calls Tryz.prog 78 #[runV R, .int .i64 code, .int .i64 n] w (TellD w R L LI SA code n) := by
  obtain ⟨⟨op, r, h, y, a, b, c⟩, pc, area, hand, val, ch, word, next, at_, top, li, o, said, m, he, d, p, cd, an, as_⟩ := R
  exact tell_any op r h y a b c pc area hand val ch word next at_ top li o said m he d p cd an as_ L LI SA code n w hC hI hS hA lL lI lS
theorem reftellR_any (R : Ru) (L : List Chain.E) (LI SA : List Int) (code n : Int) (w : World) (hC : Sr kE w R.ch L) (hI : Sr Fina.kI w R.li LI) (hS : Sr Fina.kI w R.said SA) (hA : R.as_.oneCell' = true) :
    Calls Tryz.prog 132 #[runV R, .int .i64 code, .int .i64 n] w (TellD w R L LI SA code n) := by
  obtain ⟨⟨op, r, h, y, a, b, c⟩, pc, area, hand, val, ch, word, next, at_, top, li, o, said, m, he, d, p, cd, an, as_⟩ := R
  exact reftell_any op r h y a b c pc area hand val ch word next at_ top li o said m he d p cd an as_ L LI SA code n w hC hI hS hA
theorem sameR_any (R : Ru) (ch' li' sa' as' : Value) (L : List Chain.E) (LI SA AS : List Int) (w : World) (hC : Sr kE w R.ch L) (hI : Sr Fina.kI w R.li LI) (hS : Sr Fina.kI w R.said SA) (hA : Sr Fina.kI w R.as_ AS) (hC' : Sr kE w ch' L) (hI' : Sr Fina.kI w li' LI) (hS' : Sr Fina.kI w sa' SA) (hA' : Sr Fina.kI w as' AS) :
    Calls Tryz.prog 33 #[runV R, runV ⟨R.c, R.pc, R.area, R.hand, R.val, ch', R.word, R.next, R.at_, R.top, li', R.op, sa', R.n, R.held, R.done, R.point, R.code, R.an, as'⟩] w fun e w' => e = .returned (.bool true) ∧ Below w.heap.size w w' := by
  obtain ⟨⟨op, r, h, y, a, b, c⟩, pc, area, hand, val, ch, word, next, at_, top, li, o, said, m, he, d, p, cd, an, as_⟩ := R
  exact same3_any op r h y a b c pc area hand val word next at_ top o m he d p cd an ch li said as_ ch' li' sa' as' L LI SA AS w hC hI hS hA hC' hI' hS' hA'
theorem zeros_wf : ∀ x ∈ [(0 : Int), 0, 0, 0], wf64 x := fun x hx => by
  simp at hx
  subst hx
  unfold wf64
  omega
end Go.Proofs.YteakglkagmghpaaGreat.Beg
