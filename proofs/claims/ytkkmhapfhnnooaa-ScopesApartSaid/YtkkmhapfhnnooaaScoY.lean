/-
  Whole Alls: loaded where a guard is open; made and stored below; what the immortal scope's numbers are.
-/
import Derived.Test.YtkkmhapfhnnooaaScoV
import Derived.Test.YtkkmhapfhnnooaaScoW
import Derived.Test.YtkkmhapfhnnooaaScoP
import Derived.Test.YtkkmhapfhnnooaaScoX
namespace Go.Proofs.Ytkkmhapfhnnooaa.Sco
open Go.ChangeShapes Go.WideShapes Go.ChangeAt Go.RowKit
open Slic Gm
set_option linter.unusedVariables false
set_option linter.unusedSimpArgs false

set_option maxRecDepth 20000 in
theorem wpList_g48 {ops : Array Oper} {rest : List Oper} {o : Oper} {a : Act} {w : World} {Q : Exit → Act → World → Prop} (hw : Region.wanted o (yielded ops a.tmps) = true) (x : Operand) (ho : o.op = .load 63 x) (b : Nat) (cs : Array Value)
    (hx : a.eval x = .pointer (some ⟨b, 0, none⟩)) (hb : w.heap[b]? = some (.cells cs 63 (0, 0))) (h1 : cs.size = 48)
    (h : wpList Try.prog ops Q rest (a.put o.dst (.agg cs)) w) : wpList Try.prog ops Q (o :: rest) a w :=
  wpList_step fun K hK => by
    rw [if_pos hw]
    exact wp_load_row 63 x ho b hx 63 cs (0, 0) _ hb Try.underlying63 rfl (by rw [size48, h1]) (hK _ _ h)
theorem whole_below (w : World) (old vs : Array Value) (t : TypeId) : Below w.heap.size w ((w.alloc (.cells old t)).setRow w.heap.size vs) :=
  ((Below.refl w.heap.size w).alloc (Nat.le_refl _) _).trans ⟨rfl, rfl, rfl, by simp [World.setRow], fun k hk => setRow_other _ _ k _ (by omega)⟩
theorem all_zero {n : Nat} {A S I J : Int} {F : Fo} (h : Inv n A S I J F) :
    (allA F.R)[0]? = some (.int .i64 2) ∧ (allA F.R)[1]? = some (.int .i64 1) ∧ (allA F.R)[2]? = some (.int .i64 (-1)) ∧ (allA F.R)[3]? = some (.int .i64 0) ∧ (allA F.R)[32]? = some (.int .i64 I) ∧ (allA F.R)[33]? = some (.int .i64 J) := by
  have hz := h.zero
  obtain ⟨r, e⟩ : ∃ r, F.R = ⟨2, 1, -1, 0, I, J⟩ :: r := by
    cases hR : F.R with
    | nil => rw [hR] at hz; cases hz
    | cons y r =>
      rw [hR] at hz
      have hy : y = ⟨2, 1, -1, 0, I, J⟩ := by simpa using hz
      exact ⟨r, by rw [hy]⟩
  rw [e]
  refine ⟨?_, ?_, ?_, ?_, ?_, ?_⟩
  all_goals
    rw [allA_get _ _ (by decide)]
    simp [cell2, cv, xv]
end Go.Proofs.Ytkkmhapfhnnooaa.Sco
