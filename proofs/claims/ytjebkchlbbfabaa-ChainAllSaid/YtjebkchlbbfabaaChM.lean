/-
  What memory says of a row of entries (Sr: any slice that reads as a list), slices of it, and what append and copy make of it.
-/
import Derived.Test.YtjebkchlbbfabaaProg
import Derived.Test.YtjebkchlbbfabaaChain
import Derived.WalkKit
import Derived.ProofKit
import Derived.OpenShut
import Derived.IntWalk
import Derived.Lib.Hide
import Derived.Below
import Derived.Deep.OwnRows
import Derived.Deep.AppendSrc
import Derived.Deep.Upon
import Derived.Laws.OwnMore
import Derived.Laws.CopyOwn
import Derived.Maps.AppendAt
import Derived.OwnWalk
import Derived.Deep.QuietTactic
import Derived.BigQuiet
import Derived.Deep.RegionHeld3
import Derived.Deep.RegionLawGrows
namespace Go.Proofs.Ytjebkchlbbfabaa.Chain
open Go.ChangeShapes Go.WideShapes Go.ChangeAt Go.RowKit
set_option linter.unusedVariables false

abbrev X := 22
abbrev T := 25
theorem ret_int {k : IntKind} {a b : Int} (h : a = b) : Ending.returned (.int k a) = .returned (.int k b) := by rw [h]
theorem ret_bool {a b : Bool} (h : a = b) : Ending.returned (.bool a) = .returned (.bool b) := by rw [h]
theorem info_ent : (Try.prog.info? T).map (fun i => (i.zero, i.size, i.bytes)) = some (some (.agg #[.int .i64 0, .bool false]), 2, 16) := by kernel_rfl
theorem under_ents : Try.prog.underlying X = some (.slice T) := by kernel_rfl

/-- A slice that reads as a list of entries. -/
def Sr (w : World) (v : Value) (L : List E) : Prop := ∃ A c, v = .slice A L.length c ∧ L.length ≤ c ∧ c ≤ maxLen ∧ (A = none → c = 0) ∧
  (0 < L.length → ∃ g o, A = some ⟨g, o, none⟩ ∧ g < w.heap.size ∧ ∀ i (h : i < L.length), w.cell? ⟨g, o + i * 2, none⟩ = some (.int .i64 (L[i]).1) ∧ w.cell? ⟨g, o + i * 2 + 1, none⟩ = some (.bool (L[i]).2))
theorem Sr.nil (w : World) : Sr w (.slice none 0 0) [] := ⟨none, 0, rfl, Nat.le_refl _, Nat.zero_le _, fun _ => rfl, fun h => absurd h (by simp)⟩
theorem Sr.keep {w w' : World} {v : Value} {L : List E} (h : Sr w v L) (hs : w.heap.size ≤ w'.heap.size) (k : ∀ g o, v = .slice (some ⟨g, o, none⟩) L.length (match v with | .slice _ _ c => c | _ => 0) → g < w.heap.size → w'.heap[g]? = w.heap[g]?) : Sr w' v L := by
  obtain ⟨A, c, rfl, h1, h2, h3, h4⟩ := h
  refine ⟨A, c, rfl, h1, h2, h3, fun hl => ?_⟩
  obtain ⟨g, o, rfl, hg, hc⟩ := h4 hl
  have hb := k g o rfl hg
  exact ⟨g, o, rfl, by omega, fun i hi => ⟨(World.cell?_of_block (w := w) (w' := w') (a := ⟨g, _, none⟩) hb).trans (hc i hi).1, (World.cell?_of_block (w := w) (w' := w') (a := ⟨g, _, none⟩) hb).trans (hc i hi).2⟩⟩
theorem Sr.below {w w' : World} {v : Value} {L : List E} (h : Sr w v L) (k : Below w.heap.size w w') : Sr w' v L := h.keep k.size fun g o _ hg => k.block g hg
theorem Sr.drew {w : World} {v : Value} {L : List E} (h : Sr w v L) : Sr w.drew v L := h.below (Below.refl _ _).drew
theorem Sr.alloc {w : World} {v : Value} {L : List E} (h : Sr w v L) (o : Obj) : Sr (w.alloc o) v L := h.below ((Below.refl _ _).alloc (Nat.le_refl _) _)
theorem Sr.len {w : World} {v : Value} {L : List E} (h : Sr w v L) : L.length ≤ maxLen := by
  obtain ⟨A, c, _, h1, h2, _⟩ := h
  omega
/-- The beginning of one, with any room that it may have. -/
theorem Sr.part {w : World} {A : Option Addr} {n c : Nat} {L : List E} (h : Sr w (.slice A n c) L) {k c' : Nat} (hk : k ≤ L.length) (h1 : k ≤ c') (h2 : c' ≤ c) : Sr w (.slice A k c') (L.take k) := by
  obtain ⟨A', d, e, g1, g2, g3, g4⟩ := h
  injection e with e1 e2 e3
  subst e1 e2 e3
  have hl : (L.take k).length = k := by rw [List.length_take]; omega
  refine ⟨A, c', by rw [hl], by omega, by omega, fun e => by have := g3 e; omega, fun hp => ?_⟩
  obtain ⟨g, o, rfl, hg, hc⟩ := g4 (by omega)
  refine ⟨g, o, rfl, hg, fun i hi => ?_⟩
  rw [List.getElem_take]
  exact hc i (by omega)

theorem el_X : Try.prog.elem X = T := by kernel_rfl
theorem under_X : Try.prog.underlying X = some (.slice (Try.prog.elem X)) := by rw [el_X]; exact under_ents
theorem size_X (W : World) : (sizeOf (Try.prog.elem X)).run Try.prog W = .ok 2 W := by
  obtain ⟨i0, hi0, hz0, hz1, hz2⟩ := info_parts info_ent
  rw [el_X]
  simp [sizeOf, typeInfo, hi0, hz1]
theorem map_add0 (A : Option Addr) : A.map (·.add 0) = A := by
  cases A with
  | none => rfl
  | some a => simp [Addr.add_zero']
theorem slice_h (A : Option Addr) (n c h : Nat) (hc : h ≤ c) : (∀ W, (Instr.slice X (.slice A n c) none (some (.int .i64 (h : Int))) none).run Try.prog W = .ok (.slice A h c) W) ∧
    (∀ W, (Instr.sliceAt X (.slice A n c) none (some (.int .i64 (h : Int))) none).run Try.prog W = .ok (.slice A h c) W) := by
  have run : ∀ W, (Instr.slice X (.slice A n c) none (some (.int .i64 (h : Int))) none).run Try.prog W = .ok (.slice A h c) W := by
    intro W
    rw [run_slice_h W X A n c under_X .i64 h (by omega) (by omega), size_X]
    simp [Result.andThen, sliced, map_add0]
  exact ⟨run, fun W => (run_sliceAt_slice W X _ _ _ _ under_X).trans (run W)⟩
theorem slice_hm (A : Option Addr) (n c h m : Nat) (hm : h ≤ m) (hc : m ≤ c) : (∀ W, (Instr.slice X (.slice A n c) none (some (.int .i64 (h : Int))) (some (.int .i64 (m : Int)))).run Try.prog W = .ok (.slice A h m) W) ∧
    (∀ W, (Instr.sliceAt X (.slice A n c) none (some (.int .i64 (h : Int))) (some (.int .i64 (m : Int)))).run Try.prog W = .ok (.slice A h m) W) := by
  have run : ∀ W, (Instr.slice X (.slice A n c) none (some (.int .i64 (h : Int))) (some (.int .i64 (m : Int)))).run Try.prog W = .ok (.slice A h m) W := by
    intro W
    rw [run_slice_hm W X A n c under_X .i64 .i64 h m (by omega) (by omega) (by omega), size_X]
    simp [Result.andThen, sliced, map_add0]
  exact ⟨run, fun W => (run_sliceAt_slice W X _ _ _ _ under_X).trans (run W)⟩

def flat (L : List E) : List Value := L.flatMap fun e => [.int .i64 e.1, .bool e.2]
theorem flat_len : ∀ L : List E, (flat L).length = L.length * 2
  | [] => rfl
  | e :: r => by simp [flat, List.flatMap_cons] at *; have := flat_len r; simp [flat] at this; omega
theorem flat_append (L M : List E) : flat (L ++ M) = flat L ++ flat M := by simp [flat]
theorem flat_cons (e : E) (r : List E) : flat (e :: r) = .int .i64 e.1 :: .bool e.2 :: flat r := by simp [flat]
theorem flat_get : ∀ (L : List E) (i : Nat) (h : i < L.length), (flat L)[i * 2]? = some (.int .i64 (L[i]).1) ∧ (flat L)[i * 2 + 1]? = some (.bool (L[i]).2)
  | [], i, h => by simp at h
  | e :: r, 0, h => by rw [flat_cons]; exact ⟨rfl, rfl⟩
  | e :: r, i + 1, h => by
    obtain ⟨h1, h2⟩ := flat_get r i (by simpa using h)
    rw [flat_cons, show (i + 1) * 2 = i * 2 + 1 + 1 by omega]
    simpa using ⟨h1, h2⟩
theorem flat_one (L : List E) : ∀ u ∈ flat L, u.oneCell' = true := by
  intro u hu
  obtain ⟨e, _, he⟩ := List.mem_flatMap.1 hu
  have : u = .int .i64 e.1 ∨ u = .bool e.2 := by simpa using he
  rcases this with rfl | rfl <;> rfl
theorem flat_cells {w : World} {g o : Nat} {L : List E} (h : ∀ i (h : i < L.length), w.cell? ⟨g, o + i * 2, none⟩ = some (.int .i64 (L[i]).1) ∧ w.cell? ⟨g, o + i * 2 + 1, none⟩ = some (.bool (L[i]).2)) :
    ∀ j u, (flat L)[j]? = some u → w.cell? ((⟨g, o, none⟩ : Addr).add j) = some u := by
  intro j u hu
  have hj : j < (flat L).length := by
    rcases Nat.lt_or_ge j (flat L).length with c | c
    · exact c
    · rw [List.getElem?_eq_none c] at hu; cases hu
  rw [flat_len] at hj
  rw [Addr.add_lit]
  have hi : j / 2 < L.length := by omega
  obtain ⟨f1, f2⟩ := flat_get L (j / 2) hi
  obtain ⟨c1, c2⟩ := h (j / 2) hi
  rcases Nat.mod_two_eq_zero_or_one j with e | e
  · have : j = j / 2 * 2 := by omega
    rw [← this] at f1 c1
    rw [f1] at hu
    rw [c1]
    exact hu
  · have : j = j / 2 * 2 + 1 := by omega
    rw [← this] at f2
    rw [show o + j / 2 * 2 + 1 = o + j by omega] at c2
    rw [f2] at hu
    rw [c2]
    exact hu
/-- A row of one's own that holds entries. -/
def Own (w : World) (base : Nat) (v : Value) (L : List E) : Prop := w.ownsRow base T 2 v L.length (flat L)
theorem Own.sr {w : World} {base : Nat} {v : Value} {L : List E} (h : Own w base v L) : Sr w v L := by
  have h' : w.ownsRow base T 2 v L.length (flat L) := h
  rcases h.2 with ⟨rfl, h0⟩ | ⟨g, cap, cur, rfl, _, hg, h1, h2, _⟩
  · obtain rfl := List.eq_nil_of_length_eq_zero h0
    exact Sr.nil w
  · refine ⟨_, cap, rfl, h1, h2, fun e => (by cases e), fun _ => ⟨g, 0, rfl, (h'.lt g rfl).2, fun i hi => ?_⟩⟩
    have hc := h'.cells (g := g) rfl
    have f := flat_get L i hi
    have c1 := hc _ _ f.1
    have c2 := hc _ _ f.2
    rw [Addr.add_lit, Nat.zero_add] at c1 c2
    rw [Nat.zero_add]
    exact ⟨c1, c2⟩
theorem Own.below {w w' : World} {base : Nat} {v : Value} {L : List E} (h : Own w base v L) (k : Below w.heap.size w w') : Own w' base v L :=
  World.ownsRow.kept (row := none) h ⟨k.os, k.tape, k.output, k.size, fun i hi _ => k.block i hi⟩ (by cases v.ownBlock <;> simp)
theorem Own.empty (w : World) (b : Nat) (hb : b ≤ w.heap.size) : Own (w.alloc (.cells #[] T)) b (.slice (some ⟨w.heap.size, 0, none⟩) 0 0) [] := by
  refine ⟨by simp [flat], .inr ⟨w.heap.size, 0, #[], rfl, hb, ?_, Nat.le_refl _, Nat.zero_le _, by simp, by simp [flat]⟩⟩
  show (w.heap.push _)[w.heap.size]? = _
  rw [Array.getElem?_push, if_pos rfl]
theorem below_grown {a b : World} (h : a.grownBy b none) : Below a.heap.size a b := ⟨h.os, h.tape, h.output, h.size, fun i hi => h.block i hi (by simp)⟩

theorem cell_only {w w' : World} {row : Option Nat} (h : w.grownBy w' row) {b : Nat} (hb : b < w.heap.size) (hne : some b ≠ row) (o : Nat) : w'.cell? ⟨b, o, none⟩ = w.cell? ⟨b, o, none⟩ := by
  simp only [World.cell?, h.block b hb hne]
theorem frozen_only {w w' : World} {row : Option Nat} (h : w.grownBy w' row) {b : Nat} (hb : b < w.heap.size) (hne : some b ≠ row) (o : Nat) : w'.frozen? ⟨b, o, none⟩ = w.frozen? ⟨b, o, none⟩ := by
  simp only [World.frozen?, h.block b hb hne]

/-- append to a row of one's own of whatever reads as a list. -/
theorem app_own (w : World) {v x : Value} {L M : List E} {base : Nat} (h : Own w base v L) (hx : Sr w x M) (hl : L.length + M.length ≤ 1000000) (hb : base ≤ w.heap.size) :
    ∃ v' w', (Builtin.append_ #[X, X] X #[v, x]).run Try.prog w = .ok v' w' ∧ Own w' base v' (L ++ M) ∧ w.grownBy w' v.ownBlock := by
  obtain ⟨i0, hi, hz0, hz1, hz2⟩ := info_parts info_ent
  have b1 : L.length + M.length ≤ maxLen := by simp only [maxLen]; omega
  have b2 : (L.length + M.length) * 16 ≤ 140737488355328 := by omega
  obtain ⟨B, d, rfl, x1, x2, x3, hb'⟩ := hx
  by_cases hm : 0 < M.length
  · obtain ⟨g', o', rfl, hg', hc'⟩ := hb' hm
    obtain ⟨v', w', hrun, r1, r2, _, r3⟩ := run_append_own_at (P := Try.prog) w base X X _ i0 _ 2 16 under_ents hi hz0 hz1 hz2 rfl (by omega) v L.length (flat L) h _ M.length d (flat M) (flat_len M) (flat_cells hc') (flat_one M) b1 b2 hb
    rw [← flat_append, ← List.length_append] at r1
    exact ⟨v', w', hrun, r1, r2⟩
  · have e : M = [] := List.eq_nil_of_length_eq_zero (by omega)
    subst e
    have hv : ∃ A c, v = .slice A L.length c ∧ L.length ≤ c := by
      rcases h.2 with ⟨rfl, h0⟩ | ⟨g, cap, cur, rfl, _, _, h1, _⟩
      · exact ⟨none, 0, by rw [h0], by omega⟩
      · exact ⟨_, cap, rfl, h1⟩
    obtain ⟨A, c, rfl, hc⟩ := hv
    refine ⟨.slice A L.length c, w, ?_, ?_, World.grownBy.refl _ _⟩
    · refine run_append_nothing w X X X _ i0 under_ents hi A _ c hc _ ?_
      cases B with
      | none => exact Src.ofNil w under_ents d
      | some b => exact Src.ofSlice w under_ents b 0 d [] (by simp) (fun j u h => by simp at h) (fun u h => by cases h)
    · rw [List.append_nil]
      exact h
theorem far_own {w : World} {base b : Nat} {v : Value} {L : List E} (h : Own w base v L) (hb : b < base) : some b ≠ v.ownBlock := fun e => by
  have := (World.ownsRow.lt h b e.symm).1
  omega
theorem grown_own {w0 w w' : World} {base N : Nat} {v : Value} {L : List E} (hB : Below N w0 w) (h : Own w base v L) (hg : w.grownBy w' v.ownBlock) (hN : N ≤ base) (hs : N ≤ w.heap.size) : Below N w0 w' :=
  hB.grown hg hs fun j ej => Nat.le_trans hN (World.ownsRow.lt h j ej).1
/-- What an append to a row of one's own leaves. -/
structure Grew (w w' : World) (base : Nat) : Prop where
  old : base ≤ w.heap.size
  size : w.heap.size ≤ w'.heap.size
  cell : ∀ b o, b < base → w'.cell? ⟨b, o, none⟩ = w.cell? ⟨b, o, none⟩
  frozen : ∀ b o, b < base → w'.frozen? ⟨b, o, none⟩ = w.frozen? ⟨b, o, none⟩
  below : ∀ (N : Nat) (w0 : World), N ≤ base → Below N w0 w → Below N w0 w'
theorem grew {w w' : World} {base : Nat} {v : Value} {L : List E} (h : Own w base v L) (hg : w.grownBy w' v.ownBlock) (hb : base ≤ w.heap.size) : Grew w w' base :=
  ⟨hb, hg.size, fun b o k => cell_only hg (by omega) (far_own h k) o, fun b o k => frozen_only hg (by omega) (far_own h k) o, fun N w0 k B => grown_own B h hg k (by omega)⟩
/-- The same, as a step of a region that draws its order. -/
theorem step_own {ops : Array Oper} {o : Oper} {a : Act} {w : World} {K : Act → World → Prop} {Q : Exit → Act → World → Prop} {F : Prop}
    (hg : o.guard = none) (s x : Operand) (hop : o.op = Op.call { callee := Callee.builtin Builtin.append, args := #[s, x], argTypes := #[X, X] }) (hty : o.type = X)
    {v y : Value} {L M : List E} {base : Nat} (hs : a.eval s = v) (hx : a.eval x = y) (h : Own w base v L) (hy : Sr w y M) (hl : L.length + M.length ≤ 1000000) (hb : base ≤ w.heap.size)
    (hK : ∀ v' w', Own w' base v' (L ++ M) → w.grownBy w' v.ownBlock → Grew w w' base → K (a.put o.dst v') w') :
    if Region.wanted o (yielded ops a.tmps) = true then Oper.wp Try.prog o a w K Q else F := by
  have hw : Region.wanted o (yielded ops a.tmps) = true := by simp [Region.wanted, hg]
  rw [if_pos hw]
  obtain ⟨v', w', hrun, r1, r2⟩ := app_own w h hy hl hb
  unfold Oper.wp
  simp [execOp, hop, resolve, invoke, builtin, hs, hx, hty, hrun, Result.andThen]
  exact hK v' w' r1 r2 (grew h r2 hb)
/-- append of one to a slice without room: a new row. -/
theorem step_new {ops : Array Oper} {o : Oper} {a : Act} {w : World} {K : Act → World → Prop} {Q : Exit → Act → World → Prop} {F : Prop}
    (hg : o.guard = none) (s x : Operand) (hop : o.op = Op.call { callee := Callee.builtin Builtin.append, args := #[s, x], argTypes := #[X, X] }) (hty : o.type = X)
    {A : Option Addr} {n : Nat} {y : Value} {L M : List E} (hs : a.eval s = .slice A n n) (hx : a.eval x = y) (h : Sr w (.slice A n n) L) (hy : Sr w y M) (hm : 0 < M.length) (hl : L.length + M.length ≤ 1000000)
    (hK : ∀ v' w', Own w' w.heap.size v' (L ++ M) → w.grownBy w' none → K (a.put o.dst v') w') :
    if Region.wanted o (yielded ops a.tmps) = true then Oper.wp Try.prog o a w K Q else F := by
  obtain ⟨i0, hi, hz0, hz1, hz2⟩ := info_parts info_ent
  obtain ⟨A', c, e, h1, h2, h3, h4⟩ := h
  injection e with e1 e2 e3
  subst e1 e2 e3
  obtain ⟨B, d, rfl, x1, x2, x3, x4⟩ := hy
  obtain ⟨g', o', rfl, hg', hc'⟩ := x4 hm
  refine step_append_grows hg s x X hop T i0 _ 2 16 under_ents hi hz0 hz1 hz2 rfl (by omega) A L.length L.length (flat L) hs (fun e => ⟨h3 e, h3 e⟩) (flat_len L) (fun b hb j u hu => ?_) ⟨g', o', none⟩ M.length d (flat M) hx (flat_len M) (flat_cells hc') (flat_one M) (by omega) (by simp only [maxLen]; omega) (by omega) (fun v' w' r1 r2 => hK v' w' ?_ r2)
  · have hlen : 0 < L.length := by
      rcases Nat.eq_zero_or_pos L.length with e | e
      · have : L = [] := List.eq_nil_of_length_eq_zero e
        subst this
        simp [flat] at hu
      · exact e
    obtain ⟨g, o2, e, hgl, hc⟩ := h4 hlen
    rw [hb] at e
    injection e with e
    subst e
    exact flat_cells hc j u hu
  · rw [← flat_append, ← List.length_append] at r1
    exact r1
theorem run_copy2 (w : World) (dT sT ty elem : TypeId) (g dLen dCap : Nat) (a : Addr) (sLen sCap : Nat) (cur : Array Value) (t : TypeId) (cs : List Value)
    (hu : Try.prog.underlying dT = some (.slice elem)) (hs : (Try.prog.info? elem).map (·.size) = some 2)
    (hg : w.heap[g]? = some (.cells cur t (0, 0))) (hn : cs.length = Nat.min sLen dLen * 2)
    (hsrc : ∀ j v, cs[j]? = some v → w.cell? (a.add j) = some v) (hfit : 0 + cs.length ≤ cur.size) (h1 : ∀ v ∈ cs, v.oneCell' = true) :
    (Builtin.copy_ #[dT, sT] ty #[.slice (some ⟨g, 0, none⟩) dLen dCap, .slice (some a) sLen sCap]).run Try.prog w =
      .ok (goInt (Nat.min sLen dLen)) (w.setRow g (cs ++ cur.toList.drop cs.length).toArray) := by
  have hl := run_loadCells_list (P := Try.prog) w a cs hsrc
  have hst := run_storeCells_at Try.prog g 0 t cs 0 cur w hg (by simpa using hfit) h1
  cases hq : Try.prog.info? elem with
  | none => simp [hq] at hs
  | some i =>
    have hi : i.size = 2 := by simpa [hq] using hs
    have hst' : (storeCells ⟨g, 0, none⟩ cs).run Try.prog w = .ok () (w.setRow g (cs ++ cur.toList.drop cs.length).toArray) := by simpa using hst
    simp [Builtin.copy_, run_underlying hu, Builtin.lenOf, Builtin.firstCells, sizeOf, typeInfo, hq, hi, ← hn, hl, hst']
end Go.Proofs.Ytjebkchlbbfabaa.Chain
