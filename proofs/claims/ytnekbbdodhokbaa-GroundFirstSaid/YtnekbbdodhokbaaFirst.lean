/-
  GroundFirst: parts of a row, and rows that are put together of them.
-/
import Derived.Test.YtnekbbdodhokbaaTurnB
namespace Go.Proofs.Ytnekbbdodhokbaa.Gr
open Go.ChangeShapes Go.WideShapes Go.ChangeAt Go.RowKit Gm
set_option linter.unusedVariables false

theorem step_run {P : Program} {w : World} {ops : Array Oper} {o : Oper} {a : Act} {K : Act → World → Prop} {Q : Exit → Act → World → Prop} {F : Prop} (hgd : o.guard = none) (s x : Operand) (t : TypeId)
    (ho : o.op = .call { callee := .builtin .append, args := #[s, x], argTypes := #[t, t] }) (vs vx : Value) (hs : a.eval s = vs) (hx : a.eval x = vx) {v' : Value} {w' : World}
    (hr : (Builtin.append_ #[t, t] o.type #[vs, vx]).run P w = .ok v' w') (h : K (a.put o.dst v') w') : if Region.wanted o (yielded ops a.tmps) = true then Oper.wp P o a w K Q else F := by
  have hw : Region.wanted o (yielded ops a.tmps) = true := by simp [Region.wanted, hgd]
  rw [if_pos hw]
  unfold Oper.wp execOp
  simp only [ho, resolve, invoke, builtin, Sem.run_bind, Sem.run_pure, Result.andThen_ok, List.map_toArray, List.map_cons, List.map_nil, hs, hx, hr]
  exact h

/-- A part of a row, from its beginning on. -/
theorem Ex.front {w : World} {V : Option Addr} {c : Nat} {L : List E} (h : Ex w (.slice V L.length c) L) {k : Nat} (hk : k ≤ L.length) : Sr w (.slice V k c) (L.take k) := by
  have e : (L.take k).length = k := by rw [List.length_take]; omega
  refine ⟨V, c, by rw [e], fun h0 => ?_⟩
  obtain ⟨g, e1, hg, _⟩ := h.cell (k := 0) (by omega)
  refine ⟨g, 0, e1, hg, fun i hi => ?_⟩
  obtain ⟨g', e2, _, x0, x1⟩ := h.cell (k := i) (by omega)
  rw [e1] at e2
  injection e2 with e2
  injection e2 with e2
  subst e2
  rw [List.getElem_take, Nat.zero_add]
  exact ⟨x0, x1⟩
theorem Ex.frontRun {w : World} {V : Option Addr} {c : Nat} {L : List E} (h : Ex w (.slice V L.length c) L) {k : Nat} (hk : k ≤ L.length) :
    (∀ W, (Instr.slice X (.slice V L.length c) none (some (.int .i64 (k : Int))) none).run Try.prog W = .ok (.slice V k c) W) ∧ (∀ W, (Instr.sliceAt X (.slice V L.length c) none (some (.int .i64 (k : Int))) none).run Try.prog W = .ok (.slice V k c) W) := by
  obtain ⟨i0, hi0, hz0, hz1, hz2⟩ := info_parts info_ext
  have hel : Try.prog.elem X = 40 := by kernel_rfl
  have hu : Try.prog.underlying X = some (.slice (Try.prog.elem X)) := by rw [hel]; exact under_exts
  have hsz : ∀ W, (sizeOf (Try.prog.elem X)).run Try.prog W = .ok 2 W := by
    intro W
    rw [hel]
    simp [sizeOf, typeInfo, hi0, hz1]
  have hV : L.length ≤ c ∧ (V = none ∨ ∃ g, V = some ⟨g, 0, none⟩) := by
    rcases h with ⟨e', rfl⟩ | ⟨g', c', e', h1, _⟩
    · injection e' with e1 _ e3
      exact ⟨by simp, .inl e1⟩
    · injection e' with e1 _ e3
      exact ⟨by omega, .inr ⟨g', e1⟩⟩
  have run : ∀ W, (Instr.slice X (.slice V L.length c) none (some (.int .i64 (k : Int))) none).run Try.prog W = .ok (.slice V k c) W := by
    intro W
    rw [run_slice_h W X V L.length c hu .i64 k (by omega) (by omega), hsz]
    rcases hV.2 with rfl | ⟨g, rfl⟩
    · simp [Result.andThen, sliced]
    · simp [Result.andThen, sliced, Addr.add_lit]
  exact ⟨run, fun W => (run_sliceAt_slice W X _ _ _ _ hu).trans (run W)⟩
/-- A part of a row, up to its end. -/
theorem Ex.back {w : World} {V : Option Addr} {c : Nat} {L : List E} (h : Ex w (.slice V L.length c) L) {k : Nat} (hk : k ≤ L.length) : ∃ V' c', (∀ W, (Instr.slice X (.slice V L.length c) (some (.int .i64 (k : Int))) none none).run Try.prog W = .ok (.slice V' (L.length - k) c') W) ∧
    (∀ W, (Instr.sliceAt X (.slice V L.length c) (some (.int .i64 (k : Int))) none none).run Try.prog W = .ok (.slice V' (L.length - k) c') W) ∧ Sr w (.slice V' (L.length - k) c') (L.drop k) := by
  obtain ⟨i0, hi0, hz0, hz1, hz2⟩ := info_parts info_ext
  have hel : Try.prog.elem X = 40 := by kernel_rfl
  have hu : Try.prog.underlying X = some (.slice (Try.prog.elem X)) := by rw [hel]; exact under_exts
  have hsz : ∀ W, (sizeOf (Try.prog.elem X)).run Try.prog W = .ok 2 W := by
    intro W
    rw [hel]
    simp [sizeOf, typeInfo, hi0, hz1]
  have run : ∀ W, (Instr.slice X (.slice V L.length c) (some (.int .i64 (k : Int))) none none).run Try.prog W = .ok (.slice (if c = k then V else V.map (·.add (k * 2))) (L.length - k) (c - k)) W := by
    intro W
    rw [run_slice_l W X V L.length c hu .i64 k (by omega) (by omega), hsz]
    simp [Result.andThen, sliced]
  have e : (L.drop k).length = L.length - k := List.length_drop
  refine ⟨_, _, run, fun W => (run_sliceAt_slice W X _ _ _ _ hu).trans (run W), _, _, by rw [e], fun h0 => ?_⟩
  obtain ⟨g, e1, hg, _⟩ := h.cell (k := 0) (by omega)
  have hlc : L.length ≤ c := by
    rcases h with ⟨e', _⟩ | ⟨g', c', e', h1, _⟩
    · injection e' with e'
      rw [e1] at e'
      cases e'
    · injection e' with _ _ e3
      omega
  refine ⟨g, k * 2, ?_, hg, fun i hi => ?_⟩
  · rw [if_neg (by omega), e1]
    simp [Addr.add_lit]
  · obtain ⟨g', e2, _, x0, x1⟩ := h.cell (k := k + i) (by omega)
    rw [e1] at e2
    injection e2 with e2
    injection e2 with e2
    subst e2
    rw [List.getElem_drop, ← Nat.add_mul]
    exact ⟨x0, x1⟩
/-- A row that is put together: in a block K that the ground's row does not lie in, nor the row that it is made of. -/
theorem Hl.app (w : World) {base K : Nat} {v x : Value} {H M : List E} (h : Hl w base K v H) (hx : Sr w x M) (hl : H.length + M.length ≤ 1000000) :
    ∃ v' w' K', (Builtin.append_ #[X, X] X #[v, x]).run Try.prog w = .ok v' w' ∧ Hl w' base K' v' (H ++ M) ∧ w.grownBy w' (some K) ∧ (K' = K ∨ w.heap.size ≤ K') := by
  have h1 := h.lt
  obtain ⟨v1, w1, r1, o1, g1, at1⟩ := app_own w h.own hx hl (by omega)
  rw [h.blk] at g1 at1
  rcases at1 with e | e
  · exact ⟨v1, w1, K, r1, ⟨o1, e⟩, g1, .inl rfl⟩
  · exact ⟨v1, w1, w.heap.size, r1, ⟨o1, e⟩, g1, .inr (Nat.le_refl _)⟩
/-- The ground, the row as it was, and the operation's box. -/
structure Fi (w wr : World) (B K : Nat) (S : Int) (L' : List E) (V : Option Addr) (n c : Nat) (L : List E) (b : Nat) (o2 : Int) : Prop where
  gr : Gr wr B K 64 S L'
  was : Ex wr (.slice V n c) L
  box : wr.cell? ⟨b, 2, none⟩ = some (.int .i64 o2)
  below : Below w.heap.size w wr
  b0 : w.heap.size ≤ B
  b1 : B < b
  wb : ∀ g, (Value.slice V n c).ownBlock = some g → B < g
section
variable {w wr w' : World} {B K b n c : Nat} {S o2 : Int} {L L' : List E} {V : Option Addr}
theorem Fi.bel (h : Fi w wr B K S L' V n c L b o2) (k : Below wr.heap.size wr w') : Fi w w' B K S L' V n c L b o2 :=
  ⟨h.gr.below k, h.was.below k, Gr.bel k h.box, h.below.trans (k.mono h.below.size), h.b0, h.b1, h.wb⟩
theorem Fi.drew (h : Fi w wr B K S L' V n c L b o2) : Fi w wr.drew B K S L' V n c L b o2 := h.bel (Below.refl _ _).drew
theorem Fi.one (h : Fi w wr B K S L' V n c L b o2) {M : List E} (hg : Gr w' B K 64 S M) (k : wr.grownBy w' (some B)) : Fi w w' B K S M V n c L b o2 := by
  have h1 := h.b1
  have hb := k.block b (cell_lt h.box) (fun e => by injection e with e; omega)
  exact ⟨hg, h.was.kept k (fun g hg e => by injection e with e; have := h.wb g hg; omega), (World.cell?_of_block (w := wr) (w' := w') (a := ⟨b, 2, none⟩) hb).trans h.box, below_only2 h.below k h.below.size h.b0, h.b0, h1, h.wb⟩
theorem Fi.put (h : Fi w wr B K S L' V n c L b o2) {base K' : Nat} {v : Value} {H : List E} (hh : Hl wr base K v H) (hB : B < base) (hb : b ≠ K) (hv : ∀ g, (Value.slice V n c).ownBlock = some g → g ≠ K) (k : wr.grownBy w' (some K)) (hk : K' = K ∨ wr.heap.size ≤ K') : Fi w w' B K' S L' V n c L b o2 := by
  have h1 := h.b1
  have h0 := h.b0
  have hl := hh.lt
  have hbk := k.block b (cell_lt h.box) (fun e => by injection e with e; exact hb e)
  exact ⟨h.gr.grow k (by omega) hk, h.was.kept k (fun g hg e => by injection e with e; exact hv g hg e.symm), (World.cell?_of_block (w := wr) (w' := w') (a := ⟨b, 2, none⟩) hbk).trans h.box, below_only2 h.below k h.below.size (by omega), h0, h1, h.wb⟩
end
theorem Fi.other {w wr : World} {B K K' b n c : Nat} {S o2 : Int} {L L' : List E} {V : Option Addr} (h : Fi w wr B K S L' V n c L b o2) (hk : wr.heap.size ≤ K') : Fi w wr B K' S L' V n c L b o2 :=
  ⟨h.gr.other hk, h.was, h.box, h.below, h.b0, h.b1, h.wb⟩
theorem Gr.self {w : World} {B K : Nat} {A S : Int} {L : List E} (h : Gr w B K A S L) : Gr w B B A S L := by
  obtain ⟨v, a, b, c, d, t⟩ := h
  exact ⟨v, a, b, c, c, t⟩
theorem take_drop_carve {z : Int} {L : List E} {j : Nat} (hI : carveI z L = j) (hj : j < L.length) (hz : sizeB z = true) : carveB z L = true ∧ carveV z L = (L[j]).1 ∧ carveF z L = L.take j ++ (cut z L[j] ++ L.drop (j + 1)) := by
  subst hI
  obtain ⟨k1, k2, k3, k4⟩ := carve_some hj
  have hb : carveB z L = true := by unfold carveB; rw [hz, k1]; rfl
  exact ⟨hb, by unfold carveV; rw [if_pos hb, k2], by unfold carveF; rw [if_pos hb, k4]⟩
theorem carve_not {z : Int} {L : List E} (h : carveB z L = false) : carveV z L = 0 ∧ carveF z L = L := by
  unfold carveV carveF
  rw [if_neg (by rw [h]; decide), if_neg (by rw [h]; decide)]
  exact ⟨rfl, rfl⟩
end Go.Proofs.Ytnekbbdodhokbaa.Gr
