/-
  Contracts of package begin: Of, Tell.
-/
import Derived.Test.YteakglkagmghpaaGreatBegD
import Derived.Lib.SliceRun
namespace Go.Proofs.YteakglkagmghpaaGreat.Beg
open Go.ChangeShapes Go.WideShapes Go.ChangeAt Go.RowKit
open Go.Proofs.YteakglkagmghpaaGreat.Mod Slic
set_option linter.unusedVariables false
set_option linter.unusedSimpArgs false
set_option maxRecDepth 100000
attribute [local go_sem ↓] Go.wp_at_zero Go.wp_at_succ

theorem ent_sr {w : World} {v : Value} {L : List Chain.E} (h : Sr kE w v L) : Chain.Sr w v L := by
  obtain ⟨A, c, rfl, h1, h2, h3, h4⟩ := h
  refine ⟨A, c, rfl, h1, h2, h3, fun hp => ?_⟩
  obtain ⟨g, o, e, hg, hc⟩ := h4 hp
  refine ⟨g, o, e, hg, fun i hi => ⟨?_, ?_⟩⟩
  · have := hc i 0 _ hi rfl
    rw [show o + (i * kE.m + 0) = o + i * 2 by simp [kE]] at this
    exact this
  · have := hc i 1 _ hi rfl
    rw [show o + (i * kE.m + 1) = o + i * 2 + 1 by simp [kE]; omega] at this
    exact this
theorem sr_ent {w : World} {v : Value} {L : List Chain.E} (h : Chain.Sr w v L) : Sr kE w v L := by
  obtain ⟨A, c, rfl, h1, h2, h3, h4⟩ := h
  refine ⟨A, c, rfl, h1, h2, h3, fun hp => ?_⟩
  obtain ⟨g, o, e, hg, hc⟩ := h4 hp
  refine ⟨g, o, e, hg, fun i j u hi hu => ?_⟩
  obtain ⟨c0, c1⟩ := hc i hi
  have hm : kE.m = 2 := rfl
  rw [hm]
  rcases j with _ | _ | j
  · have e : u = .int .i64 (L[i]).1 := by
      have : (kE.enc L[i])[0]? = some (.int .i64 (L[i]).1) := rfl
      rw [this] at hu
      exact (Option.some.inj hu).symm
    rw [e]
    exact c0
  · have e : u = .bool (L[i]).2 := by
      have : (kE.enc L[i])[1]? = some (.bool (L[i]).2) := rfl
      rw [this] at hu
      exact (Option.some.inj hu).symm
    rw [e, show o + (i * 2 + (0 + 1)) = o + i * 2 + 1 by omega]
    exact c1
  · have : (kE.enc L[i])[j + 1 + 1]? = none := rfl
    rw [this] at hu
    cases hu
set_option maxHeartbeats 1000000 in
theorem cloneI_any (w : World) (v : Value) {S : List Int} (h : Sr Fina.kI w v S) (hS : S.length ≤ 100000) : Calls Tryz.prog 129 #[v] w fun e w' => ∃ v', e = .returned v' ∧ Own Fina.kI w' w.heap.size v' S ∧ Below w.heap.size w w' := by
  have h' := h
  obtain ⟨A, c, rfl, h1, h2, h3, h4⟩ := h
  clear h4
  have q : ∀ (W : World) (a : Option Addr) (n c : Nat), (binOp .eql 40 (.slice a n c) (.slice none 0 0)).run Tryz.prog W = .ok (.bool a.isNone) W := fun W a n c => Lib.run_eql_slice_nil W _ _ a n c 0 0 Fina.kI.under
  rcases A with _ | x
  · have hc := h3 rfl
    subst hc
    have e : S = [] := List.eq_nil_of_length_eq_zero (by omega)
    subst e
    clear h' h1 h2 h3
    go_enter Tryz.func129, Tryz.ntmps129
    go_wp2
    go_ret
    exact ⟨_, rfl, Own.nil _ _, Below.refl _ _⟩
  · clear h3
    go_enter Tryz.func129, Tryz.ntmps129
    go_wp2_with (
      refine wpList_app (K := Fina.kI) rfl (.tmp 5) (.tmp 6) rfl rfl rfl rfl (Own.empty w w.heap.size (Nat.le_refl _)) (h'.alloc _) (by simp; omega) (by simp) ?_
      intro v' w' O' g' G')
    go_ret
    exact ⟨_, rfl, O', G'.below _ _ (Nat.le_refl _) (below_one _ _)⟩
/-- What a register has. -/
def regA (R : List Int) (n : Int) : Int := if n < 4 then R.getD n.toNat 0 else 0
theorem regA_wf {R : List Int} (h : ∀ x ∈ R, wf64 x) (n : Int) : wf64 (regA R n) := by
  have z : wf64 0 := by
    unfold wf64
    omega
  unfold regA
  by_cases hn : n < 4
  · rw [if_pos hn, List.getD_eq_getElem?_getD]
    by_cases hl : n.toNat < R.length
    · rw [List.getElem?_eq_getElem hl]
      exact h _ (List.getElem_mem hl)
    · rw [List.getElem?_eq_none (by omega)]
      exact z
  · rw [if_neg hn]
    exact z
/-- What Of tells. -/
def ofR (c : Ca) (be : Be) (area hand val : Int) (ch : Value) : Ru := ⟨c, be.pc, area, hand, val, ch, 0, 0, 0, 0, .slice none 0 0, 0, .slice none 0 0, 0, false, false, false, be.code, 0, .slice none 0 0⟩
abbrev zR : List Value := [.int .u8 0, .int .u8 0, .int .u8 0, .int .u8 0, .int .i64 0, .int .i64 0, .int .i64 0, .int .i64 0, .int .i64 0, .int .u64 0, .int .u64 0, .slice none 0 0, .int .u64 0, .int .u64 0, .int .i64 0, .int .i64 0, .slice none 0 0, .int .i64 0, .slice none 0 0, .int .i64 0, .bool false, .bool false, .bool false, .int .i64 0, .int .i64 0, .slice none 0 0]
def OfD (w : World) (n : Int) (L : List Chain.E) (R : List Int) (c : Ca) (e : Ending) (w' : World) : Prop := ∃ ch, e = .returned (runV (ofR c (begV n L c (regA R c.h) (regA R c.v)) (Chain.areaV L) (regA R c.h) (regA R c.v) ch)) ∧ Sr kE w' ch L ∧ (∀ g, ch.ownBlock = some g → w.heap.size ≤ g) ∧ Below w.heap.size w w'
theorem St.call7 {w0 W : World} {q : Nat} {x : List Value} {y : Nat} {op r h v a b c : Int} {M : List (Nat × List Value)} (S : Held.St w0 W ((y, x) :: (q, [.int .u8 op, .int .u8 r, .int .u8 h, .int .u8 v, .int .i64 a, .int .i64 b, .int .i64 c]) :: M)) :
    W.cell? ⟨q, 0, none⟩ = some (.int .u8 op) ∧ W.cell? ⟨q, 1, none⟩ = some (.int .u8 r) ∧ W.cell? ⟨q, 2, none⟩ = some (.int .u8 h) ∧ W.cell? ⟨q, 3, none⟩ = some (.int .u8 v) ∧ W.cell? ⟨q, 4, none⟩ = some (.int .i64 a) ∧ W.cell? ⟨q, 5, none⟩ = some (.int .i64 b) ∧ W.cell? ⟨q, 6, none⟩ = some (.int .i64 c) :=
  ⟨(S.get 1 rfl).cell 0 _ rfl, (S.get 1 rfl).cell 1 _ rfl, (S.get 1 rfl).cell 2 _ rfl, (S.get 1 rfl).cell 3 _ rfl, (S.get 1 rfl).cell 4 _ rfl, (S.get 1 rfl).cell 5 _ rfl, (S.get 1 rfl).cell 6 _ rfl⟩
theorem setCells_heap (b : Nat) : ∀ (us : List Value) (o : Nat) (w : World), (w.setCells b o us).heap.size = w.heap.size ∧ ∀ g, g ≠ b → (w.setCells b o us).heap[g]? = w.heap[g]?
  | [], _, _ => ⟨rfl, fun _ _ => rfl⟩
  | v :: r, o, w => by
    obtain ⟨h1, h2⟩ := setCells_heap b r (o + 1) (w.setCell ⟨b, o, none⟩ v)
    have q : Sco.Only [b] w (w.setCell ⟨b, o, none⟩ v) := Sco.Only.put _ _ _ _ (by simp)
    refine ⟨h1.trans (by simp [World.setCell]), fun g hg => (h2 g hg).trans ?_⟩
    rcases Nat.lt_or_ge g w.heap.size with hl | hl
    · exact q.block g hl (by simp; exact hg)
    · have e1 : (w.setCell ⟨b, o, none⟩ v).heap.size = w.heap.size := by simp [World.setCell]
      rw [Array.getElem?_eq_none hl, Array.getElem?_eq_none (by omega)]
theorem St.fillAt {w0 : World} {b : Nat} {M : List (Nat × List Value)} : ∀ (us : List Value) (o : Nat) (vs : List Value) (W : World), Held.St w0 W ((b, vs) :: M) → o + us.length = vs.length → Held.St w0 (W.setCells b o us) ((b, vs.take o ++ us) :: M)
  | [], o, vs, W, S, h => by
    rw [List.append_nil, List.take_of_length_le (by simp at h; omega)]
    exact S
  | v :: r, o, vs, W, S, h => by
    have S1 := S.put 0 o rfl v (by rw [List.length_cons] at h; omega)
    have := St.fillAt r (o + 1) (vs.set o v) _ S1 (by rw [List.length_set]; rw [List.length_cons] at h; omega)
    have e : (vs.set o v).take (o + 1) ++ r = vs.take o ++ v :: r := by
      rw [List.length_cons] at h
      have hl : o < (vs.set o v).length := by rw [List.length_set]; omega
      rw [List.take_succ_eq_append_getElem hl, List.getElem_set_self, List.append_assoc, List.take_set_of_le (Nat.le_refl _)]
      rfl
    rw [e] at this
    exact this
/-- A block of one's own is stored into as a whole. -/
theorem St.fill {w0 W : World} {b : Nat} {vs : List Value} {M : List (Nat × List Value)} (S : Held.St w0 W ((b, vs) :: M)) (us : List Value) (h : us.length = vs.length) : Held.St w0 (W.setCells b 0 us) ((b, us) :: M) := by
  have := St.fillAt us 0 vs W S (by omega)
  simpa using this
theorem range_of {w0 W : World} {b : Nat} {vs : List Value} {M : List (Nat × List Value)} (S : Held.St w0 W ((b, vs) :: M)) : W.rangeAt b 0 vs := fun j v hv => by
  rw [Nat.zero_add]
  exact (S.get 0 rfl).cell j v hv
theorem results_cell_mid {fn : Func} {p : Tmp} {ty : TypeId} (h : fn.results = #[.cell p ty]) (tmps : Array Value) (w : World) (g : Nat) (cs : List Value) (d : TypeDesc) (hp : tmps.getD p undef = .pointer (some ⟨g, 0, none⟩)) (hc : w.rangeAt g 0 cs)
    (hu : Tryz.prog.underlying ty = some d) (hd : d.isRow = true) (hi : (Tryz.prog.info? ty).map (·.size) = some cs.length) : (results fn tmps).run Tryz.prog w = .ok (.agg cs.toArray) w := by
  have hp' : tmps[p]?.getD undef = .pointer (some ⟨g, 0, none⟩) := by simpa using hp
  simp [results, h, hp', asAddr, run_loadVar_mid w g 0 ty cs d hc hu hd hi]
theorem St.swap {w0 W : World} {x y : Nat × List Value} {M : List (Nat × List Value)} (S : Held.St w0 W (x :: y :: M)) : Held.St w0 W (y :: x :: M) := by
  refine ⟨S.below, fun z hz => S.at_ z ?_, ?_⟩
  · simp only [List.mem_cons] at hz ⊢
    rcases hz with h | h | h
    · exact .inr (.inl h)
    · exact .inl h
    · exact .inr (.inr h)
  · have := S.nd
    simp only [List.map_cons, List.nodup_cons, List.mem_cons, not_or] at this ⊢
    exact ⟨⟨fun h => this.1.1 h.symm, this.2.1⟩, this.1.2, this.2.2⟩
theorem runL2_one {op r h y a b c pc area ra rb code : Int} {ch : Value} (hc : ch.oneCell' = true) : ∀ u ∈ ([.int .u8 op, .int .u8 r, .int .u8 h, .int .u8 y, .int .i64 a, .int .i64 b, .int .i64 c, .int .i64 pc, .int .i64 area, .int .u64 ra, .int .u64 rb, ch, .int .u64 0, .int .u64 0, .int .i64 0, .int .i64 0, .slice none 0 0, .int .i64 0, .slice none 0 0, .int .i64 0, .bool false, .bool false, .bool false, .int .i64 code, .int .i64 0, .slice none 0 0] : List Value), u.oneCell' = true := by
  intro u hu
  simp only [List.mem_cons, List.not_mem_nil, or_false] at hu
  rcases hu with rfl | rfl | rfl | rfl | rfl | rfl | rfl | rfl | rfl | rfl | rfl | rfl | rfl | rfl | rfl | rfl | rfl | rfl | rfl | rfl | rfl | rfl | rfl | rfl | rfl | rfl
  all_goals first | rfl | exact hc
theorem there_of {w0 W : World} {b : Nat} {vs : List Value} {M : List (Nat × List Value)} (S : Held.St w0 W ((b, vs) :: M)) : W.there b 0 vs.length := fun j hj => by
  have A := S.get 0 rfl
  rw [Nat.zero_add]
  exact ⟨by rw [A.cell j _ (List.getElem?_eq_getElem hj)]; rfl, A.fz j⟩
theorem sr_fill {w : World} {v : Value} {L : List Chain.E} (h : Sr kE w v L) {b : Nat} (us : List Value) (hne : v.ownBlock ≠ some b) : Sr kE (w.setCells b 0 us) v L :=
  h.keep (Nat.le_of_eq (setCells_heap b us 0 w).1.symm) fun g e _ => (setCells_heap b us 0 w).2 g fun e2 => hne (by rw [e, e2])
theorem sr_cell {w : World} {v : Value} {L : List Chain.E} (h : Sr kE w v L) {b : Nat} (o : Nat) (x : Value) (hne : v.ownBlock ≠ some b) : Sr kE (w.setCell ⟨b, o, none⟩ x) v L :=
  h.keep (Nat.le_of_eq (setCells_heap b [x] o w).1.symm) fun g e _ => (setCells_heap b [x] o w).2 g fun e2 => hne (by rw [e, e2])
theorem info_run : (Tryz.prog.info? 87).map (·.size) = some 26 := by kernel_rfl
def runL (op r h y a b c area ra rb : Int) (ch : Value) : List Value := [.int .u8 op, .int .u8 r, .int .u8 h, .int .u8 y, .int .i64 a, .int .i64 b, .int .i64 c, .int .i64 0, .int .i64 area, .int .u64 ra, .int .u64 rb, ch, .int .u64 0, .int .u64 0, .int .i64 0, .int .i64 0, .slice none 0 0, .int .i64 0, .slice none 0 0, .int .i64 0, .bool false, .bool false, .bool false, .int .i64 0, .int .i64 0, .slice none 0 0]
theorem runL_one {op r h y a b c area ra rb : Int} {ch : Value} (hc : ch.oneCell' = true) : ∀ u ∈ runL op r h y a b c area ra rb ch, u.oneCell' = true := by
  intro u hu
  simp only [runL, List.mem_cons, List.not_mem_nil, or_false] at hu
  rcases hu with rfl | rfl | rfl | rfl | rfl | rfl | rfl | rfl | rfl | rfl | rfl | rfl | rfl | rfl | rfl | rfl | rfl | rfl | rfl | rfl | rfl | rfl | rfl | rfl | rfl | rfl
  all_goals first | rfl | exact hc
def OfC (w : World) (q : Nat) (n t i j op r h y a b c ra rb : Int) (L : List Chain.E) (s : Value) (wx : World) : Prop := ∃ g ch, s = ptr g ∧ Held.St w wx [(g, runL op r h y a b c (Chain.areaV L) ra rb ch), (q + 2, zR), (q + 1, [.int .u8 op, .int .u8 r, .int .u8 h, .int .u8 y, .int .i64 a, .int .i64 b, .int .i64 c]), (q, [.int .i64 n, .int .i64 t, .int .i64 i, .int .i64 j])] ∧ Sr kE wx ch L ∧ ch.ownBlock ≠ some g ∧ ch.ownBlock ≠ some (q + 2) ∧ ∀ e, ch.ownBlock = some e → w.heap.size ≤ e
theorem St.call7b {w0 W : World} {q : Nat} {x z : Nat × List Value} {op r h v a b c : Int} {M : List (Nat × List Value)} (S : Held.St w0 W (x :: z :: (q, [.int .u8 op, .int .u8 r, .int .u8 h, .int .u8 v, .int .i64 a, .int .i64 b, .int .i64 c]) :: M)) :
    W.cell? ⟨q, 0, none⟩ = some (.int .u8 op) ∧ W.cell? ⟨q, 1, none⟩ = some (.int .u8 r) ∧ W.cell? ⟨q, 2, none⟩ = some (.int .u8 h) ∧ W.cell? ⟨q, 3, none⟩ = some (.int .u8 v) ∧ W.cell? ⟨q, 4, none⟩ = some (.int .i64 a) ∧ W.cell? ⟨q, 5, none⟩ = some (.int .i64 b) ∧ W.cell? ⟨q, 6, none⟩ = some (.int .i64 c) :=
  ⟨(S.get 2 rfl).cell 0 _ rfl, (S.get 2 rfl).cell 1 _ rfl, (S.get 2 rfl).cell 2 _ rfl, (S.get 2 rfl).cell 3 _ rfl, (S.get 2 rfl).cell 4 _ rfl, (S.get 2 rfl).cell 5 _ rfl, (S.get 2 rfl).cell 6 _ rfl⟩
end Go.Proofs.YteakglkagmghpaaGreat.Beg
