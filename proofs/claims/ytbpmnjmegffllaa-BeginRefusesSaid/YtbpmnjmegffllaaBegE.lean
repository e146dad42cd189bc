/-
  Contracts of package begin: Of, Tell.
-/
import Derived.Test.YtbpmnjmegffllaaBegD
import Derived.Lib.SliceRun
namespace Go.Proofs.Ytbpmnjmegffllaa.Beg
open Go.ChangeShapes Go.WideShapes Go.ChangeAt Go.RowKit
open Go.Proofs.Ytbpmnjmegffllaa.Mod Slic
set_option linter.unusedVariables false
set_option linter.unusedSimpArgs false
set_option maxRecDepth 100000
attribute [local go_sem ↓] Go.wp_at_zero Go.wp_at_succ

theorem ent_sr {w : World} {v : Value} {L : List Chain.E} (h : Sr kE w v L) : Chain.Sr w v L := by
  obtain ⟨A, c, rfl, h1, h2, h3, h4⟩ := h
  refine ⟨A, c, rfl, h1, h2, h3, fun hp => ?_⟩
  obtain ⟨g, o, e, hg, hc⟩ := h4 hp
  refine ⟨g, o, e, hg, fun i hi => ⟨?_, ?_⟩⟩
  · have := hc i 0 _ hi rfl
    rw [show o + (i * kE.m + 0) = o + i * 2 by simp [kE]] at this
    exact this
  · have := hc i 1 _ hi rfl
    rw [show o + (i * kE.m + 1) = o + i * 2 + 1 by simp [kE]; omega] at this
    exact this
theorem sr_ent {w : World} {v : Value} {L : List Chain.E} (h : Chain.Sr w v L) : Sr kE w v L := by
  obtain ⟨A, c, rfl, h1, h2, h3, h4⟩ := h
  refine ⟨A, c, rfl, h1, h2, h3, fun hp => ?_⟩
  obtain ⟨g, o, e, hg, hc⟩ := h4 hp
  refine ⟨g, o, e, hg, fun i j u hi hu => ?_⟩
  obtain ⟨c0, c1⟩ := hc i hi
  have hm : kE.m = 2 := rfl
  rw [hm]
  rcases j with _ | _ | j
  · have e : u = .int .i64 (L[i]).1 := by
      have : (kE.enc L[i])[0]? = some (.int .i64 (L[i]).1) := rfl
      rw [this] at hu
      exact (Option.some.inj hu).symm
    rw [e]
    exact c0
  · have e : u = .bool (L[i]).2 := by
      have : (kE.enc L[i])[1]? = some (.bool (L[i]).2) := rfl
      rw [this] at hu
      exact (Option.some.inj hu).symm
    rw [e, show o + (i * 2 + (0 + 1)) = o + i * 2 + 1 by omega]
    exact c1
  · have : (kE.enc L[i])[j + 1 + 1]? = none := rfl
    rw [this] at hu
    cases hu
set_option maxHeartbeats 1000000 in
theorem cloneI_any (w : World) (v : Value) {S : List Int} (h : Sr Fina.kI w v S) (hS : S.length ≤ 100000) : Calls Try.prog 64 #[v] w fun e w' => ∃ v', e = .returned v' ∧ Own Fina.kI w' w.heap.size v' S ∧ Below w.heap.size w w' := by
  have h' := h
  obtain ⟨A, c, rfl, h1, h2, h3, h4⟩ := h
  clear h4
  have q : ∀ (W : World) (a : Option Addr) (n c : Nat), (binOp .eql 49 (.slice a n c) (.slice none 0 0)).run Try.prog W = .ok (.bool a.isNone) W := fun W a n c => Lib.run_eql_slice_nil W _ _ a n c 0 0 Fina.kI.under
  rcases A with _ | x
  · have hc := h3 rfl
    subst hc
    have e : S = [] := List.eq_nil_of_length_eq_zero (by omega)
    subst e
    clear h' h1 h2 h3
    go_enter Try.func64, Try.ntmps64
    go_wp2
    go_ret
    exact ⟨_, rfl, Own.nil _ _, Below.refl _ _⟩
  · clear h3
    go_enter Try.func64, Try.ntmps64
    go_wp2_with (
      refine wpList_app (K := Fina.kI) rfl (.tmp 5) (.tmp 6) rfl rfl rfl rfl (Own.empty w w.heap.size (Nat.le_refl _)) (h'.alloc _) (by simp; omega) (by simp) ?_
      intro v' w' O' g' G')
    go_ret
    exact ⟨_, rfl, O', G'.below _ _ (Nat.le_refl _) (below_one _ _)⟩
/-- What a register has. -/
def regA (R : List Int) (n : Int) : Int := if n < 4 then R.getD n.toNat 0 else 0
theorem regA_wf {R : List Int} (h : ∀ x ∈ R, wf64 x) (n : Int) : wf64 (regA R n) := by
  have z : wf64 0 := by
    unfold wf64
    omega
  unfold regA
  by_cases hn : n < 4
  · rw [if_pos hn, List.getD_eq_getElem?_getD]
    by_cases hl : n.toNat < R.length
    · rw [List.getElem?_eq_getElem hl]
      exact h _ (List.getElem_mem hl)
    · rw [List.getElem?_eq_none (by omega)]
      exact z
  · rw [if_neg hn]
    exact z
set_option maxHeartbeats 1000000 in
theorem register_any (v : Value) (R : List Int) (n : Int) (w : World) (hR : Sr Fina.kU w v R) (h4 : R.length = 4) (n0 : 0 ≤ n) (n1 : n ≤ 255) : Calls Try.prog 37 #[v, .int .u8 n] w fun e w' => e = .returned (.int .u64 (regA R n)) ∧ w = w' := by
  obtain ⟨A, c, rfl, l1, l2, l3, l4⟩ := id hR
  clear l4
  rw [h4] at l1 ⊢
  by_cases hn : n < 4
  · obtain ⟨k, rfl⟩ := Int.eq_ofNat_of_zero_le n0
    have hk : k < R.length := by omega
    rw [h4] at hR
    obtain ⟨g, o, rfl, hg, hc⟩ := hR.at k hk
    have c0 := hc 0 _ rfl
    rw [show o + (k * Fina.kU.m + 0) = o + k from by simp [Fina.kU]] at c0
    have E := Lib.hid (show regA R (k : Int) = R[k] by
      unfold regA
      rw [if_pos hn, Int.toNat_natCast, List.getD_eq_getElem?_getD, List.getElem?_eq_getElem hk]
      rfl)
    have k4 : (k : Int) < ((4 : Nat) : Int) := by omega
    have z1 : decide ((4 : Int) ≤ (k : Int)) = false := decide_eq_false (by omega)
    have z2 : IntKind.i64.wrap (k : Int) = (k : Int) := IntWalk.i64_in _ (by omega)
    clear hc hR h4
    generalize R[k] = x at c0 E
    go_enter Try.func37, Try.ntmps37
    go_wp2
    go_ret
    exact ⟨by rw [E.out]; rfl, rfl⟩
  · have E := Lib.hid (show regA R n = 0 by unfold regA; rw [if_neg hn])
    have z1 : decide ((4 : Int) ≤ n) = true := decide_eq_true (by omega)
    have z2 : IntKind.i64.wrap n = n := IntWalk.i64_in _ (by omega)
    clear hR h4
    go_enter Try.func37, Try.ntmps37
    go_wp2
    go_ret
    exact ⟨by rw [E.out]; rfl, rfl⟩
/-- What Of tells. -/
def ofR (c : Ca) (be : Be) (area hand val : Int) (ch : Value) : Ru := ⟨c, be.pc, area, hand, val, ch, 0, 0, 0, 0, .slice none 0 0, 0, .slice none 0 0, 0, false, false, false, be.code, 0, .slice none 0 0⟩
abbrev zR : List Value := [.int .u8 0, .int .u8 0, .int .u8 0, .int .u8 0, .int .i64 0, .int .i64 0, .int .i64 0, .int .i64 0, .int .i64 0, .int .u64 0, .int .u64 0, .slice none 0 0, .int .u64 0, .int .u64 0, .int .i64 0, .int .i64 0, .slice none 0 0, .int .i64 0, .slice none 0 0, .int .i64 0, .bool false, .bool false, .bool false, .int .i64 0, .int .i64 0, .slice none 0 0]
def OfD (w : World) (n : Int) (L : List Chain.E) (R : List Int) (c : Ca) (e : Ending) (w' : World) : Prop := ∃ ch, e = .returned (runV (ofR c (begV n L c (regA R c.h) (regA R c.v)) (Chain.areaV L) (regA R c.h) (regA R c.v) ch)) ∧ Sr kE w' ch L ∧ (∀ g, ch.ownBlock = some g → w.heap.size ≤ g) ∧ Below w.heap.size w w'
theorem St.call7 {w0 W : World} {q : Nat} {x : List Value} {y : Nat} {op r h v a b c : Int} {M : List (Nat × List Value)} (S : Held.St w0 W ((y, x) :: (q, [.int .u8 op, .int .u8 r, .int .u8 h, .int .u8 v, .int .i64 a, .int .i64 b, .int .i64 c]) :: M)) :
    W.cell? ⟨q, 0, none⟩ = some (.int .u8 op) ∧ W.cell? ⟨q, 1, none⟩ = some (.int .u8 r) ∧ W.cell? ⟨q, 2, none⟩ = some (.int .u8 h) ∧ W.cell? ⟨q, 3, none⟩ = some (.int .u8 v) ∧ W.cell? ⟨q, 4, none⟩ = some (.int .i64 a) ∧ W.cell? ⟨q, 5, none⟩ = some (.int .i64 b) ∧ W.cell? ⟨q, 6, none⟩ = some (.int .i64 c) :=
  ⟨(S.get 1 rfl).cell 0 _ rfl, (S.get 1 rfl).cell 1 _ rfl, (S.get 1 rfl).cell 2 _ rfl, (S.get 1 rfl).cell 3 _ rfl, (S.get 1 rfl).cell 4 _ rfl, (S.get 1 rfl).cell 5 _ rfl, (S.get 1 rfl).cell 6 _ rfl⟩
theorem setCells_heap (b : Nat) : ∀ (us : List Value) (o : Nat) (w : World), (w.setCells b o us).heap.size = w.heap.size ∧ ∀ g, g ≠ b → (w.setCells b o us).heap[g]? = w.heap[g]?
  | [], _, _ => ⟨rfl, fun _ _ => rfl⟩
  | v :: r, o, w => by
    obtain ⟨h1, h2⟩ := setCells_heap b r (o + 1) (w.setCell ⟨b, o, none⟩ v)
    have q : Sco.Only [b] w (w.setCell ⟨b, o, none⟩ v) := Sco.Only.put _ _ _ _ (by simp)
    refine ⟨h1.trans (by simp [World.setCell]), fun g hg => (h2 g hg).trans ?_⟩
    rcases Nat.lt_or_ge g w.heap.size with hl | hl
    · exact q.block g hl (by simp; exact hg)
    · have e1 : (w.setCell ⟨b, o, none⟩ v).heap.size = w.heap.size := by simp [World.setCell]
      rw [Array.getElem?_eq_none hl, Array.getElem?_eq_none (by omega)]
theorem St.fillAt {w0 : World} {b : Nat} {M : List (Nat × List Value)} : ∀ (us : List Value) (o : Nat) (vs : List Value) (W : World), Held.St w0 W ((b, vs) :: M) → o + us.length = vs.length → Held.St w0 (W.setCells b o us) ((b, vs.take o ++ us) :: M)
  | [], o, vs, W, S, h => by
    rw [List.append_nil, List.take_of_length_le (by simp at h; omega)]
    exact S
  | v :: r, o, vs, W, S, h => by
    have S1 := S.put 0 o rfl v (by rw [List.length_cons] at h; omega)
    have := St.fillAt r (o + 1) (vs.set o v) _ S1 (by rw [List.length_set]; rw [List.length_cons] at h; omega)
    have e : (vs.set o v).take (o + 1) ++ r = vs.take o ++ v :: r := by
      rw [List.length_cons] at h
      have hl : o < (vs.set o v).length := by rw [List.length_set]; omega
      rw [List.take_succ_eq_append_getElem hl, List.getElem_set_self, List.append_assoc, List.take_set_of_le (Nat.le_refl _)]
      rfl
    rw [e] at this
    exact this
/-- A block of one's own is stored into as a whole. -/
theorem St.fill {w0 W : World} {b : Nat} {vs : List Value} {M : List (Nat × List Value)} (S : Held.St w0 W ((b, vs) :: M)) (us : List Value) (h : us.length = vs.length) : Held.St w0 (W.setCells b 0 us) ((b, us) :: M) := by
  have := St.fillAt us 0 vs W S (by omega)
  simpa using this
theorem range_of {w0 W : World} {b : Nat} {vs : List Value} {M : List (Nat × List Value)} (S : Held.St w0 W ((b, vs) :: M)) : W.rangeAt b 0 vs := fun j v hv => by
  rw [Nat.zero_add]
  exact (S.get 0 rfl).cell j v hv
theorem results_cell_mid {fn : Func} {p : Tmp} {ty : TypeId} (h : fn.results = #[.cell p ty]) (tmps : Array Value) (w : World) (g : Nat) (cs : List Value) (d : TypeDesc) (hp : tmps.getD p undef = .pointer (some ⟨g, 0, none⟩)) (hc : w.rangeAt g 0 cs)
    (hu : Try.prog.underlying ty = some d) (hd : d.isRow = true) (hi : (Try.prog.info? ty).map (·.size) = some cs.length) : (results fn tmps).run Try.prog w = .ok (.agg cs.toArray) w := by
  have hp' : tmps[p]?.getD undef = .pointer (some ⟨g, 0, none⟩) := by simpa using hp
  simp [results, h, hp', asAddr, run_loadVar_mid w g 0 ty cs d hc hu hd hi]
theorem St.swap {w0 W : World} {x y : Nat × List Value} {M : List (Nat × List Value)} (S : Held.St w0 W (x :: y :: M)) : Held.St w0 W (y :: x :: M) := by
  refine ⟨S.below, fun z hz => S.at_ z ?_, ?_⟩
  · simp only [List.mem_cons] at hz ⊢
    rcases hz with h | h | h
    · exact .inr (.inl h)
    · exact .inl h
    · exact .inr (.inr h)
  · have := S.nd
    simp only [List.map_cons, List.nodup_cons, List.mem_cons, not_or] at this ⊢
    exact ⟨⟨fun h => this.1.1 h.symm, this.2.1⟩, this.1.2, this.2.2⟩
theorem St.swap2 {w0 W : World} {x y : Nat × List Value} {M : List (Nat × List Value)} (S : Held.St w0 W (x :: y :: M)) : Held.St w0 W (y :: x :: M) := St.swap S
theorem way_len (n : Int) (L : List Chain.E) (c : Ca) (h v : Int) : (wayV n L c h v).cs.length ≤ 1000 := by
  unfold wayV
  by_cases h0 : c.op = 0
  · rw [if_pos h0]
    exact Nat.le_of_ble_eq_true rfl
  rw [if_neg h0]
  by_cases h1 : c.op = 1
  · rw [if_pos h1]
    exact Nat.le_of_ble_eq_true rfl
  rw [if_neg h1]
  by_cases h2 : c.op = 2
  · rw [if_pos h2]
    exact Nat.le_of_ble_eq_true rfl
  rw [if_neg h2]
  by_cases h3 : c.op = 3
  · rw [if_pos h3]
    exact Nat.le_of_ble_eq_true rfl
  rw [if_neg h3]
  by_cases h4 : c.op = 4
  · rw [if_pos h4]
    exact Nat.le_of_ble_eq_true rfl
  rw [if_neg h4]
  by_cases h5 : c.op = 5
  · rw [if_pos h5]
    exact Nat.le_of_ble_eq_true rfl
  rw [if_neg h5]
  by_cases h6 : c.op = 6
  · rw [if_pos h6]
    exact Nat.le_of_ble_eq_true rfl
  rw [if_neg h6]
  by_cases h7 : c.op = 7
  · rw [if_pos h7]
    exact Nat.le_of_ble_eq_true rfl
  rw [if_neg h7]
  by_cases h8 : c.op = 8
  · rw [if_pos h8]
    exact Nat.le_of_ble_eq_true rfl
  rw [if_neg h8]
  by_cases h9 : c.op = 9
  · rw [if_pos h9]
    exact Nat.le_of_ble_eq_true rfl
  rw [if_neg h9]
  by_cases h10 : c.op = 10
  · rw [if_pos h10]
    exact Nat.le_of_ble_eq_true rfl
  rw [if_neg h10]
  by_cases h11 : c.op = 11
  · rw [if_pos h11]
    by_cases h12 : v = 0
    · rw [if_pos h12]
      exact Nat.le_of_ble_eq_true rfl
    · rw [if_neg h12]
      exact Nat.le_of_ble_eq_true rfl
  rw [if_neg h11]
  exact Nat.le_of_ble_eq_true rfl
theorem runL2_one {op r h y a b c pc area ra rb code : Int} {ch : Value} (hc : ch.oneCell' = true) : ∀ u ∈ ([.int .u8 op, .int .u8 r, .int .u8 h, .int .u8 y, .int .i64 a, .int .i64 b, .int .i64 c, .int .i64 pc, .int .i64 area, .int .u64 ra, .int .u64 rb, ch, .int .u64 0, .int .u64 0, .int .i64 0, .int .i64 0, .slice none 0 0, .int .i64 0, .slice none 0 0, .int .i64 0, .bool false, .bool false, .bool false, .int .i64 code, .int .i64 0, .slice none 0 0] : List Value), u.oneCell' = true := by
  intro u hu
  simp only [List.mem_cons, List.not_mem_nil, or_false] at hu
  rcases hu with rfl | rfl | rfl | rfl | rfl | rfl | rfl | rfl | rfl | rfl | rfl | rfl | rfl | rfl | rfl | rfl | rfl | rfl | rfl | rfl | rfl | rfl | rfl | rfl | rfl | rfl
  all_goals first | rfl | exact hc
theorem there_of {w0 W : World} {b : Nat} {vs : List Value} {M : List (Nat × List Value)} (S : Held.St w0 W ((b, vs) :: M)) : W.there b 0 vs.length := fun j hj => by
  have A := S.get 0 rfl
  rw [Nat.zero_add]
  exact ⟨by rw [A.cell j _ (List.getElem?_eq_getElem hj)]; rfl, A.fz j⟩
theorem sr_fill {w : World} {v : Value} {L : List Chain.E} (h : Sr kE w v L) {b : Nat} (us : List Value) (hne : v.ownBlock ≠ some b) : Sr kE (w.setCells b 0 us) v L :=
  h.keep (Nat.le_of_eq (setCells_heap b us 0 w).1.symm) fun g e _ => (setCells_heap b us 0 w).2 g fun e2 => hne (by rw [e, e2])
theorem sr_cell {w : World} {v : Value} {L : List Chain.E} (h : Sr kE w v L) {b : Nat} (o : Nat) (x : Value) (hne : v.ownBlock ≠ some b) : Sr kE (w.setCell ⟨b, o, none⟩ x) v L :=
  h.keep (Nat.le_of_eq (setCells_heap b [x] o w).1.symm) fun g e _ => (setCells_heap b [x] o w).2 g fun e2 => hne (by rw [e, e2])
theorem info_run : (Try.prog.info? 53).map (·.size) = some 26 := by kernel_rfl
def runL (op r h y a b c area ra rb : Int) (ch : Value) : List Value := [.int .u8 op, .int .u8 r, .int .u8 h, .int .u8 y, .int .i64 a, .int .i64 b, .int .i64 c, .int .i64 0, .int .i64 area, .int .u64 ra, .int .u64 rb, ch, .int .u64 0, .int .u64 0, .int .i64 0, .int .i64 0, .slice none 0 0, .int .i64 0, .slice none 0 0, .int .i64 0, .bool false, .bool false, .bool false, .int .i64 0, .int .i64 0, .slice none 0 0]
theorem runL_one {op r h y a b c area ra rb : Int} {ch : Value} (hc : ch.oneCell' = true) : ∀ u ∈ runL op r h y a b c area ra rb ch, u.oneCell' = true := by
  intro u hu
  simp only [runL, List.mem_cons, List.not_mem_nil, or_false] at hu
  rcases hu with rfl | rfl | rfl | rfl | rfl | rfl | rfl | rfl | rfl | rfl | rfl | rfl | rfl | rfl | rfl | rfl | rfl | rfl | rfl | rfl | rfl | rfl | rfl | rfl | rfl | rfl
  all_goals first | rfl | exact hc
def OfC (w : World) (q : Nat) (n t i j op r h y a b c ra rb : Int) (L : List Chain.E) (s : Value) (wx : World) : Prop := ∃ g ch, s = ptr g ∧ Held.St w wx [(g, runL op r h y a b c (Chain.areaV L) ra rb ch), (q + 2, zR), (q + 1, [.int .u8 op, .int .u8 r, .int .u8 h, .int .u8 y, .int .i64 a, .int .i64 b, .int .i64 c]), (q, [.int .i64 n, .int .i64 t, .int .i64 i, .int .i64 j])] ∧ Sr kE wx ch L ∧ ch.ownBlock ≠ some g ∧ ch.ownBlock ≠ some (q + 2) ∧ ∀ e, ch.ownBlock = some e → w.heap.size ≤ e
theorem St.call7b {w0 W : World} {q : Nat} {x z : Nat × List Value} {op r h v a b c : Int} {M : List (Nat × List Value)} (S : Held.St w0 W (x :: z :: (q, [.int .u8 op, .int .u8 r, .int .u8 h, .int .u8 v, .int .i64 a, .int .i64 b, .int .i64 c]) :: M)) :
    W.cell? ⟨q, 0, none⟩ = some (.int .u8 op) ∧ W.cell? ⟨q, 1, none⟩ = some (.int .u8 r) ∧ W.cell? ⟨q, 2, none⟩ = some (.int .u8 h) ∧ W.cell? ⟨q, 3, none⟩ = some (.int .u8 v) ∧ W.cell? ⟨q, 4, none⟩ = some (.int .i64 a) ∧ W.cell? ⟨q, 5, none⟩ = some (.int .i64 b) ∧ W.cell? ⟨q, 6, none⟩ = some (.int .i64 c) :=
  ⟨(S.get 2 rfl).cell 0 _ rfl, (S.get 2 rfl).cell 1 _ rfl, (S.get 2 rfl).cell 2 _ rfl, (S.get 2 rfl).cell 3 _ rfl, (S.get 2 rfl).cell 4 _ rfl, (S.get 2 rfl).cell 5 _ rfl, (S.get 2 rfl).cell 6 _ rfl⟩
set_option maxHeartbeats 40000000 in
theorem of_any (u v : Value) (L : List Chain.E) (R : List Int) (n t i j op r h y a b c : Int) (w : World) (n1 : 1 ≤ n) (n8 : n ≤ 8) (hR : Sr Fina.kU w u R) (h4 : R.length = 4) (hw : ∀ x ∈ R, wf64 x) (hL : Chain.Sr w v L) (hl : L.length ≤ 100000) (h0 : 0 ≤ h) (h1 : h ≤ 255) (y0 : 0 ≤ y) (y1 : y ≤ 255) :
    Calls Try.prog 23 #[planV n t i j, u, v, callV ⟨op, r, h, y, a, b, c⟩] w (OfD w n L R ⟨op, r, h, y, a, b, c⟩) := by
  have S0 := (((Held.St.start w).new [.int .i64 n, .int .i64 t, .int .i64 i, .int .i64 j] 23).new [.int .u8 op, .int .u8 r, .int .u8 h, .int .u8 y, .int .i64 a, .int .i64 b, .int .i64 c] 47).new zR 53
  simp only [World.size_alloc] at S0
  have w1 := regA_wf hw h
  have w2 := regA_wf hw y
  have hE := sr_ent hL
  obtain ⟨Ac, cc, rfl, lc1, lc2, _⟩ := id hL
  obtain ⟨Ar, cr, rfl, _⟩ := id hR
  have HW := Lib.hid hw
  have H4 := Lib.hid h4
  clear hw h4
  obtain ⟨W, hW⟩ : ∃ W : World, W = ((w.alloc (.cells #[.int .i64 n, .int .i64 t, .int .i64 i, .int .i64 j] 23)).alloc (.cells #[.int .u8 op, .int .u8 r, .int .u8 h, .int .u8 y, .int .i64 a, .int .i64 b, .int .i64 c] 47)).alloc (.cells zR.toArray 53) := ⟨_, rfl⟩
  rw [← hW] at S0
  have S1 := S0.drew
  generalize hA : regA R h = ra at *
  generalize hB : regA R y = rb at *
  have HA := Lib.hid hA
  have HB := Lib.hid hB
  clear hA hB
  go_enter Try.func23, Try.ntmps23
  go_wp2_with fail
  go_upto_region 1 with (fail)
  go_cut [9] (fun s wx => OfC w w.heap.size n t i j op r h y a b c ra rb L s wx)
  case first =>
    rw [← hW]
    clear hW
    refine wp_region_held_drew (S := (fun W' => W'.cell? ⟨w.heap.size + 1, 0, none⟩ = some (.int .u8 op) ∧ W'.cell? ⟨w.heap.size + 1, 1, none⟩ = some (.int .u8 r) ∧ W'.cell? ⟨w.heap.size + 1, 2, none⟩ = some (.int .u8 h) ∧ W'.cell? ⟨w.heap.size + 1, 3, none⟩ = some (.int .u8 y) ∧ W'.cell? ⟨w.heap.size + 1, 4, none⟩ = some (.int .i64 a) ∧ W'.cell? ⟨w.heap.size + 1, 5, none⟩ = some (.int .i64 b) ∧ W'.cell? ⟨w.heap.size + 1, 6, none⟩ = some (.int .i64 c))) (by kernel_rfl) ?_ (fun hHeld => ?_)
    · exact St.call7 S1
    refine wpAnyH_take (i := 0) (oi := ⟨some 13, _, _, _, _, _⟩) (v := ?_) rfl (by kernel_rfl) (by kernel_rfl) (by kernel_rfl) (fun _ _ _ h => h) (Or.inl ⟨by kernel_rfl, ?_⟩) (by assumption) ?_
    rotate_left
    · intro w hSw
      try dsimp only at hSw
      first | (go_simp; done) | (go_simp; with_reducible rfl) | with_reducible rfl
    simp only [Act.put, List.setIfInBounds_toArray, List.set_cons_zero, List.set_cons_succ]
    refine wpAnyH_take (i := 1) (oi := ⟨some 14, _, _, _, _, _⟩) (v := ?_) rfl (by kernel_rfl) (by kernel_rfl) (by kernel_rfl) (fun _ _ _ h => h) (Or.inl ⟨by kernel_rfl, ?_⟩) (by assumption) ?_
    rotate_left
    · intro w hSw
      try dsimp only at hSw
      first | (go_simp; done) | (go_simp; with_reducible rfl) | with_reducible rfl
    simp only [Act.put, List.setIfInBounds_toArray, List.set_cons_zero, List.set_cons_succ]
    refine wpAnyH_take (i := 3) (oi := ⟨some 16, _, _, _, _, _⟩) (v := ?_) rfl (by kernel_rfl) (by kernel_rfl) (by kernel_rfl) (fun _ _ _ h => h) (Or.inl ⟨by kernel_rfl, ?_⟩) (by assumption) ?_
    rotate_left
    · intro w hSw
      try dsimp only at hSw
      first | (go_simp; done) | (go_simp; with_reducible rfl) | with_reducible rfl
    simp only [Act.put, List.setIfInBounds_toArray, List.set_cons_zero, List.set_cons_succ]
    refine wpAnyH_take (i := 4) (oi := ⟨some 17, _, _, _, _, _⟩) (v := ?_) rfl (by kernel_rfl) (by kernel_rfl) (by kernel_rfl) (fun _ _ _ h => h) (Or.inl ⟨by kernel_rfl, ?_⟩) (by assumption) ?_
    rotate_left
    · intro w hSw
      try dsimp only at hSw
      first | (go_simp; done) | (go_simp; with_reducible rfl) | with_reducible rfl
    simp only [Act.put, List.setIfInBounds_toArray, List.set_cons_zero, List.set_cons_succ]
    refine wpAnyH_take (i := 5) (oi := ⟨some 18, _, _, _, _, _⟩) (v := ?_) rfl (by kernel_rfl) (by kernel_rfl) (by kernel_rfl) (fun _ _ _ h => h) (Or.inl ⟨by kernel_rfl, ?_⟩) (by assumption) ?_
    rotate_left
    · intro w hSw
      try dsimp only at hSw
      first | (go_simp; done) | (go_simp; with_reducible rfl) | with_reducible rfl
    simp only [Act.put, List.setIfInBounds_toArray, List.set_cons_zero, List.set_cons_succ]
    refine wpAnyH_take (i := 7) (oi := ⟨some 20, _, _, _, _, _⟩) (v := ?_) rfl (by kernel_rfl) (by kernel_rfl) (by kernel_rfl) (fun _ _ _ h => h) (Or.inl ⟨by kernel_rfl, ?_⟩) (by assumption) ?_
    rotate_left
    · intro w hSw
      try dsimp only at hSw
      first | (go_simp; done) | (go_simp; with_reducible rfl) | with_reducible rfl
    simp only [Act.put, List.setIfInBounds_toArray, List.set_cons_zero, List.set_cons_succ]
    refine wpAnyH_take (i := 8) (oi := ⟨some 21, _, _, _, _, _⟩) (v := ?_) rfl (by kernel_rfl) (by kernel_rfl) (by kernel_rfl) (fun _ _ _ h => h) (Or.inl ⟨by kernel_rfl, ?_⟩) (by assumption) ?_
    rotate_left
    · intro w hSw
      try dsimp only at hSw
      first | (go_simp; done) | (go_simp; with_reducible rfl) | with_reducible rfl
    simp only [Act.put, List.setIfInBounds_toArray, List.set_cons_zero, List.set_cons_succ]
    refine wpAnyH_take (i := 9) (oi := ⟨some 22, _, _, _, _, _⟩) (v := ?_) rfl (by kernel_rfl) (by kernel_rfl) (by kernel_rfl) (fun _ _ _ h => h) (Or.inl ⟨by kernel_rfl, ?_⟩) (by assumption) ?_
    rotate_left
    · intro w hSw
      try dsimp only at hSw
      first | (go_simp; done) | (go_simp; with_reducible rfl) | with_reducible rfl
    simp only [Act.put, List.setIfInBounds_toArray, List.set_cons_zero, List.set_cons_succ]
    refine wpAnyH_take (i := 11) (oi := ⟨some 24, _, _, _, _, _⟩) (v := ?_) rfl (by kernel_rfl) (by kernel_rfl) (by kernel_rfl) (fun _ _ _ h => h) (Or.inl ⟨by kernel_rfl, ?_⟩) (by assumption) ?_
    rotate_left
    · intro w hSw
      try dsimp only at hSw
      first | (go_simp; done) | (go_simp; with_reducible rfl) | with_reducible rfl
    simp only [Act.put, List.setIfInBounds_toArray, List.set_cons_zero, List.set_cons_succ]
    refine wpAnyH_ready (rs := [2, 14]) (by kernel_rfl) (by simp) ?_
    refine AllReadyH.cons (o := ⟨some 15, _, _, _, _, _⟩) rfl (fun K hK => ?_) (AllReadyH.cons (o := ⟨some 9, _, _, _, _, _⟩) rfl (fun K hK => ?_) AllReadyH.nil)
    · skip
      go_simp
      go_wp2_with (go_at_call 36; refine (Chain.area_any _ _ L (hL.below S1.below)).mono ?_; rintro e wq ⟨rfl, rfl⟩)
      refine hK.out _ _ ?_ (fun hHeld => ?_)
      · exact St.call7 S1
      clear hK K
      refine wpAnyH_ready (rs := [6, 14]) (by kernel_rfl) (by simp) ?_
      refine AllReadyH.cons (o := ⟨some 19, _, _, _, _, _⟩) rfl (fun K hK => ?_) (AllReadyH.cons (o := ⟨some 9, _, _, _, _, _⟩) rfl (fun K hK => ?_) AllReadyH.nil)
      · skip
        go_simp
        go_wp2_with (go_at_call 37; refine (register_any _ R _ _ (hR.below S1.below) H4.out (by omega) (by omega)).mono ?_; rintro e wq ⟨rfl, rfl⟩; rw [HA.out])
        refine hK.out _ _ ?_ (fun hHeld => ?_)
        · exact St.call7 S1
        clear hK K
        refine wpAnyH_ready (rs := [10, 14]) (by kernel_rfl) (by simp) ?_
        refine AllReadyH.cons (o := ⟨some 23, _, _, _, _, _⟩) rfl (fun K hK => ?_) (AllReadyH.cons (o := ⟨some 9, _, _, _, _, _⟩) rfl (fun K hK => ?_) AllReadyH.nil)
        · skip
          go_simp
          go_wp2_with (go_at_call 37; refine (register_any _ R _ _ (hR.below S1.below) H4.out (by omega) (by omega)).mono ?_; rintro e wq ⟨rfl, rfl⟩; rw [HB.out])
          refine hK.out _ _ ?_ (fun hHeld => ?_)
          · exact St.call7 S1
          clear hK K
          refine wpAnyH_ready (rs := [12, 14]) (by kernel_rfl) (by simp) ?_
          refine AllReadyH.cons (o := ⟨some 25, _, _, _, _, _⟩) rfl (fun K hK => ?_) (AllReadyH.cons (o := ⟨some 9, _, _, _, _, _⟩) rfl (fun K hK => ?_) AllReadyH.nil)
          · skip
            go_simp
            go_wp2_with (go_at_call 38; refine (cloneE_any _ _ (hE.below S1.below) hl).mono ?_; rintro e wq ⟨uc, rfl, O, k⟩; obtain ⟨Au, cu, rfl, lu1, lu2⟩ := O.sr.form)
            refine hK.out _ _ ?_ (fun hHeld => ?_)
            · exact St.call7 (S1.call k)
            clear hK K
            refine wpAnyH_take (i := 13) (oi := ⟨some 26, _, _, _, _, _⟩) (v := ?_) rfl (by kernel_rfl) (by kernel_rfl) (by kernel_rfl) (fun _ _ _ h => h) (Or.inl ⟨by kernel_rfl, ?_⟩) (by assumption) ?_
            rotate_left
            · intro w hSw
              try dsimp only at hSw
              first | (go_simp; done) | (go_simp; with_reducible rfl) | with_reducible rfl
            simp only [Act.put, List.setIfInBounds_toArray, List.set_cons_zero, List.set_cons_succ]
            refine wpAnyH_ready (rs := [14]) (by kernel_rfl) (by simp) ?_
            refine AllReadyH.cons (o := ⟨some 9, _, _, _, _, _⟩) rfl (fun K hK => ?_) AllReadyH.nil
            go_simp
            refine hK.out _ _ ?_ (fun hHeld => ?_)
            · exact St.call7 ((S1.call k).alloc _)
            clear hK K
            refine wpAnyH_ready (rs := [15]) (by kernel_rfl) (by simp) ?_
            refine AllReadyH.cons (o := ⟨none, _, _, _, _, _⟩) rfl (fun K hK => ?_) AllReadyH.nil
            have AA := (S1.call k).new zR 53
            have AF := St.fill AA (runL op r h y a b c (Chain.areaV L) ra rb (.slice Au L.length cu)) rfl
            have TT : World.there _ wq.heap.size 0 26 := there_of AA
            rw [if_pos (by rfl)]
            refine wp_store_mid _ _ _ rfl wq.heap.size 0 (runL op r h y a b c (Chain.areaV L) ra rb (.slice Au L.length cu)).toArray rfl rfl TT info_run (all_oneCell_toArray (runL_one rfl)) ?_
            simp only [Act.put]
            refine hK.out _ _ ?_ (fun hHeld => ?_)
            · exact St.call7b AF
            clear hK K
            refine wpAnyH_done (by kernel_rfl) ?_ _
            go_wp2_with fail
            go_meet
            have l0 := (S0.get 0 rfl).lt
            exact ⟨wq.heap.size, .slice Au L.length cu, rfl, AF, sr_fill (O.sr.below (below_one _ _)) _ (fun e => by have l := O.lt _ e; omega), (fun e => by have l := O.lt _ e; omega), (fun e => by have l := O.lt _ e; simp only [World.drew] at l; omega), (fun e he => by have l := (O.lt _ he).1; have l3 := S0.below.size; have l2 := World.size_alloc W (.cells zR.toArray 53); (try simp only [World.drew] at l); omega)⟩
          · skip
            go_simp
            refine hK.out _ _ ?_ (fun hHeld => ?_)
            · exact St.call7 (S0.alloc _).drew
            clear hK K
            refine wpAnyH_ready (rs := [12]) (by kernel_rfl) (by simp) ?_
            refine AllReadyH.cons (o := ⟨some 25, _, _, _, _, _⟩) rfl (fun K hK => ?_) AllReadyH.nil
            go_simp
            go_wp2_with (go_at_call 38; refine (cloneE_any _ _ (hE.below (S0.new zR 53).drew.below) hl).mono ?_; rintro e wq ⟨uc, rfl, O, k⟩; obtain ⟨Au, cu, rfl, lu1, lu2⟩ := O.sr.form)
            refine hK.out _ _ ?_ (fun hHeld => ?_)
            · exact St.call7 ((S0.alloc _).drew.call k)
            clear hK K
            refine wpAnyH_take (i := 13) (oi := ⟨some 26, _, _, _, _, _⟩) (v := ?_) rfl (by kernel_rfl) (by kernel_rfl) (by kernel_rfl) (fun _ _ _ h => h) (Or.inl ⟨by kernel_rfl, ?_⟩) (by assumption) ?_
            rotate_left
            · intro w hSw
              try dsimp only at hSw
              first | (go_simp; done) | (go_simp; with_reducible rfl) | with_reducible rfl
            simp only [Act.put, List.setIfInBounds_toArray, List.set_cons_zero, List.set_cons_succ]
            refine wpAnyH_ready (rs := [15]) (by kernel_rfl) (by simp) ?_
            refine AllReadyH.cons (o := ⟨none, _, _, _, _, _⟩) rfl (fun K hK => ?_) AllReadyH.nil
            have AA := (S0.new zR 53).drew.call k
            have AF := St.fill AA (runL op r h y a b c (Chain.areaV L) ra rb (.slice Au L.length cu)) rfl
            have TT : World.there _ W.heap.size 0 26 := there_of AA
            rw [if_pos (by rfl)]
            refine wp_store_mid _ _ _ rfl W.heap.size 0 (runL op r h y a b c (Chain.areaV L) ra rb (.slice Au L.length cu)).toArray rfl rfl TT info_run (all_oneCell_toArray (runL_one rfl)) ?_
            simp only [Act.put]
            refine hK.out _ _ ?_ (fun hHeld => ?_)
            · exact St.call7b AF
            clear hK K
            refine wpAnyH_done (by kernel_rfl) ?_ _
            go_wp2_with fail
            go_meet
            have l0 := (S0.get 0 rfl).lt
            exact ⟨W.heap.size, .slice Au L.length cu, rfl, AF, sr_fill O.sr _ (fun e => by have l := O.lt _ e; have l2 := World.size_alloc W (.cells zR.toArray 53); simp only [World.drew] at l; omega), (fun e => by have l := O.lt _ e; have l2 := World.size_alloc W (.cells zR.toArray 53); simp only [World.drew] at l; omega), (fun e => by have l := O.lt _ e; have l2 := World.size_alloc W (.cells zR.toArray 53); simp only [World.drew] at l; omega), (fun e he => by have l := (O.lt _ he).1; have l3 := S0.below.size; have l2 := World.size_alloc W (.cells zR.toArray 53); (try simp only [World.drew] at l); omega)⟩
        · skip
          go_simp
          refine hK.out _ _ ?_ (fun hHeld => ?_)
          · exact St.call7 (S0.alloc _).drew
          clear hK K
          refine wpAnyH_ready (rs := [10]) (by kernel_rfl) (by simp) ?_
          refine AllReadyH.cons (o := ⟨some 23, _, _, _, _, _⟩) rfl (fun K hK => ?_) AllReadyH.nil
          go_simp
          go_wp2_with (go_at_call 37; refine (register_any _ R _ _ (hR.below (S0.new zR 53).drew.below) H4.out (by omega) (by omega)).mono ?_; rintro e wq ⟨rfl, rfl⟩; rw [HB.out])
          refine hK.out _ _ ?_ (fun hHeld => ?_)
          · exact St.call7 (S0.alloc _).drew
          clear hK K
          refine wpAnyH_ready (rs := [12]) (by kernel_rfl) (by simp) ?_
          refine AllReadyH.cons (o := ⟨some 25, _, _, _, _, _⟩) rfl (fun K hK => ?_) AllReadyH.nil
          go_simp
          go_wp2_with (go_at_call 38; refine (cloneE_any _ _ (hE.below (S0.new zR 53).drew.below) hl).mono ?_; rintro e wq ⟨uc, rfl, O, k⟩; obtain ⟨Au, cu, rfl, lu1, lu2⟩ := O.sr.form)
          refine hK.out _ _ ?_ (fun hHeld => ?_)
          · exact St.call7 ((S0.alloc _).drew.call k)
          clear hK K
          refine wpAnyH_take (i := 13) (oi := ⟨some 26, _, _, _, _, _⟩) (v := ?_) rfl (by kernel_rfl) (by kernel_rfl) (by kernel_rfl) (fun _ _ _ h => h) (Or.inl ⟨by kernel_rfl, ?_⟩) (by assumption) ?_
          rotate_left
          · intro w hSw
            try dsimp only at hSw
            first | (go_simp; done) | (go_simp; with_reducible rfl) | with_reducible rfl
          simp only [Act.put, List.setIfInBounds_toArray, List.set_cons_zero, List.set_cons_succ]
          refine wpAnyH_ready (rs := [15]) (by kernel_rfl) (by simp) ?_
          refine AllReadyH.cons (o := ⟨none, _, _, _, _, _⟩) rfl (fun K hK => ?_) AllReadyH.nil
          have AA := (S0.new zR 53).drew.call k
          have AF := St.fill AA (runL op r h y a b c (Chain.areaV L) ra rb (.slice Au L.length cu)) rfl
          have TT : World.there _ W.heap.size 0 26 := there_of AA
          rw [if_pos (by rfl)]
          refine wp_store_mid _ _ _ rfl W.heap.size 0 (runL op r h y a b c (Chain.areaV L) ra rb (.slice Au L.length cu)).toArray rfl rfl TT info_run (all_oneCell_toArray (runL_one rfl)) ?_
          simp only [Act.put]
          refine hK.out _ _ ?_ (fun hHeld => ?_)
          · exact St.call7b AF
          clear hK K
          refine wpAnyH_done (by kernel_rfl) ?_ _
          go_wp2_with fail
          go_meet
          have l0 := (S0.get 0 rfl).lt
          exact ⟨W.heap.size, .slice Au L.length cu, rfl, AF, sr_fill O.sr _ (fun e => by have l := O.lt _ e; have l2 := World.size_alloc W (.cells zR.toArray 53); simp only [World.drew] at l; omega), (fun e => by have l := O.lt _ e; have l2 := World.size_alloc W (.cells zR.toArray 53); simp only [World.drew] at l; omega), (fun e => by have l := O.lt _ e; have l2 := World.size_alloc W (.cells zR.toArray 53); simp only [World.drew] at l; omega), (fun e he => by have l := (O.lt _ he).1; have l3 := S0.below.size; have l2 := World.size_alloc W (.cells zR.toArray 53); (try simp only [World.drew] at l); omega)⟩
      · skip
        go_simp
        refine hK.out _ _ ?_ (fun hHeld => ?_)
        · exact St.call7 (S0.alloc _).drew
        clear hK K
        refine wpAnyH_ready (rs := [6]) (by kernel_rfl) (by simp) ?_
        refine AllReadyH.cons (o := ⟨some 19, _, _, _, _, _⟩) rfl (fun K hK => ?_) AllReadyH.nil
        go_simp
        go_wp2_with (go_at_call 37; refine (register_any _ R _ _ (hR.below (S0.new zR 53).drew.below) H4.out (by omega) (by omega)).mono ?_; rintro e wq ⟨rfl, rfl⟩; rw [HA.out])
        refine hK.out _ _ ?_ (fun hHeld => ?_)
        · exact St.call7 (S0.alloc _).drew
        clear hK K
        refine wpAnyH_ready (rs := [10]) (by kernel_rfl) (by simp) ?_
        refine AllReadyH.cons (o := ⟨some 23, _, _, _, _, _⟩) rfl (fun K hK => ?_) AllReadyH.nil
        go_simp
        go_wp2_with (go_at_call 37; refine (register_any _ R _ _ (hR.below (S0.new zR 53).drew.below) H4.out (by omega) (by omega)).mono ?_; rintro e wq ⟨rfl, rfl⟩; rw [HB.out])
        refine hK.out _ _ ?_ (fun hHeld => ?_)
        · exact St.call7 (S0.alloc _).drew
        clear hK K
        refine wpAnyH_ready (rs := [12]) (by kernel_rfl) (by simp) ?_
        refine AllReadyH.cons (o := ⟨some 25, _, _, _, _, _⟩) rfl (fun K hK => ?_) AllReadyH.nil
        go_simp
        go_wp2_with (go_at_call 38; refine (cloneE_any _ _ (hE.below (S0.new zR 53).drew.below) hl).mono ?_; rintro e wq ⟨uc, rfl, O, k⟩; obtain ⟨Au, cu, rfl, lu1, lu2⟩ := O.sr.form)
        refine hK.out _ _ ?_ (fun hHeld => ?_)
        · exact St.call7 ((S0.alloc _).drew.call k)
        clear hK K
        refine wpAnyH_take (i := 13) (oi := ⟨some 26, _, _, _, _, _⟩) (v := ?_) rfl (by kernel_rfl) (by kernel_rfl) (by kernel_rfl) (fun _ _ _ h => h) (Or.inl ⟨by kernel_rfl, ?_⟩) (by assumption) ?_
        rotate_left
        · intro w hSw
          try dsimp only at hSw
          first | (go_simp; done) | (go_simp; with_reducible rfl) | with_reducible rfl
        simp only [Act.put, List.setIfInBounds_toArray, List.set_cons_zero, List.set_cons_succ]
        refine wpAnyH_ready (rs := [15]) (by kernel_rfl) (by simp) ?_
        refine AllReadyH.cons (o := ⟨none, _, _, _, _, _⟩) rfl (fun K hK => ?_) AllReadyH.nil
        have AA := (S0.new zR 53).drew.call k
        have AF := St.fill AA (runL op r h y a b c (Chain.areaV L) ra rb (.slice Au L.length cu)) rfl
        have TT : World.there _ W.heap.size 0 26 := there_of AA
        rw [if_pos (by rfl)]
        refine wp_store_mid _ _ _ rfl W.heap.size 0 (runL op r h y a b c (Chain.areaV L) ra rb (.slice Au L.length cu)).toArray rfl rfl TT info_run (all_oneCell_toArray (runL_one rfl)) ?_
        simp only [Act.put]
        refine hK.out _ _ ?_ (fun hHeld => ?_)
        · exact St.call7b AF
        clear hK K
        refine wpAnyH_done (by kernel_rfl) ?_ _
        go_wp2_with fail
        go_meet
        have l0 := (S0.get 0 rfl).lt
        exact ⟨W.heap.size, .slice Au L.length cu, rfl, AF, sr_fill O.sr _ (fun e => by have l := O.lt _ e; have l2 := World.size_alloc W (.cells zR.toArray 53); simp only [World.drew] at l; omega), (fun e => by have l := O.lt _ e; have l2 := World.size_alloc W (.cells zR.toArray 53); simp only [World.drew] at l; omega), (fun e => by have l := O.lt _ e; have l2 := World.size_alloc W (.cells zR.toArray 53); simp only [World.drew] at l; omega), (fun e he => by have l := (O.lt _ he).1; have l3 := S0.below.size; have l2 := World.size_alloc W (.cells zR.toArray 53); (try simp only [World.drew] at l); omega)⟩
    · skip
      go_simp
      refine hK.out _ _ ?_ (fun hHeld => ?_)
      · exact St.call7 (S0.alloc _).drew
      clear hK K
      refine wpAnyH_ready (rs := [2]) (by kernel_rfl) (by simp) ?_
      refine AllReadyH.cons (o := ⟨some 15, _, _, _, _, _⟩) rfl (fun K hK => ?_) AllReadyH.nil
      go_simp
      go_wp2_with (go_at_call 36; refine (Chain.area_any _ _ L (hL.below (S0.new zR 53).drew.below)).mono ?_; rintro e wq ⟨rfl, rfl⟩)
      refine hK.out _ _ ?_ (fun hHeld => ?_)
      · exact St.call7 (S0.alloc _).drew
      clear hK K
      refine wpAnyH_ready (rs := [6]) (by kernel_rfl) (by simp) ?_
      refine AllReadyH.cons (o := ⟨some 19, _, _, _, _, _⟩) rfl (fun K hK => ?_) AllReadyH.nil
      go_simp
      go_wp2_with (go_at_call 37; refine (register_any _ R _ _ (hR.below (S0.new zR 53).drew.below) H4.out (by omega) (by omega)).mono ?_; rintro e wq ⟨rfl, rfl⟩; rw [HA.out])
      refine hK.out _ _ ?_ (fun hHeld => ?_)
      · exact St.call7 (S0.alloc _).drew
      clear hK K
      refine wpAnyH_ready (rs := [10]) (by kernel_rfl) (by simp) ?_
      refine AllReadyH.cons (o := ⟨some 23, _, _, _, _, _⟩) rfl (fun K hK => ?_) AllReadyH.nil
      go_simp
      go_wp2_with (go_at_call 37; refine (register_any _ R _ _ (hR.below (S0.new zR 53).drew.below) H4.out (by omega) (by omega)).mono ?_; rintro e wq ⟨rfl, rfl⟩; rw [HB.out])
      refine hK.out _ _ ?_ (fun hHeld => ?_)
      · exact St.call7 (S0.alloc _).drew
      clear hK K
      refine wpAnyH_ready (rs := [12]) (by kernel_rfl) (by simp) ?_
      refine AllReadyH.cons (o := ⟨some 25, _, _, _, _, _⟩) rfl (fun K hK => ?_) AllReadyH.nil
      go_simp
      go_wp2_with (go_at_call 38; refine (cloneE_any _ _ (hE.below (S0.new zR 53).drew.below) hl).mono ?_; rintro e wq ⟨uc, rfl, O, k⟩; obtain ⟨Au, cu, rfl, lu1, lu2⟩ := O.sr.form)
      refine hK.out _ _ ?_ (fun hHeld => ?_)
      · exact St.call7 ((S0.alloc _).drew.call k)
      clear hK K
      refine wpAnyH_take (i := 13) (oi := ⟨some 26, _, _, _, _, _⟩) (v := ?_) rfl (by kernel_rfl) (by kernel_rfl) (by kernel_rfl) (fun _ _ _ h => h) (Or.inl ⟨by kernel_rfl, ?_⟩) (by assumption) ?_
      rotate_left
      · intro w hSw
        try dsimp only at hSw
        first | (go_simp; done) | (go_simp; with_reducible rfl) | with_reducible rfl
      simp only [Act.put, List.setIfInBounds_toArray, List.set_cons_zero, List.set_cons_succ]
      refine wpAnyH_ready (rs := [15]) (by kernel_rfl) (by simp) ?_
      refine AllReadyH.cons (o := ⟨none, _, _, _, _, _⟩) rfl (fun K hK => ?_) AllReadyH.nil
      have AA := (S0.new zR 53).drew.call k
      have AF := St.fill AA (runL op r h y a b c (Chain.areaV L) ra rb (.slice Au L.length cu)) rfl
      have TT : World.there _ W.heap.size 0 26 := there_of AA
      rw [if_pos (by rfl)]
      refine wp_store_mid _ _ _ rfl W.heap.size 0 (runL op r h y a b c (Chain.areaV L) ra rb (.slice Au L.length cu)).toArray rfl rfl TT info_run (all_oneCell_toArray (runL_one rfl)) ?_
      simp only [Act.put]
      refine hK.out _ _ ?_ (fun hHeld => ?_)
      · exact St.call7b AF
      clear hK K
      refine wpAnyH_done (by kernel_rfl) ?_ _
      go_wp2_with fail
      go_meet
      have l0 := (S0.get 0 rfl).lt
      exact ⟨W.heap.size, .slice Au L.length cu, rfl, AF, sr_fill O.sr _ (fun e => by have l := O.lt _ e; have l2 := World.size_alloc W (.cells zR.toArray 53); simp only [World.drew] at l; omega), (fun e => by have l := O.lt _ e; have l2 := World.size_alloc W (.cells zR.toArray 53); simp only [World.drew] at l; omega), (fun e => by have l := O.lt _ e; have l2 := World.size_alloc W (.cells zR.toArray 53); simp only [World.drew] at l; omega), (fun e he => by have l := (O.lt _ he).1; have l3 := S0.below.size; have l2 := World.size_alloc W (.cells zR.toArray 53); (try simp only [World.drew] at l); omega)⟩
  case rest =>
    obtain ⟨g, ch, rfl, S, O, OG, OQ, OB⟩ := hcut
    have HE := Lib.hid hE
    obtain ⟨Ac', cc', rfl, _⟩ := O.form
    have hL2 := ent_sr O
    generalize hG : Chain.areaV L = ga at *
    have HG := Lib.hid hG
    clear hG hE
    have P := S.get 3 rfl
    obtain ⟨wa, hwa⟩ : ∃ x, wayV n L ⟨op, r, h, y, a, b, c⟩ ra rb = x := ⟨_, rfl⟩
    have HWL := Lib.hid (way_len n L ⟨op, r, h, y, a, b, c⟩ ra rb)
    rw [hwa] at HWL
    have HWA := Lib.hid hwa
    clear hwa
    have RA := range_of S
    have p0 := P.cell 0 _ rfl
    have p1 := P.cell 1 _ rfl
    have p2 := P.cell 2 _ rfl
    have p3 := P.cell 3 _ rfl
    go_wp2_with (refine wpList_load_mid rfl _ _ rfl g 0 rfl [.int .u8 op, .int .u8 r, .int .u8 h, .int .u8 y, .int .i64 a, .int .i64 b, .int .i64 c, .int .i64 0, .int .i64 ga, .int .u64 ra, .int .u64 rb, .slice Ac' L.length cc', .int .u64 0, .int .u64 0, .int .i64 0, .int .i64 0, .slice none 0 0, .int .i64 0, .slice none 0 0, .int .i64 0, .bool false, .bool false, .bool false, .int .i64 0, .int .i64 0, .slice none 0 0] _ RA Try.underlying53 rfl info_run ?_)
    refine (way_any n t i j n1 n8 ⟨⟨op, r, h, y, a, b, c⟩, 0, ga, ra, rb, .slice Ac' L.length cc', 0, 0, 0, 0, .slice none 0 0, 0, .slice none 0 0, 0, false, false, false, 0, 0, .slice none 0 0⟩ L _ hL2 (by omega) w1 w2).mono ?_
    rintro z w2 ⟨u, rfl, AS, k2⟩
    dsimp only at AS ⊢
    rw [HWA.out] at AS ⊢
    have S1 := S.call k2
    have O1 := O.below k2
    go_wp2_with fail
    refine (first_any _ u _ AS HWL.out).mono ?_
    rintro z w3 ⟨rfl, k3⟩
    have S1 := S1.call k3
    have O1 := O1.below k3
    have a7 := (S1.get 0 rfl).cell 7 _ rfl
    have a23 := (S1.get 0 rfl).cell 23 _ rfl
    have fz := (S1.get 0 rfl).fz
    generalize hF : firE wa.cs = F
    have HF := Lib.hid hF
    clear hF
    by_cases hF0 : F = 0
    · subst hF0
      have E0 := Lib.hid (show ∀ ch, ofR ⟨op, r, h, y, a, b, c⟩ (begV n L ⟨op, r, h, y, a, b, c⟩ (regA R h) (regA R y)) (Chain.areaV L) (regA R h) (regA R y) ch = ⟨⟨op, r, h, y, a, b, c⟩, wa.pc, ga, ra, rb, ch, 0, 0, 0, 0, .slice none 0 0, 0, .slice none 0 0, 0, false, false, false, 0, 0, .slice none 0 0⟩ from fun ch => by
        rw [HA.out, HB.out, HG.out]
        unfold ofR begV
        rw [HWA.out, HF.out]
        rfl)
      as_aux_lemma =>
        have S2 := ((S1.put 0 7 rfl (.int .i64 wa.pc) (show 7 < 26 by decide)).put 0 23 rfl (.int .i64 0) (show 23 < 26 by decide))
        have R2 := range_of S2
        have T2 := there_of (St.swap2 S2)
        have S3 := St.fill (St.swap2 S2) [.int .u8 op, .int .u8 r, .int .u8 h, .int .u8 y, .int .i64 a, .int .i64 b, .int .i64 c, .int .i64 wa.pc, .int .i64 ga, .int .u64 ra, .int .u64 rb, .slice Ac' L.length cc', .int .u64 0, .int .u64 0, .int .i64 0, .int .i64 0, .slice none 0 0, .int .i64 0, .slice none 0 0, .int .i64 0, .bool false, .bool false, .bool false, .int .i64 0, .int .i64 0, .slice none 0 0] rfl
        have R3 := range_of S3
        have O3 := sr_fill (w := (w3.setCell ⟨g, 7, none⟩ (.int .i64 wa.pc)).setCell ⟨g, 23, none⟩ (.int .i64 0)) (b := w.heap.size + 2) (v := .slice Ac' L.length cc') (L := L) (sr_cell (sr_cell O1 7 _ OG) 23 _ OG) [.int .u8 op, .int .u8 r, .int .u8 h, .int .u8 y, .int .i64 a, .int .i64 b, .int .i64 c, .int .i64 wa.pc, .int .i64 ga, .int .u64 ra, .int .u64 rb, .slice Ac' L.length cc', .int .u64 0, .int .u64 0, .int .i64 0, .int .i64 0, .slice none 0 0, .int .i64 0, .slice none 0 0, .int .i64 0, .bool false, .bool false, .bool false, .int .i64 0, .int .i64 0, .slice none 0 0] OQ
        go_wp2_with (first
          | refine wpList_load_mid rfl _ _ rfl g 0 rfl [.int .u8 op, .int .u8 r, .int .u8 h, .int .u8 y, .int .i64 a, .int .i64 b, .int .i64 c, .int .i64 wa.pc, .int .i64 ga, .int .u64 ra, .int .u64 rb, .slice Ac' L.length cc', .int .u64 0, .int .u64 0, .int .i64 0, .int .i64 0, .slice none 0 0, .int .i64 0, .slice none 0 0, .int .i64 0, .bool false, .bool false, .bool false, .int .i64 0, .int .i64 0, .slice none 0 0] _ R2 Try.underlying53 rfl info_run ?_
          | refine wpList_store_mid rfl _ _ _ rfl (w.heap.size + 2) 0 ([.int .u8 op, .int .u8 r, .int .u8 h, .int .u8 y, .int .i64 a, .int .i64 b, .int .i64 c, .int .i64 wa.pc, .int .i64 ga, .int .u64 ra, .int .u64 rb, .slice Ac' L.length cc', .int .u64 0, .int .u64 0, .int .i64 0, .int .i64 0, .slice none 0 0, .int .i64 0, .slice none 0 0, .int .i64 0, .bool false, .bool false, .bool false, .int .i64 0, .int .i64 0, .slice none 0 0]).toArray rfl rfl T2 info_run (all_oneCell_toArray (runL2_one rfl)) ?_)
        refine bodyPost_ret (v := runV ⟨⟨op, r, h, y, a, b, c⟩, wa.pc, ga, ra, rb, .slice Ac' L.length cc', 0, 0, 0, 0, .slice none 0 0, 0, .slice none 0 0, 0, false, false, false, 0, 0, .slice none 0 0⟩) (results_cell_mid rfl _ _ (w.heap.size + 2) [.int .u8 op, .int .u8 r, .int .u8 h, .int .u8 y, .int .i64 a, .int .i64 b, .int .i64 c, .int .i64 wa.pc, .int .i64 ga, .int .u64 ra, .int .u64 rb, .slice Ac' L.length cc', .int .u64 0, .int .u64 0, .int .i64 0, .int .i64 0, .slice none 0 0, .int .i64 0, .slice none 0 0, .int .i64 0, .bool false, .bool false, .bool false, .int .i64 0, .int .i64 0, .slice none 0 0] _ rfl R3 Try.underlying53 rfl info_run) rfl ?_
        exact ⟨.slice Ac' L.length cc', by show _ = Ending.returned (runV (ofR _ _ _ _ _ _)); rw [E0.out], O3, OB, S3.below⟩
    · have z1 : (F == 0) = false := by simpa using hF0
      have z2 : (F != 0) = true := by simpa using hF0
      have E1 := Lib.hid (show ∀ ch, ofR ⟨op, r, h, y, a, b, c⟩ (begV n L ⟨op, r, h, y, a, b, c⟩ (regA R h) (regA R y)) (Chain.areaV L) (regA R h) (regA R y) ch = ⟨⟨op, r, h, y, a, b, c⟩, 0, ga, ra, rb, ch, 0, 0, 0, 0, .slice none 0 0, 0, .slice none 0 0, 0, false, false, false, F, 0, .slice none 0 0⟩ from fun ch => by
        rw [HA.out, HB.out, HG.out]
        unfold ofR begV
        rw [HWA.out, HF.out]
        rw [if_neg hF0])
      clear hF0
      as_aux_lemma =>
        have S2 := ((S1.put 0 7 rfl (.int .i64 0) (show 7 < 26 by decide)).put 0 23 rfl (.int .i64 F) (show 23 < 26 by decide))
        have R2 := range_of S2
        have T2 := there_of (St.swap2 S2)
        have S3 := St.fill (St.swap2 S2) [.int .u8 op, .int .u8 r, .int .u8 h, .int .u8 y, .int .i64 a, .int .i64 b, .int .i64 c, .int .i64 0, .int .i64 ga, .int .u64 ra, .int .u64 rb, .slice Ac' L.length cc', .int .u64 0, .int .u64 0, .int .i64 0, .int .i64 0, .slice none 0 0, .int .i64 0, .slice none 0 0, .int .i64 0, .bool false, .bool false, .bool false, .int .i64 F, .int .i64 0, .slice none 0 0] rfl
        have R3 := range_of S3
        have O3 := sr_fill (w := (w3.setCell ⟨g, 7, none⟩ (.int .i64 0)).setCell ⟨g, 23, none⟩ (.int .i64 F)) (b := w.heap.size + 2) (v := .slice Ac' L.length cc') (L := L) (sr_cell (sr_cell O1 7 _ OG) 23 _ OG) [.int .u8 op, .int .u8 r, .int .u8 h, .int .u8 y, .int .i64 a, .int .i64 b, .int .i64 c, .int .i64 0, .int .i64 ga, .int .u64 ra, .int .u64 rb, .slice Ac' L.length cc', .int .u64 0, .int .u64 0, .int .i64 0, .int .i64 0, .slice none 0 0, .int .i64 0, .slice none 0 0, .int .i64 0, .bool false, .bool false, .bool false, .int .i64 F, .int .i64 0, .slice none 0 0] OQ
        go_wp2_with (first
          | refine wpList_load_mid rfl _ _ rfl g 0 rfl [.int .u8 op, .int .u8 r, .int .u8 h, .int .u8 y, .int .i64 a, .int .i64 b, .int .i64 c, .int .i64 0, .int .i64 ga, .int .u64 ra, .int .u64 rb, .slice Ac' L.length cc', .int .u64 0, .int .u64 0, .int .i64 0, .int .i64 0, .slice none 0 0, .int .i64 0, .slice none 0 0, .int .i64 0, .bool false, .bool false, .bool false, .int .i64 F, .int .i64 0, .slice none 0 0] _ R2 Try.underlying53 rfl info_run ?_
          | refine wpList_store_mid rfl _ _ _ rfl (w.heap.size + 2) 0 ([.int .u8 op, .int .u8 r, .int .u8 h, .int .u8 y, .int .i64 a, .int .i64 b, .int .i64 c, .int .i64 0, .int .i64 ga, .int .u64 ra, .int .u64 rb, .slice Ac' L.length cc', .int .u64 0, .int .u64 0, .int .i64 0, .int .i64 0, .slice none 0 0, .int .i64 0, .slice none 0 0, .int .i64 0, .bool false, .bool false, .bool false, .int .i64 F, .int .i64 0, .slice none 0 0]).toArray rfl rfl T2 info_run (all_oneCell_toArray (runL2_one rfl)) ?_)
        refine bodyPost_ret (v := runV ⟨⟨op, r, h, y, a, b, c⟩, 0, ga, ra, rb, .slice Ac' L.length cc', 0, 0, 0, 0, .slice none 0 0, 0, .slice none 0 0, 0, false, false, false, F, 0, .slice none 0 0⟩) (results_cell_mid rfl _ _ (w.heap.size + 2) [.int .u8 op, .int .u8 r, .int .u8 h, .int .u8 y, .int .i64 a, .int .i64 b, .int .i64 c, .int .i64 0, .int .i64 ga, .int .u64 ra, .int .u64 rb, .slice Ac' L.length cc', .int .u64 0, .int .u64 0, .int .i64 0, .int .i64 0, .slice none 0 0, .int .i64 0, .slice none 0 0, .int .i64 0, .bool false, .bool false, .bool false, .int .i64 F, .int .i64 0, .slice none 0 0] _ rfl R3 Try.underlying53 rfl info_run) rfl ?_
        exact ⟨.slice Ac' L.length cc', by show _ = Ending.returned (runV (ofR _ _ _ _ _ _)); rw [E1.out], O3, OB, S3.below⟩
end Go.Proofs.Ytbpmnjmegffllaa.Beg
