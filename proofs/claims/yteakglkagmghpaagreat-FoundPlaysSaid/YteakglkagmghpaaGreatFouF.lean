/-
  Package found: Step, of a call that makes, or unmakes, a scope.
-/
import Derived.Test.YteakglkagmghpaaGreatFouE
import Derived.Test.YteakglkagmghpaaGreatBegM
namespace Go.Proofs.YteakglkagmghpaaGreat.Fou
open Go.ChangeShapes Go.WideShapes Go.ChangeAt Go.RowKit
open Go.Proofs.YteakglkagmghpaaGreat.Mod Sco Amem Beg
set_option linter.unusedVariables false
set_option linter.unusedSimpArgs false
set_option maxRecDepth 100000
attribute [local go_sem ↓] Go.wp_at_zero Go.wp_at_succ
variable {P : Pn} {f : Nat → Int} {F : Fo} {G : Nat} {w w' : World}
theorem Lx.fillAt {X : List Nat} {w0 : World} {b : Nat} {M : List (Nat × List Value)} : ∀ (us : List Value) (o : Nat) (vs : List Value) (W : World), Lx X w0 W ((b, vs) :: M) → o + us.length = vs.length → Lx X w0 (W.setCells b o us) ((b, vs.take o ++ us) :: M)
  | [], o, vs, W, S, h => by
    rw [List.append_nil, List.take_of_length_le (by simp at h; omega)]
    exact S
  | v :: r, o, vs, W, S, h => by
    have S1 := S.put 0 o rfl v (by rw [List.length_cons] at h; omega)
    have := Lx.fillAt r (o + 1) (vs.set o v) _ S1 (by rw [List.length_set]; rw [List.length_cons] at h; omega)
    have e : (vs.set o v).take (o + 1) ++ r = vs.take o ++ v :: r := by
      rw [List.length_cons] at h
      have hl : o < (vs.set o v).length := by rw [List.length_set]; omega
      rw [List.take_succ_eq_append_getElem hl, List.getElem_set_self, List.append_assoc, List.take_set_of_le (Nat.le_refl _)]
      rfl
    rw [e] at this
    exact this
theorem Lx.fill {X : List Nat} {w0 W : World} {b : Nat} {vs : List Value} {M : List (Nat × List Value)} (S : Lx X w0 W ((b, vs) :: M)) (us : List Value) (h : us.length = vs.length) : Lx X w0 (W.setCells b 0 us) ((b, us) :: M) := by
  have := Lx.fillAt us 0 vs W S (by omega)
  simpa using this
theorem Lx.swap {X : List Nat} {w0 W : World} {x y : Nat × List Value} {M : List (Nat × List Value)} (S : Lx X w0 W (x :: y :: M)) : Lx X w0 W (y :: x :: M) := by
  refine ⟨S.only, S.old, fun z hz => S.at_ z ?_, ?_⟩
  · simp only [List.mem_cons] at hz ⊢
    rcases hz with h | h | h
    · exact .inr (.inl h)
    · exact .inl h
    · exact .inr (.inr h)
  · have := S.nd
    simp only [List.map_cons, List.nodup_cons, List.mem_cons, not_or] at this ⊢
    exact ⟨⟨fun h => this.1.1 h.symm, this.2.1⟩, this.1.2, this.2.2⟩
theorem at_range {w0 W : World} {b : Nat} {vs : List Value} (A : Held.At w0 W b vs) : W.rangeAt b 0 vs := fun j v hv => by
  rw [Nat.zero_add]
  exact A.cell j v hv
theorem results_mid2 {fn : Func} {p q : Tmp} {ty : TypeId} (h : fn.results = #[.cell p ty, .tmp q]) (tmps : Array Value) (w : World) (g : Nat) (cs : List Value) (d : TypeDesc) (x : Value) (hp : tmps.getD p undef = .pointer (some ⟨g, 0, none⟩)) (hq : tmps.getD q undef = x) (hc : w.rangeAt g 0 cs)
    (hu : Tryz.prog.underlying ty = some d) (hd : d.isRow = true) (hi : (Tryz.prog.info? ty).map (·.size) = some cs.length) : (results fn tmps).run Tryz.prog w = .ok (.tuple #[.agg cs.toArray, x]) w := by
  have hp' : tmps[p]?.getD undef = .pointer (some ⟨g, 0, none⟩) := by simpa using hp
  have hq' : tmps[q]?.getD undef = x := by simpa using hq
  simp [results, h, hp', hq', asAddr, run_loadVar_mid w g 0 ty cs d hc hu hd hi]
/-- A Run on its way to make, or unmake, a scope: its cells. -/
abbrev stQ (op r h y a b c ar ha va : Int) (ch : Value) (cd : Int) : List Value := [.int .u8 op, .int .u8 r, .int .u8 h, .int .u8 y, .int .i64 a, .int .i64 b, .int .i64 c, .int .i64 1, .int .i64 ar, .int .u64 ha, .int .u64 va, ch, .int .u64 0, .int .u64 0, .int .i64 0, .int .i64 0, .slice none 0 0, .int .i64 0, .slice none 0 0, .int .i64 0, .bool false, .bool false, .bool false, .int .i64 cd, .int .i64 0, .slice none 0 0]
/-- What Step tells of it, and leaves. -/
def StepD (w : World) (P : Pn) (G : Nat) (f : Nat → Int) (F : Fo) (c : Ca) (be : Be) (ar ha va code n : Int) (L : List Chain.E) (e : Ending) (w' : World) : Prop := ∃ ch li sa as_, e = .returned (.tuple #[runV (ofT c be ar ha va code n ch li sa as_), .int .i64 0]) ∧
  Slic.Sr kE w' ch L ∧ Slic.Sr Fina.kI w' li [] ∧ Slic.Sr Fina.kI w' sa [] ∧ Slic.Sr Fina.kI w' as_ [] ∧ Fd w' P G f F ∧ Only [P.g, G] w w'
theorem stq_run {op r h y a b c ar ha va cd : Int} {ch : Value} : runV (ofR ⟨op, r, h, y, a, b, c⟩ ⟨cd, 1⟩ ar ha va ch) = .agg (stQ op r h y a b c ar ha va ch cd).toArray := rfl
theorem sr_only {α : Type} {K : Slic.Kd α} {X : List Nat} {v : Value} {L : List α} (h : Slic.Sr K w v L) (k : Only X w w') (hn : ∀ b, v.ownBlock = some b → b ∉ X) : Slic.Sr K w' v L := h.keep k.size fun g hg hl => k.block g hl (hn g hg)

theorem at_there {w0 W : World} {b : Nat} {vs : List Value} (A : Held.At w0 W b vs) : W.there b 0 vs.length := fun j hj => by
  rw [Nat.zero_add]
  exact ⟨by rw [A.cell j _ (List.getElem?_eq_getElem hj)]; rfl, A.fz j⟩
theorem fill_onlyAt (b : Nat) : ∀ (us : List Value) (o : Nat) (w : World), Only [b] w (w.setCells b o us)
  | [], _, w => Only.refl _ _
  | v :: r, o, w => (Only.put w b o v (by simp)).trans (fill_onlyAt b r (o + 1) _)
theorem fill_only (w : World) (b : Nat) (us : List Value) : Only [b] w (w.setCells b 0 us) := fill_onlyAt b us 0 w
theorem sr_nilK {α : Type} {K : Slic.Kd α} {A : Option Addr} {c : Nat} (h : Slic.Sr K w (.slice A 0 c) []) : Slic.Sr K w' (.slice A 0 c) [] := by
  obtain ⟨A', c', e, h1, h2, h3, _⟩ := h
  exact ⟨A', c', e, h1, h2, h3, fun hl => absurd hl (by simp)⟩
theorem fd_local {b : Nat} {T : TypeId} (h : Fd w P G f F) (tb : isT w b T) (e1 : (T == 121) = false) (e2 : (T == 119) = false) (e3 : (T == 188) = false) (e4 : (T == 5) = false) (k : Only [b] w w') : Fd w' P G f F :=
  ⟨ar_local h.ar tb e3 e4 k, gr_local h.gr tb e1 e2 k, h.wf, h.iv, Nat.lt_of_lt_of_le h.kl k.size⟩
set_option maxHeartbeats 2000000 in
theorem step_create (w : World) (R : Pr P) (h : Fd w P G f F) (r hh y a b c ar ha va cd : Int) (ch : Value) (a1 : 1 ≤ a) (a2 : a ≤ 8192) (hC : Slic.Sr kE w ch []) (own : ∀ b, ch.ownBlock = some b → b ∉ [P.g, G]) :
    Calls Tryz.prog 31 #[P.plan, .pointer (some ⟨P.B, 0, none⟩), .pointer (some ⟨G, 0, none⟩), runV (ofR ⟨2, r, hh, y, a, b, c⟩ ⟨cd, 1⟩ ar ha va ch)] w
      (StepD w P G (createW f F a) (createV F a).F ⟨2, r, hh, y, a, b, c⟩ ⟨cd, 1⟩ ar ha va (createV F a).x (createV F a).v []) := by
  have S0 := (((Lx.start w [P.g, G] (fd_lt h)).new [.int .i64 (P.n : Int), .int .i64 P.t, .int .i64 P.i, .int .i64 P.j] 23).new (stQ 2 r hh y a b c ar ha va ch cd) 87).new zR 87
  simp only [World.size_alloc] at S0
  have h0 := h.keep (((Below.refl _ _ |>.alloc (Nat.le_refl _) (.cells [.int .i64 (P.n : Int), .int .i64 P.t, .int .i64 P.i, .int .i64 P.j].toArray 23)) |>.alloc (by simp) (.cells (stQ 2 r hh y a b c ar ha va ch cd).toArray 87)) |>.alloc (by simp; omega) (.cells zR.toArray 87))
  have hC0 := hC.below (((Below.refl _ _ |>.alloc (Nat.le_refl _) (.cells [.int .i64 (P.n : Int), .int .i64 P.t, .int .i64 P.i, .int .i64 P.j].toArray 23)) |>.alloc (by simp) (.cells (stQ 2 r hh y a b c ar ha va ch cd).toArray 87)) |>.alloc (by simp; omega) (.cells zR.toArray 87))
  rw [stq_run]
  obtain ⟨A1, c1, rfl, _⟩ := hC.form
  dsimp only [List.length_nil] at *
  go_enter Tryz.func31, Tryz.ntmps31
  obtain ⟨W, hW⟩ : ∃ W : World, W = ((w.alloc (.cells [.int .i64 (P.n : Int), .int .i64 P.t, .int .i64 P.i, .int .i64 P.j].toArray 23)).alloc (.cells (stQ 2 r hh y a b c ar ha va (.slice A1 0 c1) cd).toArray 87)).alloc (.cells [.int .u8 0, .int .u8 0, .int .u8 0, .int .u8 0, .int .i64 0, .int .i64 0, .int .i64 0, .int .i64 0, .int .i64 0, .int .u64 0, .int .u64 0, .slice none 0 0, .int .u64 0, .int .u64 0, .int .i64 0, .int .i64 0, .slice none 0 0, .int .i64 0, .slice none 0 0, .int .i64 0, .bool false, .bool false, .bool false, .int .i64 0, .int .i64 0, .slice none 0 0].toArray 87) := ⟨_, rfl⟩
  have T0 := typ_new ((w.alloc (.cells [.int .i64 (P.n : Int), .int .i64 P.t, .int .i64 P.i, .int .i64 P.j].toArray 23)).alloc (.cells (stQ 2 r hh y a b c ar ha va (.slice A1 0 c1) cd).toArray 87)) [.int .u8 0, .int .u8 0, .int .u8 0, .int .u8 0, .int .i64 0, .int .i64 0, .int .i64 0, .int .i64 0, .int .i64 0, .int .u64 0, .int .u64 0, .slice none 0 0, .int .u64 0, .int .u64 0, .int .i64 0, .int .i64 0, .slice none 0 0, .int .i64 0, .slice none 0 0, .int .i64 0, .bool false, .bool false, .bool false, .int .i64 0, .int .i64 0, .slice none 0 0].toArray 87
  rw [show ((w.alloc (.cells [.int .i64 (P.n : Int), .int .i64 P.t, .int .i64 P.i, .int .i64 P.j].toArray 23)).alloc (.cells (stQ 2 r hh y a b c ar ha va (.slice A1 0 c1) cd).toArray 87)).heap.size = w.heap.size + 1 + 1 by simp] at T0
  rw [← hW] at S0 h0 hC0 T0
  go_upto_region 1 with (fail)
  rw [show ((w.alloc (.cells [.int .i64 (P.n : Int), .int .i64 P.t, .int .i64 P.i, .int .i64 P.j].toArray 23)).alloc (.cells (stQ 2 r hh y a b c ar ha va (.slice A1 0 c1) cd).toArray 87)).alloc (.cells [.int .u8 0, .int .u8 0, .int .u8 0, .int .u8 0, .int .i64 0, .int .i64 0, .int .i64 0, .int .i64 0, .int .i64 0, .int .u64 0, .int .u64 0, .slice none 0 0, .int .u64 0, .int .u64 0, .int .i64 0, .int .i64 0, .slice none 0 0, .int .i64 0, .slice none 0 0, .int .i64 0, .bool false, .bool false, .bool false, .int .i64 0, .int .i64 0, .slice none 0 0].toArray 87) = W from hW.symm]
  clear hW
  have Q0 := S0.get 1 rfl
  have x0 := Q0.cell 0 _ rfl
  have x4 := Q0.cell 4 _ rfl
  have x7 := Q0.cell 7 _ rfl
  have x21 := Q0.cell 21 _ rfl
  have P0 := S0.get 2 rfl
  have p0 := P0.cell 0 _ rfl
  have p1 := P0.cell 1 _ rfl
  have p2 := P0.cell 2 _ rfl
  have p3 := P0.cell 3 _ rfl
  have S1 := S0.new (blkL P) 174
  have h1 := h0.keep (Below.refl _ _ |>.alloc (Nat.le_refl _) (.cells (blkL P).toArray 174))
  have hC1 := hC0.below (Below.refl _ _ |>.alloc (Nat.le_refl _) (.cells (blkL P).toArray 174))
  have B1 := S1.get 0 rfl
  have d0 := B1.cell 0 _ rfl
  have d1 := B1.cell 1 _ rfl
  have d2 := B1.cell 2 _ rfl
  have d3 := B1.cell 3 _ rfl
  have d4 := B1.cell 4 _ rfl
  have y4 := (S1.get 2 rfl).cell 4 _ rfl
  have y0 := (S1.get 2 rfl).cell 0 _ rfl
  go_wp2_with fail
  refine (create_any _ R h1 a a1 a2).mono ?_
  rintro e w2 ⟨rfl, h2, k2⟩
  have S2 := S1.go k2
  have R2 := at_range (S2.get 2 rfl)
  have hC2 := sr_only hC1 k2 own
  go_upto_region 7 with (fail)
  go_wp2_with (refine wpList_load_mid rfl _ _ rfl (w.heap.size + 1) 0 rfl (ofR ⟨2, r, hh, y, a, b, c⟩ ⟨cd, 1⟩ ar ha va (.slice A1 0 c1)).cells _ R2 Tryz.underlying87 rfl info_run ?_)
  refine (tellR_any (ofR ⟨2, r, hh, y, a, b, c⟩ ⟨cd, 1⟩ ar ha va (.slice A1 0 c1)) [] [] [] (createV F a).x (createV F a).v _ hC2 (Slic.Sr.nil _) (Slic.Sr.nil _) rfl (by decide) (by decide) (by decide)).mono ?_
  rintro z w3 ⟨ch2, li2, sa2, as2, rfl, O2, I2, T2, V2, k3⟩
  rw [tell_ofR]
  obtain ⟨B1, d1', rfl, _, _⟩ := O2.form
  obtain ⟨B2, d2', rfl, _, _⟩ := I2.form
  obtain ⟨B3, d3', rfl, _, _⟩ := T2.form
  obtain ⟨B4, d4', rfl, _, _⟩ := V2.form
  obtain ⟨CS, hCS⟩ : ∃ CS : List Value, (ofT ⟨2, r, hh, y, a, b, c⟩ ⟨cd, 1⟩ ar ha va (createV F a).x (createV F a).v (.slice B1 0 d1') (.slice B2 0 d2') (.slice B3 0 d3') (.slice B4 0 d4')).cells = CS := ⟨_, rfl⟩
  have CE : runV (ofT ⟨2, r, hh, y, a, b, c⟩ ⟨cd, 1⟩ ar ha va (createV F a).x (createV F a).v (.slice B1 0 d1') (.slice B2 0 d2') (.slice B3 0 d3') (.slice B4 0 d4')) = .agg CS.toArray := by rw [← hCS]; rfl
  dsimp only [List.length_nil] at *
  rw [CE]
  have L26 : CS.length = 26 := by rw [← hCS]; rfl
  have ONE : ∀ u ∈ CS, u.oneCell' = true := by rw [← hCS]; exact cells_one rfl rfl rfl rfl
  have S3 := (S2.call k3).swap
  have h3 := h2.keep k3
  have SN := S3
  have AN := SN.get 0 rfl
  have TT : World.there w3 (w.heap.size + 1 + 1) 0 CS.toArray.size := by rw [show CS.toArray.size = 26 from L26]; exact at_there AN
  have IR : (Tryz.prog.info? 87).map (·.size) = some CS.toArray.size := by rw [show CS.toArray.size = 26 from L26]; exact info_run
  have SF := SN.fill CS L26
  have CE' := Lib.hid CE
  have RF := at_range (SF.get 0 rfl)
  have q3 := fill_only w3 (w.heap.size + 1 + 1) CS
  have HL := Lib.hid L26
  have HO := Lib.hid ONE
  clear CE hCS L26 ONE
  go_wp2_with (refine wpList_store_mid rfl _ _ _ rfl (w.heap.size + 1 + 1) 0 CS.toArray rfl rfl TT IR (all_oneCell_toArray HO.out) ?_)
  refine bodyPost_ret (v := .tuple #[.agg CS.toArray, .int .i64 0]) (results_mid2 rfl _ _ (w.heap.size + 1 + 1) CS _ _ rfl rfl RF Tryz.underlying87 rfl (by rw [HL.out]; exact info_run)) rfl ?_
  exact ⟨_, _, _, _, by rw [CE'.out], sr_nilK O2, sr_nilK I2, sr_nilK T2, sr_nilK V2, fd_local h3 (typ_go (X := []) (typ_go (typ_go (X := []) T0 (Only.below ((Below.refl _ _).alloc (Nat.le_refl _) _)) (by simp)) k2 (ar_at (S2.get 1 rfl) S2.old)) (Only.below k3) (by simp)) (by decide) (by decide) (by decide) (by decide) q3, SF.only⟩
end Go.Proofs.YteakglkagmghpaaGreat.Fou
