/-
  Package found: Step, of a call that makes, or unmakes, a scope.
-/
import Derived.Test.YtbpmnjmegffllaaGreatFoua
import Derived.Test.YtbpmnjmegffllaaGreatBegM
namespace Go.Proofs.YtbpmnjmegffllaaGreat.Fou
open Go.ChangeShapes Go.WideShapes Go.ChangeAt Go.RowKit
open Go.Proofs.YtbpmnjmegffllaaGreat.Mod Sco Amem Beg
set_option linter.unusedVariables false
set_option linter.unusedSimpArgs false
set_option maxRecDepth 100000
attribute [local go_sem ↓] Go.wp_at_zero Go.wp_at_succ
variable {P : Pn} {f : Nat → Int} {F : Fo} {G : Nat} {w w' : World}
theorem Lx.fillAt {X : List Nat} {w0 : World} {b : Nat} {M : List (Nat × List Value)} : ∀ (us : List Value) (o : Nat) (vs : List Value) (W : World), Lx X w0 W ((b, vs) :: M) → o + us.length = vs.length → Lx X w0 (W.setCells b o us) ((b, vs.take o ++ us) :: M)
  | [], o, vs, W, S, h => by
    rw [List.append_nil, List.take_of_length_le (by simp at h; omega)]
    exact S
  | v :: r, o, vs, W, S, h => by
    have S1 := S.put 0 o rfl v (by rw [List.length_cons] at h; omega)
    have := Lx.fillAt r (o + 1) (vs.set o v) _ S1 (by rw [List.length_set]; rw [List.length_cons] at h; omega)
    have e : (vs.set o v).take (o + 1) ++ r = vs.take o ++ v :: r := by
      rw [List.length_cons] at h
      have hl : o < (vs.set o v).length := by rw [List.length_set]; omega
      rw [List.take_succ_eq_append_getElem hl, List.getElem_set_self, List.append_assoc, List.take_set_of_le (Nat.le_refl _)]
      rfl
    rw [e] at this
    exact this
theorem Lx.fill {X : List Nat} {w0 W : World} {b : Nat} {vs : List Value} {M : List (Nat × List Value)} (S : Lx X w0 W ((b, vs) :: M)) (us : List Value) (h : us.length = vs.length) : Lx X w0 (W.setCells b 0 us) ((b, us) :: M) := by
  have := Lx.fillAt us 0 vs W S (by omega)
  simpa using this
theorem Lx.swap {X : List Nat} {w0 W : World} {x y : Nat × List Value} {M : List (Nat × List Value)} (S : Lx X w0 W (x :: y :: M)) : Lx X w0 W (y :: x :: M) := by
  refine ⟨S.only, S.old, fun z hz => S.at_ z ?_, ?_⟩
  · simp only [List.mem_cons] at hz ⊢
    rcases hz with h | h | h
    · exact .inr (.inl h)
    · exact .inl h
    · exact .inr (.inr h)
  · have := S.nd
    simp only [List.map_cons, List.nodup_cons, List.mem_cons, not_or] at this ⊢
    exact ⟨⟨fun h => this.1.1 h.symm, this.2.1⟩, this.1.2, this.2.2⟩
theorem at_range {w0 W : World} {b : Nat} {vs : List Value} (A : Held.At w0 W b vs) : W.rangeAt b 0 vs := fun j v hv => by
  rw [Nat.zero_add]
  exact A.cell j v hv
theorem results_mid2 {fn : Func} {p q : Tmp} {ty : TypeId} (h : fn.results = #[.cell p ty, .tmp q]) (tmps : Array Value) (w : World) (g : Nat) (cs : List Value) (d : TypeDesc) (x : Value) (hp : tmps.getD p undef = .pointer (some ⟨g, 0, none⟩)) (hq : tmps.getD q undef = x) (hc : w.rangeAt g 0 cs)
    (hu : Tryz.prog.underlying ty = some d) (hd : d.isRow = true) (hi : (Tryz.prog.info? ty).map (·.size) = some cs.length) : (results fn tmps).run Tryz.prog w = .ok (.tuple #[.agg cs.toArray, x]) w := by
  have hp' : tmps[p]?.getD undef = .pointer (some ⟨g, 0, none⟩) := by simpa using hp
  have hq' : tmps[q]?.getD undef = x := by simpa using hq
  simp [results, h, hp', hq', asAddr, run_loadVar_mid w g 0 ty cs d hc hu hd hi]
abbrev stQ (op r h y a b c ar ha va : Int) (ch : Value) (cd : Int) : List Value := [.int .u8 op, .int .u8 r, .int .u8 h, .int .u8 y, .int .i64 a, .int .i64 b, .int .i64 c, .int .i64 1, .int .i64 ar, .int .u64 ha, .int .u64 va, ch, .int .u64 0, .int .u64 0, .int .i64 0, .int .i64 0, .slice none 0 0, .int .i64 0, .slice none 0 0, .int .i64 0, .bool false, .bool false, .bool false, .int .i64 cd, .int .i64 0, .slice none 0 0]
def StepD (w : World) (P : Pn) (G : Nat) (f : Nat → Int) (F : Fo) (c : Ca) (be : Be) (ar ha va code n : Int) (L : List Chain.E) (e : Ending) (w' : World) : Prop := ∃ ch li sa as_, e = .returned (.tuple #[runV (ofT c be ar ha va code n ch li sa as_), .int .i64 0]) ∧
  Slic.Sr kE w' ch L ∧ Slic.Sr Fina.kI w' li [] ∧ Slic.Sr Fina.kI w' sa [] ∧ Slic.Sr Fina.kI w' as_ [] ∧ Fd w' P G f F ∧ Only [P.g, G] w w'
theorem stq_run {op r h y a b c ar ha va cd : Int} {ch : Value} : runV (ofR ⟨op, r, h, y, a, b, c⟩ ⟨cd, 1⟩ ar ha va ch) = .agg (stQ op r h y a b c ar ha va ch cd).toArray := rfl
theorem sr_only {α : Type} {K : Slic.Kd α} {X : List Nat} {v : Value} {L : List α} (h : Slic.Sr K w v L) (k : Only X w w') (hn : ∀ b, v.ownBlock = some b → b ∉ X) : Slic.Sr K w' v L := h.keep k.size fun g hg hl => k.block g hl (hn g hg)

theorem at_there {w0 W : World} {b : Nat} {vs : List Value} (A : Held.At w0 W b vs) : W.there b 0 vs.length := fun j hj => by
  rw [Nat.zero_add]
  exact ⟨by rw [A.cell j _ (List.getElem?_eq_getElem hj)]; rfl, A.fz j⟩
theorem fill_onlyAt (b : Nat) : ∀ (us : List Value) (o : Nat) (w : World), Only [b] w (w.setCells b o us)
  | [], _, w => Only.refl _ _
  | v :: r, o, w => (Only.put w b o v (by simp)).trans (fill_onlyAt b r (o + 1) _)
theorem fill_only (w : World) (b : Nat) (us : List Value) : Only [b] w (w.setCells b 0 us) := fill_onlyAt b us 0 w
theorem sr_nilK {α : Type} {K : Slic.Kd α} {A : Option Addr} {c : Nat} (h : Slic.Sr K w (.slice A 0 c) []) : Slic.Sr K w' (.slice A 0 c) [] := by
  obtain ⟨A', c', e, h1, h2, h3, _⟩ := h
  exact ⟨A', c', e, h1, h2, h3, fun hl => absurd hl (by simp)⟩
theorem fd_local {b : Nat} {T : TypeId} (h : Fd w P G f F) (tb : isT w b T) (e1 : (T == 130) = false) (e2 : (T == 113) = false) (e3 : (T == 140) = false) (e4 : (T == 5) = false) (k : Only [b] w w') : Fd w' P G f F :=
  ⟨ar_local h.ar tb e3 e4 k, gr_local h.gr tb e1 e2 k, h.wf, h.iv, Nat.lt_of_lt_of_le h.kl k.size⟩
set_option maxHeartbeats 2000000 in
theorem step_create (w : World) (R : Pr P) (h : Fd w P G f F) (r hh y a b c ar ha va cd : Int) (ch : Value) (a1 : 1 ≤ a) (a2 : a ≤ 8192) (hC : Slic.Sr kE w ch []) (own : ∀ b, ch.ownBlock = some b → b ∉ [P.g, G]) :
    Calls Tryz.prog 12 #[P.plan, .pointer (some ⟨P.B, 0, none⟩), .pointer (some ⟨G, 0, none⟩), runV (ofR ⟨2, r, hh, y, a, b, c⟩ ⟨cd, 1⟩ ar ha va ch)] w
      (StepD w P G (createW f F a) (createV F a).F ⟨2, r, hh, y, a, b, c⟩ ⟨cd, 1⟩ ar ha va (createV F a).x (createV F a).v []) := by
  have S0 := (((Lx.start w [P.g, G] (fd_lt h)).new [.int .i64 (P.n : Int), .int .i64 P.t, .int .i64 P.i, .int .i64 P.j] 23).new (stQ 2 r hh y a b c ar ha va ch cd) 42).new zR 42
  simp only [World.size_alloc] at S0
  have h0 := h.keep (((Below.refl _ _ |>.alloc (Nat.le_refl _) (.cells [.int .i64 (P.n : Int), .int .i64 P.t, .int .i64 P.i, .int .i64 P.j].toArray 23)) |>.alloc (by simp) (.cells (stQ 2 r hh y a b c ar ha va ch cd).toArray 42)) |>.alloc (by simp; omega) (.cells zR.toArray 42))
  have hC0 := hC.below (((Below.refl _ _ |>.alloc (Nat.le_refl _) (.cells [.int .i64 (P.n : Int), .int .i64 P.t, .int .i64 P.i, .int .i64 P.j].toArray 23)) |>.alloc (by simp) (.cells (stQ 2 r hh y a b c ar ha va ch cd).toArray 42)) |>.alloc (by simp; omega) (.cells zR.toArray 42))
  rw [stq_run]
  obtain ⟨A1, c1, rfl, _⟩ := hC.form
  dsimp only [List.length_nil] at *
  go_enter Tryz.func12, Tryz.ntmps12
  obtain ⟨W, hW⟩ : ∃ W : World, W = ((w.alloc (.cells [.int .i64 (P.n : Int), .int .i64 P.t, .int .i64 P.i, .int .i64 P.j].toArray 23)).alloc (.cells (stQ 2 r hh y a b c ar ha va (.slice A1 0 c1) cd).toArray 42)).alloc (.cells [.int .u8 0, .int .u8 0, .int .u8 0, .int .u8 0, .int .i64 0, .int .i64 0, .int .i64 0, .int .i64 0, .int .i64 0, .int .u64 0, .int .u64 0, .slice none 0 0, .int .u64 0, .int .u64 0, .int .i64 0, .int .i64 0, .slice none 0 0, .int .i64 0, .slice none 0 0, .int .i64 0, .bool false, .bool false, .bool false, .int .i64 0, .int .i64 0, .slice none 0 0].toArray 42) := ⟨_, rfl⟩
  have T0 := typ_new ((w.alloc (.cells [.int .i64 (P.n : Int), .int .i64 P.t, .int .i64 P.i, .int .i64 P.j].toArray 23)).alloc (.cells (stQ 2 r hh y a b c ar ha va (.slice A1 0 c1) cd).toArray 42)) [.int .u8 0, .int .u8 0, .int .u8 0, .int .u8 0, .int .i64 0, .int .i64 0, .int .i64 0, .int .i64 0, .int .i64 0, .int .u64 0, .int .u64 0, .slice none 0 0, .int .u64 0, .int .u64 0, .int .i64 0, .int .i64 0, .slice none 0 0, .int .i64 0, .slice none 0 0, .int .i64 0, .bool false, .bool false, .bool false, .int .i64 0, .int .i64 0, .slice none 0 0].toArray 42
  rw [show ((w.alloc (.cells [.int .i64 (P.n : Int), .int .i64 P.t, .int .i64 P.i, .int .i64 P.j].toArray 23)).alloc (.cells (stQ 2 r hh y a b c ar ha va (.slice A1 0 c1) cd).toArray 42)).heap.size = w.heap.size + 1 + 1 by simp] at T0
  rw [← hW] at S0 h0 hC0 T0
  go_upto_region 1 with (fail)
  rw [show ((w.alloc (.cells [.int .i64 (P.n : Int), .int .i64 P.t, .int .i64 P.i, .int .i64 P.j].toArray 23)).alloc (.cells (stQ 2 r hh y a b c ar ha va (.slice A1 0 c1) cd).toArray 42)).alloc (.cells [.int .u8 0, .int .u8 0, .int .u8 0, .int .u8 0, .int .i64 0, .int .i64 0, .int .i64 0, .int .i64 0, .int .i64 0, .int .u64 0, .int .u64 0, .slice none 0 0, .int .u64 0, .int .u64 0, .int .i64 0, .int .i64 0, .slice none 0 0, .int .i64 0, .slice none 0 0, .int .i64 0, .bool false, .bool false, .bool false, .int .i64 0, .int .i64 0, .slice none 0 0].toArray 42) = W from hW.symm]
  clear hW
  have Q0 := S0.get 1 rfl
  have x0 := Q0.cell 0 _ rfl
  have x4 := Q0.cell 4 _ rfl
  have x7 := Q0.cell 7 _ rfl
  have x21 := Q0.cell 21 _ rfl
  have P0 := S0.get 2 rfl
  have p0 := P0.cell 0 _ rfl
  have p1 := P0.cell 1 _ rfl
  have p2 := P0.cell 2 _ rfl
  have p3 := P0.cell 3 _ rfl
  have S1 := S0.new (blkL P) 122
  have h1 := h0.keep (Below.refl _ _ |>.alloc (Nat.le_refl _) (.cells (blkL P).toArray 122))
  have hC1 := hC0.below (Below.refl _ _ |>.alloc (Nat.le_refl _) (.cells (blkL P).toArray 122))
  have B1 := S1.get 0 rfl
  have d0 := B1.cell 0 _ rfl
  have d1 := B1.cell 1 _ rfl
  have d2 := B1.cell 2 _ rfl
  have d3 := B1.cell 3 _ rfl
  have d4 := B1.cell 4 _ rfl
  have y4 := (S1.get 2 rfl).cell 4 _ rfl
  have y0 := (S1.get 2 rfl).cell 0 _ rfl
  go_wp2_with fail
  refine (create_any _ R h1 a a1 a2).mono ?_
  rintro e w2 ⟨rfl, h2, k2⟩
  have S2 := S1.go k2
  have R2 := at_range (S2.get 2 rfl)
  have hC2 := sr_only hC1 k2 own
  go_upto_region 7 with (fail)
  go_wp2_with (refine wpList_load_mid rfl _ _ rfl (w.heap.size + 1) 0 rfl (ofR ⟨2, r, hh, y, a, b, c⟩ ⟨cd, 1⟩ ar ha va (.slice A1 0 c1)).cells _ R2 Tryz.underlying42 rfl info_run ?_)
  refine (tellR_any (ofR ⟨2, r, hh, y, a, b, c⟩ ⟨cd, 1⟩ ar ha va (.slice A1 0 c1)) [] [] [] (createV F a).x (createV F a).v _ hC2 (Slic.Sr.nil _) (Slic.Sr.nil _) rfl (by decide) (by decide) (by decide)).mono ?_
  rintro z w3 ⟨ch2, li2, sa2, as2, rfl, O2, I2, T2, V2, k3⟩
  rw [tell_ofR]
  obtain ⟨B1, d1', rfl, _, _⟩ := O2.form
  obtain ⟨B2, d2', rfl, _, _⟩ := I2.form
  obtain ⟨B3, d3', rfl, _, _⟩ := T2.form
  obtain ⟨B4, d4', rfl, _, _⟩ := V2.form
  obtain ⟨CS, hCS⟩ : ∃ CS : List Value, (ofT ⟨2, r, hh, y, a, b, c⟩ ⟨cd, 1⟩ ar ha va (createV F a).x (createV F a).v (.slice B1 0 d1') (.slice B2 0 d2') (.slice B3 0 d3') (.slice B4 0 d4')).cells = CS := ⟨_, rfl⟩
  have CE : runV (ofT ⟨2, r, hh, y, a, b, c⟩ ⟨cd, 1⟩ ar ha va (createV F a).x (createV F a).v (.slice B1 0 d1') (.slice B2 0 d2') (.slice B3 0 d3') (.slice B4 0 d4')) = .agg CS.toArray := by rw [← hCS]; rfl
  dsimp only [List.length_nil] at *
  rw [CE]
  have L26 : CS.length = 26 := by rw [← hCS]; rfl
  have ONE : ∀ u ∈ CS, u.oneCell' = true := by rw [← hCS]; exact cells_one rfl rfl rfl rfl
  have S3 := (S2.call k3).swap
  have h3 := h2.keep k3
  have SN := S3
  have AN := SN.get 0 rfl
  have TT : World.there w3 (w.heap.size + 1 + 1) 0 CS.toArray.size := by rw [show CS.toArray.size = 26 from L26]; exact at_there AN
  have IR : (Tryz.prog.info? 42).map (·.size) = some CS.toArray.size := by rw [show CS.toArray.size = 26 from L26]; exact info_run
  have SF := SN.fill CS L26
  have CE' := Lib.hid CE
  have RF := at_range (SF.get 0 rfl)
  have q3 := fill_only w3 (w.heap.size + 1 + 1) CS
  have HL := Lib.hid L26
  have HO := Lib.hid ONE
  clear CE hCS L26 ONE
  go_wp2_with (refine wpList_store_mid rfl _ _ _ rfl (w.heap.size + 1 + 1) 0 CS.toArray rfl rfl TT IR (all_oneCell_toArray HO.out) ?_)
  refine bodyPost_ret (v := .tuple #[.agg CS.toArray, .int .i64 0]) (results_mid2 rfl _ _ (w.heap.size + 1 + 1) CS _ _ rfl rfl RF Tryz.underlying42 rfl (by rw [HL.out]; exact info_run)) rfl ?_
  exact ⟨_, _, _, _, by rw [CE'.out], sr_nilK O2, sr_nilK I2, sr_nilK T2, sr_nilK V2, fd_local h3 (typ_go (X := []) (typ_go (typ_go (X := []) T0 (Only.below ((Below.refl _ _).alloc (Nat.le_refl _) _)) (by simp)) k2 (ar_at (S2.get 1 rfl) S2.old)) (Only.below k3) (by simp)) (by decide) (by decide) (by decide) (by decide) q3, SF.only⟩
end Go.Proofs.YtbpmnjmegffllaaGreat.Fou

namespace Go.Proofs.YtbpmnjmegffllaaGreat.Fou
open Go.ChangeShapes Go.WideShapes Go.ChangeAt Go.RowKit
open Go.Proofs.YtbpmnjmegffllaaGreat.Mod Sco Amem Beg
set_option linter.unusedVariables false
set_option linter.unusedSimpArgs false
set_option maxRecDepth 100000
attribute [local go_sem ↓] Go.wp_at_zero Go.wp_at_succ
variable {P : Pn} {f : Nat → Int} {F : Fo} {G : Nat} {w w' : World}
theorem Fd.drew (h : Fd w P G f F) : Fd w.drew P G f F := h.keep (Below.refl _ _).drew
theorem info_blk : (Tryz.prog.info? 122).map (·.size) = some 5 := by kernel_rfl
set_option maxHeartbeats 2000000 in
theorem step_destroy (w : World) (R : Pr P) (h : Fd w P G f F) (r hh y b c ar ha va cd : Int) (s : Nat) (ch : Value) (s1 : 1 ≤ s) (hC : Slic.Sr kE w ch []) (own : ∀ b, ch.ownBlock = some b → b ∉ [P.g, G]) :
    Calls Tryz.prog 12 #[P.plan, .pointer (some ⟨P.B, 0, none⟩), .pointer (some ⟨G, 0, none⟩), runV (ofR ⟨3, r, hh, y, (s : Int), b, c⟩ ⟨cd, 1⟩ ar ha va ch)] w
      (StepD w P G (destroyW f F s) (destroyV F s).F ⟨3, r, hh, y, (s : Int), b, c⟩ ⟨cd, 1⟩ ar ha va (destroyV F s).x 0 []) := by
  have S0 := (((Lx.start w [P.g, G] (fd_lt h)).new [.int .i64 (P.n : Int), .int .i64 P.t, .int .i64 P.i, .int .i64 P.j] 23).new (stQ 3 r hh y (s : Int) b c ar ha va ch cd) 42).new zR 42
  simp only [World.size_alloc] at S0
  have h0 := h.keep (((Below.refl _ _ |>.alloc (Nat.le_refl _) (.cells [.int .i64 (P.n : Int), .int .i64 P.t, .int .i64 P.i, .int .i64 P.j].toArray 23)) |>.alloc (by simp) (.cells (stQ 3 r hh y (s : Int) b c ar ha va ch cd).toArray 42)) |>.alloc (by simp; omega) (.cells zR.toArray 42))
  have hC0 := hC.below (((Below.refl _ _ |>.alloc (Nat.le_refl _) (.cells [.int .i64 (P.n : Int), .int .i64 P.t, .int .i64 P.i, .int .i64 P.j].toArray 23)) |>.alloc (by simp) (.cells (stQ 3 r hh y (s : Int) b c ar ha va ch cd).toArray 42)) |>.alloc (by simp; omega) (.cells zR.toArray 42))
  rw [stq_run]
  obtain ⟨A1, c1, rfl, _⟩ := hC.form
  dsimp only [List.length_nil] at *
  go_enter Tryz.func12, Tryz.ntmps12
  obtain ⟨W, hW⟩ : ∃ W : World, W = ((w.alloc (.cells [.int .i64 (P.n : Int), .int .i64 P.t, .int .i64 P.i, .int .i64 P.j].toArray 23)).alloc (.cells (stQ 3 r hh y (s : Int) b c ar ha va (.slice A1 0 c1) cd).toArray 42)).alloc (.cells [.int .u8 0, .int .u8 0, .int .u8 0, .int .u8 0, .int .i64 0, .int .i64 0, .int .i64 0, .int .i64 0, .int .i64 0, .int .u64 0, .int .u64 0, .slice none 0 0, .int .u64 0, .int .u64 0, .int .i64 0, .int .i64 0, .slice none 0 0, .int .i64 0, .slice none 0 0, .int .i64 0, .bool false, .bool false, .bool false, .int .i64 0, .int .i64 0, .slice none 0 0].toArray 42) := ⟨_, rfl⟩
  have T0 := typ_new ((w.alloc (.cells [.int .i64 (P.n : Int), .int .i64 P.t, .int .i64 P.i, .int .i64 P.j].toArray 23)).alloc (.cells (stQ 3 r hh y (s : Int) b c ar ha va (.slice A1 0 c1) cd).toArray 42)) [.int .u8 0, .int .u8 0, .int .u8 0, .int .u8 0, .int .i64 0, .int .i64 0, .int .i64 0, .int .i64 0, .int .i64 0, .int .u64 0, .int .u64 0, .slice none 0 0, .int .u64 0, .int .u64 0, .int .i64 0, .int .i64 0, .slice none 0 0, .int .i64 0, .slice none 0 0, .int .i64 0, .bool false, .bool false, .bool false, .int .i64 0, .int .i64 0, .slice none 0 0].toArray 42
  rw [show ((w.alloc (.cells [.int .i64 (P.n : Int), .int .i64 P.t, .int .i64 P.i, .int .i64 P.j].toArray 23)).alloc (.cells (stQ 3 r hh y (s : Int) b c ar ha va (.slice A1 0 c1) cd).toArray 42)).heap.size = w.heap.size + 1 + 1 by simp] at T0
  rw [← hW] at S0 h0 hC0 T0
  go_upto_region 1 with (fail)
  rw [show ((w.alloc (.cells [.int .i64 (P.n : Int), .int .i64 P.t, .int .i64 P.i, .int .i64 P.j].toArray 23)).alloc (.cells (stQ 3 r hh y (s : Int) b c ar ha va (.slice A1 0 c1) cd).toArray 42)).alloc (.cells [.int .u8 0, .int .u8 0, .int .u8 0, .int .u8 0, .int .i64 0, .int .i64 0, .int .i64 0, .int .i64 0, .int .i64 0, .int .u64 0, .int .u64 0, .slice none 0 0, .int .u64 0, .int .u64 0, .int .i64 0, .int .i64 0, .slice none 0 0, .int .i64 0, .slice none 0 0, .int .i64 0, .bool false, .bool false, .bool false, .int .i64 0, .int .i64 0, .slice none 0 0].toArray 42) = W from hW.symm]
  clear hW
  have Q0 := S0.get 1 rfl
  have x0 := Q0.cell 0 _ rfl
  have x4 := Q0.cell 4 _ rfl
  have x7 := Q0.cell 7 _ rfl
  have x21 := Q0.cell 21 _ rfl
  have P0 := S0.get 2 rfl
  have p0 := P0.cell 0 _ rfl
  have p1 := P0.cell 1 _ rfl
  have p2 := P0.cell 2 _ rfl
  have p3 := P0.cell 3 _ rfl
  have S1 := S0.new (blkL P) 122
  have h1 := h0.keep (Below.refl _ _ |>.alloc (Nat.le_refl _) (.cells (blkL P).toArray 122))
  have hC1 := hC0.below (Below.refl _ _ |>.alloc (Nat.le_refl _) (.cells (blkL P).toArray 122))
  have B1 := S1.get 0 rfl
  have d0 := B1.cell 0 _ rfl
  have d1 := B1.cell 1 _ rfl
  have d2 := B1.cell 2 _ rfl
  have d3 := B1.cell 3 _ rfl
  have d4 := B1.cell 4 _ rfl
  have y4 := (S1.get 2 rfl).cell 4 _ rfl
  have y0 := (S1.get 2 rfl).cell 0 _ rfl
  go_upto_region 9 with (fail)
  clear p0 p1 p2 p3 d0 d1 d2 d3 d4 y4
  refine wp_region_held_drew (S := fun W' => W'.rangeAt (w.heap.size + 1) 0 (ofR ⟨3, r, hh, y, (s : Int), b, c⟩ ⟨cd, 1⟩ ar ha va (.slice A1 0 c1)).cells ∧ W'.rangeAt W.heap.size 0 (blkL P)) (by kernel_rfl) ?_ (fun hHeld => ?_)
  · exact ⟨at_range (S1.drew.get 2 rfl), at_range (S1.drew.get 0 rfl)⟩
  refine wpAnyH_take (i := 0) (oi := ⟨some 44, _, _, _, _, _⟩) (v := .agg ((ofR ⟨3, r, hh, y, (s : Int), b, c⟩ ⟨cd, 1⟩ ar ha va (.slice A1 0 c1)).cells).toArray) rfl (by kernel_rfl) (by kernel_rfl) (by kernel_rfl) (fun _ _ _ h => h) (yieldsIf_load_mid (by kernel_rfl) _ _ rfl (w.heap.size + 1) 0 rfl ((ofR ⟨3, r, hh, y, (s : Int), b, c⟩ ⟨cd, 1⟩ ar ha va (.slice A1 0 c1)).cells) _ (fun _ h => h.1) Tryz.underlying42 rfl info_run) (by assumption) ?_
  simp only [Act.put, List.setIfInBounds_toArray, List.set_cons_zero, List.set_cons_succ]
  refine wpAnyH_take (i := 1) (oi := ⟨some 45, _, _, _, _, _⟩) (v := .agg (blkL P).toArray) rfl (by kernel_rfl) (by kernel_rfl) (by kernel_rfl) (fun _ _ _ h => h) (yieldsIf_load_mid (by kernel_rfl) _ _ rfl (W.heap.size) 0 rfl (blkL P) _ (fun _ h => h.2) Tryz.underlying122 rfl info_blk) (by assumption) ?_
  simp only [Act.put, List.setIfInBounds_toArray, List.set_cons_zero, List.set_cons_succ]
  refine wpAnyH_take (i := 2) (oi := ⟨some 46, _, _, _, _, _⟩) (v := ?_) rfl (by kernel_rfl) (by kernel_rfl) (by kernel_rfl) (fun _ _ _ h => h) (Or.inl ⟨by kernel_rfl, ?_⟩) (by assumption) ?_
  rotate_left
  · intro w hSw
    try dsimp only at hSw
    first | (go_simp; done) | (go_simp; with_reducible rfl) | with_reducible rfl
  simp only [Act.put, List.setIfInBounds_toArray, List.set_cons_zero, List.set_cons_succ]
  refine wpAnyH_take (i := 3) (oi := ⟨some 47, _, _, _, _, _⟩) (v := ?_) rfl (by kernel_rfl) (by kernel_rfl) (by kernel_rfl) (fun _ _ _ h => h) (Or.inl ⟨by kernel_rfl, ?_⟩) (by assumption) ?_
  rotate_left
  · intro w hSw
    try dsimp only at hSw
    first | (go_simp; done) | (go_simp; with_reducible rfl) | with_reducible rfl
  simp only [Act.put, List.setIfInBounds_toArray, List.set_cons_zero, List.set_cons_succ]
  refine wpAnyH_take (i := 4) (oi := ⟨some 48, _, _, _, _, _⟩) (v := ?_) rfl (by kernel_rfl) (by kernel_rfl) (by kernel_rfl) (fun _ _ _ h => h) (Or.inl ⟨by kernel_rfl, ?_⟩) (by assumption) ?_
  rotate_left
  · intro w hSw
    try dsimp only at hSw
    first | (go_simp; done) | (go_simp; with_reducible rfl) | with_reducible rfl
  simp only [Act.put, List.setIfInBounds_toArray, List.set_cons_zero, List.set_cons_succ]
  refine wpAnyH_take (i := 5) (oi := ⟨some 49, _, _, _, _, _⟩) (v := ?_) rfl (by kernel_rfl) (by kernel_rfl) (by kernel_rfl) (fun _ _ _ h => h) (Or.inl ⟨by kernel_rfl, ?_⟩) (by assumption) ?_
  rotate_left
  · intro w hSw
    try dsimp only at hSw
    have hS4 : w.cell? ⟨_, 4, none⟩ = some (.int .i64 (s : Int)) := hSw.1 4 _ rfl
    first | (go_simp; done) | (go_simp; with_reducible rfl) | with_reducible rfl
  simp only [Act.put, List.setIfInBounds_toArray, List.set_cons_zero, List.set_cons_succ]
  refine wpAnyH_ready (rs := [6]) (by kernel_rfl) (by simp) ?_
  refine AllReadyH.cons (o := ⟨some 50, _, _, _, _, _⟩) rfl (fun K hK => ?_) AllReadyH.nil
  have h1d := h1.drew
  have S1d := S1.drew
  have hC1d := hC1.drew
  go_simp
  refine (destroy_any _ R h1d s s1).mono ?_
  rintro e w2 ⟨rfl, h2, k2⟩
  have S2 := S1d.go k2
  have hC2 := sr_only hC1d k2 own
  refine hK.out _ _ ?_ (fun hHeld => ?_)
  · exact ⟨at_range (S2.get 2 rfl), at_range (S2.get 0 rfl)⟩
  clear hK K
  refine wpAnyH_ready (rs := [7]) (by kernel_rfl) (by simp) ?_
  refine AllReadyH.cons (o := ⟨some 51, _, _, _, _, _⟩) rfl (fun K hK => ?_) AllReadyH.nil
  go_simp
  refine (tellR_any (ofR ⟨3, r, hh, y, (s : Int), b, c⟩ ⟨cd, 1⟩ ar ha va (.slice A1 0 c1)) [] [] [] (destroyV F s).x 0 _ hC2 (Slic.Sr.nil _) (Slic.Sr.nil _) rfl (by decide) (by decide) (by decide)).mono ?_
  rintro z w3 ⟨ch2, li2, sa2, as2, rfl, O2, I2, T2, V2, k3⟩
  rw [tell_ofR]
  obtain ⟨B1, d1', rfl, _, _⟩ := O2.form
  obtain ⟨B2, d2', rfl, _, _⟩ := I2.form
  obtain ⟨B3, d3', rfl, _, _⟩ := T2.form
  obtain ⟨B4, d4', rfl, _, _⟩ := V2.form
  obtain ⟨CS, hCS⟩ : ∃ CS : List Value, (ofT ⟨3, r, hh, y, (s : Int), b, c⟩ ⟨cd, 1⟩ ar ha va (destroyV F s).x 0 (.slice B1 0 d1') (.slice B2 0 d2') (.slice B3 0 d3') (.slice B4 0 d4')).cells = CS := ⟨_, rfl⟩
  have CE : runV (ofT ⟨3, r, hh, y, (s : Int), b, c⟩ ⟨cd, 1⟩ ar ha va (destroyV F s).x 0 (.slice B1 0 d1') (.slice B2 0 d2') (.slice B3 0 d3') (.slice B4 0 d4')) = .agg CS.toArray := by rw [← hCS]; rfl
  dsimp only [List.length_nil] at *
  rw [CE]
  have L26 : CS.length = 26 := by rw [← hCS]; rfl
  have ONE : ∀ u ∈ CS, u.oneCell' = true := by rw [← hCS]; exact cells_one rfl rfl rfl rfl
  have S3 := (S2.call k3).swap
  refine hK.out _ _ ?_ (fun hHeld => ?_)
  · exact ⟨at_range ((S2.call k3).get 2 rfl), at_range ((S2.call k3).get 0 rfl)⟩
  clear hK K
  refine wpAnyH_ready (rs := [8]) (by kernel_rfl) (by simp) ?_
  refine AllReadyH.cons (o := ⟨none, _, _, _, _, _⟩) rfl (fun K hK => ?_) AllReadyH.nil
  have h3 := h2.keep k3
  have SN := S3
  have AN := SN.get 0 rfl
  have TT : World.there w3 (w.heap.size + 1 + 1) 0 CS.toArray.size := by rw [show CS.toArray.size = 26 from L26]; exact at_there AN
  have IR : (Tryz.prog.info? 42).map (·.size) = some CS.toArray.size := by rw [show CS.toArray.size = 26 from L26]; exact info_run
  have SF := SN.fill CS L26
  have CE' := Lib.hid CE
  have RF := at_range (SF.get 0 rfl)
  have q3 := fill_only w3 (w.heap.size + 1 + 1) CS
  have HL := Lib.hid L26
  have HO := Lib.hid ONE
  clear CE hCS L26 ONE
  rw [if_pos (by rfl)]
  refine wp_store_mid _ _ _ rfl _ 0 CS.toArray rfl rfl TT IR (all_oneCell_toArray HO.out) ?_
  simp only [Act.put]
  refine hK.out _ _ ?_ (fun hHeld => ?_)
  · exact ⟨at_range (SF.get 2 rfl), at_range (SF.get 1 rfl)⟩
  clear hK K
  refine wpAnyH_ready (rs := [9]) (by kernel_rfl) (by simp) ?_
  refine AllReadyH.cons (o := ⟨some 9, _, _, _, _, _⟩) rfl (fun K hK => ?_) AllReadyH.nil
  go_simp
  refine hK.out _ _ ?_ (fun hHeld => ?_)
  · exact ⟨at_range (SF.get 2 rfl), at_range (SF.get 1 rfl)⟩
  clear hK K
  refine wpAnyH_done (by kernel_rfl) ?_ _
  go_wp2_with fail
  refine bodyPost_ret (v := .tuple #[.agg CS.toArray, .int .i64 0]) (results_mid2 rfl _ _ (w.heap.size + 1 + 1) CS _ _ rfl rfl RF Tryz.underlying42 rfl (by rw [HL.out]; exact info_run)) rfl ?_
  exact ⟨_, _, _, _, by rw [CE'.out], sr_nilK O2, sr_nilK I2, sr_nilK T2, sr_nilK V2, fd_local h3 (typ_go (X := []) (typ_go (typ_go (X := []) T0 (Only.below ((Below.refl _ _).alloc (Nat.le_refl _) _).drew) (by simp)) k2 (ar_at (S2.get 1 rfl) S2.old)) (Only.below k3) (by simp)) (by decide) (by decide) (by decide) (by decide) q3, SF.only⟩

end Go.Proofs.YtbpmnjmegffllaaGreat.Fou

namespace Go.Proofs.YtbpmnjmegffllaaGreat.Fou
open Go.ChangeShapes Go.WideShapes Go.ChangeAt Go.RowKit
open Go.Proofs.YtbpmnjmegffllaaGreat.Mod Sco Amem Beg
set_option linter.unusedVariables false
set_option linter.unusedSimpArgs false
set_option maxRecDepth 100000
attribute [local go_sem ↓] Go.wp_at_zero Go.wp_at_succ
variable {P : Pn} {f : Nat → Int} {F : Fo} {G : Nat} {w w' : World}
structure Wk (w0 w : World) (L : List (Nat × List Value)) (P : Pn) (G : Nat) (f : Nat → Int) (F : Fo) : Prop where
  st : Held.St w0 w L
  fd : Fd w P G f F
  og : w0.heap.size ≤ P.g
  oG : w0.heap.size ≤ G
  ap : ∀ y ∈ L, y.1 ≠ P.g ∧ y.1 ≠ G
section
variable {w0 : World} {L : List (Nat × List Value)}
theorem Wk.call (S : Wk w0 w L P G f F) (k : Below w.heap.size w w') : Wk w0 w' L P G f F := ⟨S.st.call k, S.fd.keep k, S.og, S.oG, S.ap⟩
theorem Wk.drew (S : Wk w0 w L P G f F) : Wk w0 w.drew L P G f F := S.call (Below.refl _ _).drew
theorem Wk.alloc (S : Wk w0 w L P G f F) (o : Obj) : Wk w0 (w.alloc o) L P G f F := S.call ((Below.refl _ _).alloc (Nat.le_refl _) _)
theorem Wk.new (S : Wk w0 w L P G f F) (vs : List Value) (t : TypeId) : Wk w0 (w.alloc (.cells vs.toArray t)) ((w.heap.size, vs) :: L) P G f F :=
  ⟨S.st.new vs t, (S.alloc _).fd, S.og, S.oG, fun y hy => by
    rcases List.mem_cons.1 hy with rfl | hy
    · have := S.fd.ar.body.lt
      have := S.fd.gr.lt
      exact ⟨by dsimp only; omega, by dsimp only; omega⟩
    · exact S.ap y hy⟩
theorem Wk.made (S : Wk w0 w L P G f F) (zs us : List Value) (t : TypeId) (h : us.length = zs.length) : Wk w0 ((w.alloc (.cells zs.toArray t)).setCells w.heap.size 0 us) ((w.heap.size, us) :: L) P G f F := by
  have SN := S.new zs t
  have k : Below w.heap.size w ((w.alloc (.cells zs.toArray t)).setCells w.heap.size 0 us) := (fill_only _ _ _).below_of ((Below.refl _ _).alloc (Nat.le_refl _) _) (by simp) (fun x hx => by rw [List.mem_singleton.1 hx]; exact Nat.le_refl _)
  exact ⟨St.fill SN.st us h, S.fd.keep k, S.og, S.oG, fun y hy => by
    rcases List.mem_cons.1 hy with rfl | hy
    · exact SN.ap (w.heap.size, zs) (by simp)
    · exact S.ap y hy⟩
theorem Wk.step {f' : Nat → Int} {F' : Fo} (S : Wk w0 w L P G f F) (h : Fd w' P G f' F') (k : Only [P.g, G] w w') : Wk w0 w' L P G f' F' :=
  ⟨st_only S.st k (fun x hx => by
      rcases List.mem_cons.1 hx with rfl | hx
      · exact S.og
      · rw [List.mem_singleton.1 hx]; exact S.oG) (fun y hy e => by
      have := S.ap y hy
      rcases List.mem_cons.1 e with e | e
      · exact this.1 e
      · exact this.2 (List.mem_singleton.1 e)), h, S.og, S.oG, S.ap⟩
theorem Wk.start {w1 : World} {n : Nat} {t i j : Int} (S : Held.St w0 w L) (k : Below w.heap.size w w1) {B g G : Nat} (h : Fd w1 ⟨n, t, i, j, B, g, sizeN n i j, g⟩ G f F) (hg : w.heap.size ≤ g) (hG : w.heap.size ≤ G) : Wk w0 w1 L ⟨n, t, i, j, B, g, sizeN n i j, g⟩ G f F :=
  ⟨S.call k, h, Nat.le_trans S.below.size hg, Nat.le_trans S.below.size hG, fun y hy => by
    have := (S.at_ y hy).lt
    exact ⟨by dsimp only; omega, by omega⟩⟩
end
abbrev st0 (n : Nat) (i j : Int) : Fo := Sco.start n (64 * (n : Int) + i) j (64 * (n : Int)) i
theorem sh1 : (createV (st0 2 0 64) 8).x = 0 ∧ (createV (st0 2 0 64) 8).v = 1 := by decide +kernel
theorem sh2 : (createV (createV (st0 2 0 64) 8).F 8).x = 13 ∧ (createV (createV (st0 2 0 64) 8).F 8).v = 0 := by decide +kernel
set_option maxHeartbeats 2000000 in
theorem shown14_any (w : World) : Calls Tryz.prog 7 #[] w fun e w' => e = .returned (.bool true) ∧ Below w.heap.size w w' := by
  have S0 := (Held.St.start w).new [.int .i64 2, .int .i64 1, .int .i64 0, .int .i64 64] 23
  obtain ⟨_, p0, p1, p2, p3⟩ := S0.get4 0 rfl
  go_enter Tryz.func7, Tryz.ntmps7
  go_wp2_with fail
  refine (new_ok _ 2 1 0 64 (by decide)).mono ?_
  rintro e w1 ⟨B, g, G, rfl, h1, k1, l1, l2, l3⟩
  obtain ⟨F0, hF0⟩ : ∃ F0 : Fo, F0 = Sco.start 2 (64 * ((2 : Nat) : Int) + 0) 64 (64 * ((2 : Nat) : Int)) 0 := ⟨_, rfl⟩
  rw [← hF0] at h1
  have E1 := Lib.hid (show (createV F0 8).x = 0 ∧ (createV F0 8).v = 1 by rw [hF0]; exact sh1)
  have E2 := Lib.hid (show (createV (createV F0 8).F 8).x = 13 ∧ (createV (createV F0 8).F 8).v = 0 by rw [hF0]; exact sh2)
  clear hF0
  obtain ⟨f0, hf0⟩ : ∃ f0 : Nat → Int, f0 = newW 2 0 := ⟨_, rfl⟩
  rw [← hf0] at h1
  clear hf0
  have S1 := Wk.start S0 k1 h1 l2 l3
  have R := newpr (n := 2) (t := 1) (i := 0) (j := 64) (by decide) B g g
  clear p0 p1 p2 p3
  go_upto_region 5 with (fail)
  have S2n := S1.new zR 42
  have S2 := S1.made zR (ofR ⟨2, 0, 0, 0, 8, 0, 0⟩ ⟨0, 1⟩ 0 0 0 (.slice none 0 0)).cells 42 rfl
  have TT2 : World.there (w1.alloc (.cells zR.toArray 42)) w1.heap.size 0 26 := at_there (S2n.st.get 0 rfl)
  obtain ⟨CQ, hCQ⟩ : ∃ CQ : List Value, (ofR ⟨2, 0, 0, 0, 8, 0, 0⟩ ⟨0, 1⟩ 0 0 0 (.slice none 0 0)).cells = CQ := ⟨_, rfl⟩
  rw [hCQ] at S2
  have CE2 : runV (ofR ⟨2, 0, 0, 0, 8, 0, 0⟩ ⟨0, 1⟩ 0 0 0 (.slice none 0 0)) = .agg CQ.toArray := by rw [← hCQ]; rfl
  have O2 : ∀ u ∈ CQ, u.oneCell' = true := by rw [← hCQ]; exact cells_one rfl rfl rfl rfl
  have L2 : CQ.length = 26 := by rw [← hCQ]; rfl
  have IQ : (Tryz.prog.info? 42).map (·.size) = some CQ.toArray.size := by rw [show CQ.toArray.size = 26 from L2]; exact info_run
  have TQ : World.there (w1.alloc (.cells zR.toArray 42)) w1.heap.size 0 CQ.toArray.size := by rw [show CQ.toArray.size = 26 from L2]; exact TT2
  go_upto_region 6 with (refine wpList_store_mid rfl _ _ _ rfl w1.heap.size 0 CQ.toArray rfl CE2 TQ IQ (all_oneCell_toArray O2) ?_)
  obtain ⟨W2, hW2⟩ : ∃ W : World, W = (w1.alloc (.cells [.int .u8 0, .int .u8 0, .int .u8 0, .int .u8 0, .int .i64 0, .int .i64 0, .int .i64 0, .int .i64 0, .int .i64 0, .int .u64 0, .int .u64 0, .slice none 0 0, .int .u64 0, .int .u64 0, .int .i64 0, .int .i64 0, .slice none 0 0, .int .i64 0, .slice none 0 0, .int .i64 0, .bool false, .bool false, .bool false, .int .i64 0, .int .i64 0, .slice none 0 0].toArray 42)).setCells w1.heap.size 0 CQ := ⟨_, rfl⟩
  rw [← hW2] at S2
  rw [show (w1.alloc (.cells [.int .u8 0, .int .u8 0, .int .u8 0, .int .u8 0, .int .i64 0, .int .i64 0, .int .i64 0, .int .i64 0, .int .i64 0, .int .u64 0, .int .u64 0, .slice none 0 0, .int .u64 0, .int .u64 0, .int .i64 0, .int .i64 0, .slice none 0 0, .int .i64 0, .slice none 0 0, .int .i64 0, .bool false, .bool false, .bool false, .int .i64 0, .int .i64 0, .slice none 0 0].toArray 42)).setCells w1.heap.size 0 CQ.toArray.toList = W2 from hW2.symm]
  clear hW2 TQ IQ TT2 S2n
  have P2 := S2.st.get 1 rfl
  have p0 := P2.cell 0 _ rfl
  have p1 := P2.cell 1 _ rfl
  have p2 := P2.cell 2 _ rfl
  have p3 := P2.cell 3 _ rfl
  have RR := at_range (S2.st.get 0 rfl)
  go_wp2_with (refine wpList_load_mid rfl _ _ rfl w1.heap.size 0 rfl CQ _ RR Tryz.underlying42 rfl (by rw [L2]; exact info_run) ?_)
  rw [← CE2]
  refine (step_create _ R S2.fd 0 0 0 8 0 0 0 0 0 0 (.slice none 0 0) (by decide) (by decide) (Slic.Sr.nil _) (fun b e => by cases e)).mono ?_
  rintro e w3 ⟨ch3, li3, sa3, as3, rfl, O3, I3, T3, V3, h3, k3⟩
  have S3 := S2.step h3 k3
  obtain ⟨aA3, an3, rfl, _, _⟩ := O3.form
  obtain ⟨bA3, bn3, rfl, _, _⟩ := I3.form
  obtain ⟨cA3, cn3, rfl, _, _⟩ := T3.form
  obtain ⟨dA3, dn3, rfl, _, _⟩ := V3.form
  dsimp only [List.length_nil] at *
  obtain ⟨CS3, hCS3⟩ : ∃ CS : List Value, (ofT ⟨2, 0, 0, 0, 8, 0, 0⟩ ⟨0, 1⟩ 0 0 0 (createV F0 8).x (createV F0 8).v (.slice aA3 0 an3) (.slice bA3 0 bn3) (.slice cA3 0 cn3) (.slice dA3 0 dn3)).cells = CS := ⟨_, rfl⟩
  have CE3 : runV (ofT ⟨2, 0, 0, 0, 8, 0, 0⟩ ⟨0, 1⟩ 0 0 0 (createV F0 8).x (createV F0 8).v (.slice aA3 0 an3) (.slice bA3 0 bn3) (.slice cA3 0 cn3) (.slice dA3 0 dn3)) = .agg CS3.toArray := by rw [← hCS3]; rfl
  have ON3 : ∀ u ∈ CS3, u.oneCell' = true := by rw [← hCS3]; exact cells_one rfl rfl rfl rfl
  have LN3 : CS3.length = 26 := by rw [← hCS3]; rfl
  have D3 : CS3[21]? = some (.bool true) ∧ CS3[23]? = some (.int .i64 (createV F0 8).x) ∧ CS3[24]? = some (.int .i64 (createV F0 8).v) := by rw [← hCS3]; exact ⟨rfl, rfl, rfl⟩
  rw [CE3]
  clear CE3 hCS3
  have N3 := S3.made zR CS3 42 LN3
  have TT3 : World.there (w3.alloc (.cells zR.toArray 42)) w3.heap.size 0 CS3.toArray.size := by rw [show CS3.toArray.size = 26 from LN3]; exact at_there ((S3.new zR 42).st.get 0 rfl)
  have IR3 : (Tryz.prog.info? 42).map (·.size) = some CS3.toArray.size := by rw [show CS3.toArray.size = 26 from LN3]; exact info_run
  clear p0 p1 p2 p3
  go_upto_region 7 with (refine wpList_store_mid rfl _ _ _ rfl w3.heap.size 0 CS3.toArray rfl rfl TT3 IR3 (all_oneCell_toArray ON3) ?_)
  obtain ⟨W3, hW3⟩ : ∃ W : World, W = (w3.alloc (.cells [.int .u8 0, .int .u8 0, .int .u8 0, .int .u8 0, .int .i64 0, .int .i64 0, .int .i64 0, .int .i64 0, .int .i64 0, .int .u64 0, .int .u64 0, .slice none 0 0, .int .u64 0, .int .u64 0, .int .i64 0, .int .i64 0, .slice none 0 0, .int .i64 0, .slice none 0 0, .int .i64 0, .bool false, .bool false, .bool false, .int .i64 0, .int .i64 0, .slice none 0 0].toArray 42)).setCells w3.heap.size 0 CS3 := ⟨_, rfl⟩
  rw [← hW3] at N3
  rw [show (w3.alloc (.cells [.int .u8 0, .int .u8 0, .int .u8 0, .int .u8 0, .int .i64 0, .int .i64 0, .int .i64 0, .int .i64 0, .int .i64 0, .int .u64 0, .int .u64 0, .slice none 0 0, .int .u64 0, .int .u64 0, .int .i64 0, .int .i64 0, .slice none 0 0, .int .i64 0, .slice none 0 0, .int .i64 0, .bool false, .bool false, .bool false, .int .i64 0, .int .i64 0, .slice none 0 0].toArray 42)).setCells w3.heap.size 0 CS3.toArray.toList = W3 from hW3.symm]
  clear hW3 TT3 IR3
  have P3 := N3.st.get 2 rfl
  have p0 := P3.cell 0 _ rfl
  have p1 := P3.cell 1 _ rfl
  have p2 := P3.cell 2 _ rfl
  have p3 := P3.cell 3 _ rfl
  have RR3 := at_range (N3.st.get 1 rfl)
  go_wp2_with (refine wpList_load_mid rfl _ _ rfl w1.heap.size 0 rfl CQ _ RR3 Tryz.underlying42 rfl (by rw [L2]; exact info_run) ?_)
  rw [← CE2]
  refine (step_create _ R N3.fd 0 0 0 8 0 0 0 0 0 0 (.slice none 0 0) (by decide) (by decide) (Slic.Sr.nil _) (fun b e => by cases e)).mono ?_
  rintro e w4 ⟨ch4, li4, sa4, as4, rfl, O4, I4, T4, V4, h4, k4⟩
  have S4 := N3.step h4 k4
  obtain ⟨aA4, an4, rfl, _, _⟩ := O4.form
  obtain ⟨bA4, bn4, rfl, _, _⟩ := I4.form
  obtain ⟨cA4, cn4, rfl, _, _⟩ := T4.form
  obtain ⟨dA4, dn4, rfl, _, _⟩ := V4.form
  dsimp only [List.length_nil] at *
  obtain ⟨CS4, hCS4⟩ : ∃ CS : List Value, (ofT ⟨2, 0, 0, 0, 8, 0, 0⟩ ⟨0, 1⟩ 0 0 0 (createV (createV F0 8).F 8).x (createV (createV F0 8).F 8).v (.slice aA4 0 an4) (.slice bA4 0 bn4) (.slice cA4 0 cn4) (.slice dA4 0 dn4)).cells = CS := ⟨_, rfl⟩
  have CE4 : runV (ofT ⟨2, 0, 0, 0, 8, 0, 0⟩ ⟨0, 1⟩ 0 0 0 (createV (createV F0 8).F 8).x (createV (createV F0 8).F 8).v (.slice aA4 0 an4) (.slice bA4 0 bn4) (.slice cA4 0 cn4) (.slice dA4 0 dn4)) = .agg CS4.toArray := by rw [← hCS4]; rfl
  have ON4 : ∀ u ∈ CS4, u.oneCell' = true := by rw [← hCS4]; exact cells_one rfl rfl rfl rfl
  have LN4 : CS4.length = 26 := by rw [← hCS4]; rfl
  have D4 : CS4[21]? = some (.bool true) ∧ CS4[23]? = some (.int .i64 (createV (createV F0 8).F 8).x) ∧ CS4[24]? = some (.int .i64 (createV (createV F0 8).F 8).v) := by rw [← hCS4]; exact ⟨rfl, rfl, rfl⟩
  rw [CE4]
  clear CE4 hCS4
  have N4 := S4.made zR CS4 42 LN4
  have TT4 : World.there (w4.alloc (.cells zR.toArray 42)) w4.heap.size 0 CS4.toArray.size := by rw [show CS4.toArray.size = 26 from LN4]; exact at_there ((S4.new zR 42).st.get 0 rfl)
  have IR4 : (Tryz.prog.info? 42).map (·.size) = some CS4.toArray.size := by rw [show CS4.toArray.size = 26 from LN4]; exact info_run
  clear p0 p1 p2 p3
  have x21 := (N4.st.get 1 rfl).cell 21 _ D3.1
  have x24 := (N4.st.get 1 rfl).cell 24 _ D3.2.2
  have x23 := (N4.st.get 0 rfl).cell 23 _ D4.2.1
  rw [E1.out.2] at x24
  rw [E2.out.1] at x23
  go_wp2_with (refine wpList_store_mid rfl _ _ _ rfl w4.heap.size 0 CS4.toArray rfl rfl TT4 IR4 (all_oneCell_toArray ON4) ?_)
  go_ret
  exact ⟨rfl, N4.st.below⟩
end Go.Proofs.YtbpmnjmegffllaaGreat.Fou

namespace Go.Proofs.YtbpmnjmegffllaaGreat.Fou
open Go.ChangeShapes Go.WideShapes Go.ChangeAt Go.RowKit
open Go.Proofs.YtbpmnjmegffllaaGreat.Mod Sco Amem Beg
set_option linter.unusedVariables false
set_option linter.unusedSimpArgs false
set_option maxRecDepth 100000
attribute [local go_sem ↓] Go.wp_at_zero Go.wp_at_succ
variable {P : Pn} {f : Nat → Int} {F : Fo} {G : Nat} {w w' : World}
def opA (mk : Bool) (k : Int) : Int := if mk = true then 1 + k % 512 else 1 + k % 8
def opC (mk : Bool) (k : Int) : Ca := ⟨if mk = true then 2 else 3, 0, 0, 0, opA mk k, 0, 0⟩
def opB (n : Nat) (mk : Bool) (k : Int) : Bool := mk || decide (opA mk k < (n : Int))
theorem op_beg {n : Nat} (mk : Bool) (k : Int) (n1 : 1 ≤ n) : begV (n : Int) [] (opC mk k) 0 0 = if opB n mk k = true then ⟨0, 1⟩ else ⟨11, 0⟩ := by
  cases mk with
  | true =>
    have h1 : wiE (1 + k % 512) 1 8192 1 = 0 := wi0 (by omega) (by omega)
    have e : wayV (n : Int) [] (opC true k) 0 0 = ⟨1, [0]⟩ := by
      show (⟨1, [wiE (1 + k % 512) 1 8192 1]⟩ : Wa) = _
      rw [h1]
    rw [beg_of e (fir1 0)]
    rfl
  | false =>
    by_cases h : 1 + k % 8 < (n : Int)
    · have h1 : wiE (1 + k % 8) 1 ((n : Int) - 1) 11 = 0 := wi0 (by omega) (by omega)
      have e : wayV (n : Int) [] (opC false k) 0 0 = ⟨1, [0]⟩ := by
        show (⟨1, [wiE (1 + k % 8) 1 ((n : Int) - 1) 11]⟩ : Wa) = _
        rw [h1]
      rw [beg_of e (fir1 0), if_pos (show opB n false k = true by simp [opB, opA, h])]
      rfl
    · have h1 : wiE (1 + k % 8) 1 ((n : Int) - 1) 11 = 11 := wi1 (by omega)
      have e : wayV (n : Int) [] (opC false k) 0 0 = ⟨1, [11]⟩ := by
        show (⟨1, [wiE (1 + k % 8) 1 ((n : Int) - 1) 11]⟩ : Wa) = _
        rw [h1]
      rw [beg_of e (fir1 11), if_neg (show ¬ opB n false k = true by simp [opB, opA, h])]
      rfl
def BegunD (w : World) (n : Nat) (mk : Bool) (k : Int) (e : Ending) (w' : World) : Prop := ∃ A c, e = .returned (runV (ofR (opC mk k) (if opB n mk k = true then ⟨0, 1⟩ else ⟨11, 0⟩) 0 0 0 (.slice A 0 c))) ∧
  Slic.Sr kE w' (.slice A 0 c) [] ∧ (∀ g, (Value.slice A 0 c).ownBlock = some g → w.heap.size ≤ g) ∧ Below w.heap.size w w'
theorem c7 {w0 W : World} {q : Nat} {op a : Int} (A : Held.At w0 W q [.int .u8 op, .int .u8 0, .int .u8 0, .int .u8 0, .int .i64 a, .int .i64 0, .int .i64 0]) : W.cell? ⟨q, 0, none⟩ = some (.int .u8 op) ∧ W.cell? ⟨q, 1, none⟩ = some (.int .u8 0) ∧ W.cell? ⟨q, 2, none⟩ = some (.int .u8 0) ∧ W.cell? ⟨q, 3, none⟩ = some (.int .u8 0) ∧ W.cell? ⟨q, 4, none⟩ = some (.int .i64 a) ∧ W.cell? ⟨q, 5, none⟩ = some (.int .i64 0) ∧ W.cell? ⟨q, 6, none⟩ = some (.int .i64 0) :=
  ⟨A.cell 0 _ rfl, A.cell 1 _ rfl, A.cell 2 _ rfl, A.cell 3 _ rfl, A.cell 4 _ rfl, A.cell 5 _ rfl, A.cell 6 _ rfl⟩
abbrev call7 (op a : Int) : List Value := [.int .u8 op, .int .u8 0, .int .u8 0, .int .u8 0, .int .i64 a, .int .i64 0, .int .i64 0]
abbrev plan4L (n t i j : Int) : List Value := [.int .i64 n, .int .i64 t, .int .i64 i, .int .i64 j]

theorem St.toFront2 {w0 W : World} {a b c : Nat × List Value} {M : List (Nat × List Value)} (S : Held.St w0 W (a :: b :: c :: M)) : Held.St w0 W (c :: a :: b :: M) := by
  refine ⟨S.below, fun z hz => S.at_ z ?_, ?_⟩
  · simp only [List.mem_cons] at hz ⊢
    rcases hz with h | h | h | h
    · exact .inr (.inr (.inl h))
    · exact .inl h
    · exact .inr (.inl h)
    · exact .inr (.inr (.inr h))
  · have := S.nd
    simp only [List.map_cons, List.nodup_cons, List.mem_cons, not_or] at this ⊢
    exact ⟨⟨fun h => this.1.2.1 h.symm, fun h => this.2.1.1 h.symm, this.2.2.1⟩, ⟨this.1.1, this.1.2.2⟩, this.2.1.2, this.2.2.2⟩
set_option maxHeartbeats 2000000 in
theorem begun_any (w : World) (n : Nat) (t i j : Int) (mk : Bool) (k : Int) (n1 : 1 ≤ n) (n8 : n ≤ 8) :
    Calls Tryz.prog 11 #[planV n t i j, .bool mk, .int .i64 k] w (BegunD w n mk k) := by
  have S0 := ((Held.St.start w).new (plan4L n t i j) 23).new zR 42
  simp only [World.size_alloc] at S0
  have m7 : bits .and .i64 k 7 = k % 8 := Plan.mask_i64 3 (by decide) k
  have m511 : bits .and .i64 k 511 = k % 512 := Plan.mask_i64 9 (by decide) k
  have OB := Lib.hid (op_beg mk k n1)
  cases mk with
  | true =>
    have S1 := S0.new (call7 2 (1 + k % 512)) 35
    simp only [World.size_alloc] at S1
    go_enter Tryz.func11, Tryz.ntmps11
    go_upto_region 4 with (fail)
    obtain ⟨W, hW⟩ : ∃ W : World, W = ((w.alloc (.cells (plan4L n t i j).toArray 23)).alloc (.cells [.int .u8 0, .int .u8 0, .int .u8 0, .int .u8 0, .int .i64 0, .int .i64 0, .int .i64 0, .int .i64 0, .int .i64 0, .int .u64 0, .int .u64 0, .slice none 0 0, .int .u64 0, .int .u64 0, .int .i64 0, .int .i64 0, .slice none 0 0, .int .i64 0, .slice none 0 0, .int .i64 0, .bool false, .bool false, .bool false, .int .i64 0, .int .i64 0, .slice none 0 0].toArray 42)).alloc (.cells (call7 2 (1 + k % 512)).toArray 35) := ⟨_, rfl⟩
    rw [← hW] at S1
    rw [show ((w.alloc (.cells [.int .i64 (n : Int), .int .i64 t, .int .i64 i, .int .i64 j].toArray 23)).alloc (.cells [.int .u8 0, .int .u8 0, .int .u8 0, .int .u8 0, .int .i64 0, .int .i64 0, .int .i64 0, .int .i64 0, .int .i64 0, .int .u64 0, .int .u64 0, .slice none 0 0, .int .u64 0, .int .u64 0, .int .i64 0, .int .i64 0, .slice none 0 0, .int .i64 0, .slice none 0 0, .int .i64 0, .bool false, .bool false, .bool false, .int .i64 0, .int .i64 0, .slice none 0 0].toArray 42)).alloc (.cells [.int .u8 2, .int .u8 0, .int .u8 0, .int .u8 0, .int .i64 (1 + k % 512), .int .i64 0, .int .i64 0].toArray 35) = W from hW.symm]
    clear hW S0
    obtain ⟨p0, p1, p2, p3⟩ := plan4 (S1.get 2 rfl)
    have S2 := S1.new [.int .u64 0, .int .u64 0, .int .u64 0, .int .u64 0] 36
    obtain ⟨q0, q1, q2, q3, q4, q5, q6⟩ := c7 (S2.get 1 rfl)
    have RZ := rows4 (S2.get 0 rfl)
    go_wp2_with fail
    refine (refof_any _ _ [] [0, 0, 0, 0] n t i j 2 0 0 0 (1 + k % 512) 0 0 _ (by omega) (by omega) RZ rfl zeros_wf (Chain.Sr.nil _) (by decide) (by decide) (by decide) (by decide) (by decide)).mono ?_
    rintro e w3 ⟨ch, rfl, O3, OB3, k3⟩
    obtain ⟨A3, c3, rfl, _, _⟩ := O3.form
    dsimp only [List.length_nil] at *
    have EE : ∀ ch, runV (ofR ⟨2, 0, 0, 0, (1 + k % 512), 0, 0⟩ (begV (n : Int) [] ⟨2, 0, 0, 0, (1 + k % 512), 0, 0⟩ (regA [0, 0, 0, 0] 0) (regA [0, 0, 0, 0] 0)) (Chain.areaV []) (regA [0, 0, 0, 0] 0) (regA [0, 0, 0, 0] 0) ch) = runV (ofR (opC true k) (if opB n true k = true then ⟨0, 1⟩ else ⟨11, 0⟩) 0 0 0 ch) := fun ch => by
      rw [← OB.out]
      rfl
    rw [EE]
    clear EE OB
    obtain ⟨CS, hCS⟩ : ∃ CS : List Value, (ofR (opC true k) (if opB n true k = true then ⟨0, 1⟩ else ⟨11, 0⟩) 0 0 0 (.slice A3 0 c3)).cells = CS := ⟨_, rfl⟩
    have CE : runV (ofR (opC true k) (if opB n true k = true then ⟨0, 1⟩ else ⟨11, 0⟩) 0 0 0 (.slice A3 0 c3)) = .agg CS.toArray := by rw [← hCS]; rfl
    have ON : ∀ u ∈ CS, u.oneCell' = true := by rw [← hCS]; exact cells_one rfl rfl rfl rfl
    have LN : CS.length = 26 := by rw [← hCS]; rfl
    rw [CE]
    have CE' := Lib.hid CE
    clear CE hCS
    have S3 := St.toFront2 (S2.call k3)
    have TT : World.there w3 (w.heap.size + 1) 0 CS.toArray.size := by rw [show CS.toArray.size = 26 from LN]; exact at_there (S3.get 0 rfl)
    have IR : (Tryz.prog.info? 42).map (·.size) = some CS.toArray.size := by rw [show CS.toArray.size = 26 from LN]; exact info_run
    have SF := St.fill S3 CS LN
    have RF := at_range (SF.get 0 rfl)
    have ow : w.heap.size + 1 < W.heap.size := (S1.get 1 rfl).lt
    have ow2 := S1.below.size
    have sW : (W.alloc (.cells #[.int .u64 0, .int .u64 0, .int .u64 0, .int .u64 0] 36)).heap.size = W.heap.size + 1 := by simp
    have OW := Lib.hid (show ∀ g, (Value.slice A3 0 c3).ownBlock = some g → w.heap.size ≤ g from fun g hg => by have := OB3 g hg; omega)
    clear sW OB3
    go_wp2_with (refine wpList_store_mid rfl _ _ _ rfl (w.heap.size + 1) 0 CS.toArray rfl rfl TT IR (all_oneCell_toArray ON) ?_)
    refine bodyPost_ret (v := .agg CS.toArray) (results_cell_mid rfl _ _ (w.heap.size + 1) CS _ rfl RF Tryz.underlying42 rfl (by rw [LN]; exact info_run)) rfl ?_
    exact ⟨A3, c3, by rw [CE'.out], sr_nilK O3, OW.out, SF.below⟩
  | false =>
    have S1 := S0.new (call7 3 (1 + k % 8)) 35
    simp only [World.size_alloc] at S1
    go_enter Tryz.func11, Tryz.ntmps11
    go_upto_region 4 with (fail)
    obtain ⟨W, hW⟩ : ∃ W : World, W = ((w.alloc (.cells (plan4L n t i j).toArray 23)).alloc (.cells [.int .u8 0, .int .u8 0, .int .u8 0, .int .u8 0, .int .i64 0, .int .i64 0, .int .i64 0, .int .i64 0, .int .i64 0, .int .u64 0, .int .u64 0, .slice none 0 0, .int .u64 0, .int .u64 0, .int .i64 0, .int .i64 0, .slice none 0 0, .int .i64 0, .slice none 0 0, .int .i64 0, .bool false, .bool false, .bool false, .int .i64 0, .int .i64 0, .slice none 0 0].toArray 42)).alloc (.cells (call7 3 (1 + k % 8)).toArray 35) := ⟨_, rfl⟩
    rw [← hW] at S1
    rw [show ((w.alloc (.cells [.int .i64 (n : Int), .int .i64 t, .int .i64 i, .int .i64 j].toArray 23)).alloc (.cells [.int .u8 0, .int .u8 0, .int .u8 0, .int .u8 0, .int .i64 0, .int .i64 0, .int .i64 0, .int .i64 0, .int .i64 0, .int .u64 0, .int .u64 0, .slice none 0 0, .int .u64 0, .int .u64 0, .int .i64 0, .int .i64 0, .slice none 0 0, .int .i64 0, .slice none 0 0, .int .i64 0, .bool false, .bool false, .bool false, .int .i64 0, .int .i64 0, .slice none 0 0].toArray 42)).alloc (.cells [.int .u8 3, .int .u8 0, .int .u8 0, .int .u8 0, .int .i64 (1 + k % 8), .int .i64 0, .int .i64 0].toArray 35) = W from hW.symm]
    clear hW S0
    obtain ⟨p0, p1, p2, p3⟩ := plan4 (S1.get 2 rfl)
    have S2 := S1.new [.int .u64 0, .int .u64 0, .int .u64 0, .int .u64 0] 36
    obtain ⟨q0, q1, q2, q3, q4, q5, q6⟩ := c7 (S2.get 1 rfl)
    have RZ := rows4 (S2.get 0 rfl)
    go_wp2_with fail
    refine (refof_any _ _ [] [0, 0, 0, 0] n t i j 3 0 0 0 (1 + k % 8) 0 0 _ (by omega) (by omega) RZ rfl zeros_wf (Chain.Sr.nil _) (by decide) (by decide) (by decide) (by decide) (by decide)).mono ?_
    rintro e w3 ⟨ch, rfl, O3, OB3, k3⟩
    obtain ⟨A3, c3, rfl, _, _⟩ := O3.form
    dsimp only [List.length_nil] at *
    have EE : ∀ ch, runV (ofR ⟨3, 0, 0, 0, (1 + k % 8), 0, 0⟩ (begV (n : Int) [] ⟨3, 0, 0, 0, (1 + k % 8), 0, 0⟩ (regA [0, 0, 0, 0] 0) (regA [0, 0, 0, 0] 0)) (Chain.areaV []) (regA [0, 0, 0, 0] 0) (regA [0, 0, 0, 0] 0) ch) = runV (ofR (opC false k) (if opB n false k = true then ⟨0, 1⟩ else ⟨11, 0⟩) 0 0 0 ch) := fun ch => by
      rw [← OB.out]
      rfl
    rw [EE]
    clear EE OB
    obtain ⟨CS, hCS⟩ : ∃ CS : List Value, (ofR (opC false k) (if opB n false k = true then ⟨0, 1⟩ else ⟨11, 0⟩) 0 0 0 (.slice A3 0 c3)).cells = CS := ⟨_, rfl⟩
    have CE : runV (ofR (opC false k) (if opB n false k = true then ⟨0, 1⟩ else ⟨11, 0⟩) 0 0 0 (.slice A3 0 c3)) = .agg CS.toArray := by rw [← hCS]; rfl
    have ON : ∀ u ∈ CS, u.oneCell' = true := by rw [← hCS]; exact cells_one rfl rfl rfl rfl
    have LN : CS.length = 26 := by rw [← hCS]; rfl
    rw [CE]
    have CE' := Lib.hid CE
    clear CE hCS
    have S3 := St.toFront2 (S2.call k3)
    have TT : World.there w3 (w.heap.size + 1) 0 CS.toArray.size := by rw [show CS.toArray.size = 26 from LN]; exact at_there (S3.get 0 rfl)
    have IR : (Tryz.prog.info? 42).map (·.size) = some CS.toArray.size := by rw [show CS.toArray.size = 26 from LN]; exact info_run
    have SF := St.fill S3 CS LN
    have RF := at_range (SF.get 0 rfl)
    have ow : w.heap.size + 1 < W.heap.size := (S1.get 1 rfl).lt
    have ow2 := S1.below.size
    have sW : (W.alloc (.cells #[.int .u64 0, .int .u64 0, .int .u64 0, .int .u64 0] 36)).heap.size = W.heap.size + 1 := by simp
    have OW := Lib.hid (show ∀ g, (Value.slice A3 0 c3).ownBlock = some g → w.heap.size ≤ g from fun g hg => by have := OB3 g hg; omega)
    clear sW OB3
    go_wp2_with (refine wpList_store_mid rfl _ _ _ rfl (w.heap.size + 1) 0 CS.toArray rfl rfl TT IR (all_oneCell_toArray ON) ?_)
    refine bodyPost_ret (v := .agg CS.toArray) (results_cell_mid rfl _ _ (w.heap.size + 1) CS _ rfl RF Tryz.underlying42 rfl (by rw [LN]; exact info_run)) rfl ?_
    exact ⟨A3, c3, by rw [CE'.out], sr_nilK O3, OW.out, SF.below⟩
end Go.Proofs.YtbpmnjmegffllaaGreat.Fou
