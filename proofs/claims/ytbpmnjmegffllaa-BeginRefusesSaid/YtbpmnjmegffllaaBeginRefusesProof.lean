/-
  penfoldlaw13.BeginRefuses returns true for every row of calls, and changes nothing that was there; no condition.
-/
import Derived.Test.YtbpmnjmegffllaaRows
import Derived.Test.YtbpmnjmegffllaaBase
import Derived.Test.YtbpmnjmegffllaaBegN
import Derived.Deep.DeepCutAuto
namespace Go.Proofs.Ytbpmnjmegffllaa.beginRefuses
open Go.ChangeShapes Go.WideShapes Go.ChangeAt Go.RowKit
set_option linter.unusedVariables false

open Go.Proofs.Ytbpmnjmegffllaa.Beg Go.Proofs.Ytbpmnjmegffllaa.Mod Sco
attribute [local go_sem ↓] Go.wp_at_zero Go.wp_at_succ
theorem fillOnlyAt (b : Nat) : ∀ (us : List Value) (o : Nat) (w : World), Only [b] w (w.setCells b o us)
  | [], _, w => Only.refl _ _
  | v :: r, o, w => (Only.put w b o v (by simp)).trans (fillOnlyAt b r (o + 1) _)
theorem five (c : Int) : ((c == 1) = true ∧ (c == 20) = false) ∨ ((c == 1) = false ∧ (c == 20) = true) ∨ ((c == 1) = false ∧ (c == 20) = false ∧ (c == 24) = true) ∨ ((c == 1) = false ∧ (c == 20) = false ∧ (c == 24) = false ∧ (c == 23) = true) ∨ ((c == 1) = false ∧ (c == 20) = false ∧ (c == 24) = false ∧ (c == 23) = false) := by
  simp only [beq_iff_eq, beq_eq_false_iff_ne, ne_eq]
  omega
/-- What the walk carries: local blocks, and the document's model, of a block of its own each. -/
structure Wm (w0 w : World) (L : List (Nat × List Value)) (X : Dx) (p : Dp) (m : Mo) : Prop where
  st : Held.St w0 w L
  rm : Rm w X p m
  own : ∀ b, dw X p b → w0.heap.size ≤ b
  ap : ∀ y ∈ L, ¬ dw X p y.1
section
variable {w0 w w' : World} {L : List (Nat × List Value)} {X : Dx} {p : Dp} {m m' : Mo}
theorem Rm.dlt (h : Rm w X p m) {b : Nat} (d : dw X p b) : b < w.heap.size := by
  rcases d with rfl | rfl | rfl | rfl | e | ⟨t, ht, e⟩
  · exact h.hd.lt
  · exact h.rs.lc
  · exact (h.rs.rX.lt _ rfl).2
  · exact h.rs.rf.body.lt
  · exact (h.ob.lt _ (by rw [← e])).2
  · obtain ⟨i, hi⟩ := List.getElem?_of_mem ht
    have hl : i < m.O.length := by rw [← h.ln]; exact (List.getElem?_eq_some_iff.1 hi).1
    exact ((h.sl i _ t (List.getElem?_eq_getElem hl) hi).lt _ (by rw [← e])).2
theorem Wm.call (S : Wm w0 w L X p m) (k : Below w.heap.size w w') : Wm w0 w' L X p m := ⟨S.st.call k, S.rm.keep k, S.own, S.ap⟩
theorem Wm.drew (S : Wm w0 w L X p m) : Wm w0 w.drew L X p m := S.call (Below.refl _ _).drew
theorem Wm.alloc (S : Wm w0 w L X p m) (o : Obj) : Wm w0 (w.alloc o) L X p m := S.call ((Below.refl _ _).alloc (Nat.le_refl _) _)
theorem Wm.new (S : Wm w0 w L X p m) (vs : List Value) (t : TypeId) : Wm w0 (w.alloc (.cells vs.toArray t)) ((w.heap.size, vs) :: L) X p m :=
  ⟨S.st.new vs t, (S.alloc _).rm, S.own, fun y hy d => by
    rcases List.mem_cons.1 hy with rfl | hy
    · exact Nat.lt_irrefl _ (Rm.dlt S.rm d)
    · exact S.ap y hy d⟩
theorem Wm.fill {b : Nat} {vs : List Value} (S : Wm w0 w ((b, vs) :: L) X p m) (tb : isT w b 53) (us : List Value) (h : us.length = vs.length) : Wm w0 (w.setCells b 0 us) ((b, us) :: L) X p m :=
  ⟨St.fill S.st us h, S.rm.local tb (by decide) (fillOnlyAt b us 0 w), S.own, fun y hy => by
    rcases List.mem_cons.1 hy with rfl | hy
    · exact S.ap (b, vs) (by simp)
    · exact S.ap y (by simp [hy])⟩
theorem Wm.sub {x : Nat × List Value} (S : Wm w0 w (x :: L) X p m) : Wm w0 w L X p m := ⟨St.sub S.st (List.sublist_cons_self x L), S.rm, S.own, fun y hy => S.ap y (by simp [hy])⟩
theorem stOnly {X : List Nat} {w0 : World} {L : List (Nat × List Value)} (S : Held.St w0 w L) (k : Only X w w') (h1 : ∀ x ∈ X, w0.heap.size ≤ x) (h2 : ∀ y ∈ L, y.1 ∉ X) : Held.St w0 w' L :=
  ⟨k.below_of S.below S.below.size h1, fun y hy => by
    have A := S.at_ y hy
    exact ⟨A.own, Nat.lt_of_lt_of_le A.lt k.size, fun i v e => (k.cell A.lt (h2 y hy) i).trans (A.cell i v e), fun o => (k.frozen A.lt (h2 y hy) o).trans (A.fz o)⟩, S.nd⟩
theorem Wm.did (S : Wm w0 w L X p m) (d : DidD X p w m' w') : ∃ p', Wm w0 w' L X p' m' := by
  obtain ⟨p', r, ⟨L', hL, q⟩, hd⟩ := d
  refine ⟨p', stOnly S.st q (fun x hx => S.own x (hL x hx)) (fun y hy e => S.ap y hy (hL _ e)), r, fun b hb => ?_, fun y hy e => ?_⟩
  · rcases hd b hb with h | h
    · exact S.own b h
    · exact Nat.le_trans S.st.below.size h
  · rcases hd _ e with h | h
    · exact S.ap y hy h
    · have := (S.st.at_ y hy).lt
      omega
theorem typNew (w : World) (cs : Array Value) (T : TypeId) : isT (w.alloc (.cells cs T)) w.heap.size T := ⟨cs, heap_alloc_new w _⟩
theorem typCall {b : Nat} {T : TypeId} (h : isT w b T) (k : Below w.heap.size w w') : isT w' b T := by
  obtain ⟨c, h⟩ := h
  exact ⟨c, (k.block b (Array.getElem?_eq_some_iff.1 h).1).trans h⟩
theorem thereLen {w0 W : World} {b n : Nat} {vs : List Value} (A : Held.At w0 W b vs) (h : vs.length = n) : W.there b 0 n := fun j hj => by
  rw [Nat.zero_add]
  exact ⟨by rw [A.cell j _ (List.getElem?_eq_getElem (by omega))]; rfl, A.fz j⟩
/-- The registers of the first thread, as a slice of the struct. -/
theorem regs_sr (h : Rm w X p m) : Slic.Sr Fina.kU w (.slice (some ⟨X.D, 23, none⟩) 4 4) [(m.th 0).r 0, (m.th 0).r 1, (m.th 0).r 2, (m.th 0).r 3] := by
  refine ⟨_, 4, rfl, Nat.le_refl _, by decide, fun e => (by cases e), fun _ => ⟨X.D, 23, rfl, h.hd.lt, fun i j u hi hu => ?_⟩⟩
  have hi' : i = 0 ∨ i = 1 ∨ i = 2 ∨ i = 3 := by
    have : i < 4 := hi
    omega
  have hj : j = 0 := by
    cases j with
    | zero => rfl
    | succ j => rcases hi' with rfl | rfl | rfl | rfl <;> cases hu
  subst hj
  rcases hi' with rfl | rfl | rfl | rfl <;> (obtain rfl := Option.some.inj hu)
  · exact h.reg (t := 0) (i := 0) (by omega) (by omega)
  · exact h.reg (t := 0) (i := 1) (by omega) (by omega)
  · exact h.reg (t := 0) (i := 2) (by omega) (by omega)
  · exact h.reg (t := 0) (i := 3) (by omega) (by omega)
abbrev regs0 (m : Mo) : List Int := [(m.th 0).r 0, (m.th 0).r 1, (m.th 0).r 2, (m.th 0).r 3]
theorem regd (m : Mo) {c : Ca} (hw : ∀ x ∈ regs0 m, wf64 x) (h0 : 0 ≤ c.h) (v0 : 0 ≤ c.v) : Regd m 0 c (regA (regs0 m) c.h) (regA (regs0 m) c.v) := by
  have key : ∀ r : Int, 0 ≤ r → (badR r = false → regA (regs0 m) r = m.reg 0 r) ∧ 0 ≤ regA (regs0 m) r := fun r r0 => by
    by_cases h4 : r < 4
    · obtain ⟨j, rfl⟩ := Int.eq_ofNat_of_zero_le r0
      have hj : j = 0 ∨ j = 1 ∨ j = 2 ∨ j = 3 := by omega
      rcases hj with rfl | rfl | rfl | rfl
      · exact ⟨fun _ => rfl, (hw ((m.th 0).r 0) (by simp)).1⟩
      · exact ⟨fun _ => rfl, (hw ((m.th 0).r 1) (by simp)).1⟩
      · exact ⟨fun _ => rfl, (hw ((m.th 0).r 2) (by simp)).1⟩
      · exact ⟨fun _ => rfl, (hw ((m.th 0).r 3) (by simp)).1⟩
    · refine ⟨fun hb => ?_, ?_⟩
      · have : badR r = true := decide_eq_true (by omega)
        rw [hb] at this
        cases this
      · obtain ⟨j, rfl⟩ := Int.eq_ofNat_of_zero_le r0
        rw [reg_none (by omega)]
        exact Int.le_refl _
  exact ⟨(key c.h h0).1, (key c.v v0).1, (key c.h h0).2, (key c.v v0).2⟩
theorem keepO {bP b o : Nat} {op r h y a b7 d : Int} (S : Wm w0 w L X p m) (A : Held.At w0 w bP [.int .i64 4, .int .i64 1, .int .i64 64, .int .i64 256]) (hb : b < w0.heap.size) (y0 : w0.cell? ⟨b, o, none⟩ = some (.int .u8 op)) (y1 : w0.cell? ⟨b, o + 1, none⟩ = some (.int .u8 r)) (y2 : w0.cell? ⟨b, o + 2, none⟩ = some (.int .u8 h)) (y3 : w0.cell? ⟨b, o + 3, none⟩ = some (.int .u8 y)) (y4 : w0.cell? ⟨b, o + 4, none⟩ = some (.int .i64 a)) (y5 : w0.cell? ⟨b, o + 5, none⟩ = some (.int .i64 b7)) (y6 : w0.cell? ⟨b, o + 6, none⟩ = some (.int .i64 d)) :
    (w.cell? ⟨bP, 0, none⟩ = some (.int .i64 4) ∧ w.cell? ⟨bP, 1, none⟩ = some (.int .i64 1) ∧ w.cell? ⟨bP, 2, none⟩ = some (.int .i64 64) ∧ w.cell? ⟨bP, 3, none⟩ = some (.int .i64 256)) ∧ w.cell? ⟨X.D, 39, none⟩ = some (sl3 (p.c 0)) ∧ w.cell? ⟨b, o, none⟩ = some (.int .u8 op) ∧ w.cell? ⟨b, o + 1, none⟩ = some (.int .u8 r) ∧ w.cell? ⟨b, o + 2, none⟩ = some (.int .u8 h) ∧ w.cell? ⟨b, o + 3, none⟩ = some (.int .u8 y) ∧ w.cell? ⟨b, o + 4, none⟩ = some (.int .i64 a) ∧ w.cell? ⟨b, o + 5, none⟩ = some (.int .i64 b7) ∧ w.cell? ⟨b, o + 6, none⟩ = some (.int .i64 d) :=
  ⟨plan4 A, S.rm.entC (t := 0) (by omega), (S.st.below.cell hb).trans y0, (S.st.below.cell hb).trans y1, (S.st.below.cell hb).trans y2, (S.st.below.cell hb).trans y3, (S.st.below.cell hb).trans y4, (S.st.below.cell hb).trans y5, (S.st.below.cell hb).trans y6⟩
/-- Behind 'r := begin.Of(..)'. -/
def StO (w0 : World) (L : List (Nat × List Value)) (X : Dx) (p : Dp) (m : Mo) (be : Be) (s : Value) (wx : World) : Prop :=
  ∃ gB CS, s = .pointer (some ⟨gB, 0, none⟩) ∧ Wm w0 wx ((gB, CS) :: L) X p m ∧ CS[7]? = some (.int .i64 be.pc) ∧ CS[23]? = some (.int .i64 be.code)
end

set_option maxRecDepth 100000 in
set_option maxHeartbeats 8000000 in
theorem walk (lA : Option Addr) (ln lc : Nat) (lz : Nat → Nat → Int) (w : World) (hl : Args.Recs [.u8, .u8, .u8, .u8, .i64, .i64, .i64] w lA ln lz) :
    Calls Try.prog 7 #[.slice lA ln lc] w fun e w' => e = .returned (.bool true) ∧ Below w.heap.size w w' := by
  have S0 := (Held.St.start w).alloc (.cells #[] 23)
  clear S0
  go_enter Try.func7, Try.ntmps7
  go_wp2_with fail
  refine (Beg.shown13_any _).mono ?_
  rintro z w1 ⟨rfl, k1⟩
  have S1 := ((Held.St.start w).call k1).new [.int .i64 4, .int .i64 1, .int .i64 64, .int .i64 256] 23
  obtain ⟨_, c0, c1, c2, c3⟩ := S1.get4 0 rfl
  go_wp2_with fail
  refine (refnew12_any _ 4 32 1 64 none 0 0 [] (by decide) ⟨[], Slic.Own.nil _ _, rfl, fun i h => absurd h (by simp)⟩).mono ?_
  rintro z w2 ⟨X, rfl, rm, xn, xt, xA, xN, xF, k2, ow⟩
  clear c0 c1 c2 c3
  have S2 := S1.call k2
  have l1 := S1.below.size
  obtain ⟨bP, hbP⟩ : ∃ bP : Nat, bP = w1.heap.size := ⟨_, rfl⟩
  have lb : w1.heap.size < (w1.alloc (.cells [.int .i64 4, .int .i64 1, .int .i64 64, .int .i64 256].toArray 23)).heap.size := by simp
  rw [← hbP] at S2 lb
  obtain ⟨m0, hm0⟩ : ∃ m0, newM 4 1 (64 * ((4 : Nat) : Int) + 64) (8 * ((32 : Nat) : Int)) (64 * ((4 : Nat) : Int)) 64 = m0 := ⟨_, rfl⟩
  rw [hm0] at rm
  obtain ⟨Z, hZ⟩ : ∃ Z : Fx, Z = ⟨0, 0, 0, 0, 0, 4, 1, 320, 256, 256, 64, (none, 0, 0), []⟩ := ⟨_, rfl⟩
  have iv0 : Iv Z 0 m0 := by
    rw [← hm0, hZ]
    exact newM_iv (Z := ⟨0, 0, 0, 0, 0, 4, 1, 320, 256, 256, 64, (none, 0, 0), []⟩) (by decide) (by decide) (by decide) (by decide) (by decide) (by decide) (by decide)
  have zn : Z.n = X.n := by rw [hZ, xn]
  have zA : Z.A = X.A := by rw [hZ, xA]; rfl
  have zS : Z.S = 8 * (X.N : Int) := by rw [hZ, xN]; rfl
  have zN : X.N ≤ 8192 := by rw [xN]; decide
  have zt : 0 < Z.nt := by rw [hZ]; decide
  have z4 : (Z.n : Int) = 4 := by rw [hZ]; rfl
  have ff : Fok X.FF := by rw [xF]; exact fun L hL => absurd hL List.not_mem_nil
  have W0 : Wm w w2 [(bP, [.int .i64 4, .int .i64 1, .int .i64 64, .int .i64 256])] X p0 m0 := ⟨S2, rm, fun b hb => Nat.le_trans l1 (ow b hb), fun y hy d => by
    rw [List.mem_singleton.1 hy] at d
    have := ow _ d
    dsimp only at this
    omega⟩
  have QN := Lib.hid zn
  have QA := Lib.hid zA
  have QS := Lib.hid zS
  have QM := Lib.hid zN
  have QT := Lib.hid zt
  have Q4 := Lib.hid z4
  clear zn zA zS zN zt z4 xn xt xA xN xF hZ hm0 ow l1 lb S1 S2 rm
  go_wp2_with fail
  rw [← hbP]
  clear hbP
  go_loopw [6] (fun t' wr => ∃ (k : Nat) (p : Dp) (m : Mo), k ≤ 40 ∧ k ≤ ln ∧ t' = .int .i64 (k : Int) ∧ Iv Z k m ∧ Wm w wr [(bP, [.int .i64 4, .int .i64 1, .int .i64 64, .int .i64 256])] X p m) (fun t' _ => 40 - (intOf t').toNat)
  case atStart => exact ⟨0, p0, m0, by omega, by omega, rfl, iv0, W0⟩
  case round =>
    clear W0 iv0
    obtain ⟨k, p, m, hk, hkl, rfl, iv, SA⟩ := hrel
    by_cases h40 : k < 40
    · by_cases hln : k < ln
      · obtain ⟨b, o, rfl, hb, hc⟩ := hl.at_ k hln
        have hwf := fun j => hl.wf k j
        have y0 := hc 0 (by decide)
        have y1 := hc 1 (by decide)
        have y2 := hc 2 (by decide)
        have y3 := hc 3 (by decide)
        have y4 := hc 4 (by decide)
        have y5 := hc 5 (by decide)
        have y6 := hc 6 (by decide)
        have f0 := Held.bounds_u8 (hwf 0)
        have f1 := Held.bounds_u8 (hwf 1)
        have f2 := Held.bounds_u8 (hwf 2)
        have f3 := Held.bounds_u8 (hwf 3)
        have f4 := Held.bounds_i64 (hwf 4)
        obtain ⟨op, hop⟩ : ∃ z, lz k 0 = z := ⟨_, rfl⟩
        obtain ⟨r, hr⟩ : ∃ z, lz k 1 = z := ⟨_, rfl⟩
        obtain ⟨h, hh⟩ : ∃ z, lz k 2 = z := ⟨_, rfl⟩
        obtain ⟨y, hy⟩ : ∃ z, lz k 3 = z := ⟨_, rfl⟩
        obtain ⟨a, ha⟩ : ∃ z, lz k 4 = z := ⟨_, rfl⟩
        obtain ⟨b7, hb7⟩ : ∃ z, lz k 5 = z := ⟨_, rfl⟩
        obtain ⟨d, hd⟩ : ∃ z, lz k 6 = z := ⟨_, rfl⟩
        rw [hop] at y0 f0
        rw [hr] at y1 f1
        rw [hh] at y2 f2
        rw [hy] at y3 f3
        rw [ha] at y4 f4
        rw [hb7] at y5
        rw [hd] at y6
        have y0 : w.cell? ⟨b, o + k * 7, none⟩ = some (.int .u8 op) := y0
        have y1 : w.cell? ⟨b, o + k * 7 + 1, none⟩ = some (.int .u8 r) := y1
        have y2 : w.cell? ⟨b, o + k * 7 + 2, none⟩ = some (.int .u8 h) := y2
        have y3 : w.cell? ⟨b, o + k * 7 + 3, none⟩ = some (.int .u8 y) := y3
        have y4 : w.cell? ⟨b, o + k * 7 + 4, none⟩ = some (.int .i64 a) := y4
        have y5 : w.cell? ⟨b, o + k * 7 + 5, none⟩ = some (.int .i64 b7) := y5
        have y6 : w.cell? ⟨b, o + k * 7 + 6, none⟩ = some (.int .i64 d) := y6
        obtain ⟨h0, h1⟩ := f2
        obtain ⟨v0, v1⟩ := f3
        have RW : ∀ x ∈ regs0 m, wf64 x := fun x hx => by
          have hw := iv.wreg QT.out
          simp only [List.mem_cons, List.not_mem_nil, or_false] at hx
          rcases hx with rfl | rfl | rfl | rfl
          · exact hw 0
          · exact hw 1
          · exact hw 2
          · exact hw 3
        have LN : (m.ents 0).length ≤ 100000 := Nat.le_trans (iv.l6 QT.out) (by decide)
        have AG := agree_any iv QT.out X.FF ⟨op, r, h, y, a, b7, d⟩ _ _ f0.1 (regd m (c := ⟨op, r, h, y, a, b7, d⟩) RW h0 v0)
        rw [Q4.out] at AG
        have cok : Cok ⟨op, r, h, y, a, b7, d⟩ := ⟨f0.1, f1.1, h0, v0, f4.1, f4.2⟩
        obtain ⟨hd_, hha⟩ : ∃ z, regA (regs0 m) h = z := ⟨_, rfl⟩
        obtain ⟨va, hva⟩ : ∃ z, regA (regs0 m) y = z := ⟨_, rfl⟩
        obtain ⟨be, hbe⟩ : ∃ z, begV 4 (m.ents 0) ⟨op, r, h, y, a, b7, d⟩ hd_ va = z := ⟨_, rfl⟩
        obtain ⟨ar, har⟩ : ∃ z, Chain.areaV (m.ents 0) = z := ⟨_, rfl⟩
        have EQ := Lib.hid (show ∀ ch, ofR ⟨op, r, h, y, a, b7, d⟩ (begV 4 (m.ents 0) ⟨op, r, h, y, a, b7, d⟩ (regA (regs0 m) h) (regA (regs0 m) y)) (Chain.areaV (m.ents 0)) (regA (regs0 m) h) (regA (regs0 m) y) ch = ofR ⟨op, r, h, y, a, b7, d⟩ be ar hd_ va ch from fun ch => by rw [hha, hva, hbe, har])
        have AG' : Agree be op (doM X.FF m 0 ⟨op, r, h, y, a, b7, d⟩).1.c := by
          have := AG
          dsimp only at this
          rw [hha, hva, hbe] at this
          exact this
        have HAG := Lib.hid AG'
        have HOK := Lib.hid cok
        have HRW := RW
        clear AG AG' hha hva hbe har hop hr hh hy ha hb7 hd hwf hc f0 f1 f4 cok
        have i0 : (0 : Int) ≤ (k : Int) := by omega
        have i1 : (k : Int) < (ln : Int) := by omega
        obtain ⟨SAW, hSA⟩ : ∃ W : World, W = wr := ⟨_, rfl⟩
        rw [← hSA] at SA
        go_upto_region 7 with (fail)
        rw [← hSA]
        clear hSA
        go_cut [7] (fun s wx => StO w [(bP, [.int .i64 4, .int .i64 1, .int .i64 64, .int .i64 256])] X p m be s wx)
        case first =>
          refine wp_region_held_drew (S := (fun W' => (W'.cell? ⟨bP, 0, none⟩ = some (.int .i64 4) ∧ W'.cell? ⟨bP, 1, none⟩ = some (.int .i64 1) ∧ W'.cell? ⟨bP, 2, none⟩ = some (.int .i64 64) ∧ W'.cell? ⟨bP, 3, none⟩ = some (.int .i64 256)) ∧ W'.cell? ⟨X.D, 39, none⟩ = some (sl3 (p.c 0)) ∧ W'.cell? ⟨b, o + k * 7, none⟩ = some (.int .u8 op) ∧ W'.cell? ⟨b, o + k * 7 + 1, none⟩ = some (.int .u8 r) ∧ W'.cell? ⟨b, o + k * 7 + 2, none⟩ = some (.int .u8 h) ∧ W'.cell? ⟨b, o + k * 7 + 3, none⟩ = some (.int .u8 y) ∧ W'.cell? ⟨b, o + k * 7 + 4, none⟩ = some (.int .i64 a) ∧ W'.cell? ⟨b, o + k * 7 + 5, none⟩ = some (.int .i64 b7) ∧ W'.cell? ⟨b, o + k * 7 + 6, none⟩ = some (.int .i64 d))) (by kernel_rfl) ?_ (fun hHeld => ?_)
          · exact keepO SA.drew (SA.drew.st.get 0 rfl) hb y0 y1 y2 y3 y4 y5 y6
          refine wpAnyH_take (i := 0) (oi := ⟨some 25, _, _, _, _, _⟩) (v := ?_) rfl (by kernel_rfl) (by kernel_rfl) (by kernel_rfl) (fun _ _ _ h => h) (Or.inl ⟨by kernel_rfl, ?_⟩) (by assumption) ?_
          rotate_left
          · intro w hSw
            try dsimp only at hSw
            first | (go_simp; done) | (go_simp; with_reducible rfl) | with_reducible rfl
          simp only [Act.put, List.setIfInBounds_toArray, List.set_cons_zero, List.set_cons_succ]
          refine wpAnyH_take (i := 1) (oi := ⟨some 26, _, _, _, _, _⟩) (v := ?_) rfl (by kernel_rfl) (by kernel_rfl) (by kernel_rfl) (fun _ _ _ h => h) (Or.inl ⟨by kernel_rfl, ?_⟩) (by assumption) ?_
          rotate_left
          · intro w hSw
            try dsimp only at hSw
            first | (go_simp; done) | (go_simp; with_reducible rfl) | with_reducible rfl
          simp only [Act.put, List.setIfInBounds_toArray, List.set_cons_zero, List.set_cons_succ]
          refine wpAnyH_take (i := 2) (oi := ⟨some 27, _, _, _, _, _⟩) (v := ?_) rfl (by kernel_rfl) (by kernel_rfl) (by kernel_rfl) (fun _ _ _ h => h) (Or.inl ⟨by kernel_rfl, ?_⟩) (by assumption) ?_
          rotate_left
          · intro w hSw
            try dsimp only at hSw
            first | (go_simp; done) | (go_simp; with_reducible rfl) | with_reducible rfl
          simp only [Act.put, List.setIfInBounds_toArray, List.set_cons_zero, List.set_cons_succ]
          refine wpAnyH_take (i := 3) (oi := ⟨some 28, _, _, _, _, _⟩) (v := ?_) rfl (by kernel_rfl) (by kernel_rfl) (by kernel_rfl) (fun _ _ _ h => h) (Or.inl ⟨by kernel_rfl, ?_⟩) (by assumption) ?_
          rotate_left
          · intro w hSw
            try dsimp only at hSw
            first | (go_simp; done) | (go_simp; with_reducible rfl) | with_reducible rfl
          simp only [Act.put, List.setIfInBounds_toArray, List.set_cons_zero, List.set_cons_succ]
          refine wpAnyH_take (i := 4) (oi := ⟨some 29, _, _, _, _, _⟩) (v := ?_) rfl (by kernel_rfl) (by kernel_rfl) (by kernel_rfl) (fun _ _ _ h => h) (Or.inl ⟨by kernel_rfl, ?_⟩) (by assumption) ?_
          rotate_left
          · intro w hSw
            try dsimp only at hSw
            first | (go_simp; done) | (go_simp; with_reducible rfl) | with_reducible rfl
          simp only [Act.put, List.setIfInBounds_toArray, List.set_cons_zero, List.set_cons_succ]
          refine wpAnyH_take (i := 5) (oi := ⟨some 30, _, _, _, _, _⟩) (v := ?_) rfl (by kernel_rfl) (by kernel_rfl) (by kernel_rfl) (fun _ _ _ h => h) (Or.inl ⟨by kernel_rfl, ?_⟩) (by assumption) ?_
          rotate_left
          · intro w hSw
            try dsimp only at hSw
            first | (go_simp; done) | (go_simp; with_reducible rfl) | with_reducible rfl
          simp only [Act.put, List.setIfInBounds_toArray, List.set_cons_zero, List.set_cons_succ]
          refine wpAnyH_take (i := 6) (oi := ⟨some 31, _, _, _, _, _⟩) (v := ?_) rfl (by kernel_rfl) (by kernel_rfl) (by kernel_rfl) (fun _ _ _ h => h) (Or.inl ⟨by kernel_rfl, ?_⟩) (by assumption) ?_
          rotate_left
          · intro w hSw
            try dsimp only at hSw
            first | (go_simp; done) | (go_simp; with_reducible rfl) | with_reducible rfl
          simp only [Act.put, List.setIfInBounds_toArray, List.set_cons_zero, List.set_cons_succ]
          refine wpAnyH_take (i := 7) (oi := ⟨some 32, _, _, _, _, _⟩) (v := ?_) rfl (by kernel_rfl) (by kernel_rfl) (by kernel_rfl) (fun _ _ _ h => h) (Or.inl ⟨by kernel_rfl, ?_⟩) (by assumption) ?_
          rotate_left
          · intro w hSw
            try dsimp only at hSw
            first | (go_simp; done) | (go_simp; with_reducible rfl) | with_reducible rfl
          simp only [Act.put, List.setIfInBounds_toArray, List.set_cons_zero, List.set_cons_succ]
          refine wpAnyH_take (i := 8) (oi := ⟨some 33, _, _, _, _, _⟩) (v := ?_) rfl (by kernel_rfl) (by kernel_rfl) (by kernel_rfl) (fun _ _ _ h => h) (Or.inl ⟨by kernel_rfl, ?_⟩) (by assumption) ?_
          rotate_left
          · intro w hSw
            try dsimp only at hSw
            first | (go_simp; done) | (go_simp; with_reducible rfl) | with_reducible rfl
          simp only [Act.put, List.setIfInBounds_toArray, List.set_cons_zero, List.set_cons_succ]
          refine wpAnyH_take (i := 9) (oi := ⟨some 34, _, _, _, _, _⟩) (v := ?_) rfl (by kernel_rfl) (by kernel_rfl) (by kernel_rfl) (fun _ _ _ h => h) (Or.inl ⟨by kernel_rfl, ?_⟩) (by assumption) ?_
          rotate_left
          · intro w hSw
            try dsimp only at hSw
            first | (go_simp; done) | (go_simp; with_reducible rfl) | with_reducible rfl
          simp only [Act.put, List.setIfInBounds_toArray, List.set_cons_zero, List.set_cons_succ]
          refine wpAnyH_take (i := 10) (oi := ⟨some 35, _, _, _, _, _⟩) (v := ?_) rfl (by kernel_rfl) (by kernel_rfl) (by kernel_rfl) (fun _ _ _ h => h) (Or.inl ⟨by kernel_rfl, ?_⟩) (by assumption) ?_
          rotate_left
          · intro w hSw
            try dsimp only at hSw
            first | (go_simp; done) | (go_simp; with_reducible rfl) | with_reducible rfl
          simp only [Act.put, List.setIfInBounds_toArray, List.set_cons_zero, List.set_cons_succ]
          refine wpAnyH_take (i := 11) (oi := ⟨some 36, _, _, _, _, _⟩) (v := ?_) rfl (by kernel_rfl) (by kernel_rfl) (by kernel_rfl) (fun _ _ _ h => h) (Or.inl ⟨by kernel_rfl, ?_⟩) (by assumption) ?_
          rotate_left
          · intro w hSw
            try dsimp only at hSw
            first | (go_simp; done) | (go_simp; with_reducible rfl) | with_reducible rfl
          simp only [Act.put, List.setIfInBounds_toArray, List.set_cons_zero, List.set_cons_succ]
          refine wpAnyH_take (i := 12) (oi := ⟨some 37, _, _, _, _, _⟩) (v := ?_) rfl (by kernel_rfl) (by kernel_rfl) (by kernel_rfl) (fun _ _ _ h => h) (Or.inl ⟨by kernel_rfl, ?_⟩) (by assumption) ?_
          rotate_left
          · intro w hSw
            try dsimp only at hSw
            first | (go_simp; done) | (go_simp; with_reducible rfl) | with_reducible rfl
          simp only [Act.put, List.setIfInBounds_toArray, List.set_cons_zero, List.set_cons_succ]
          refine wpAnyH_take (i := 13) (oi := ⟨some 38, _, _, _, _, _⟩) (v := ?_) rfl (by kernel_rfl) (by kernel_rfl) (by kernel_rfl) (fun _ _ _ h => h) (Or.inl ⟨by kernel_rfl, ?_⟩) (by assumption) ?_
          rotate_left
          · intro w hSw
            try dsimp only at hSw
            first | (go_simp; done) | (go_simp; with_reducible rfl) | with_reducible rfl
          simp only [Act.put, List.setIfInBounds_toArray, List.set_cons_zero, List.set_cons_succ]
          refine wpAnyH_take (i := 14) (oi := ⟨some 39, _, _, _, _, _⟩) (v := ?_) rfl (by kernel_rfl) (by kernel_rfl) (by kernel_rfl) (fun _ _ _ h => h) (Or.inl ⟨by kernel_rfl, ?_⟩) (by assumption) ?_
          rotate_left
          · intro w hSw
            try dsimp only at hSw
            first | (go_simp; done) | (go_simp; with_reducible rfl) | with_reducible rfl
          simp only [Act.put, List.setIfInBounds_toArray, List.set_cons_zero, List.set_cons_succ]
          refine wpAnyH_ready (rs := [15, 16]) (by kernel_rfl) (by simp) ?_
          refine AllReadyH.cons (o := ⟨some 40, _, _, _, _, _⟩) rfl (fun K hK => ?_) (AllReadyH.cons (o := ⟨some 7, _, _, _, _, _⟩) rfl (fun K hK => ?_) AllReadyH.nil)
          · skip
            have E7 := SA.drew
            have RZ := regs_sr E7.rm
            have CZ := (ent_own.2 (E7.rm.en 0 (by omega))).sr
            go_simp
            refine (of_any _ _ (m.ents 0) (regs0 m) 4 1 64 256 op r h y a b7 d _ (by decide) (by decide) RZ rfl RW CZ LN h0 h1 v0 v1).mono ?_
            rintro e w6 ⟨ch, rfl, O6, OB6, k6⟩
            obtain ⟨Au, cu, rfl, _, _⟩ := O6.form
            rw [EQ.out]
            obtain ⟨CS, hCS⟩ : ∃ CS : List Value, (ofR ⟨op, r, h, y, a, b7, d⟩ be ar hd_ va (.slice Au (m.ents 0).length cu)).cells = CS := ⟨_, rfl⟩
            have CE : runV (ofR ⟨op, r, h, y, a, b7, d⟩ be ar hd_ va (.slice Au (m.ents 0).length cu)) = .agg CS.toArray := by rw [← hCS]; rfl
            have ON : ∀ u ∈ CS, u.oneCell' = true := by rw [← hCS]; exact cells_one rfl rfl rfl rfl
            have LC : CS.length = 26 := by rw [← hCS]; rfl
            have D7 : CS[7]? = some (.int .i64 be.pc) ∧ CS[23]? = some (.int .i64 be.code) := by rw [← hCS]; exact ⟨rfl, rfl⟩
            rw [CE]
            clear CE hCS
            refine hK.out _ _ ?_ (fun hHeld => ?_)
            · exact keepO (SA.drew.call k6) ((SA.drew.call k6).st.get 0 rfl) hb y0 y1 y2 y3 y4 y5 y6
            clear hK K
            refine wpAnyH_ready (rs := [16]) (by kernel_rfl) (by simp) ?_
            refine AllReadyH.cons (o := ⟨some 7, _, _, _, _, _⟩) rfl (fun K hK => ?_) AllReadyH.nil
            go_simp
            refine hK.out _ _ ?_ (fun hHeld => ?_)
            · exact keepO ((SA.drew.call k6).new zR 53) (((SA.drew.call k6).new zR 53).st.get 1 rfl) hb y0 y1 y2 y3 y4 y5 y6
            clear hK K
            refine wpAnyH_ready (rs := [17]) (by kernel_rfl) (by simp) ?_
            refine AllReadyH.cons (o := ⟨none, _, _, _, _, _⟩) rfl (fun K hK => ?_) AllReadyH.nil
            have AA := ((SA.drew.call k6).new zR 53)
            have TB := typNew w6 zR.toArray 53
            have AF := Wm.fill AA TB CS LC
            have TT := thereLen (AA.st.get 0 rfl) (show zR.length = CS.toArray.size from LC.symm)
            have IR : (Try.prog.info? 53).map (·.size) = some CS.toArray.size := by rw [show CS.toArray.size = 26 from LC]; exact info_run
            rw [if_pos (by rfl)]
            refine wp_store_mid _ _ _ rfl _ 0 CS.toArray rfl rfl TT IR (all_oneCell_toArray ON) ?_
            simp only [Act.put]
            refine hK.out _ _ ?_ (fun hHeld => ?_)
            · exact keepO AF (AF.st.get 1 rfl) hb y0 y1 y2 y3 y4 y5 y6
            clear hK K
            refine wpAnyH_done (by kernel_rfl) ?_ _
            go_wp2_with fail
            go_meet
            exact ⟨_, CS, rfl, AF, D7.1, D7.2⟩
          · skip
            go_simp
            refine hK.out _ _ ?_ (fun hHeld => ?_)
            · exact keepO (SA.drew.new zR 53) ((SA.drew.new zR 53).st.get 1 rfl) hb y0 y1 y2 y3 y4 y5 y6
            clear hK K
            refine wpAnyH_ready (rs := [15]) (by kernel_rfl) (by simp) ?_
            refine AllReadyH.cons (o := ⟨some 40, _, _, _, _, _⟩) rfl (fun K hK => ?_) AllReadyH.nil
            have E7 := (SA.drew.new zR 53)
            have RZ := regs_sr E7.rm
            have CZ := (ent_own.2 (E7.rm.en 0 (by omega))).sr
            go_simp
            refine (of_any _ _ (m.ents 0) (regs0 m) 4 1 64 256 op r h y a b7 d _ (by decide) (by decide) RZ rfl RW CZ LN h0 h1 v0 v1).mono ?_
            rintro e w6 ⟨ch, rfl, O6, OB6, k6⟩
            obtain ⟨Au, cu, rfl, _, _⟩ := O6.form
            rw [EQ.out]
            obtain ⟨CS, hCS⟩ : ∃ CS : List Value, (ofR ⟨op, r, h, y, a, b7, d⟩ be ar hd_ va (.slice Au (m.ents 0).length cu)).cells = CS := ⟨_, rfl⟩
            have CE : runV (ofR ⟨op, r, h, y, a, b7, d⟩ be ar hd_ va (.slice Au (m.ents 0).length cu)) = .agg CS.toArray := by rw [← hCS]; rfl
            have ON : ∀ u ∈ CS, u.oneCell' = true := by rw [← hCS]; exact cells_one rfl rfl rfl rfl
            have LC : CS.length = 26 := by rw [← hCS]; rfl
            have D7 : CS[7]? = some (.int .i64 be.pc) ∧ CS[23]? = some (.int .i64 be.code) := by rw [← hCS]; exact ⟨rfl, rfl⟩
            rw [CE]
            clear CE hCS
            refine hK.out _ _ ?_ (fun hHeld => ?_)
            · exact keepO ((SA.drew.new zR 53).call k6) (((SA.drew.new zR 53).call k6).st.get 1 rfl) hb y0 y1 y2 y3 y4 y5 y6
            clear hK K
            refine wpAnyH_ready (rs := [17]) (by kernel_rfl) (by simp) ?_
            refine AllReadyH.cons (o := ⟨none, _, _, _, _, _⟩) rfl (fun K hK => ?_) AllReadyH.nil
            have AA := ((SA.drew.new zR 53).call k6)
            have TB := typCall (typNew SAW.drew zR.toArray 53) k6
            have AF := Wm.fill AA TB CS LC
            have TT := thereLen (AA.st.get 0 rfl) (show zR.length = CS.toArray.size from LC.symm)
            have IR : (Try.prog.info? 53).map (·.size) = some CS.toArray.size := by rw [show CS.toArray.size = 26 from LC]; exact info_run
            rw [if_pos (by rfl)]
            refine wp_store_mid _ _ _ rfl _ 0 CS.toArray rfl rfl TT IR (all_oneCell_toArray ON) ?_
            simp only [Act.put]
            refine hK.out _ _ ?_ (fun hHeld => ?_)
            · exact keepO AF (AF.st.get 1 rfl) hb y0 y1 y2 y3 y4 y5 y6
            clear hK K
            refine wpAnyH_done (by kernel_rfl) ?_ _
            go_wp2_with fail
            go_meet
            exact ⟨_, CS, rfl, AF, D7.1, D7.2⟩
        case rest =>
          obtain ⟨gB, CS, rfl, S6, d7, d23⟩ := hcut
          have z0 := (S6.st.below.cell (p := ⟨b, o + k * 7, none⟩) hb).trans y0
          have z1 := (S6.st.below.cell (p := ⟨b, o + k * 7 + 1, none⟩) hb).trans y1
          have z2 := (S6.st.below.cell (p := ⟨b, o + k * 7 + 2, none⟩) hb).trans y2
          have z3 := (S6.st.below.cell (p := ⟨b, o + k * 7 + 3, none⟩) hb).trans y3
          have z4 := (S6.st.below.cell (p := ⟨b, o + k * 7 + 4, none⟩) hb).trans y4
          have z5 := (S6.st.below.cell (p := ⟨b, o + k * 7 + 5, none⟩) hb).trans y5
          have z6 := (S6.st.below.cell (p := ⟨b, o + k * 7 + 6, none⟩) hb).trans y6
          go_wp2_with fail
          refine (refdo_any S6.rm iv (by omega) ff QN.out QA.out QS.out QM.out QT.out HOK.out).mono ?_
          rintro z w7 ⟨sd, rfl, osd, fsd, did⟩
          obtain ⟨p', S7⟩ := S6.did did
          have iv7 := iv.does X.FF QT.out ⟨op, r, h, y, a, b7, d⟩
          obtain ⟨sA, sn, sc⟩ := sd
          obtain ⟨m7, hm7⟩ : ∃ z, (doM X.FF m 0 ⟨op, r, h, y, a, b7, d⟩).2 = z := ⟨_, rfl⟩
          obtain ⟨c, hcc⟩ : ∃ z, (doM X.FF m 0 ⟨op, r, h, y, a, b7, d⟩).1.c = z := ⟨_, rfl⟩
          obtain ⟨cn, hcn⟩ : ∃ z, (doM X.FF m 0 ⟨op, r, h, y, a, b7, d⟩).1.n = z := ⟨_, rfl⟩
          have ag := HAG.out
          rw [hcc] at ag
          rw [hm7] at iv7 S7
          rw [hcc, hcn]
          clear hm7 hcc hcn did osd fsd HAG HOK S6 SA z0 z1 z2 z3 z4 z5 z6
          have S8 := S7.new [.int .i64 c, .int .i64 cn, .slice sA sn sc] 51
          have x0 := (S8.st.get 0 rfl).cell 0 _ rfl
          have x7 := (S8.st.get 1 rfl).cell 7 _ d7
          have x23 := (S8.st.get 1 rfl).cell 23 _ d23
          have w0' := (S8.st.below.cell (p := ⟨b, o + k * 7, none⟩) hb).trans y0
          have SE := S8.sub.sub
          clear S7 S8 d7 d23 y0 y1 y2 y3 y4 y5 y6 EQ RW HRW h0 h1 v0 v1
          by_cases hp : be.pc = 0
          · have q1 : (be.pc == 0) = true := by rw [hp]; rfl
            have q2 : (be.code != c) = false := by rw [ag.told hp]; exact bne_self_eq_false _
            have q3 : (be.pc != 0) = false := by rw [hp]; rfl
            clear ag hp
            rcases five c with ⟨t1, t2⟩ | ⟨t1, t2⟩ | ⟨t1, t2, t3⟩ | ⟨t1, t2, t3, t4⟩ | ⟨t1, t2, t3, t4⟩
            all_goals
              cases t9 : (op == 9)
              all_goals
                go_wp2_with fail
                go_roundw
                case rel => exact ⟨k + 1, p', m7, by omega, by omega, by go_num, iv7, SE⟩
                case measure => simp [intOf]; omega
          · have q1 : (be.pc == 0) = false := by simpa using hp
            have q3 : (be.pc != 0) = true := by simpa using hp
            rcases ag.late hp with hl' | ⟨ho, h20⟩
            · have t1 : (c == 1) = false := by simp; omega
              have t2 : (c == 20) = false := by simp; omega
              have t3 : (c == 24) = false := by simp; omega
              have t4 : (c == 23) = false := by simp; omega
              clear hl' ag hp
              cases t9 : (op == 9)
              all_goals
                go_wp2_with fail
                go_roundw
                case rel => exact ⟨k + 1, p', m7, by omega, by omega, by go_num, iv7, SE⟩
                case measure => simp [intOf]; omega
            · have t2 : (c == 20) = true := by rw [h20]; rfl
              have t1 : (c == 1) = false := by rw [h20]; rfl
              have t5 : (op == 9) = true := by rw [ho]; rfl
              clear ho h20 ag hp
              go_wp2_with fail
              go_roundw
              case rel => exact ⟨k + 1, p', m7, by omega, by omega, by go_num, iv7, SE⟩
              case measure => simp [intOf]; omega
      · obtain rfl : k = ln := by omega
        have q1 : decide ((k : Int) < (k : Int)) = false := by simp
        go_wp2
        go_ret
        exact ⟨rfl, SA.st.below⟩
    · obtain rfl : k = 40 := by omega
      go_wp2
      all_goals
        go_ret
        exact ⟨rfl, SA.st.below⟩

set_option maxRecDepth 100000 in
theorem lifted (os : Os) (started : os.Started) (H : Type) (enc : TypeId × Value → H) :
    ReturnsInHanded {} Try.checked os 7 .any (Rows.beginRefusesSpec.pre6 enc Try.prog Try.f7 Rows.beginRefusesRow.domain false) (Rows.beginRefusesSpec.post enc Try.prog Try.f7 false true false false) := by
  refine returnsInHanded_of_change (C := Try.checked) Args.own started (by kernel_rfl) Try.func7
    (ChangeSpec.witness6 (enc := enc) (C := Try.checked) false ⟨#[], #[.slice none 0 0], []⟩ 8 (by kernel_rfl) (by kernel_rfl) (by kernel_rfl) (by kernel_rfl)) ?_
  intro W base args ds gs before hval0 hW hcnd _
  have hval : ∀ (j : Nat) t v, Try.f7.params[j]? = some t → args[j]? = some v → Value.okWide Try.prog W .any base t v := hval0
  have hW' := hW
  obtain ⟨p, q, hA0, hV, rfl, hfz, hnd⟩ := hW
  have hA : DataW.TrodAll enc Try.prog W 0 (fun _ => true) true Try.f7.params.toList args.toList ds p := hA0
  rw [Try.params7] at hA hval
  obtain ⟨v0, vs0, d0, ds0, p0, q0, hargs, rfl, rfl, h0, r0⟩ := trodAll_cons hA
  obtain ⟨rfl, rfl, rfl⟩ := trodAll_nil r0
  obtain rfl : args = #[v0] := by cases args; simp_all
  obtain ⟨rfl, rfl⟩ := trodVars_none hV
  have lt0 := Args.trod_below h0
  obtain ⟨lA, ln, lc, lz, rfl, hl⟩ := Args.recs_in (ks := [.u8, .u8, .u8, .u8, .i64, .i64, .i64]) (e := 47) (by kernel_rfl) Try.underlying47 (by kernel_rfl) (by kernel_rfl) (by decide) (hval 0 66 v0 rfl rfl) h0
  clear hA0 hval0
  refine (walk lA ln lc lz W hl).mono fun e W' ⟨he, bel⟩ => ?_
  subst he
  exact ⟨_, rfl, _, _, _, [], _, [], hW', trodAll_mk1 (shut_bool Try.underlying4 _), trodAll_cons_mk (Below.trod Args.laidOut (by kernel_rfl) (of_decide_eq_true (by kernel_rfl)) h0 bel lt0) (trodAll_mk0), rfl, bel.frame _, fun h => by cases h⟩

theorem over : Rows.beginRefusesRow.holds Try.pinned (OpenSpec.ofChange Rows.beginRefusesSpec) :=
  OpenClaim.holds_of_wide 7 Try.f7 rfl rfl rfl rfl rfl rfl rfl ⟨rfl, rfl, rfl, rfl, rfl⟩ rfl rfl rfl rfl rfl (by kernel_rfl) Try.func7 (by kernel_rfl)
    (of_decide_eq_true (by kernel_rfl)) (by unfold Func.isWrapper; rw [if_neg (of_decide_eq_false (by kernel_rfl))]; exact ⟨rfl, rfl⟩)
    (fun os started H enc _ => lifted os started H enc)

theorem proved : Rows.BeginRefusesSaid :=
  over
end Go.Proofs.Ytbpmnjmegffllaa.beginRefuses
