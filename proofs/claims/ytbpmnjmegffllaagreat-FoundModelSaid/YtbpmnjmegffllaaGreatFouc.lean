/-
  The laws' calls of layer 14: steps.
-/
import Derived.Test.YtbpmnjmegffllaaGreatFoub
import Derived.Test.YtbpmnjmegffllaaGreatEdo
namespace Go.Proofs.YtbpmnjmegffllaaGreat.Fou
open Go.ChangeShapes Go.WideShapes Go.ChangeAt Go.RowKit
open Go.Proofs.YtbpmnjmegffllaaGreat.Mod Sco Amem Beg
set_option linter.unusedVariables false
set_option linter.unusedSimpArgs false
set_option maxRecDepth 100000
attribute [local go_sem ↓] Go.wp_at_zero Go.wp_at_succ
variable {P : Pn} {f : Nat → Int} {F : Fo} {G : Nat} {w w' : World}
def opR (F : Fo) (mk : Bool) (k : Int) : Re := if mk = true then createV F (opA mk k) else destroyV F (opA mk k)
def opW (f : Nat → Int) (F : Fo) (mk : Bool) (k : Int) : Nat → Int := if mk = true then createW f F (opA mk k) else destroyW f F (opA mk k)
theorem destroy_v (F : Fo) (i : Int) : (destroyV F i).v = 0 := by
  unfold destroyV
  cases Sco.look F.R i with
  | none => rfl
  | some x => dsimp only; split <;> (try split) <;> rfl
theorem step_op (w : World) (R : Pr P) (h : Fd w P G f F) (mk : Bool) (k : Int) (ch : Value) (hC : Slic.Sr kE w ch []) (own : ∀ b, ch.ownBlock = some b → b ∉ [P.g, G]) :
    Calls Tryz.prog 12 #[P.plan, .pointer (some ⟨P.B, 0, none⟩), .pointer (some ⟨G, 0, none⟩), runV (ofR (opC mk k) ⟨0, 1⟩ 0 0 0 ch)] w
      (StepD w P G (opW f F mk k) (opR F mk k).F (opC mk k) ⟨0, 1⟩ 0 0 0 (opR F mk k).x (opR F mk k).v []) := by
  cases mk with
  | true => exact step_create w R h 0 0 0 (1 + k % 512) 0 0 0 0 0 0 ch (by omega) (by omega) hC own
  | false =>
    obtain ⟨s, hs⟩ := Int.eq_ofNat_of_zero_le (show 0 ≤ 1 + k % 8 by omega)
    have := step_destroy w R h 0 0 0 0 0 0 0 0 0 s ch (by omega) hC own
    have e1 : opC false k = ⟨3, 0, 0, 0, (s : Int), 0, 0⟩ := by unfold opC opA; simp [hs]
    have e2 : opR F false k = destroyV F s := by unfold opR opA; simp [hs]
    have e3 : opW f F false k = destroyW f F s := by unfold opW opA; simp [hs]
    rw [e1, e2, e3, destroy_v]
    exact this
end Go.Proofs.YtbpmnjmegffllaaGreat.Fou

namespace Go.Proofs.YtbpmnjmegffllaaGreat.Fou
open Go.ChangeShapes Go.WideShapes Go.ChangeAt Go.RowKit
open Go.Proofs.YtbpmnjmegffllaaGreat.Mod Sco Amem Beg Gm
set_option linter.unusedVariables false
set_option linter.unusedSimpArgs false
set_option maxRecDepth 8000
variable {P : Pn} {f : Nat → Int} {F : Fo} {G : Nat} {w w' : World}
theorem op_bd (mk : Bool) (k : Int) : 1 ≤ opA mk k ∧ opA mk k ≤ 512 := by
  unfold opA
  cases mk
  · rw [if_neg (by decide)]; omega
  · rw [if_pos rfl]; omega
inductive OpD (F : Fo) (mk : Bool) (k : Int) : Prop
  | no (h : (opR F mk k).x ≠ 0) (v : (opR F mk k).v = 0) (e : (opR F mk k).F = F)
  | make (x : Cx) (hm : mk = true) (hx : F.R[F.R.findIdx fr]? = some x) (x0 : (opR F mk k).x = 0) (v : (opR F mk k).v = ((F.R.findIdx fr : Nat) : Int)) (c : Gr.carveB (upz (opA mk k)) F.L = true) (e : (opR F mk k).F = ⟨F.R.set (F.R.findIdx fr) (made x (carveA (upz (opA mk k)) F.L) (upz (opA mk k))), carveL (upz (opA mk k)) F.L⟩)
  | drop (x : Cx) (s : Nat) (hm : mk = false) (hs : opA mk k = (s : Int)) (hx : F.R[s]? = some x) (h1 : x.s = 1) (x0 : (opR F mk k).x = 0) (v : (opR F mk k).v = 0) (e : (opR F mk k).F = ⟨F.R.set s (gone x), giveL x.a (x.a + x.z) F.L⟩)
theorem op_cases (F : Fo) (mk : Bool) (k : Int) : OpD F mk k := by
  have hb := op_bd mk k
  cases mk with
  | true =>
    have hz : ¬ (opA true k < 1 ∨ 8192 < opA true k) := by omega
    have e : opR F true k = createV F (opA true k) := rfl
    cases hx : F.R[F.R.findIdx fr]? with
    | none =>
      have e2 : createV F (opA true k) = ⟨0, 13, false, F⟩ := by unfold createV; rw [if_neg hz, hx]
      exact .no (by rw [e, e2]; simp) (by rw [e, e2]) (by rw [e, e2])
    | some x =>
      cases hc : Gr.carveB (upz (opA true k)) F.L with
      | true =>
        have e2 : createV F (opA true k) = ⟨(F.R.findIdx fr : Nat), 0, false, ⟨F.R.set (F.R.findIdx fr) (made x (carveA (upz (opA true k)) F.L) (upz (opA true k))), carveL (upz (opA true k)) F.L⟩⟩ := by unfold createV; rw [if_neg hz, hx]; dsimp only; rw [if_pos hc]
        exact .make x rfl hx (by rw [e, e2]) (by rw [e, e2]) hc (by rw [e, e2])
      | false =>
        have e2 : createV F (opA true k) = ⟨0, 14, false, F⟩ := by unfold createV; rw [if_neg hz, hx]; dsimp only; rw [if_neg (by rw [hc]; decide)]
        exact .no (by rw [e, e2]; simp) (by rw [e, e2]) (by rw [e, e2])
  | false =>
    obtain ⟨s, hs⟩ := Int.eq_ofNat_of_zero_le (show 0 ≤ opA false k by omega)
    have e : opR F false k = destroyV F (s : Int) := by rw [← hs]; rfl
    have lk : Sco.look F.R (s : Int) = F.R[s]? := by unfold Sco.look; rw [if_pos (by omega), Int.toNat_natCast]
    cases hx : F.R[s]? with
    | none =>
      have e2 : destroyV F (s : Int) = ⟨0, 11, false, F⟩ := by unfold destroyV; rw [lk, hx]
      exact .no (by rw [e, e2]; simp) (by rw [e, e2]) (by rw [e, e2])
    | some x =>
      have e2 : destroyV F (s : Int) = if x.s = 0 then ⟨0, 11, false, F⟩ else if x.s = 1 then ⟨0, 0, false, ⟨F.R.set s (gone x), giveL x.a (x.a + x.z) F.L⟩⟩ else ⟨0, 12, false, F⟩ := by unfold destroyV; rw [lk, hx]; rfl
      by_cases h0 : x.s = 0
      · rw [if_pos h0] at e2
        exact .no (by rw [e, e2]; simp) (by rw [e, e2]) (by rw [e, e2])
      · by_cases h1 : x.s = 1
        · rw [if_neg h0, if_pos h1] at e2
          exact .drop x s rfl hs hx h1 (by rw [e, e2]) (by rw [e, e2]) (by rw [e, e2])
        · rw [if_neg h0, if_neg h1] at e2
          exact .no (by rw [e, e2]; simp) (by rw [e, e2]) (by rw [e, e2])
theorem op_at {A : Option Addr} {n : Nat} {z : Nat → Nat → Int} (h : Args.PRecs [none, some .i64] w A n z) (i : Nat) (hi : i < n) : ∃ b o mk, A = some ⟨b, o, none⟩ ∧ b < w.heap.size ∧ w.cell? ⟨b, o + i * 2, none⟩ = some (.bool mk) ∧ w.cell? ⟨b, o + (i * 2 + 1), none⟩ = some (.int .i64 (z i 1)) ∧ -9223372036854775808 ≤ z i 1 ∧ z i 1 ≤ 9223372036854775807 := by
  obtain ⟨b, o, e, hb, hc⟩ := h.at_ i hi
  have h0 := hc 0 (by decide)
  have h1 := hc 1 (by decide)
  have hw := h.wf i 1
  exact ⟨b, o, _, e, hb, h0, h1, Held.bounds_i64 hw⟩
end Go.Proofs.YtbpmnjmegffllaaGreat.Fou

namespace Go.Proofs.YtbpmnjmegffllaaGreat.Fou
open Go.ChangeShapes Go.WideShapes Go.ChangeAt Go.RowKit
open Go.Proofs.YtbpmnjmegffllaaGreat.Mod Sco Amem Beg Gm
set_option linter.unusedVariables false
set_option linter.unusedSimpArgs false
set_option maxRecDepth 8000
variable {P : Pn} {f : Nat → Int} {F : Fo} {G : Nat} {w w' : World} {X : Dx} {p : Dp} {m m' : Mo}
theorem dw_typ (h : Rm w X p m) {b : Nat} (d : dw X p b) : ∃ T ∈ dT, isT w b T ∧ (b = X.P.gx ∨ (T == 113) = false) := by
  rcases d with rfl | rfl | rfl | rfl | e | ⟨t, ht, e⟩
  · exact ⟨_, by simp [dT], h.tD, .inr (by decide)⟩
  · exact ⟨_, by simp [dT], h.rs.tc, .inr (by decide)⟩
  · exact ⟨_, by simp [dT], h.rs.tx, .inl rfl⟩
  · exact ⟨_, by simp [dT], h.rs.tw, .inr (by decide)⟩
  · exact ⟨_, by simp [dT, kO], own_isT h.ob (by rw [← e]), .inr (by decide)⟩
  · obtain ⟨i, hi⟩ := List.getElem?_of_mem ht
    have hl : i < m.O.length := by rw [← h.ln]; exact (List.getElem?_eq_some_iff.1 hi).1
    exact ⟨_, by simp [dT, Fina.kU], own_isT (h.sl i _ t (List.getElem?_eq_getElem hl) hi) (by rw [← e]), .inr (by decide)⟩
theorem dlt (h : Rm w X p m) {b : Nat} (d : dw X p b) : b < w.heap.size := by
  obtain ⟨T, _, ⟨c, hc⟩, _⟩ := dw_typ h d
  exact (Array.getElem?_eq_some_iff.1 hc).1
theorem rm_others {L : List Nat} (h : Rm w X p m) (tb : ∀ b ∈ L, ∃ T, isT w b T ∧ dT.contains T = false) (q : Only L w w') : Rm w' X p m := by
  have ne : ∀ {T : TypeId}, dT.contains T = false → ∀ t ∈ dT, (T == t) = false := fun hT t ht => by
    rw [beq_eq_false_iff_ne]
    rintro rfl
    rw [List.contains_iff_mem.2 ht] at hT
    cases hT
  have nt : ∀ t ∈ dT, ∀ x ∈ L, noT w x t := fun t ht x hx => by
    obtain ⟨T, hT, hn⟩ := tb x hx
    exact hT.no (ne hn t ht)
  have nb : ∀ {g : Nat} {t : TypeId}, isT w g t → t ∈ dT → g ∉ L := fun hg ht hm => by
    obtain ⟨T, hT, hn⟩ := tb _ hm
    exact (hT.ne hg (ne hn _ ht)) rfl
  refine ⟨h.hd.of_block (q.block _ h.hd.lt (nb h.tD (by simp [dT]))), ?_, h.rl, own_types h.ob q (nt _ (by simp [dT, kO])), h.ln, fun i o t h1 h2 => own_types (h.sl i o t h1 h2) q (nt _ (by simp [dT, Fina.kU])), h.ap, fun t ht => own_types (h.en t ht) q (nt _ (by simp [dT, kE])), h.fi.types q (nt _ (by simp [dT, Fina.kR])) (nt _ (by simp [dT, Fina.kF]))⟩
  exact h.rs.only q (nb h.rs.tD (by simp [dT])) (nb h.rs.tc (by simp [dT])) (nb h.rs.tx (by simp [dT])) (nb h.rs.tC (by simp [dT])) (nb h.rs.tw (by simp [dT]))
theorem fd_others {L : List Nat} (h : Fd w P G f F) (hk : P.K = X.P.gx) (r : Rm w X p m) (tb : ∀ b ∈ L, dw X p b) (q : Only L w w') : Fd w' P G f F := by
  have key : ∀ {g : Nat} {t : TypeId}, isT w g t → dT.contains t = false → g ∉ L := fun {g t} hg ht hm => by
    obtain ⟨T, hT, hi, _⟩ := dw_typ r (tb _ hm)
    have e : (T == t) = true := by
      obtain ⟨c, h1⟩ := hg
      obtain ⟨c', h2⟩ := hi
      rw [h1] at h2
      injection h2 with h2
      injection h2 with _ h2
      exact beq_iff_eq.2 h2.symm
    rw [← beq_iff_eq.1 e, List.contains_iff_mem.2 hT] at ht
    cases ht
  have nB := key (isT.row h.ar.head) (by decide)
  have ng := key (isT.row h.ar.body) (by decide)
  refine ⟨⟨h.ar.head.of_block (q.block _ h.ar.head.lt nB), h.ar.body.of_block (q.block _ h.ar.body.lt ng), h.ar.fit, h.ar.len⟩, ?_, h.wf, h.iv, Nat.lt_of_lt_of_le h.kl q.size⟩
  obtain ⟨v, a, b, c, d, t⟩ := h.gr
  have nG := key (isT.row a) (by decide)
  have row : ∀ g, v.ownBlock = some g → g ∉ L := fun g hg hm => by
    obtain ⟨T, hT, ⟨c1, h1⟩, hx⟩ := dw_typ r (tb _ hm)
    rcases hx with hx | hx
    · exact d (by rw [hg, hx, hk])
    · obtain ⟨cs, fz, e⟩ := t g hg
      rw [e] at h1
      injection h1 with h1
      injection h1 with _ h1
      rw [← h1] at hx
      simp at hx
  exact ⟨v, a.of_block (q.block _ a.lt nG), b.keep q.size (fun g hg => q.block g (b.lt hg) (row g hg)), c, d, t.keep fun g hg => q.block g (b.lt hg) (row g hg)⟩
structure Wb (w0 w : World) (L : List (Nat × List Value)) (P : Pn) (G : Nat) (f : Nat → Int) (X : Dx) (p : Dp) (m : Mo) : Prop where
  wk : Wk w0 w L P G f m.F
  rm : Rm w X p m
  kx : P.K = X.P.gx
  own : ∀ b, dw X p b → w0.heap.size ≤ b
  ad : ∀ y ∈ L, ¬ dw X p y.1
section
variable {w0 : World} {L : List (Nat × List Value)}
theorem Wb.call (S : Wb w0 w L P G f X p m) (k : Below w.heap.size w w') : Wb w0 w' L P G f X p m := ⟨S.wk.call k, S.rm.keep k, S.kx, S.own, S.ad⟩
theorem Wb.drew (S : Wb w0 w L P G f X p m) : Wb w0 w.drew L P G f X p m := S.call (Below.refl _ _).drew
theorem Wb.alloc (S : Wb w0 w L P G f X p m) (o : Obj) : Wb w0 (w.alloc o) L P G f X p m := S.call ((Below.refl _ _).alloc (Nat.le_refl _) _)
theorem Wb.new (S : Wb w0 w L P G f X p m) (vs : List Value) (t : TypeId) : Wb w0 (w.alloc (.cells vs.toArray t)) ((w.heap.size, vs) :: L) P G f X p m :=
  ⟨S.wk.new vs t, (S.alloc _).rm, S.kx, S.own, fun y hy d => by
    rcases List.mem_cons.1 hy with rfl | hy
    · exact Nat.lt_irrefl _ (dlt S.rm d)
    · exact S.ad y hy d⟩
theorem Wk.fill {b : Nat} {vs : List Value} (S : Wk w0 w ((b, vs) :: L) P G f F) (tb : isT w b 42) (us : List Value) (h : us.length = vs.length) : Wk w0 (w.setCells b 0 us) ((b, us) :: L) P G f F :=
  ⟨St.fill S.st us h, fd_local S.fd tb (by decide) (by decide) (by decide) (by decide) (fill_only _ _ _), S.og, S.oG, fun y hy => by
    rcases List.mem_cons.1 hy with rfl | hy
    · exact S.ap (b, vs) (by simp)
    · exact S.ap y (by simp [hy])⟩
theorem Wb.fill {b : Nat} {vs : List Value} (S : Wb w0 w ((b, vs) :: L) P G f X p m) (tb : isT w b 42) (us : List Value) (h : us.length = vs.length) : Wb w0 (w.setCells b 0 us) ((b, us) :: L) P G f X p m :=
  ⟨S.wk.fill tb us h, S.rm.local tb (by decide) (fill_only w b us), S.kx, S.own, fun y hy => by
    rcases List.mem_cons.1 hy with rfl | hy
    · exact S.ad (b, vs) (by simp)
    · exact S.ad y (by simp [hy])⟩
theorem Wb.sub {x : Nat × List Value} (S : Wb w0 w (x :: L) P G f X p m) : Wb w0 w L P G f X p m := ⟨⟨St.sub S.wk.st (List.sublist_cons_self x L), S.wk.fd, S.wk.og, S.wk.oG, fun y hy => S.wk.ap y (by simp [hy])⟩, S.rm, S.kx, S.own, fun y hy => S.ad y (by simp [hy])⟩
theorem Wb.step {f' : Nat → Int} (S : Wk w0 w L P G f F) (r : Rm w X p m) (kx : P.K = X.P.gx) (own : ∀ b, dw X p b → w0.heap.size ≤ b) (ad : ∀ y ∈ L, ¬ dw X p y.1) (h : Fd w' P G f' m.F) (k : Only [P.g, G] w w') : Wb w0 w' L P G f' X p m :=
  ⟨S.step h k, rm_others r (fun b hb => by
    rcases List.mem_cons.1 hb with rfl | hb
    · exact ⟨_, isT.row S.fd.ar.body, by decide⟩
    · rw [List.mem_singleton.1 hb]
      obtain ⟨v, a, _⟩ := S.fd.gr
      exact ⟨_, isT.row a, by decide⟩) k, kx, own, ad⟩
theorem Wb.did (S : Wb w0 w L P G f X p m) (d : DidD X p w m' w') : ∃ p', Wk w0 w' L P G f m.F ∧ Rm w' X p' m' ∧ (∀ b, dw X p' b → w0.heap.size ≤ b) ∧ ∀ y ∈ L, ¬ dw X p' y.1 := by
  obtain ⟨p', r, ⟨L', hL, q⟩, hd⟩ := d
  refine ⟨p', ⟨st_only S.wk.st q (fun x hx => S.own x (hL x hx)) (fun y hy e => S.ad y hy (hL _ e)), fd_others S.wk.fd S.kx S.rm hL q, S.wk.og, S.wk.oG, S.wk.ap⟩, r, fun b hb => ?_, fun y hy e => ?_⟩
  · rcases hd b hb with h | h
    · exact S.own b h
    · exact Nat.le_trans S.wk.st.below.size h
  · rcases hd _ e with h | h
    · exact S.ad y hy h
    · have := (S.wk.st.at_ y hy).lt
      omega
end
end Go.Proofs.YtbpmnjmegffllaaGreat.Fou
