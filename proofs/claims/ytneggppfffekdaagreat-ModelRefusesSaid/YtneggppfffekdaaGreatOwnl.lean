/-
  More of a law's walk: rows that are kept beside the model, scopes as they are seen, another thread's, what is calm.
-/
import Derived.Test.YtneggppfffekdaaGreatLawf
import Derived.Test.YtneggppfffekdaaGreatExit
import Derived.Test.YtneggppfffekdaaGreatPure
namespace Go.Proofs.YtneggppfffekdaaGreat.Mod
open Go.ChangeShapes Go.WideShapes Go.ChangeAt Go.RowKit
open Slic Sco
set_option linter.unusedVariables false
set_option linter.unusedSimpArgs false
section
variable {w0 w w' : World} {Z : Fx} {FF : List (List Fina.O)} {n nt k : Nat} {m : Mo} {bx : Bx}
/-- A row of one's own, as the local block that it lies in. -/
def Hold {α : Type} (K : Kd α) (v : Value) (L : List α) (ex : Bx) : Prop :=
  (v = .slice none 0 0 ∧ L = [] ∧ ex = []) ∨ ∃ (g cap : Nat) (cs : Array Value), v = .slice (some ⟨g, 0, none⟩) L.length cap ∧ ex = [(g, .cells cs K.T (0, 0))] ∧ ∀ (w : World) (base : Nat), w.heap[g]? = some (.cells cs K.T (0, 0)) → base ≤ g → Slic.Own K w base v L
theorem Hold.of {α : Type} {K : Kd α} {base : Nat} {v : Value} {L : List α} (O : Slic.Own K w base v L) : ∃ ex, Hold K v L ex ∧ (ex.map (·.1)).Nodup ∧ ∀ x ∈ ex, w.heap[x.1]? = some x.2 ∧ base ≤ x.1 ∧ v.ownBlock = some x.1 := by
  have O1 := O.1
  rcases O.2 with ⟨rfl, h0⟩ | ⟨g, cap, cur, rfl, hb, hg, rest⟩
  · exact ⟨[], .inl ⟨rfl, List.eq_nil_of_length_eq_zero h0, rfl⟩, List.nodup_nil, fun x hx => absurd hx List.not_mem_nil⟩
  · refine ⟨[(g, .cells cur K.T (0, 0))], .inr ⟨g, cap, cur, rfl, rfl, fun w' b' hw hb' => ⟨O1, .inr ⟨g, cap, cur, rfl, hb', hw, rest⟩⟩⟩, by simp, fun x hx => ?_⟩
    rw [List.mem_singleton.1 hx]
    exact ⟨hg, hb, rfl⟩
theorem Hold.own {α : Type} {K : Kd α} {base : Nat} {v : Value} {L : List α} {ex : Bx} (H : Hold K v L ex) (hx : ∀ x ∈ ex, w.heap[x.1]? = some x.2 ∧ base ≤ x.1) : Slic.Own K w base v L := by
  rcases H with ⟨rfl, rfl, rfl⟩ | ⟨g, cap, cs, e, rfl, hw⟩
  · exact Slic.Own.nil _ _
  · obtain ⟨h1, h2⟩ := hx (g, .cells cs K.T (0, 0)) (List.mem_singleton.2 rfl)
    exact hw w base h1 h2
theorem Ms.hold (h : Ms w0 w Z FF n nt k m bx) {α : Type} {K : Kd α} {v : Value} {L : List α} {ex : Bx} (H : Hold K v L ex) (hm : ∀ x ∈ ex, x ∈ bx) : Slic.Own K w w0.heap.size v L := by
  obtain ⟨Hp, hh⟩ := h.mw
  exact H.own fun x hx => ⟨(hh.box x (hm x hx)).1, (hh.box x (hm x hx)).2.2⟩
theorem Mh.grown {H : Hp} {G : Gs} {ex : Bx} {T : TypeId} (h : Mh w0 w Z H G (bx ++ ex)) (X : List Nat) (hX : ∀ g ∈ X, ∃ o ∈ ex, o.1 = g ∧ ∃ cs, o.2 = Obj.cells cs T (0, 0)) (ht : rdT.contains T = false) (q : Only X w w') (ex' : Bx) (hx : ∀ x ∈ ex', w'.heap[x.1]? = some x.2 ∧ (x.1 ∈ X ∨ w.heap.size ≤ x.1)) (nd' : (ex'.map (·.1)).Nodup) : Mh w0 w' Z H G (bx ++ ex') := by
  have nd := h.nd
  rw [List.map_append] at nd
  obtain ⟨nd1, nd2, nd3⟩ := List.nodup_append.1 nd
  have xs : ∀ g ∈ X, ¬ wr Z H g ∧ w0.heap.size ≤ g ∧ (∀ t' ∈ rdT, noT w g t') ∧ ∀ x ∈ bx, x.1 ≠ g := fun g hg => by
    obtain ⟨o, ho, rfl, cs, e⟩ := hX g hg
    obtain ⟨b1, b2, b3⟩ := h.box o (List.mem_append_right _ ho)
    rw [e] at b1
    refine ⟨b2, b3, fun t' ht' => ?_, fun x hx => nd3 _ (List.mem_map.2 ⟨x, hx, rfl⟩) _ (List.mem_map.2 ⟨o, ho, rfl⟩)⟩
    refine (isT.of b1).no ?_
    rw [beq_eq_false_iff_ne]
    rintro rfl
    rw [List.contains_iff_mem.2 ht'] at ht
    cases ht
  have hs := h.below.size
  refine ⟨h.md.off q (fun x hx => (xs x hx).1) (fun x hx => (xs x hx).2.2.1), q.below_of h.below hs (fun x hx => (xs x hx).2.1), h.own, fun x hx' => ?_, ?_⟩
  · rcases List.mem_append.1 hx' with hx' | hx'
    · have hm : x ∈ bx ++ ex := List.mem_append_left _ hx'
      obtain ⟨c1, c2, c3⟩ := h.box x hm
      exact ⟨(q.block x.1 (h.ltb hm) fun e => (xs _ e).2.2.2 x hx' rfl).trans c1, c2, c3⟩
    · obtain ⟨c1, c2⟩ := hx x hx'
      rcases c2 with c2 | c2
      · exact ⟨c1, (xs _ c2).1, (xs _ c2).2.1⟩
      · exact ⟨c1, fun e => (by have := h.md.wr_lt e; omega), by omega⟩
  · rw [List.map_append]
    refine List.nodup_append.2 ⟨nd1, nd', fun a ha c hc e => ?_⟩
    obtain ⟨x, hx1, rfl⟩ := List.mem_map.1 ha
    obtain ⟨y, hy, rfl⟩ := List.mem_map.1 hc
    rcases (hx y hy).2 with c2 | c2
    · exact (xs _ c2).2.2.2 x hx1 e
    · have := h.ltb (List.mem_append_left _ hx1)
      omega
/-- A row that a call made is kept. -/
theorem Ms.keep (h : Ms w0 w Z FF n nt k m bx) {α : Type} {K : Kd α} {w1 : World} {v : Value} {L : List α} (O : Slic.Own K w1 w.heap.size v L) (q : Below w.heap.size w w1) : ∃ ex : Bx, Ms w0 w1 Z FF n nt k m (bx ++ ex) ∧ Hold K v L ex := by
  obtain ⟨Hp, hh⟩ := h.mw
  obtain ⟨ex, H, nd, hx⟩ := Hold.of O
  refine ⟨ex, h.with ⟨Hp, Mh.grown (ex := []) (T := 0) (by rw [List.append_nil]; exact hh) [] (fun g hg => absurd hg List.not_mem_nil) (by decide) (Only.below q) ex (fun x hx' => ⟨(hx x hx').1, .inr (hx x hx').2.1⟩) nd⟩, H⟩
/-- A row that is kept grows. -/
theorem Ms.grown {α : Type} {K : Kd α} {v v' : Value} {L L' : List α} {ex : Bx} (h : Ms w0 w Z FF n nt k m (bx ++ ex)) (H : Hold K v L ex) (O : Slic.Own K w' w0.heap.size v' L') (q : w.grownBy w' v.ownBlock) (hv : v'.ownBlock = v.ownBlock ∨ v'.ownBlock = some w.heap.size) (ht : rdT.contains K.T = false) : ∃ ex', Ms w0 w' Z FF n nt k m (bx ++ ex') ∧ Hold K v' L' ex' := by
  obtain ⟨Hp, hh⟩ := h.mw
  obtain ⟨ex', H', nd, hx⟩ := Hold.of O
  refine ⟨ex', h.with ⟨Hp, ?_⟩, H'⟩
  rcases H with ⟨rfl, rfl, rfl⟩ | ⟨g, cap, cs, rfl, rfl, hw⟩
  · refine Mh.grown hh (T := K.T) [] (fun g hg => absurd hg List.not_mem_nil) ht (Only.below (below_grown q)) ex' (fun x hx' => ⟨(hx x hx').1, .inr ?_⟩) nd
    rcases hv with e | e
    · have := (hx x hx').2.2.symm.trans e
      cases this
    · have := (hx x hx').2.2.symm.trans e
      injection this with this
      omega
  · refine Mh.grown hh (T := K.T) [g] (fun b hb => ⟨_, List.mem_singleton.2 rfl, (List.mem_singleton.1 hb).symm, cs, rfl⟩) ht (Only.grown q (List.mem_singleton.2 rfl)) ex' (fun x hx' => ⟨(hx x hx').1, ?_⟩) nd
    rcases hv with e | e
    · have := (hx x hx').2.2.symm.trans e
      injection this with this
      exact .inl (List.mem_singleton.2 this)
    · have := (hx x hx').2.2.symm.trans e
      injection this with this
      exact .inr (by omega)
theorem Ms.put (h : Ms w0 w Z FF n nt k m bx) (i : Nat) {b : Nat} {vs : Array Value} {t : TypeId} (e : bx[i]? = some (b, .cells vs t (0, 0))) (ht : rdT.contains t = false) (j : Nat) (v : Value) : Ms w0 (w.setCell ⟨b, j, none⟩ v) Z FF n nt k m (bx.set i (b, .cells (vs.setIfInBounds j v) t (0, 0))) := h.with (h.mw.put i e ht j v)
theorem Ms.cell (h : Ms w0 w Z FF n nt k m bx) (i : Nat) {b : Nat} {vs : Array Value} {t : TypeId} (e : bx[i]? = some (b, .cells vs t (0, 0))) : (∀ k v, vs[k]? = some v → w.cell? ⟨b, k, none⟩ = some v) ∧ ∀ o, w.frozen? ⟨b, o, none⟩ = false := h.mw.cell i e
/-- A scope in one number. -/
def ctlN (r : Ctl.R) : Int := r.c + 8 * r.s + 64 * (r.p + 1) + 1024 * r.e
/-- What a scope is, as it is seen. -/
theorem Ms.see (h : Ms w0 w Z FF n nt k m bx) {s : Nat} (hs : s < n) : ∃ st c p e : Int, seeC m.F.R (s : Int) = ⟨st, c, p, e, 0⟩ ∧ 0 ≤ st ∧ st ≤ 3 ∧ 0 ≤ c ∧ c ≤ 7 ∧ -1 ≤ p ∧ p ≤ 7 ∧ 0 ≤ e ∧ e ≤ 16777215 := by
  obtain ⟨x, a, hx, ha⟩ := h.iv.scope (i := s) (by rw [h.en]; exact hs)
  have hr := rightI (h.iv.f.right s x hx)
  refine ⟨x.s, x.c, x.p, x.e, (see_in hx).1, ?_⟩
  omega
/-- What is used of a scope, and its portal. -/
theorem Ms.use (h : Ms w0 w Z FF n nt k m bx) {s : Nat} (hs : s < n) : 0 ≤ (m.ar (s : Int)).u ∧ (m.ar (s : Int)).u ≤ 65536 ∧ wf64 (m.ar (s : Int)).g := by
  obtain ⟨x, a, hx, ha⟩ := h.iv.scope (i := s) (by rw [h.en]; exact hs)
  obtain ⟨g1, u1, u2, u3, u4⟩ := h.iv.are s x a hx ha
  have ea : m.ar (s : Int) = a := by
    unfold Mo.ar
    rw [Int.toNat_natCast, List.getD_eq_getElem?_getD, ha]
    rfl
  rw [ea]
  refine ⟨u1, ?_, g1⟩
  by_cases q : x.s = 2
  · obtain ⟨l1, l2, l3, l4, l5, _⟩ := h.iv.live hx q
    omega
  · have := (u4 q).1
    omega
/-- Another thread's registers and entries stay. -/
theorem doX_th {FF : List (List Fina.O)} {m m' : Mo} {nt : Nat} {i : Int} {c : Ca} {x y z : Int} {L : List Int} (R : doX FF m nt i c = ((⟨x, y, L⟩, m'), z)) {u : Nat} (hu : (u : Int) ≠ i) (hi : 0 ≤ i) : m'.th u = m.th u := by
  unfold doX at R
  by_cases hn : inN i nt = true
  · rw [if_pos hn] at R
    have h := do_oth FF m i.toNat c u (by omega)
    have e : (doM FF m i.toNat c).2 = m' := by
      have := congrArg (fun q => q.1.2) R
      exact this
    rw [e] at h
    unfold Mo.th
    rw [List.getD_eq_getElem?_getD, List.getD_eq_getElem?_getD, h]
  · rw [if_neg hn] at R
    have e : m = m' := congrArg (fun q => q.1.2) R
    rw [e]
/-- What asks nothing to change changes no scope and no portal. -/
theorem doX_calm {FF : List (List Fina.O)} {m m' : Mo} {nt : Nat} {i : Int} {c : Ca} {x y z : Int} {L : List Int} (R : doX FF m nt i c = ((⟨x, y, L⟩, m'), z)) (hc : calm c = true) : m'.F = m.F ∧ m'.A = m.A := by
  unfold doX at R
  by_cases hn : inN i nt = true
  · rw [if_pos hn] at R
    have e : (doM FF m i.toNat c).2 = m' := congrArg (fun q => q.1.2) R
    rw [← e]
    exact do_calm FF m i.toNat hc
  · rw [if_neg hn] at R
    have e : m = m' := congrArg (fun q => q.1.2) R
    rw [e]
    exact ⟨rfl, rfl⟩
/-- What is refused leaves scopes and threads as they are. -/
theorem Ms.ref (h : Ms w0 w Z FF n nt k m bx) {m' : Mo} {i : Int} {c : Ca} {x y z : Int} {L : List Int} (R : doX FF m nt i c = ((⟨x, y, L⟩, m'), z)) (hx : x ≠ 0) : (x ≠ 25 → y = 0 ∧ L = []) ∧ m'.F = m.F ∧ m'.A = m.A ∧ m'.T = m.T := by
  unfold doX at R
  by_cases hn : inN i nt = true
  · rw [if_pos hn] at R
    have hi : 0 ≤ i ∧ i < (nt : Int) := of_decide_eq_true hn
    have e : doM FF m i.toNat c = (⟨x, y, L⟩, m') := congrArg (fun q => q.1) R
    have r := h.iv.ref FF (t := i.toNat) (by rw [h.et]; omega) c
    rw [e] at r
    exact r hx
  · rw [if_neg hn] at R
    have e : (no 0 : An) = ⟨x, y, L⟩ := congrArg (fun q => q.1.1) R
    injection e with e
    exact absurd e.symm hx
/-- What was told of four scopes, in a row: portals, what is used, and each in one number; as far as scope s. -/
def wv (W : Nat → Int) (s j : Nat) : Value := .int .u64 (if j % 4 < s then W j else 0)
def wasA (W : Nat → Int) (s : Nat) : Array Value := #[wv W s 0, wv W s 1, wv W s 2, wv W s 3, wv W s 4, wv W s 5, wv W s 6, wv W s 7, wv W s 8, wv W s 9, wv W s 10, wv W s 11]
def wasW (m : Mo) (j : Nat) : Int := if j < 4 then (m.ar (j : Int)).g else if j < 8 then (m.ar ((j - 4 : Nat) : Int)).u else ctlN (seeC m.F.R ((j - 8 : Nat) : Int))
theorem was_same {m m' : Mo} (hF : m'.F = m.F) (hA : m'.A = m.A) (j : Nat) : wasW m' j = wasW m j := by
  unfold wasW Mo.ar
  rw [hF, hA]
theorem ctl_steps {st c p e : Int} (h : 0 ≤ st ∧ st ≤ 3 ∧ 0 ≤ c ∧ c ≤ 7 ∧ -1 ≤ p ∧ p ≤ 7 ∧ 0 ≤ e ∧ e ≤ 16777215) : ∃ a1 a2 a3 a4 a5 a6 a7 : Int, IntKind.i64.wrap (8 * st) = a1 ∧ IntKind.i64.wrap (c + a1) = a2 ∧ IntKind.i64.wrap (p + 1) = a3 ∧ IntKind.i64.wrap (64 * a3) = a4 ∧ IntKind.i64.wrap (a2 + a4) = a5 ∧ IntKind.i64.wrap (1024 * e) = a6 ∧ IntKind.i64.wrap (a5 + a6) = a7 ∧ IntKind.u64.wrap a7 = a7 ∧ ctlN ⟨st, c, p, e, 0⟩ = a7 := by
  have e1 : IntKind.i64.wrap (8 * st) = 8 * st := IntWalk.i64_in _ (by omega)
  have e2 : IntKind.i64.wrap (c + 8 * st) = c + 8 * st := IntWalk.i64_in _ (by omega)
  have e3 : IntKind.i64.wrap (p + 1) = p + 1 := IntWalk.i64_in _ (by omega)
  have e4 : IntKind.i64.wrap (64 * (p + 1)) = 64 * (p + 1) := IntWalk.i64_in _ (by omega)
  have e5 : IntKind.i64.wrap (c + 8 * st + 64 * (p + 1)) = c + 8 * st + 64 * (p + 1) := IntWalk.i64_in _ (by omega)
  have e6 : IntKind.i64.wrap (1024 * e) = 1024 * e := IntWalk.i64_in _ (by omega)
  have e7 : IntKind.i64.wrap (c + 8 * st + 64 * (p + 1) + 1024 * e) = c + 8 * st + 64 * (p + 1) + 1024 * e := IntWalk.i64_in _ (by omega)
  exact ⟨_, _, _, _, _, _, _, e1, e2, e3, e4, e5, e6, e7, Ctl.wraps_u64 _ (by omega) (by omega), rfl⟩
theorem was_put (W : Nat → Int) {s : Nat} (hs : s < 4) : (((wasA W s).setIfInBounds s (.int .u64 (W s))).setIfInBounds (4 + s) (.int .u64 (W (4 + s)))).setIfInBounds (8 + s) (.int .u64 (W (8 + s))) = wasA W (s + 1) := by
  rcases (show s = 0 ∨ s = 1 ∨ s = 2 ∨ s = 3 by omega) with rfl | rfl | rfl | rfl <;> rfl
theorem was_at (W : Nat → Int) {j : Nat} (hj : j < 12) : (wasA W 4)[j]? = some (.int .u64 (W j)) := by
  have h : ∀ i : Fin 12, (wasA W 4)[i.1]? = some (.int .u64 (W i.1)) := by
    intro i
    match i with
    | 0 | 1 | 2 | 3 | 4 | 5 | 6 | 7 | 8 | 9 | 10 | 11 => rfl
  exact h ⟨j, hj⟩
theorem Ms.spot (h : Ms w0 w Z FF n nt k m bx) (i : Nat) {b : Nat} {vs : Array Value} {t : TypeId} (e : bx[i]? = some (b, .cells vs t (0, 0))) {j : Nat} (hj : j < vs.size) : (∃ v, w.cell? ⟨b, j, none⟩ = some v) ∧ w.frozen? ⟨b, j, none⟩ = false := ⟨⟨_, (h.cell i e).1 j _ (Array.getElem?_eq_getElem hj)⟩, (h.cell i e).2 j⟩
theorem was_w1 (m : Mo) {s : Nat} (hs : s < 4) : wasW m s = (m.ar (s : Int)).g := if_pos hs
theorem was_w2 (m : Mo) {s : Nat} (hs : s < 4) : wasW m (4 + s) = (m.ar (s : Int)).u := by
  unfold wasW
  rw [if_neg (by omega), if_pos (by omega), Nat.add_sub_cancel_left]
theorem was_w3 (m : Mo) {s : Nat} (hs : s < 4) : wasW m (8 + s) = ctlN (seeC m.F.R (s : Int)) := by
  unfold wasW
  rw [if_neg (by omega), if_neg (by omega), Nat.add_sub_cancel_left]
/-- The register 1 of the thread 0. -/
theorem first_any (h : Ms w0 w Z FF n nt k m bx) (ht : 0 < nt) : Calls Tryz.prog 34 #[ptr Z.B] w fun e w' => e = .returned (.int .u64 ((m.th 0).r 1)) ∧ Ms w0 w' Z FF n nt k m bx := by
  go_enter Tryz.func34, Tryz.ntmps34
  go_wp2_with fail
  refine (ms_regs h 0 ht).mono ?_
  rintro e w1 ⟨g, c, rfl, O, _, c1, _, _, S, _⟩
  go_wp2
  go_ret
  exact ⟨rfl, S⟩
end
end Go.Proofs.YtneggppfffekdaaGreat.Mod
