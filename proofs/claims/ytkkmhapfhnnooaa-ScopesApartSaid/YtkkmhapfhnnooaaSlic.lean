/-
  Slices of any element whose cells are told by an encoding: what memory says of one that reads as a list (Sr), of a row of one's own (Own), of slices of it, and what append makes of it.
-/
import Derived.Test.YtkkmhapfhnnooaaProg
import Derived.WalkKit
import Derived.ProofKit
import Derived.OpenShut
import Derived.IntWalk
import Derived.Lib.Hide
import Derived.Below
import Derived.Deep.OwnRows
import Derived.Deep.AppendSrc
import Derived.Deep.Upon
import Derived.Laws.OwnMore
import Derived.Maps.AppendAt
import Derived.OwnWalk
import Derived.Deep.QuietTactic
import Derived.BigQuiet
import Derived.Deep.RegionHeld3
import Derived.Deep.RegionLawGrows
namespace Go.Proofs.Ytkkmhapfhnnooaa.Slic
open Go.ChangeShapes Go.WideShapes Go.ChangeAt Go.RowKit
set_option linter.unusedVariables false

/-- A kind of elements: the slice's type, the element's, its cells and bytes, and how an element is told. -/
structure Kd (α : Type) where
  X : TypeId
  T : TypeId
  m : Nat
  by_ : Nat
  z : Value
  enc : α → List Value
  len : ∀ a, (enc a).length = m
  one : ∀ a, ∀ u ∈ enc a, u.oneCell' = true
  pos : 0 < m
  small : by_ ≤ 64
  zs : z.cells.size = m
  under : Try.prog.underlying X = some (.slice T)
  info : (Try.prog.info? T).map (fun i => (i.zero, i.size, i.bytes)) = some (some z, m, by_)
  elem : Try.prog.elem X = T

variable {α : Type} {K : Kd α}
def Kd.flat (K : Kd α) (L : List α) : List Value := L.flatMap K.enc
theorem flat_len (L : List α) : (K.flat L).length = L.length * K.m := by
  induction L with
  | nil => simp [Kd.flat]
  | cons e r ih =>
    unfold Kd.flat at *
    rw [List.flatMap_cons, List.length_append, ih, K.len, List.length_cons, Nat.add_mul, Nat.one_mul, Nat.add_comm]
theorem flat_append (L M : List α) : K.flat (L ++ M) = K.flat L ++ K.flat M := by simp [Kd.flat]
theorem flat_get (L : List α) (i j : Nat) (h : i < L.length) (hj : j < K.m) : (K.flat L)[i * K.m + j]? = (K.enc L[i])[j]? := by
  induction L generalizing i with
  | nil => simp at h
  | cons e r ih =>
    have e0 : K.flat (e :: r) = K.enc e ++ K.flat r := by simp [Kd.flat]
    rw [e0]
    cases i with
    | zero =>
      rw [List.getElem?_append_left (by rw [K.len]; omega)]
      simp
    | succ i =>
      have e1 : (i + 1) * K.m + j = K.m + (i * K.m + j) := by rw [Nat.add_mul, Nat.one_mul]; omega
      rw [List.getElem?_append_right (by rw [K.len]; omega), K.len, e1, Nat.add_sub_cancel_left, ih i (by simpa using h)]
      simp
theorem flat_one (L : List α) : ∀ u ∈ K.flat L, u.oneCell' = true := by
  intro u hu
  obtain ⟨e, _, he⟩ := List.mem_flatMap.1 hu
  exact K.one e u he
theorem flat_set (L : List α) (i j : Nat) (x : α) (v : Value) (h : i < L.length) (hj : j < K.m) (hx : K.enc x = (K.enc L[i]).set j v) : (K.flat L).set (i * K.m + j) v = K.flat (L.set i x) := by
  induction L generalizing i with
  | nil => simp at h
  | cons e r ih =>
    have e0 : ∀ a (r : List α), K.flat (a :: r) = K.enc a ++ K.flat r := fun a r => by simp [Kd.flat]
    rw [e0]
    cases i with
    | zero =>
      rw [List.set_append_left _ _ (by rw [K.len]; omega), List.set_cons_zero, e0, hx]
      simp
    | succ i =>
      have e1 : (i + 1) * K.m + j = K.m + (i * K.m + j) := by rw [Nat.add_mul, Nat.one_mul]; omega
      rw [List.set_append_right _ _ (by rw [K.len]; omega), K.len, e1, Nat.add_sub_cancel_left, ih i (by simpa using h) (by simpa using hx), List.set_cons_succ, e0]

/-- A slice that reads as a list. -/
def Sr (K : Kd α) (w : World) (v : Value) (L : List α) : Prop := ∃ A c, v = .slice A L.length c ∧ L.length ≤ c ∧ c ≤ maxLen ∧ (A = none → c = 0) ∧
  (0 < L.length → ∃ g o, A = some ⟨g, o, none⟩ ∧ g < w.heap.size ∧ ∀ i j u (h : i < L.length), (K.enc L[i])[j]? = some u → w.cell? ⟨g, o + (i * K.m + j), none⟩ = some u)
theorem Sr.nil (w : World) : Sr K w (.slice none 0 0) [] := ⟨none, 0, rfl, Nat.le_refl _, Nat.zero_le _, fun _ => rfl, fun h => absurd h (by simp)⟩
theorem Sr.keep {w w' : World} {v : Value} {L : List α} (h : Sr K w v L) (hs : w.heap.size ≤ w'.heap.size) (k : ∀ g, v.ownBlock = some g → g < w.heap.size → w'.heap[g]? = w.heap[g]?) : Sr K w' v L := by
  obtain ⟨A, c, rfl, h1, h2, h3, h4⟩ := h
  refine ⟨A, c, rfl, h1, h2, h3, fun hl => ?_⟩
  obtain ⟨g, o, rfl, hg, hc⟩ := h4 hl
  have hb := k g rfl hg
  exact ⟨g, o, rfl, by omega, fun i j u hi hu => (World.cell?_of_block (w := w) (w' := w') (a := ⟨g, _, none⟩) hb).trans (hc i j u hi hu)⟩
theorem Sr.below {w w' : World} {v : Value} {L : List α} (h : Sr K w v L) (k : Below w.heap.size w w') : Sr K w' v L := h.keep k.size fun g _ hg => k.block g hg
theorem Sr.drew {w : World} {v : Value} {L : List α} (h : Sr K w v L) : Sr K w.drew v L := h.below (Below.refl _ _).drew
theorem Sr.alloc {w : World} {v : Value} {L : List α} (h : Sr K w v L) (o : Obj) : Sr K (w.alloc o) v L := h.below ((Below.refl _ _).alloc (Nat.le_refl _) _)
theorem Sr.len {w : World} {v : Value} {L : List α} (h : Sr K w v L) : L.length ≤ maxLen := by
  obtain ⟨A, c, _, h1, h2, _⟩ := h
  omega
/-- What a walk wants of one: its value, and (where it is not empty) its cells. -/
theorem Sr.form {w : World} {v : Value} {L : List α} (h : Sr K w v L) : ∃ A c, v = .slice A L.length c ∧ L.length ≤ c ∧ c ≤ maxLen := by
  obtain ⟨A, c, rfl, h1, h2, _⟩ := h
  exact ⟨A, c, rfl, h1, h2⟩
theorem Sr.at {w : World} {A : Option Addr} {n c : Nat} {L : List α} (h : Sr K w (.slice A n c) L) (i : Nat) (hi : i < L.length) : ∃ g o, A = some ⟨g, o, none⟩ ∧ g < w.heap.size ∧ ∀ j u, (K.enc L[i])[j]? = some u → w.cell? ⟨g, o + (i * K.m + j), none⟩ = some u := by
  obtain ⟨A', d, e, _, _, _, h4⟩ := h
  injection e with e1 e2 e3
  subst e1
  obtain ⟨g, o, rfl, hg, hc⟩ := h4 (by omega)
  exact ⟨g, o, rfl, hg, fun j u hu => hc i j u hi hu⟩
/-- The beginning of one, with any room that it may have. -/
theorem Sr.part {w : World} {A : Option Addr} {n c : Nat} {L : List α} (h : Sr K w (.slice A n c) L) {k c' : Nat} (hk : k ≤ L.length) (h1 : k ≤ c') (h2 : c' ≤ c) : Sr K w (.slice A k c') (L.take k) := by
  obtain ⟨A', d, e, g1, g2, g3, g4⟩ := h
  injection e with e1 e2 e3
  subst e1 e2 e3
  have hl : (L.take k).length = k := by rw [List.length_take]; omega
  refine ⟨A, c', by rw [hl], by omega, by omega, fun e => by have := g3 e; omega, fun hp => ?_⟩
  obtain ⟨g, o, rfl, hg, hc⟩ := g4 (by omega)
  refine ⟨g, o, rfl, hg, fun i j u hi hu => ?_⟩
  rw [List.getElem_take] at hu
  exact hc i j u (by omega) hu
/-- The end of one. -/
theorem Sr.rest {w : World} {g o n c : Nat} {L : List α} (h : Sr K w (.slice (some ⟨g, o, none⟩) n c) L) {k : Nat} (hk : k ≤ L.length) : Sr K w (.slice (some ⟨g, o + k * K.m, none⟩) (L.length - k) (c - k)) (L.drop k) := by
  obtain ⟨A', d, e, g1, g2, g3, g4⟩ := h
  injection e with e1 e2 e3
  subst e1 e2 e3
  refine ⟨_, c - k, by rw [List.length_drop], by rw [List.length_drop]; omega, by omega, fun e => (by cases e), fun hp => ?_⟩
  rw [List.length_drop] at hp
  obtain ⟨g', o', e, hg, hc⟩ := g4 (by omega)
  injection e with e
  injection e with e1 e2
  subst e1 e2
  refine ⟨g, _, rfl, hg, fun i j u hi hu => ?_⟩
  rw [List.getElem_drop] at hu
  have := hc (k + i) j u (by rw [List.length_drop] at hi; omega) hu
  rw [Nat.add_mul] at this
  rw [show o + k * K.m + (i * K.m + j) = o + (k * K.m + i * K.m + j) by omega]
  exact this

theorem under_X (K : Kd α) : Try.prog.underlying K.X = some (.slice (Try.prog.elem K.X)) := by rw [K.elem]; exact K.under
theorem size_X (K : Kd α) (W : World) : (sizeOf (Try.prog.elem K.X)).run Try.prog W = .ok K.m W := by
  obtain ⟨i0, hi0, hz0, hz1, hz2⟩ := info_parts K.info
  rw [K.elem]
  simp [sizeOf, typeInfo, hi0, hz1]
theorem map_add0 (A : Option Addr) : A.map (·.add 0) = A := by
  cases A with
  | none => rfl
  | some a => simp [Addr.add_zero']
/-- l[:h] as a run. -/
theorem slice_h (K : Kd α) (A : Option Addr) (n c h : Nat) (hc : h ≤ c) : (∀ W, (Instr.slice K.X (.slice A n c) none (some (.int .i64 (h : Int))) none).run Try.prog W = .ok (.slice A h c) W) ∧
    (∀ W, (Instr.sliceAt K.X (.slice A n c) none (some (.int .i64 (h : Int))) none).run Try.prog W = .ok (.slice A h c) W) := by
  have run : ∀ W, (Instr.slice K.X (.slice A n c) none (some (.int .i64 (h : Int))) none).run Try.prog W = .ok (.slice A h c) W := by
    intro W
    rw [run_slice_h W K.X A n c (under_X K) .i64 h (by omega) (by omega), size_X K]
    simp [Result.andThen, sliced, map_add0]
  exact ⟨run, fun W => (run_sliceAt_slice W K.X _ _ _ _ (under_X K)).trans (run W)⟩

theorem flat_cells {w : World} {g o : Nat} {L : List α} (h : ∀ i j u (h : i < L.length), (K.enc L[i])[j]? = some u → w.cell? ⟨g, o + (i * K.m + j), none⟩ = some u) :
    ∀ j u, (K.flat L)[j]? = some u → w.cell? ((⟨g, o, none⟩ : Addr).add j) = some u := by
  intro j u hu
  have hj : j < (K.flat L).length := by
    rcases Nat.lt_or_ge j (K.flat L).length with c | c
    · exact c
    · rw [List.getElem?_eq_none c] at hu; cases hu
  rw [flat_len] at hj
  rw [Addr.add_lit]
  have hi : j / K.m < L.length := (Nat.div_lt_iff_lt_mul K.pos).2 hj
  have hr : j % K.m < K.m := Nat.mod_lt _ K.pos
  have e : j / K.m * K.m + j % K.m = j := by rw [Nat.mul_comm]; exact Nat.div_add_mod j K.m
  have := h (j / K.m) (j % K.m) u hi (by rw [← flat_get L _ _ hi hr, e]; exact hu)
  rwa [e] at this

/-- A row of one's own that holds a list. -/
def Own (K : Kd α) (w : World) (base : Nat) (v : Value) (L : List α) : Prop := w.ownsRow base K.T K.m v L.length (K.flat L)
theorem Own.sr {w : World} {base : Nat} {v : Value} {L : List α} (h : Own K w base v L) : Sr K w v L := by
  have h' : w.ownsRow base K.T K.m v L.length (K.flat L) := h
  rcases h.2 with ⟨rfl, h0⟩ | ⟨g, cap, cur, rfl, _, hg, h1, h2, _⟩
  · obtain rfl := List.eq_nil_of_length_eq_zero h0
    exact Sr.nil w
  · refine ⟨_, cap, rfl, h1, h2, fun e => (by cases e), fun _ => ⟨g, 0, rfl, (h'.lt g rfl).2, fun i j u hi hu => ?_⟩⟩
    have hc := h'.cells (g := g) rfl
    have hj : j < K.m := by
      rw [← K.len L[i]]
      rcases Nat.lt_or_ge j (K.enc L[i]).length with c | c
      · exact c
      · rw [List.getElem?_eq_none c] at hu; cases hu
    have c1 := hc _ _ ((flat_get L i j hi hj).trans hu)
    rw [Addr.add_lit] at c1
    exact c1
/-- A row of one's own, as a walk stores into it: no block, or one, not frozen. -/
theorem Own.form {w : World} {base : Nat} {v : Value} {L : List α} (h : Own K w base v L) (hp : 0 < L.length) : ∃ g c, v = .slice (some ⟨g, 0, none⟩) L.length c ∧ base ≤ g ∧ g < w.heap.size ∧ L.length ≤ c ∧ c ≤ maxLen ∧ (∀ o, w.frozen? ⟨g, o, none⟩ = false) ∧
    ∀ i j u (h : i < L.length), (K.enc L[i])[j]? = some u → w.cell? ⟨g, i * K.m + j, none⟩ = some u := by
  have h' : w.ownsRow base K.T K.m v L.length (K.flat L) := h
  rcases h.2 with ⟨rfl, h0⟩ | ⟨g, cap, cur, rfl, hb, hg, h1, h2, _⟩
  · omega
  · refine ⟨g, cap, rfl, hb, (h'.lt g rfl).2, h1, h2, h'.frozenAt, fun i j u hi hu => ?_⟩
    have hc := h'.cells (g := g) rfl
    have hj : j < K.m := by
      rw [← K.len L[i]]
      rcases Nat.lt_or_ge j (K.enc L[i]).length with c | c
      · exact c
      · rw [List.getElem?_eq_none c] at hu; cases hu
    have c1 := hc _ _ ((flat_get L i j hi hj).trans hu)
    rw [Addr.add_lit, Nat.zero_add] at c1
    exact c1
/-- One cell of an element is stored. -/
theorem Own.put {w : World} {base g c : Nat} {L : List α} (h : Own K w base (.slice (some ⟨g, 0, none⟩) L.length c) L) (i j : Nat) (hi : i < L.length) (hj : j < K.m) (x : α) (v : Value) (hx : K.enc x = (K.enc L[i]).set j v) :
    Own K (w.setCell ⟨g, i * K.m + j, none⟩ v) base (.slice (some ⟨g, 0, none⟩) L.length c) (L.set i x) ∧ w.grownBy (w.setCell ⟨g, i * K.m + j, none⟩ v) (some g) := by
  have h' : w.ownsRow base K.T K.m _ L.length (K.flat L) := h
  obtain ⟨r1, r2⟩ := h'.stored (i * K.m + j) v
  rw [flat_set L i j x v hi hj hx] at r1
  refine ⟨?_, r2⟩
  unfold Own
  rw [List.length_set]
  exact r1
theorem Own.below {w w' : World} {base : Nat} {v : Value} {L : List α} (h : Own K w base v L) (k : Below w.heap.size w w') : Own K w' base v L :=
  World.ownsRow.kept (row := none) h ⟨k.os, k.tape, k.output, k.size, fun i hi _ => k.block i hi⟩ (by cases v.ownBlock <;> simp)
theorem Own.kept {w w' : World} {base : Nat} {v : Value} {L : List α} {row : Option Nat} (h : Own K w base v L) (k : w.grownBy w' row) (hne : v.ownBlock = none ∨ v.ownBlock ≠ row) : Own K w' base v L := World.ownsRow.kept h k hne
theorem Own.base {w : World} {base b' : Nat} {v : Value} {L : List α} (h : Own K w base v L) (hb : ∀ g, v.ownBlock = some g → b' ≤ g) : Own K w b' v L := by
  refine ⟨h.1, ?_⟩
  rcases h.2 with k | ⟨g, cap, cur, rfl, k2, k3⟩
  · exact .inl k
  · exact .inr ⟨g, cap, cur, rfl, hb g rfl, k3⟩
theorem Own.zero {w : World} {base b' : Nat} {v : Value} {L : List α} (h : Own K w base v L) (hb : b' ≤ base) : Own K w b' v L := h.base fun g e => Nat.le_trans hb (World.ownsRow.lt h g e).1
theorem Own.lt {w : World} {base : Nat} {v : Value} {L : List α} (h : Own K w base v L) : ∀ g, v.ownBlock = some g → base ≤ g ∧ g < w.heap.size := World.ownsRow.lt h
theorem Own.nil (w : World) (b : Nat) : Own K w b (.slice none 0 0) [] := ⟨by simp [Kd.flat], .inl ⟨rfl, rfl⟩⟩
theorem Own.empty (w : World) (b : Nat) (hb : b ≤ w.heap.size) : Own K (w.alloc (.cells #[] K.T)) b (.slice (some ⟨w.heap.size, 0, none⟩) 0 0) [] := by
  refine ⟨by simp [Kd.flat], .inr ⟨w.heap.size, 0, #[], rfl, hb, ?_, Nat.le_refl _, Nat.zero_le _, by simp, by simp [Kd.flat]⟩⟩
  show (w.heap.push _)[w.heap.size]? = _
  rw [Array.getElem?_push, if_pos rfl]
/-- A literal of one's own. -/
theorem Own.lit (w : World) (b : Nat) (hb : b ≤ w.heap.size) (L : List α) (cs : Array Value) (hc : cs.toList = K.flat L) (hm : L.length ≤ maxLen) (n : Nat) (hn : n = L.length) : Own K (w.alloc (.cells cs K.T)) b (.slice (some ⟨w.heap.size, 0, none⟩) n n) L := by
  subst hn
  have h1 : cs.size = L.length * K.m := by rw [← Array.length_toList, hc, flat_len]
  have := World.ownsRow_lit (e := K.T) (size := K.m) w cs L.length hb hm h1
  rw [hc] at this
  exact this
theorem Own.one {w : World} {b : Nat} {v : Value} {L : List α} (h : Own K w b v L) : v.oneCell' = true := by
  rcases h.2 with ⟨rfl, _⟩ | ⟨g, cap, cur, rfl, _⟩ <;> rfl
theorem Sr.one {w : World} {v : Value} {L : List α} (h : Sr K w v L) : v.oneCell' = true := by
  obtain ⟨A, c, rfl, _⟩ := h
  rfl
theorem below_grown {a b : World} (h : a.grownBy b none) : Below a.heap.size a b := ⟨h.os, h.tape, h.output, h.size, fun i hi => h.block i hi (by simp)⟩
theorem below_one (w : World) (o : Obj) : Below w.heap.size w (w.alloc o) := (Below.refl _ _).alloc (Nat.le_refl _) _
theorem cell_only {w w' : World} {row : Option Nat} (h : w.grownBy w' row) {b : Nat} (hb : b < w.heap.size) (hne : some b ≠ row) (o : Nat) : w'.cell? ⟨b, o, none⟩ = w.cell? ⟨b, o, none⟩ := by
  simp only [World.cell?, h.block b hb hne]
theorem frozen_only {w w' : World} {row : Option Nat} (h : w.grownBy w' row) {b : Nat} (hb : b < w.heap.size) (hne : some b ≠ row) (o : Nat) : w'.frozen? ⟨b, o, none⟩ = w.frozen? ⟨b, o, none⟩ := by
  simp only [World.frozen?, h.block b hb hne]
/-- Two blocks of elements of unlike types are apart. -/
theorem apart {w : World} {g g' : Nat} {c c' : Array Value} {t t' : TypeId} (h : w.heap[g]? = some (.cells c t (0, 0))) (h' : w.heap[g']? = some (.cells c' t' (0, 0))) (ht : t ≠ t') : g ≠ g' := by
  rintro rfl
  rw [h] at h'
  injection h' with h'
  injection h' with _ h'
  exact ht h'
theorem Own.apart {β : Type} {K' : Kd β} {w : World} {b b' : Nat} {v u : Value} {L : List α} {M : List β} (h : Own K w b v L) (h' : Own K' w b' u M) (ht : K.T ≠ K'.T) : v.ownBlock = none ∨ v.ownBlock ≠ u.ownBlock := by
  rcases h.2 with ⟨rfl, _⟩ | ⟨g, cap, cur, rfl, _, hg, _⟩
  · exact .inl rfl
  · refine .inr fun e1 => ?_
    rcases h'.2 with ⟨rfl, _⟩ | ⟨g', cap', cur', rfl, _, hg', _⟩
    · cases e1
    · simp only [Value.ownBlock, Option.some.injEq] at e1
      exact Slic.apart hg hg' ht e1

/-- append to a row of one's own of whatever reads as a list. -/
theorem app_own (w : World) {v x : Value} {L M : List α} {base : Nat} (h : Own K w base v L) (hx : Sr K w x M) (hl : L.length + M.length ≤ 1000000) (hb : base ≤ w.heap.size) :
    ∃ v' w', (Builtin.append_ #[K.X, K.X] K.X #[v, x]).run Try.prog w = .ok v' w' ∧ Own K w' base v' (L ++ M) ∧ w.grownBy w' v.ownBlock ∧ (v'.ownBlock = v.ownBlock ∨ v'.ownBlock = some w.heap.size) := by
  obtain ⟨i0, hi, hz0, hz1, hz2⟩ := info_parts K.info
  have b1 : L.length + M.length ≤ maxLen := by simp only [maxLen]; omega
  have b2 : (L.length + M.length) * K.by_ ≤ 140737488355328 := by
    have := Nat.mul_le_mul hl K.small
    omega
  obtain ⟨B, d, rfl, x1, x2, x3, hb'⟩ := hx
  by_cases hm : 0 < M.length
  · obtain ⟨g', o', rfl, hg', hc'⟩ := hb' hm
    obtain ⟨v', w', hrun, r1, r2, _, r3⟩ := run_append_own_at (P := Try.prog) w base K.X K.X _ i0 _ K.m K.by_ K.under hi hz0 hz1 hz2 K.zs K.pos v L.length (K.flat L) h _ M.length d (K.flat M) (flat_len M) (flat_cells hc') (flat_one M) b1 b2 hb
    rw [← flat_append, ← List.length_append] at r1
    exact ⟨v', w', hrun, r1, r2, r3⟩
  · have e : M = [] := List.eq_nil_of_length_eq_zero (by omega)
    subst e
    have hv : ∃ A c, v = .slice A L.length c ∧ L.length ≤ c := by
      rcases h.2 with ⟨rfl, h0⟩ | ⟨g, cap, cur, rfl, _, _, h1, _⟩
      · exact ⟨none, 0, by rw [h0], by omega⟩
      · exact ⟨_, cap, rfl, h1⟩
    obtain ⟨A, c, rfl, hc⟩ := hv
    refine ⟨.slice A L.length c, w, ?_, ?_, World.grownBy.refl _ _, .inl rfl⟩
    · refine run_append_nothing w K.X K.X K.X _ i0 K.under hi A _ c hc _ ?_
      cases B with
      | none => exact Src.ofNil w K.under d
      | some b => exact Src.ofSlice w K.under b 0 d [] (by simp) (fun j u h => by simp at h) (fun u h => by cases h)
    · rw [List.append_nil]
      exact h
theorem far_own {w : World} {base b : Nat} {v : Value} {L : List α} (h : Own K w base v L) (hb : b < base) : some b ≠ v.ownBlock := fun e => by
  have := (World.ownsRow.lt h b e.symm).1
  omega
theorem grown_own {w0 w w' : World} {base N : Nat} {v : Value} {L : List α} (hB : Below N w0 w) (h : Own K w base v L) (hg : w.grownBy w' v.ownBlock) (hN : N ≤ base) (hs : N ≤ w.heap.size) : Below N w0 w' :=
  hB.grown hg hs fun j ej => Nat.le_trans hN (World.ownsRow.lt h j ej).1
/-- What an append to a row of one's own leaves. -/
structure Grew (w w' : World) (base : Nat) : Prop where
  old : base ≤ w.heap.size
  size : w.heap.size ≤ w'.heap.size
  block : ∀ b, b < base → w'.heap[b]? = w.heap[b]?
  cell : ∀ b o, b < base → w'.cell? ⟨b, o, none⟩ = w.cell? ⟨b, o, none⟩
  frozen : ∀ b o, b < base → w'.frozen? ⟨b, o, none⟩ = w.frozen? ⟨b, o, none⟩
  below : ∀ (N : Nat) (w0 : World), N ≤ base → Below N w0 w → Below N w0 w'
theorem grew {w w' : World} {base : Nat} {v : Value} {L : List α} (h : Own K w base v L) (hg : w.grownBy w' v.ownBlock) (hb : base ≤ w.heap.size) : Grew w w' base :=
  ⟨hb, hg.size, fun b k => hg.block b (by omega) (far_own h k), fun b o k => cell_only hg (by omega) (far_own h k) o, fun b o k => frozen_only hg (by omega) (far_own h k) o, fun N w0 k B => grown_own B h hg k (by omega)⟩
theorem Sr.grew {w w' : World} {base : Nat} {v : Value} {L : List α} (h : Sr K w v L) (G : Grew w w' base) (hv : ∀ g, v.ownBlock = some g → g < base) : Sr K w' v L := h.keep G.size fun g e _ => G.block g (hv g e)
/-- append, as a step of a region that draws its order. -/
theorem step_own {ops : Array Oper} {o : Oper} {a : Act} {w : World} {J : Act → World → Prop} {Q : Exit → Act → World → Prop} {F : Prop}
    (hg : o.guard = none) (s x : Operand) (hop : o.op = Op.call { callee := Callee.builtin Builtin.append, args := #[s, x], argTypes := #[K.X, K.X] }) (hty : o.type = K.X)
    {v y : Value} {L M : List α} {base : Nat} (hs : a.eval s = v) (hx : a.eval x = y) (h : Own K w base v L) (hy : Sr K w y M) (hl : L.length + M.length ≤ 1000000) (hb : base ≤ w.heap.size)
    (hK : ∀ v' w', Own K w' base v' (L ++ M) → w.grownBy w' v.ownBlock → Grew w w' base → J (a.put o.dst v') w') :
    if Region.wanted o (yielded ops a.tmps) = true then Oper.wp Try.prog o a w J Q else F := by
  have hw : Region.wanted o (yielded ops a.tmps) = true := by simp [Region.wanted, hg]
  rw [if_pos hw]
  obtain ⟨v', w', hrun, r1, r2, _⟩ := app_own w h hy hl hb
  unfold Oper.wp
  simp [execOp, hop, resolve, invoke, builtin, hs, hx, hty, hrun, Result.andThen]
  exact hK v' w' r1 r2 (grew h r2 hb)
/-- append, in a region that does not draw. -/
theorem wpList_app {w : World} {ops : Array Oper} {rest : List Oper} {o : Oper} {a : Act} {Q : Exit → Act → World → Prop} (hgd : o.guard = none) (s x : Operand)
    (ho : o.op = .call { callee := .builtin .append, args := #[s, x], argTypes := #[K.X, K.X] }) (hty : o.type = K.X) {v y : Value} {L M : List α} {base : Nat}
    (hs : a.eval s = v) (hx : a.eval x = y) (h : Own K w base v L) (hy : Sr K w y M) (hl : L.length + M.length ≤ 1000000) (hb : base ≤ w.heap.size)
    (hK : ∀ v' w', Own K w' base v' (L ++ M) → w.grownBy w' v.ownBlock → Grew w w' base → wpList Try.prog ops Q rest (a.put o.dst v') w') : wpList Try.prog ops Q (o :: rest) a w := by
  obtain ⟨v', w', hrun, r1, r2, _⟩ := app_own w h hy hl hb
  refine wpList_plain hgd fun J hJ => ?_
  unfold Oper.wp
  simp [execOp, ho, resolve, invoke, builtin, hs, hx, hty, hrun, Result.andThen]
  exact hJ _ _ (hK v' w' r1 r2 (grew h r2 hb))

theorem ret_int {k : IntKind} {a b : Int} (h : a = b) : Ending.returned (.int k a) = .returned (.int k b) := by rw [h]
theorem ret_bool {a b : Bool} (h : a = b) : Ending.returned (.bool a) = .returned (.bool b) := by rw [h]
end Go.Proofs.Ytkkmhapfhnnooaa.Slic
