/-
  Layer 9 in plain mathematics: entries as pairs (a scope, whether it is counted), where one allocates, what is reached, parents, what is above what; and what is so of entries that a thread may have.
-/
import Derived.Test.YteakglkagmghpaaGreatProg
import Derived.WalkKit
import Derived.ProofKit
import Derived.OpenShut
import Derived.IntWalk
import Derived.Lib.Hide
import Derived.Below
import Derived.Deep.OwnRows
import Derived.Deep.AppendSrc
import Derived.Deep.Upon
import Derived.Laws.OwnMore
import Derived.Laws.CopyOwn
import Derived.Maps.AppendAt
import Derived.OwnWalk
import Derived.Deep.QuietTactic
import Derived.BigQuiet
import Derived.Deep.RegionHeld3
import Derived.Deep.RegionLawGrows
namespace Go.Proofs.YteakglkagmghpaaGreat.Chain
set_option linter.unusedVariables false
set_option maxRecDepth 8000

abbrev E := Int × Bool
def hit (s : Int) (e : E) : Bool := e.2 && e.1 == s
def lastV (L : List E) : E := L.getLastD (0, false)
def areaV (L : List E) : Int := (lastV L).1
def idx (L : List E) (s : Int) : Nat := L.findIdx (hit s)
def inP (L : List E) (s : Int) : Prop := idx L s < L.length
instance (L : List E) (s : Int) : Decidable (inP L s) := inferInstanceAs (Decidable (_ < _))
def entV (L : List E) (s : Int) : Int := if inP L s then (idx L s : Int) else -1
def reachV (L : List E) (s : Int) : Bool := s == 0 || L.any (hit s)
def parV (L : List E) (s : Int) : Int := if inP L s then areaV (L.take (idx L s)) else -1
def up (L : List E) : Nat → Int → Int
  | 0, s => s
  | k + 1, s => parV L (up L k s)
def comes (L : List E) (s b : Int) : Nat → Bool
  | 0 => false
  | n + 1 => comes L s b n || up L (n + 1) b == s
def aboveV (L : List E) (s b : Int) : Bool := s == 0 || (s == b || comes L s b 8)
def pushE (L : List E) : Int := if 6 ≤ L.length then 24 else 0
def popE (L : List E) : Int := if L.length = 0 then 23 else 0

theorem inP_iff {L : List E} {s : Int} : inP L s ↔ L.any (hit s) = true := by
  unfold inP idx
  rw [List.findIdx_lt_length, List.any_eq_true]
theorem reach_iff {L : List E} {s : Int} : reachV L s = true ↔ s = 0 ∨ inP L s := by
  unfold reachV
  rw [Bool.or_eq_true, inP_iff]
  simp
theorem idx_of {L : List E} {s : Int} {i : Nat} (hi : i < L.length) (h : hit s L[i] = true) (hb : ∀ j (hj : j < L.length), j < i → hit s L[j] = false) : idx L s = i := by
  unfold idx
  rw [List.findIdx_eq hi]
  exact ⟨h, fun j hj => hb j (by omega) hj⟩
theorem idx_none {L : List E} {s : Int} (hb : ∀ j (hj : j < L.length), j < L.length → hit s L[j] = false) : ¬ inP L s := by
  rw [inP_iff, List.any_eq_true]
  rintro ⟨x, hx, h⟩
  obtain ⟨i, hi, rfl⟩ := List.mem_iff_getElem.1 hx
  rw [hb i hi hi] at h
  cases h

theorem last_snoc (L : List E) (e : E) : lastV (L ++ [e]) = e := by simp [lastV, List.getLastD_eq_getLast?]
theorem area_snoc (L : List E) (e : E) : areaV (L ++ [e]) = e.1 := by rw [areaV, last_snoc]
theorem last_at {L : List E} (h : 0 < L.length) : lastV L = L[L.length - 1] := by
  rw [lastV, List.getLastD_eq_getLast?, List.getLast?_eq_getElem?, List.getElem?_eq_getElem (by omega)]
  rfl
theorem area_at {L : List E} (h : 0 < L.length) : areaV L = (L[L.length - 1]).1 := by rw [areaV, last_at h]
theorem idx_app_in {L M : List E} {s : Int} (h : inP L s) : idx (L ++ M) s = idx L s := by
  unfold inP at h
  unfold idx at *
  rw [List.findIdx_append, if_pos h]
theorem inP_app {L M : List E} {s : Int} (h : inP L s) : inP (L ++ M) s := by
  have := idx_app_in (M := M) h
  unfold inP at *
  rw [this, List.length_append]
  omega
theorem par_app_in {L M : List E} {s : Int} (h : inP L s) : parV (L ++ M) s = parV L s := by
  unfold parV
  rw [if_pos h, if_pos (inP_app h), idx_app_in h]
  unfold inP at h
  rw [List.take_append_of_le_length (by omega)]
theorem app_new {L : List E} {s : Int} {e : E} (h : ¬ inP L s) (he : hit s e = true) : inP (L ++ [e]) s ∧ idx (L ++ [e]) s = L.length ∧ parV (L ++ [e]) s = areaV L := by
  have h1 : idx (L ++ [e]) s = L.length := by
    unfold inP at h
    unfold idx at *
    rw [List.findIdx_append, if_neg h]
    simp [List.findIdx_cons, he]
  have h2 : inP (L ++ [e]) s := by
    unfold inP
    rw [h1]
    simp
  refine ⟨h2, h1, ?_⟩
  unfold parV
  rw [if_pos h2, h1, List.take_left']
  rfl
theorem app_no {L : List E} {s : Int} {e : E} (h : ¬ inP L s) (he : hit s e = false) : ¬ inP (L ++ [e]) s := by
  rw [inP_iff] at *
  simpa [he] using h
theorem par_none {L : List E} {s : Int} (h : ¬ inP L s) : parV L s = -1 := if_neg h

/-- Whether an entry may come behind others. -/
def okE (p : List E) (e : E) : Bool := (e.2 && decide (0 < e.1) && (parV p e.1 == -1 || parV p e.1 == areaV p)) || (!e.2 && reachV p e.1)
inductive Fits : List E → Prop
  | nil : Fits []
  | snoc {L : List E} {e : E} : Fits L → 0 ≤ e.1 → e.1 ≤ 7 → okE L e = true → Fits (L ++ [e])
theorem fits_range {L : List E} (h : Fits L) : ∀ s, inP L s → 1 ≤ s ∧ s ≤ 7 := by
  induction h with
  | nil => intro s hs; simp [inP] at hs
  | @snoc L e _ h0 h7 ok ih =>
    intro s hs
    by_cases c : inP L s
    · exact ih s c
    · cases he : hit s e with
      | false => exact absurd hs (app_no c he)
      | true =>
        simp only [hit, Bool.and_eq_true, beq_iff_eq] at he
        obtain ⟨e1, e2⟩ := he
        have hp : 0 < e.1 := by
          unfold okE at ok
          rw [e1] at ok
          simp only [Bool.true_and, Bool.not_true, Bool.false_and, Bool.or_false, Bool.and_eq_true, decide_eq_true_eq] at ok
          exact ok.1
        omega
theorem fits_area {L : List E} (h : Fits L) : areaV L = 0 ∨ inP L (areaV L) := by
  induction h with
  | nil => exact .inl rfl
  | @snoc L e _ h0 h7 ok ih =>
    rw [area_snoc]
    cases he : e.2 with
    | true =>
      right
      by_cases c : inP L e.1
      · exact inP_app c
      · exact (app_new c (by simp [hit, he])).1
    | false =>
      unfold okE at ok
      rw [he] at ok
      simp only [Bool.false_and, Bool.not_false, Bool.true_and, Bool.false_or] at ok
      rcases reach_iff.1 ok with c | c
      · exact .inl c
      · exact .inr (inP_app c)
end Go.Proofs.YteakglkagmghpaaGreat.Chain

/-
  What memory says of a row of entries (Sr: any slice that reads as a list), slices of it, and what append and copy make of it.
-/
namespace Go.Proofs.YteakglkagmghpaaGreat.Chain
open Go.ChangeShapes Go.WideShapes Go.ChangeAt Go.RowKit
set_option linter.unusedVariables false
set_option maxRecDepth 8000

abbrev X := 57
abbrev T := 143
theorem ret_int {k : IntKind} {a b : Int} (h : a = b) : Ending.returned (.int k a) = .returned (.int k b) := by rw [h]
theorem ret_bool {a b : Bool} (h : a = b) : Ending.returned (.bool a) = .returned (.bool b) := by rw [h]
theorem info_ent : (Tryz.prog.info? T).map (fun i => (i.zero, i.size, i.bytes)) = some (some (.agg #[.int .i64 0, .bool false]), 2, 16) := by kernel_rfl
theorem under_ents : Tryz.prog.underlying X = some (.slice T) := by kernel_rfl

/-- A slice that reads as a list of entries. -/
def Sr (w : World) (v : Value) (L : List E) : Prop := ∃ A c, v = .slice A L.length c ∧ L.length ≤ c ∧ c ≤ maxLen ∧ (A = none → c = 0) ∧
  (0 < L.length → ∃ g o, A = some ⟨g, o, none⟩ ∧ g < w.heap.size ∧ ∀ i (h : i < L.length), w.cell? ⟨g, o + i * 2, none⟩ = some (.int .i64 (L[i]).1) ∧ w.cell? ⟨g, o + i * 2 + 1, none⟩ = some (.bool (L[i]).2))
theorem Sr.nil (w : World) : Sr w (.slice none 0 0) [] := ⟨none, 0, rfl, Nat.le_refl _, Nat.zero_le _, fun _ => rfl, fun h => absurd h (by simp)⟩
theorem Sr.keep {w w' : World} {v : Value} {L : List E} (h : Sr w v L) (hs : w.heap.size ≤ w'.heap.size) (k : ∀ g o, v = .slice (some ⟨g, o, none⟩) L.length (match v with | .slice _ _ c => c | _ => 0) → g < w.heap.size → w'.heap[g]? = w.heap[g]?) : Sr w' v L := by
  obtain ⟨A, c, rfl, h1, h2, h3, h4⟩ := h
  refine ⟨A, c, rfl, h1, h2, h3, fun hl => ?_⟩
  obtain ⟨g, o, rfl, hg, hc⟩ := h4 hl
  have hb := k g o rfl hg
  exact ⟨g, o, rfl, by omega, fun i hi => ⟨(World.cell?_of_block (w := w) (w' := w') (a := ⟨g, _, none⟩) hb).trans (hc i hi).1, (World.cell?_of_block (w := w) (w' := w') (a := ⟨g, _, none⟩) hb).trans (hc i hi).2⟩⟩
theorem Sr.below {w w' : World} {v : Value} {L : List E} (h : Sr w v L) (k : Below w.heap.size w w') : Sr w' v L := h.keep k.size fun g o _ hg => k.block g hg
theorem Sr.drew {w : World} {v : Value} {L : List E} (h : Sr w v L) : Sr w.drew v L := h.below (Below.refl _ _).drew
theorem Sr.alloc {w : World} {v : Value} {L : List E} (h : Sr w v L) (o : Obj) : Sr (w.alloc o) v L := h.below ((Below.refl _ _).alloc (Nat.le_refl _) _)
theorem Sr.len {w : World} {v : Value} {L : List E} (h : Sr w v L) : L.length ≤ maxLen := by
  obtain ⟨A, c, _, h1, h2, _⟩ := h
  omega
/-- The beginning of one, with any room that it may have. -/
theorem Sr.part {w : World} {A : Option Addr} {n c : Nat} {L : List E} (h : Sr w (.slice A n c) L) {k c' : Nat} (hk : k ≤ L.length) (h1 : k ≤ c') (h2 : c' ≤ c) : Sr w (.slice A k c') (L.take k) := by
  obtain ⟨A', d, e, g1, g2, g3, g4⟩ := h
  injection e with e1 e2 e3
  subst e1 e2 e3
  have hl : (L.take k).length = k := by rw [List.length_take]; omega
  refine ⟨A, c', by rw [hl], by omega, by omega, fun e => by have := g3 e; omega, fun hp => ?_⟩
  obtain ⟨g, o, rfl, hg, hc⟩ := g4 (by omega)
  refine ⟨g, o, rfl, hg, fun i hi => ?_⟩
  rw [List.getElem_take]
  exact hc i (by omega)

theorem el_X : Tryz.prog.elem X = T := by kernel_rfl
theorem under_X : Tryz.prog.underlying X = some (.slice (Tryz.prog.elem X)) := by rw [el_X]; exact under_ents
theorem size_X (W : World) : (sizeOf (Tryz.prog.elem X)).run Tryz.prog W = .ok 2 W := by
  obtain ⟨i0, hi0, hz0, hz1, hz2⟩ := info_parts info_ent
  rw [el_X]
  simp [sizeOf, typeInfo, hi0, hz1]
theorem map_add0 (A : Option Addr) : A.map (·.add 0) = A := by
  cases A with
  | none => rfl
  | some a => simp [Addr.add_zero']
theorem slice_h (A : Option Addr) (n c h : Nat) (hc : h ≤ c) : (∀ W, (Instr.slice X (.slice A n c) none (some (.int .i64 (h : Int))) none).run Tryz.prog W = .ok (.slice A h c) W) ∧
    (∀ W, (Instr.sliceAt X (.slice A n c) none (some (.int .i64 (h : Int))) none).run Tryz.prog W = .ok (.slice A h c) W) := by
  have run : ∀ W, (Instr.slice X (.slice A n c) none (some (.int .i64 (h : Int))) none).run Tryz.prog W = .ok (.slice A h c) W := by
    intro W
    rw [run_slice_h W X A n c under_X .i64 h (by omega) (by omega), size_X]
    simp [Result.andThen, sliced, map_add0]
  exact ⟨run, fun W => (run_sliceAt_slice W X _ _ _ _ under_X).trans (run W)⟩
def flat (L : List E) : List Value := L.flatMap fun e => [.int .i64 e.1, .bool e.2]
theorem flat_len : ∀ L : List E, (flat L).length = L.length * 2
  | [] => rfl
  | e :: r => by simp [flat, List.flatMap_cons] at *; have := flat_len r; simp [flat] at this; omega
theorem flat_append (L M : List E) : flat (L ++ M) = flat L ++ flat M := by simp [flat]
theorem flat_cons (e : E) (r : List E) : flat (e :: r) = .int .i64 e.1 :: .bool e.2 :: flat r := by simp [flat]
theorem flat_get : ∀ (L : List E) (i : Nat) (h : i < L.length), (flat L)[i * 2]? = some (.int .i64 (L[i]).1) ∧ (flat L)[i * 2 + 1]? = some (.bool (L[i]).2)
  | [], i, h => by simp at h
  | e :: r, 0, h => by rw [flat_cons]; exact ⟨rfl, rfl⟩
  | e :: r, i + 1, h => by
    obtain ⟨h1, h2⟩ := flat_get r i (by simpa using h)
    rw [flat_cons, show (i + 1) * 2 = i * 2 + 1 + 1 by omega]
    simpa using ⟨h1, h2⟩
theorem flat_one (L : List E) : ∀ u ∈ flat L, u.oneCell' = true := by
  intro u hu
  obtain ⟨e, _, he⟩ := List.mem_flatMap.1 hu
  have : u = .int .i64 e.1 ∨ u = .bool e.2 := by simpa using he
  rcases this with rfl | rfl <;> rfl
theorem flat_cells {w : World} {g o : Nat} {L : List E} (h : ∀ i (h : i < L.length), w.cell? ⟨g, o + i * 2, none⟩ = some (.int .i64 (L[i]).1) ∧ w.cell? ⟨g, o + i * 2 + 1, none⟩ = some (.bool (L[i]).2)) :
    ∀ j u, (flat L)[j]? = some u → w.cell? ((⟨g, o, none⟩ : Addr).add j) = some u := by
  intro j u hu
  have hj : j < (flat L).length := by
    rcases Nat.lt_or_ge j (flat L).length with c | c
    · exact c
    · rw [List.getElem?_eq_none c] at hu; cases hu
  rw [flat_len] at hj
  rw [Addr.add_lit]
  have hi : j / 2 < L.length := by omega
  obtain ⟨f1, f2⟩ := flat_get L (j / 2) hi
  obtain ⟨c1, c2⟩ := h (j / 2) hi
  rcases Nat.mod_two_eq_zero_or_one j with e | e
  · have : j = j / 2 * 2 := by omega
    rw [← this] at f1 c1
    rw [f1] at hu
    rw [c1]
    exact hu
  · have : j = j / 2 * 2 + 1 := by omega
    rw [← this] at f2
    rw [show o + j / 2 * 2 + 1 = o + j by omega] at c2
    rw [f2] at hu
    rw [c2]
    exact hu
/-- A row of one's own that holds entries. -/
def Own (w : World) (base : Nat) (v : Value) (L : List E) : Prop := w.ownsRow base T 2 v L.length (flat L)
theorem Own.sr {w : World} {base : Nat} {v : Value} {L : List E} (h : Own w base v L) : Sr w v L := by
  have h' : w.ownsRow base T 2 v L.length (flat L) := h
  rcases h.2 with ⟨rfl, h0⟩ | ⟨g, cap, cur, rfl, _, hg, h1, h2, _⟩
  · obtain rfl := List.eq_nil_of_length_eq_zero h0
    exact Sr.nil w
  · refine ⟨_, cap, rfl, h1, h2, fun e => (by cases e), fun _ => ⟨g, 0, rfl, (h'.lt g rfl).2, fun i hi => ?_⟩⟩
    have hc := h'.cells (g := g) rfl
    have f := flat_get L i hi
    have c1 := hc _ _ f.1
    have c2 := hc _ _ f.2
    rw [Addr.add_lit, Nat.zero_add] at c1 c2
    rw [Nat.zero_add]
    exact ⟨c1, c2⟩
theorem Own.below {w w' : World} {base : Nat} {v : Value} {L : List E} (h : Own w base v L) (k : Below w.heap.size w w') : Own w' base v L :=
  World.ownsRow.kept (row := none) h ⟨k.os, k.tape, k.output, k.size, fun i hi _ => k.block i hi⟩ (by cases v.ownBlock <;> simp)
theorem Own.empty (w : World) (b : Nat) (hb : b ≤ w.heap.size) : Own (w.alloc (.cells #[] T)) b (.slice (some ⟨w.heap.size, 0, none⟩) 0 0) [] := by
  refine ⟨by simp [flat], .inr ⟨w.heap.size, 0, #[], rfl, hb, ?_, Nat.le_refl _, Nat.zero_le _, by simp, by simp [flat]⟩⟩
  show (w.heap.push _)[w.heap.size]? = _
  rw [Array.getElem?_push, if_pos rfl]
theorem below_grown {a b : World} (h : a.grownBy b none) : Below a.heap.size a b := ⟨h.os, h.tape, h.output, h.size, fun i hi => h.block i hi (by simp)⟩

theorem cell_only {w w' : World} {row : Option Nat} (h : w.grownBy w' row) {b : Nat} (hb : b < w.heap.size) (hne : some b ≠ row) (o : Nat) : w'.cell? ⟨b, o, none⟩ = w.cell? ⟨b, o, none⟩ := by
  simp only [World.cell?, h.block b hb hne]
theorem frozen_only {w w' : World} {row : Option Nat} (h : w.grownBy w' row) {b : Nat} (hb : b < w.heap.size) (hne : some b ≠ row) (o : Nat) : w'.frozen? ⟨b, o, none⟩ = w.frozen? ⟨b, o, none⟩ := by
  simp only [World.frozen?, h.block b hb hne]

/-- append to a row of one's own of whatever reads as a list. -/
theorem app_own (w : World) {v x : Value} {L M : List E} {base : Nat} (h : Own w base v L) (hx : Sr w x M) (hl : L.length + M.length ≤ 1000000) (hb : base ≤ w.heap.size) :
    ∃ v' w', (Builtin.append_ #[X, X] X #[v, x]).run Tryz.prog w = .ok v' w' ∧ Own w' base v' (L ++ M) ∧ w.grownBy w' v.ownBlock := by
  obtain ⟨i0, hi, hz0, hz1, hz2⟩ := info_parts info_ent
  have b1 : L.length + M.length ≤ maxLen := by simp only [maxLen]; omega
  have b2 : (L.length + M.length) * 16 ≤ 140737488355328 := by omega
  obtain ⟨B, d, rfl, x1, x2, x3, hb'⟩ := hx
  by_cases hm : 0 < M.length
  · obtain ⟨g', o', rfl, hg', hc'⟩ := hb' hm
    obtain ⟨v', w', hrun, r1, r2, _, r3⟩ := run_append_own_at (P := Tryz.prog) w base X X _ i0 _ 2 16 under_ents hi hz0 hz1 hz2 rfl (by omega) v L.length (flat L) h _ M.length d (flat M) (flat_len M) (flat_cells hc') (flat_one M) b1 b2 hb
    rw [← flat_append, ← List.length_append] at r1
    exact ⟨v', w', hrun, r1, r2⟩
  · have e : M = [] := List.eq_nil_of_length_eq_zero (by omega)
    subst e
    have hv : ∃ A c, v = .slice A L.length c ∧ L.length ≤ c := by
      rcases h.2 with ⟨rfl, h0⟩ | ⟨g, cap, cur, rfl, _, _, h1, _⟩
      · exact ⟨none, 0, by rw [h0], by omega⟩
      · exact ⟨_, cap, rfl, h1⟩
    obtain ⟨A, c, rfl, hc⟩ := hv
    refine ⟨.slice A L.length c, w, ?_, ?_, World.grownBy.refl _ _⟩
    · refine run_append_nothing w X X X _ i0 under_ents hi A _ c hc _ ?_
      cases B with
      | none => exact Src.ofNil w under_ents d
      | some b => exact Src.ofSlice w under_ents b 0 d [] (by simp) (fun j u h => by simp at h) (fun u h => by cases h)
    · rw [List.append_nil]
      exact h
theorem far_own {w : World} {base b : Nat} {v : Value} {L : List E} (h : Own w base v L) (hb : b < base) : some b ≠ v.ownBlock := fun e => by
  have := (World.ownsRow.lt h b e.symm).1
  omega
theorem grown_own {w0 w w' : World} {base N : Nat} {v : Value} {L : List E} (hB : Below N w0 w) (h : Own w base v L) (hg : w.grownBy w' v.ownBlock) (hN : N ≤ base) (hs : N ≤ w.heap.size) : Below N w0 w' :=
  hB.grown hg hs fun j ej => Nat.le_trans hN (World.ownsRow.lt h j ej).1
/-- What an append to a row of one's own leaves. -/
structure Grew (w w' : World) (base : Nat) : Prop where
  old : base ≤ w.heap.size
  size : w.heap.size ≤ w'.heap.size
  cell : ∀ b o, b < base → w'.cell? ⟨b, o, none⟩ = w.cell? ⟨b, o, none⟩
  frozen : ∀ b o, b < base → w'.frozen? ⟨b, o, none⟩ = w.frozen? ⟨b, o, none⟩
  below : ∀ (N : Nat) (w0 : World), N ≤ base → Below N w0 w → Below N w0 w'
theorem grew {w w' : World} {base : Nat} {v : Value} {L : List E} (h : Own w base v L) (hg : w.grownBy w' v.ownBlock) (hb : base ≤ w.heap.size) : Grew w w' base :=
  ⟨hb, hg.size, fun b o k => cell_only hg (by omega) (far_own h k) o, fun b o k => frozen_only hg (by omega) (far_own h k) o, fun N w0 k B => grown_own B h hg k (by omega)⟩
end Go.Proofs.YteakglkagmghpaaGreat.Chain

/-
  Contracts of package chain, what only reads: Area, entered, Reach, Parent, Above; and of the document's own.
-/
namespace Go.Proofs.YteakglkagmghpaaGreat.Chain
open Go.ChangeShapes Go.WideShapes Go.ChangeAt Go.RowKit
set_option linter.unusedVariables false
set_option maxRecDepth 8000

set_option maxHeartbeats 1000000 in
theorem refarea_any (w : World) (v : Value) (L : List E) (h : Sr w v L) : Calls Tryz.prog 108 #[v] w fun e w' => e = .returned (.int .i64 (areaV L)) ∧ w = w' := by
  obtain ⟨A, c, rfl, h1, h2, h3, h4⟩ := h
  unfold maxLen at h2
  by_cases hl : 0 < L.length
  · obtain ⟨g, o, rfl, hg, hc⟩ := h4 hl
    have HA := Lib.hid (area_at hl)
    obtain ⟨c0, c1⟩ := hc (L.length - 1) (by omega)
    have z : ((L.length : Int) == 0) = false := beq_eq_false_iff_ne.2 (by omega)
    have e1 : ((L.length : Int) - 1).toNat = L.length - 1 := by omega
    clear hc h4
    go_enter Tryz.func108, Tryz.ntmps108
    go_wp2
    go_ret
    exact ⟨ret_int HA.out.symm, rfl⟩
  · obtain rfl : L = [] := List.eq_nil_of_length_eq_zero (by omega)
    go_enter Tryz.func108, Tryz.ntmps108
    go_wp2
    go_ret
    exact ⟨rfl, rfl⟩

def No (L : List E) (s : Int) (k : Nat) : Prop := ∀ j (hj : j < L.length), j < k → hit s L[j] = false
theorem No.step {L : List E} {s : Int} {k : Nat} (h : No L s k) (hk : k < L.length) (hn : hit s L[k] = false) : No L s (k + 1) := fun j hj hlt => by
  by_cases e : j = k
  · subst e; exact hn
  · exact h j hj (by omega)
theorem ent_yes {L : List E} {s : Int} {k : Nat} (h : No L s k) (hk : k < L.length) (hn : hit s L[k] = true) : inP L s ∧ idx L s = k ∧ entV L s = (k : Int) := by
  have e := idx_of hk hn h
  have i : inP L s := by unfold inP; omega
  exact ⟨i, e, by rw [entV, if_pos i, e]⟩
theorem ent_no {L : List E} {s : Int} (h : No L s L.length) : ¬ inP L s ∧ entV L s = -1 := by
  have i := idx_none h
  exact ⟨i, if_neg i⟩

end Go.Proofs.YteakglkagmghpaaGreat.Chain

/-
  Contracts of the document's own Reach, Parent, Above, and of Same.
-/
namespace Go.Proofs.YteakglkagmghpaaGreat.Chain
open Go.ChangeShapes Go.WideShapes Go.ChangeAt Go.RowKit
set_option linter.unusedVariables false
set_option maxRecDepth 8000

set_option maxHeartbeats 1000000 in
theorem refreach_any (w : World) (v : Value) (L : List E) (s : Int) (h : Sr w v L) : Calls Tryz.prog 105 #[v, .int .i64 s] w fun e w' => e = .returned (.bool (reachV L s)) ∧ w = w' := by
  obtain ⟨A, c, rfl, h1, h2, h3, h4⟩ := h
  unfold maxLen at h2
  go_enter Tryz.func105, Tryz.ntmps105
  go_wp2
  go_loop [5] (fun t => ∃ k : Nat, k ≤ L.length ∧ t = .int .i64 k ∧ No L s k) (fun t => L.length - (intOf t).toNat)
  case atStart => exact ⟨0, by omega, rfl, fun j _ hj => by omega⟩
  case round =>
    obtain ⟨k, hk, rfl, hN⟩ := hrel
    by_cases hlt : k < L.length
    · obtain ⟨g, o, rfl, hg, hc⟩ := h4 (by omega)
      obtain ⟨d0, d1⟩ := hc k hlt
      clear hc h4
      by_cases hh : hit s L[k] = true
      · have Q3 := Lib.hid (reach_iff.2 (.inr (ent_yes hN hlt hh).1))
        simp only [hit, Bool.and_eq_true, beq_iff_eq] at hh
        rw [hh.1] at d1
        rw [hh.2] at d0
        clear hh
        go_wp2
        go_ret
        exact ⟨ret_bool Q3.out.symm, rfl⟩
      · have hh' : hit s L[k] = false := by simpa using hh
        have N' := Lib.hid (hN.step hlt hh')
        clear hh
        cases hq : (L[k]).2 with
        | false =>
          rw [hq] at d1
          clear hh' hq
          go_wp2
          go_round
          case rel => exact ⟨k + 1, by omega, by go_num, N'.out⟩
          case measure => simp [intOf]; omega
        | true =>
          rw [hq] at d1
          have hne : ((L[k]).1 == s) = false := by simpa [hit, hq] using hh'
          clear hh' hq
          go_wp2
          go_round
          case rel => exact ⟨k + 1, by omega, by go_num, N'.out⟩
          case measure => simp [intOf]; omega
    · obtain rfl : k = L.length := by omega
      have Q : Hid (reachV L s = (s == 0)) := Lib.hid (by
        have := (ent_no hN).1
        rw [inP_iff] at this
        unfold reachV
        simp [this])
      go_wp2
      go_ret
      exact ⟨ret_bool Q.out.symm, rfl⟩
def eqB (a : Int) (b : Bool) (c : Int) (d : Bool) : Bool := decide (a = c ∧ b = d)
theorem run_eq (a : Int) (b : Bool) (c : Int) (d : Bool) (W : World) : (Op.equalIn 10000 T (.agg #[.int .i64 a, .bool b]) (.agg #[.int .i64 c, .bool d])).run Tryz.prog W = .ok (eqB a b c d) W := by
  unfold eqB
  by_cases h1 : a = c
  · subst h1
    by_cases h2 : b = d
    · subst h2
      simp [go_sem]
    · simp [go_sem, h2]
  · simp [go_sem, h1]
def sameB (L M : List E) : Bool := decide (L = M)
theorem same_refl (L : List E) : sameB L L = true := decide_eq_true rfl
theorem same_no {L M : List E} {k : Nat} (h1 : k < L.length) (h2 : k < M.length) (h : L[k] ≠ M[k]) : sameB L M = false := by
  refine decide_eq_false fun e => ?_
  subst e
  exact h rfl
theorem same_len {L M : List E} (h : L.length ≠ M.length) : sameB L M = false := by
  refine decide_eq_false fun e => ?_
  subst e
  exact h rfl
def Eqs (L M : List E) (k : Nat) : Prop := ∀ i (h1 : i < L.length) (h2 : i < M.length), i < k → L[i] = M[i]
theorem same_yes {L M : List E} (hl : L.length = M.length) (h : Eqs L M L.length) : sameB L M = true := by
  refine decide_eq_true ?_
  exact List.ext_getElem hl fun i h1 h2 => h i h1 h2 h1
set_option maxHeartbeats 1000000 in
theorem same_any (w : World) (u v : Value) (L M : List E) (h : Sr w u L) (h' : Sr w v M) : Calls Tryz.prog 18 #[u, v] w fun e w' => e = .returned (.bool (sameB L M)) ∧ Below w.heap.size w w' := by
  obtain ⟨A, c, rfl, h1, h2, h3, h4⟩ := h
  obtain ⟨B, d, rfl, k1, k2, k3, k4⟩ := h'
  unfold maxLen at h2 k2
  by_cases hl : L.length = M.length
  · have HL := Lib.hid hl
    have z : ((L.length : Int) == (M.length : Int)) = true := by simp [hl]
    have z' : ((L.length : Int) != (M.length : Int)) = false := by simp [hl]
    have hle : L.length ≤ M.length := by omega
    clear hl
    go_enter Tryz.func18, Tryz.ntmps18
    go_wp2_with fail
    go_loopw [5] (fun t wr => ∃ k : Nat, k ≤ L.length ∧ t = .int .i64 k ∧ Below w.heap.size w wr ∧ Hid (Eqs L M k)) (fun t _ => L.length - (intOf t).toNat)
    case atStart => exact ⟨0, by omega, rfl, Below.refl _ _, Lib.hid (fun i _ _ hi => by omega)⟩
    case round =>
      obtain ⟨k, hk, rfl, hB, hQ⟩ := hrel
      by_cases hlt : k < L.length
      · obtain ⟨g, o, rfl, hg, hc⟩ := h4 (by omega)
        obtain ⟨g', o', rfl, hg', hc'⟩ := k4 (by omega)
        have d0 := (hB.cell (p := ⟨g, o + k * 2, none⟩) hg).trans (hc k hlt).1
        have d1 := (hB.cell (p := ⟨g, o + k * 2 + 1, none⟩) hg).trans (hc k hlt).2
        have f0 := (hB.cell (p := ⟨g', o' + k * 2, none⟩) hg').trans (hc' k (by omega)).1
        have f1 := (hB.cell (p := ⟨g', o' + k * 2 + 1, none⟩) hg').trans (hc' k (by omega)).2
        have hr := run_eq (L[k]).1 (L[k]).2 (M[k]).1 (M[k]).2
        have i1 : (k : Int) < (L.length : Int) := by omega
        have i2 : (k : Int) < (M.length : Int) := by omega
        clear hc hc' h4 k4
        by_cases he : L[k] = M[k]
        · have Q' := Lib.hid (show Eqs L M (k + 1) from fun i a1 a2 hi => by
            by_cases e : i = k
            · subst e; exact he
            · exact hQ.out i a1 a2 (by omega))
          have hq : eqB (L[k]).1 (L[k]).2 (M[k]).1 (M[k]).2 = true := decide_eq_true (by rw [he]; exact ⟨rfl, rfl⟩)
          rw [hq] at hr
          clear he hq
          go_wp2_with fail
          go_quiet (fail)
          go_wp2
          go_roundw
          case rel => exact ⟨k + 1, by omega, by go_num, hB.trans ⟨rfl, rfl, rfl, Nat.le_refl _, fun _ _ => rfl⟩, Q'⟩
          case measure => simp [intOf]; omega
        · have hq : eqB (L[k]).1 (L[k]).2 (M[k]).1 (M[k]).2 = false := decide_eq_false fun e => he (Prod.ext e.1 e.2)
          have N := Lib.hid (same_no hlt (by omega) he)
          rw [hq] at hr
          clear he hq
          go_wp2_with fail
          go_quiet (fail)
          go_wp2
          go_ret
          exact ⟨ret_bool N.out.symm, hB.trans ⟨rfl, rfl, rfl, Nat.le_refl _, fun _ _ => rfl⟩⟩
      · obtain rfl : k = L.length := by omega
        have Y := Lib.hid (same_yes HL.out hQ.out)
        go_wp2
        go_ret
        exact ⟨ret_bool Y.out.symm, hB⟩
  · have N := Lib.hid (same_len hl)
    have z : ((L.length : Int) == (M.length : Int)) = false := beq_eq_false_iff_ne.2 (by omega)
    have z' : ((L.length : Int) != (M.length : Int)) = true := by rw [bne, z]; rfl
    clear hl h4 k4
    go_enter Tryz.func18, Tryz.ntmps18
    go_wp2
    go_ret
    exact ⟨ret_bool N.out.symm, Below.refl _ _⟩
end Go.Proofs.YteakglkagmghpaaGreat.Chain

/-
  Contracts of package chain: Push and Pop.
-/
namespace Go.Proofs.YteakglkagmghpaaGreat.Chain
open Go.ChangeShapes Go.WideShapes Go.ChangeAt Go.RowKit
set_option linter.unusedVariables false
set_option maxRecDepth 8000

theorem Own.nil (w : World) (b : Nat) : Own w b (.slice none 0 0) [] := ⟨by simp [flat], .inl ⟨rfl, rfl⟩⟩
theorem Own.drew {w : World} {base : Nat} {v : Value} {L : List E} (h : Own w base v L) : Own w.drew base v L := h.below (Below.refl _ _).drew
theorem Sr.one (w : World) (x : Int) (c : Bool) : Sr (w.alloc (.cells #[.int .i64 x, .bool c] T)) (.slice (some ⟨w.heap.size, 0, none⟩) 1 1) [(x, c)] := by
  refine ⟨_, 1, rfl, by simp, by decide, fun e => (by cases e), fun _ => ⟨w.heap.size, 0, rfl, by simp, fun i hi => ?_⟩⟩
  obtain rfl : i = 0 := by simpa using hi
  simp [go_sem]

end Go.Proofs.YteakglkagmghpaaGreat.Chain

/-
  Contracts of the document's Push and Pop.
-/
namespace Go.Proofs.YteakglkagmghpaaGreat.Chain
open Go.ChangeShapes Go.WideShapes Go.ChangeAt Go.RowKit
set_option linter.unusedVariables false
set_option maxRecDepth 8000

theorem below_one (w : World) (o : Obj) : Below w.heap.size w (w.alloc o) := (Below.refl _ _).alloc (Nat.le_refl _) _
theorem Sr.kept {w w' : World} {g o n c : Nat} {L : List E} {row : Option Nat} (h : Sr w (.slice (some ⟨g, o, none⟩) n c) L) (k : w.grownBy w' row) (hne : some g ≠ row) : Sr w' (.slice (some ⟨g, o, none⟩) n c) L := by
  refine h.keep k.size fun g' o' e hg => ?_
  simp only [Value.slice.injEq, Option.some.injEq, Addr.mk.injEq, and_true] at e
  obtain ⟨⟨rfl, rfl⟩, _⟩ := e
  exact k.block _ hg hne
end Go.Proofs.YteakglkagmghpaaGreat.Chain

/-
  Contracts of few, shown, and of the document's Fit.
-/
namespace Go.Proofs.YteakglkagmghpaaGreat.Chain
open Go.ChangeShapes Go.WideShapes Go.ChangeAt Go.RowKit
set_option linter.unusedVariables false
set_option maxRecDepth 8000

def Row (w : World) (M : List E) (e : Ending) (w' : World) : Prop := ∃ v, e = .returned v ∧ Sr w' v M ∧ Below w.heap.size w w'
/-- append to a row of one's own, in a region that does not draw. -/
theorem wpList_app {w : World} {ops : Array Oper} {rest : List Oper} {o : Oper} {a : Act} {Q : Exit → Act → World → Prop} (hgd : o.guard = none) (s x : Operand)
    (ho : o.op = .call { callee := .builtin .append, args := #[s, x], argTypes := #[X, X] }) (hty : o.type = X) {v y : Value} {L M : List E} {base : Nat}
    (hs : a.eval s = v) (hx : a.eval x = y) (h : Own w base v L) (hy : Sr w y M) (hl : L.length + M.length ≤ 1000000) (hb : base ≤ w.heap.size)
    (hK : ∀ v' w', Own w' base v' (L ++ M) → Grew w w' base → wpList Tryz.prog ops Q rest (a.put o.dst v') w') : wpList Tryz.prog ops Q (o :: rest) a w := by
  obtain ⟨v', w', hrun, r1, r2⟩ := app_own w h hy hl hb
  refine wpList_plain hgd fun K hK' => ?_
  unfold Oper.wp
  simp [execOp, ho, resolve, invoke, builtin, hs, hx, hty, hrun, Result.andThen]
  exact hK' _ _ (hK v' w' r1 (grew h r2 hb))
theorem mask_i64 (k : Nat) (hk : k ≤ 62) (x : Int) : bits .and .i64 x (2 ^ k - 1) = x % 2 ^ k := by
  have hpos : 0 < 2 ^ k := Nat.two_pow_pos k
  have hle : 2 ^ k ≤ 2 ^ 62 := Nat.pow_le_pow_right (by decide) hk
  have hc : ((2 : Int) ^ k - 1) = ((2 ^ k - 1 : Nat) : Int) := by rw [Int.natCast_sub hpos]; simp
  rw [hc]
  show IntKind.i64.wrap ((BitVec.ofInt 64 x &&& BitVec.ofInt 64 ((2 ^ k - 1 : Nat) : Int)).toNat : Int) = _
  have e : (BitVec.ofInt 64 ((2 ^ k - 1 : Nat) : Int)).toNat = 2 ^ k - 1 := by
    rw [BitVec.ofInt_natCast, BitVec.toNat_ofNat, Nat.mod_eq_of_lt (by omega)]
  rw [BitVec.toNat_and, e, Nat.and_two_pow_sub_one_eq_mod, BitVec.toNat_ofInt]
  have h1 : (((x % ((2 ^ 64 : Nat) : Int)).toNat % 2 ^ k : Nat) : Int) = x % 2 ^ k := by
    rw [Int.natCast_emod, Int.toNat_of_nonneg (Int.emod_nonneg _ (by decide))]
    have hd : ((2 ^ k : Nat) : Int) ∣ ((2 ^ 64 : Nat) : Int) := Int.natCast_dvd_natCast.2 (Nat.pow_dvd_pow 2 (by omega))
    rw [Int.emod_emod_of_dvd _ hd, Int.natCast_pow]
    rfl
  rw [h1, IntKind.wrap_i64]
  have h2 : (2 : Int) ^ k ≤ 2 ^ 62 := by exact_mod_cast hle
  have h3 : (0 : Int) < 2 ^ k := by exact_mod_cast hpos
  have h4 := Int.emod_nonneg x (show (2 : Int) ^ k ≠ 0 by omega)
  have h5 := Int.emod_lt_of_pos x h3
  omega
end Go.Proofs.YteakglkagmghpaaGreat.Chain
