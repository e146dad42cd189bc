/-
  Contract of package ground: Give, for every place and size.
-/
import Derived.Test.YtkkmhapfhnnooaaGrF
namespace Go.Proofs.Ytkkmhapfhnnooaa.Gr
open Go.ChangeShapes Go.WideShapes Go.ChangeAt Go.RowKit Gm
set_option linter.unusedVariables false
set_option linter.unusedSimpArgs false

def giveB (A S : Int) (L : List E) (a z : Int) : Bool := sizeB z && (decide (a % 8 = 0) && (hasB A S a z && !bad a (a + z) L))
def giveE (A S : Int) (L : List E) (a z : Int) : Int := if giveB A S L a z = true then 0 else 1
def giveF (A S : Int) (L : List E) (a z : Int) : List E := if giveB A S L a z = true then giveL a (a + z) L else L
theorem give_no {A S : Int} {L : List E} {a z : Int} (h : giveB A S L a z = false) : giveE A S L a z = 1 ∧ giveF A S L a z = L := by
  unfold giveE giveF
  rw [if_neg (by rw [h]; decide), if_neg (by rw [h]; decide)]
  exact ⟨rfl, rfl⟩

theorem sum_le : ∀ {L : List E} {lo hi : Int}, Norm lo L → (∀ e ∈ L, e.1 + e.2 ≤ hi) → lo ≤ hi → 0 ≤ sum L ∧ sum L ≤ hi - lo
  | [], _, _, _, _, h => ⟨Int.le_refl _, by show (0 : Int) ≤ _; omega⟩
  | e :: r, lo, hi, h, k, hl => by
    have h1 := h.1
    have h2 := h.2.1
    have h3 := k e List.mem_cons_self
    by_cases hr : e.1 + e.2 + 1 ≤ hi
    · have ⟨a, b⟩ := sum_le h.2.2 (fun x hx => k x (List.mem_cons_of_mem _ hx)) hr
      show 0 ≤ e.2 + sum r ∧ e.2 + sum r ≤ hi - lo
      omega
    · cases r with
      | nil =>
        show 0 ≤ e.2 + 0 ∧ e.2 + 0 ≤ hi - lo
        omega
      | cons f s =>
        have h4 := h.2.2.1
        have h5 := h.2.2.2.1
        have h6 := k f (List.mem_cons_of_mem _ List.mem_cons_self)
        omega
theorem sum_nonneg : ∀ {L : List E}, (∀ e ∈ L, 0 < e.2) → 0 ≤ sum L
  | [], _ => Int.le_refl _
  | e :: r, h => by
    have := h e List.mem_cons_self
    have := sum_nonneg (fun x hx => h x (List.mem_cons_of_mem _ hx))
    show 0 ≤ e.2 + sum r
    omega
theorem fold_bd : ∀ {M : List E} {J : E}, (∀ e ∈ M, 0 ≤ e.1) → 0 ≤ J.1 → 0 ≤ (M.foldl join J).1 ∧ (M.foldl join J).1 ≤ J.1 ∧ (M.foldl join J).2 = J.2 + sum M
  | [], J, _, h => ⟨h, Int.le_refl _, by show J.2 = J.2 + 0; omega⟩
  | e :: r, J, h, hj => by
    have he := h e List.mem_cons_self
    have h1 : (join J e).1 = min J.1 e.1 := rfl
    have ⟨a, b, c⟩ := fold_bd (M := r) (J := join J e) (fun x hx => h x (List.mem_cons_of_mem _ hx)) (by rw [h1]; omega)
    rw [h1] at b
    refine ⟨a, by show (r.foldl join (join J e)).1 ≤ J.1; omega, ?_⟩
    show (r.foldl join (join J e)).2 = J.2 + (e.2 + sum r)
    rw [c]
    show J.2 + e.2 + sum r = _
    omega
theorem mid_bd {A S a b : Int} {L : List E} (ok : Ok A S L) (hab : a ≤ b) (ha : 0 ≤ a) (ha' : a ≤ 131072) (hz : 0 ≤ b - a) (hz' : b - a ≤ 131072) (k : Nat) :
    0 ≤ (((mid a b L).take k).foldl join (a, b - a)).1 ∧ (((mid a b L).take k).foldl join (a, b - a)).1 ≤ 1000000 ∧ 0 ≤ (((mid a b L).take k).foldl join (a, b - a)).2 ∧ (((mid a b L).take k).foldl join (a, b - a)).2 ≤ 1000000 := by
  have hlh := low_le_high hab ok.norm
  have hin : ∀ e ∈ (mid a b L).take k, e ∈ L := fun e he => mem_mid hlh (List.mem_of_mem_take he)
  have ⟨f1, f2, f3⟩ := fold_bd (M := (mid a b L).take k) (J := (a, b - a)) (fun e he => (ok.mem (hin e he)).1) ha
  have e1 : sum L = sum (L.take (low a L)) + (sum ((mid a b L).take k) + sum ((mid a b L).drop k) + sum (L.drop (high b L))) := by
    rw [← sum_append ((mid a b L).take k), List.take_append_drop, ← sum_append (mid a b L), ← sum_append (L.take (low a L)), ← split3 hlh]
  have p1 : 0 ≤ sum (L.take (low a L)) := sum_nonneg fun e he => (ok.mem (List.mem_of_mem_take he)).2.2.1
  have p2 : 0 ≤ sum ((mid a b L).take k) := sum_nonneg fun e he => (ok.mem (hin e he)).2.2.1
  have p3 : 0 ≤ sum ((mid a b L).drop k) := sum_nonneg fun e he => (ok.mem (mem_mid hlh (List.mem_of_mem_drop he))).2.2.1
  have p4 : 0 ≤ sum (L.drop (high b L)) := sum_nonneg fun e he => (ok.mem (List.mem_of_mem_drop he)).2.2.1
  have ⟨_, p5⟩ := sum_le ok.norm ok.hi (by have := ok.s0; omega)
  have p6 := ok.s1
  have f2' : (((mid a b L).take k).foldl join (a, b - a)).1 ≤ a := f2
  have f3' : (((mid a b L).take k).foldl join (a, b - a)).2 = b - a + sum ((mid a b L).take k) := f3
  refine ⟨f1, by omega, by omega, by omega⟩
theorem fold_step {M : List E} {J : E} {k : Nat} (h : k < M.length) : (M.take (k + 1)).foldl join J = join ((M.take k).foldl join J) M[k] := by
  rw [List.take_succ_eq_append_getElem h, List.foldl_append]
  rfl
theorem mid_len {a b : Int} {L : List E} (h : low a L ≤ high b L) : (mid a b L).length = high b L - low a L := by
  unfold mid
  have := high_le b L
  rw [List.length_drop, List.length_take]
  omega
theorem mid_get {a b : Int} {L : List E} {k : Nat} (h : k < (mid a b L).length) (h' : low a L + k < L.length) : (mid a b L)[k] = L[low a L + k] := by
  simp only [mid, List.getElem_drop, List.getElem_take]
theorem any_of {M : List E} {P : E → Bool} {k : Nat} (h : k < M.length) (hp : P M[k] = true) : M.any P = true := List.any_eq_true.2 ⟨_, List.getElem_mem h, hp⟩
theorem any_no {M : List E} {P : E → Bool} (h : ∀ i (hi : i < M.length), i < M.length → P M[i] = false) : M.any P = false := by
  rw [List.any_eq_false]
  intro e he
  obtain ⟨i, hi, rfl⟩ := List.mem_iff_getElem.1 he
  rw [h i hi hi]
  decide

theorem slice_mid (V : Option Addr) (n c lo hi : Nat) (h1 : lo ≤ hi) (h2 : hi ≤ n) (h3 : n ≤ c) (hV : V = none → n = 0 ∧ c = 0) (hV' : ∀ x, V = some x → ∃ g, x = ⟨g, 0, none⟩) :
    ∃ V' c', (∀ W, (Instr.slice X (.slice V n c) (some (.int .i64 (lo : Int))) (some (.int .i64 (hi : Int))) none).run Try.prog W = .ok (.slice V' (hi - lo) c') W) ∧
      (∀ W, (Instr.sliceAt X (.slice V n c) (some (.int .i64 (lo : Int))) (some (.int .i64 (hi : Int))) none).run Try.prog W = .ok (.slice V' (hi - lo) c') W) ∧ (lo < hi → ∃ g, V = some ⟨g, 0, none⟩ ∧ V' = some ⟨g, lo * 2, none⟩) := by
  obtain ⟨i0, hi0, hz0, hz1, hz2⟩ := info_parts info_ext
  have hel : Try.prog.elem X = 46 := by kernel_rfl
  have hu : Try.prog.underlying X = some (.slice (Try.prog.elem X)) := by rw [hel]; exact under_exts
  have hsz : ∀ W, (sizeOf (Try.prog.elem X)).run Try.prog W = .ok 2 W := by
    intro W
    rw [hel]
    simp [sizeOf, typeInfo, hi0, hz1]
  have run : ∀ W, (Instr.slice X (.slice V n c) (some (.int .i64 (lo : Int))) (some (.int .i64 (hi : Int))) none).run Try.prog W = .ok (.slice (if c = lo then V else V.map (·.add (lo * 2))) (hi - lo) (c - lo)) W := by
    intro W
    rw [run_slice_lh W X V n c hu .i64 .i64 lo hi (by omega) (by omega) (by omega), hsz]
    simp [Result.andThen, sliced]
  refine ⟨_, _, run, fun W => (run_sliceAt_slice W X _ _ _ _ hu).trans (run W), fun hlt => ?_⟩
  cases V with
  | none => have := (hV rfl).1; omega
  | some x =>
    obtain ⟨g, rfl⟩ := hV' x rfl
    refine ⟨g, rfl, ?_⟩
    rw [if_neg (by omega)]
    simp [Addr.add_lit]
end Go.Proofs.Ytkkmhapfhnnooaa.Gr
