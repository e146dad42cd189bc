/-
  GroundApart: a ground, the extents that are held, and which words are used, side by side.
-/
import Derived.Test.YtnekbbdodhokbaaTurnB
namespace Go.Proofs.Ytnekbbdodhokbaa.Gr
open Go.ChangeShapes Go.WideShapes Go.ChangeAt Go.RowKit Gm
set_option linter.unusedVariables false

/-- How many bytes of the first i words are free. -/
def cnt (F : Nat → Bool) : Nat → Int
  | 0 => 0
  | i + 1 => cnt F i + if F i then 8 else 0
theorem sum_snoc (L : List E) (e : E) : sum (L ++ [e]) = sum L + e.2 := by
  rw [sum_append]
  show _ + (e.2 + 0) = _
  omega
theorem sum_runs (A : Int) (F : Nat → Bool) : ∀ i, sum (runs A F i) = cnt F i
  | 0 => rfl
  | i + 1 => by
    have ih := sum_runs A F i
    show _ = cnt F i + _
    cases hf : F i with
    | false =>
      rw [Ref.runs_no hf]
      simp [ih]
    | true =>
      by_cases hk : i = 0 ∨ F (i - 1) = false
      · rw [Ref.runs_new hf hk, sum_snoc, ih]
        rfl
      · obtain ⟨M, x, s, e1, e2⟩ := Ref.runs_more (A := A) hf hk
        rw [e2, sum_snoc]
        rw [e1, sum_snoc] at ih
        have ih' : sum M + s = cnt F i := ih
        show sum M + (s + 8) = cnt F i + 8
        omega
theorem cnt_bd (F : Nat → Bool) : ∀ i, 0 ≤ cnt F i ∧ cnt F i ≤ 8 * (i : Int)
  | 0 => ⟨Int.le_refl _, Int.le_refl _⟩
  | i + 1 => by
    have := cnt_bd F i
    show 0 ≤ cnt F i + _ ∧ cnt F i + _ ≤ _
    split <;> omega

def nots (X : Nat → Bool) : Nat → Bool := fun i => !X i
/-- What is held, what is used and what is free, as numbers. -/
structure Pa (L H : List E) (X : Nat → Bool) : Prop where
  inv : Inv L H
  free : L = runs 80 (nots X) 50
  all : ∀ p, 80 ≤ p → p < 480 → Mem p L ∨ ∃ i, ∃ h : i < H.length, In p H[i]
theorem Pa.start : Pa (newL 80 400) [] (fun _ => false) := by
  have e : newL 80 400 = runs 80 (nots fun _ => false) 50 := by
    have : nots (fun _ => false) = fun _ => true := rfl
    rw [this, runs_all (by omega)]
    rfl
  refine ⟨Inv.start (ok_new (by decide) (by decide)), e, fun p h1 h2 => .inl ?_⟩
  rw [e, runs_mem]
  exact ⟨h1, by omega, rfl⟩
theorem Pa.refused {L H : List E} {X : Nat → Bool} {z : Int} (h : Pa L H X) (hb : carveB z L = false) : carveF z L = L := by unfold carveF; rw [if_neg (by rw [hb]; decide)]
theorem refused_size {L : List E} {z : Int} (hz : 0 < z) (h8 : z % 8 = 0) (hb : carveB z L = false) : ∀ e ∈ L, e.2 < z := by
  unfold carveB at hb
  rw [show sizeB z = true from decide_eq_true ⟨hz, h8⟩, Bool.true_and] at hb
  have hi : ¬ carveI z L < L.length := fun c => by rw [(fits_iff z L).2 c] at hb; cases hb
  exact (carve_none (Nat.le_antisymm (carveI_le z L) (by omega))).2.2.2
/-- One that is carved: where, which words; and what it leaves. -/
theorem Pa.carve {L H : List E} {X : Nat → Bool} {z : Int} {m : Nat} (h : Pa L H X) (hz : z = 8 * (m : Int)) (hm : 0 < m) (hb : carveB z L = true) :
    ∃ u : Nat, carveV z L = 80 + 8 * (u : Int) ∧ u + m ≤ 50 ∧ (∀ i, i < m → X (u + i) = false) ∧ Pa (carveF z L) (H ++ [(carveV z L, z)]) (setW X u m true) := by
  have hF : carveF z L = carveL z L := by unfold carveF; rw [if_pos hb]
  have hV : carveV z L = carveA z L := by unfold carveV; rw [if_pos hb]
  have hI := (h.inv.carve z).2 hb
  have hb' := hb
  unfold carveB at hb'
  rw [Bool.and_eq_true] at hb'
  obtain ⟨e, he, k1, k2⟩ := carve_in hb'.2
  have ho := h.inv.ok.mem he
  refine ⟨((carveA z L - 80) / 8).toNat, by rw [hV]; omega, by omega, fun i hi => ?_, hI, ?_, fun p p1 p2 => ?_⟩
  · have hm' := carve_sub hb'.2 (p := carveA z L + 8 * (i : Int)) (by omega) (by omega)
    rw [h.free, runs_mem] at hm'
    have e1 : ((carveA z L + 8 * (i : Int) - 80) / 8).toNat = ((carveA z L - 80) / 8).toNat + i := by omega
    rw [← h.free, e1] at hm'
    have := hm'.2.2
    unfold nots at this
    simpa using this
  · rw [hF, h.free]
    rw [runs_carve (u := ((carveA z L - 80) / 8).toNat) hz hm (by rw [← h.free]; exact hb'.2) (by rw [← h.free]; omega), ← h.free]
    refine runs_congr fun i _ => ?_
    unfold nots setW
    split <;> rfl
  · rcases h.all p p1 p2 with m' | ⟨i, hi, hp⟩
    · by_cases c : carveA z L ≤ p ∧ p < carveA z L + z
      · refine .inr ⟨H.length, by simp, ?_⟩
        rw [List.getElem_append_right (Nat.le_refl _)]
        simp only [Nat.sub_self, List.getElem_cons_zero]
        rw [hV]
        exact c
      · left
        rw [hF]
        exact (carve_mem (by omega) h.inv.ok.norm hb'.2 p).2 ⟨m', c⟩
    · refine .inr ⟨i, by simp; omega, ?_⟩
      rw [List.getElem_append_left hi]
      exact hp
/-- All of it, given back. -/
theorem Pa.whole {L H M : List E} {X : Nat → Bool} {s : Nat → Nat} (h : Pa L H X) (g : Gv L H s H.length M) (hs : ∀ i, i < H.length → ∃ j, j < H.length ∧ s j = i) : M = [(80, 400)] := by
  refine uniq (lo' := 80) g.ok.norm ⟨Int.le_refl _, by decide, trivial⟩ fun p => ?_
  rw [g.mem p, mem_cons]
  constructor
  · rintro (m | ⟨j, _, h1, h2⟩)
    · have := h.inv.ok.in_ m
      exact .inl ⟨this.1, this.2⟩
    · have := h.inv.each _ (List.getElem_mem h1)
      have h3 : (H[s j]).1 ≤ p := h2.1
      have h4 : p < (H[s j]).1 + (H[s j]).2 := h2.2
      left
      show (80 : Int) ≤ p ∧ p < 80 + 400
      omega
  · rintro (m | m)
    · have m1 : (80 : Int) ≤ p := m.1
      have m2 : p < 80 + 400 := m.2
      rcases h.all p m1 (by omega) with m | ⟨i, hi, hp⟩
      · exact .inl m
      · obtain ⟨j, hj, e⟩ := hs i hi
        refine .inr ⟨j, hj, by rw [e]; exact hi, ?_⟩
        simp only [e]
        exact hp
    · exact absurd m (mem_nil p)

theorem Gr.far {w w' : World} {B K U : Nat} {A S : Int} {L : List E} {t : TypeId} {n : Nat} {f : Nat → Value} (h : Gr w B K A S L) (hu : w.rowIs U t n f) (ht : t ≠ 40) (k : w.grownBy w' (some U)) (hne : B ≠ U) : Gr w' B K A S L := by
  refine h.keep0 k (fun e => by injection e with e; exact hne e.symm) fun v g _ hg _ ty e => ?_
  injection e with e
  subst e
  obtain ⟨cs, fz, e1⟩ := ty _ hg
  obtain ⟨c, hc, _⟩ := hu
  rw [e1] at hc
  injection hc with hc
  injection hc with _ h2
  exact ht h2.symm
structure Ap (w wr : World) (B K U : Nat) (v : Value) (L H : List E) (X : Nat → Bool) (t : TypeId) : Prop where
  gr : Gr wr B K 80 400 L
  hl : Hl wr (B + 1) K v H
  us : wr.rowIs U t 50 (fun i => .bool (X i))
  below : Below w.heap.size w wr
  b0 : w.heap.size ≤ B
  b1 : B < U
  ku : K ≠ U
section
variable {w wr w' : World} {B K U : Nat} {v : Value} {L H : List E} {X : Nat → Bool} {t : TypeId}
theorem Ap.bel (h : Ap w wr B K U v L H X t) (k : Below wr.heap.size wr w') : Ap w w' B K U v L H X t :=
  ⟨h.gr.below k, h.hl.below k, h.us.of_block (k.block U h.us.lt), h.below.trans (k.mono h.below.size), h.b0, h.b1, h.ku⟩
theorem Ap.one (h : Ap w wr B K U v L H X t) {L' : List E} (hg : Gr w' B K 80 400 L') (k : wr.grownBy w' (some B)) : Ap w w' B K U v L' H X t := by
  have hk := h.hl.lt
  have h1 := h.b1
  exact ⟨hg, h.hl.kept k (fun e => by injection e with e; omega), h.us.of_block (k.block U h.us.lt (fun e => by injection e with e; omega)), below_only2 h.below k h.below.size h.b0, h.b0, h1, h.ku⟩
theorem Ap.mark (h : Ap w wr B K U v L H X t) (ht : t ≠ 40) (i : Nat) : Ap w (wr.setCell ⟨U, i, none⟩ (.bool true)) B K U v L H (fun j => if j = i then true else X j) t := by
  have h1 := h.b1
  have h0 := h.b0
  have k : wr.grownBy (wr.setCell ⟨U, i, none⟩ (.bool true)) (some U) := only_setCell (World.grownBy.refl _ _) i _
  refine ⟨h.gr.far h.us ht k (by omega), h.hl.kept k (fun e => by injection e with e; exact h.ku e.symm), (h.us.set i _).congr fun j _ => ?_, bset h.below U i (by omega) _, h0, h1, h.ku⟩
  by_cases e : j = i
  · simp [e]
  · simp [e]
theorem Ap.congr {Y : Nat → Bool} (h : Ap w wr B K U v L H X t) (e : ∀ i, i < 50 → X i = Y i) : Ap w wr B K U v L H Y t :=
  ⟨h.gr, h.hl, h.us.congr fun i hi => by rw [e i hi], h.below, h.b0, h.b1, h.ku⟩
theorem Ap.push {v' : Value} {K' : Nat} {a z : Int} (h : Ap w wr B K U v L H X t) (hh : Hl w' (B + 1) K' v' (H ++ [(a, z)])) (k : (wr.alloc (.cells #[.int .i64 a, .int .i64 z] 40)).grownBy w' (some K)) (hk' : K' = K ∨ wr.heap.size ≤ K') : Ap w w' B K' U v' L (H ++ [(a, z)]) X t := by
  have hk := h.hl.lt
  have h1 := h.b1
  have h0 := h.b0
  have hu := h.us.lt
  have hx := h.bel ((Below.refl _ _).alloc (Nat.le_refl _) (.cells #[.int .i64 a, .int .i64 z] 40))
  have kk : wr.grownBy w' (some K) := only_trans (only_alloc (World.grownBy.refl _ _) _) k
  refine ⟨h.gr.grow kk (by omega) hk', hh, h.us.of_block (kk.block U hu (fun e => by injection e with e; exact h.ku e.symm)), below_only2 hx.below k hx.below.size (by omega), h0, h1, ?_⟩
  rcases hk' with e | e
  · rw [e]; exact h.ku
  · omega
theorem a_carve (h : Ap w wr B K U v L H X t) (ok : Ok 80 400 L) (z : Int) (z1 : -9223372036854775808 ≤ z) (z2 : z ≤ 9223372036854775807) :
    Calls Try.prog 14 #[.pointer (some ⟨B, 0, none⟩), .int .i64 z] wr fun e w' => e = .returned (.tuple #[.int .i64 (carveV z L), .bool (carveB z L)]) ∧ Ap w w' B K U v (carveF z L) H X t :=
  (carve_any wr B K 80 400 L z h.gr h.hl.lt.2 ok z1 z2).mono fun e w' ⟨he, hg, k⟩ => ⟨he, h.one hg k⟩
theorem a_give (h : Ap w wr B K U v L H X t) (ok : Ok 80 400 L) (a z : Int) (a1 : -9223372036854775808 ≤ a) (a2 : a ≤ 9223372036854775807) (z1 : -9223372036854775808 ≤ z) (z2 : z ≤ 9223372036854775807) :
    Calls Try.prog 12 #[.pointer (some ⟨B, 0, none⟩), .int .i64 a, .int .i64 z] wr fun e w' => e = .returned (.int .i64 (giveE 80 400 L a z)) ∧ Ap w w' B K U v (giveF 80 400 L a z) H X t ∧ wr.grownBy w' (some B) :=
  (give_any wr B K 80 400 L a z h.gr h.hl.lt.2 ok a1 a2 z1 z2).mono fun e w' ⟨he, hg, k⟩ => ⟨he, h.one hg k, k⟩
end
end Go.Proofs.Ytnekbbdodhokbaa.Gr
