/-
  What came in: ops, words, and programs as a list of lists.
-/
import Derived.Test.YtapbhcpcechccaaFinaJ
import Derived.Test.YtapbhcpcechccaaArgsB
namespace Go.Proofs.Ytapbhcpcechccaa.Fina
open Go.ChangeShapes Go.WideShapes Go.ChangeAt Go.RowKit Go.Deep
open Slic
set_option linter.unusedVariables false

def opsOf (n : Nat) (z : Nat → Nat → Int) : List O := (List.range n).map fun i => (z i 0, z i 1, z i 2)
theorem ops_len (n : Nat) (z : Nat → Nat → Int) : (opsOf n z).length = n := by simp [opsOf]
theorem bounds_u8 {a : Int} (h : (Lit.int .u8 a).wf = true) : 0 ≤ a ∧ a ≤ 255 := by
  simp [Lit.wf, IntKind.min, IntKind.max, IntKind.signed, IntKind.bits] at h
  omega
theorem came_ops {w : World} {A : Option Addr} {n c : Nat} {z : Nat → Nat → Int} (h : Args.PRecs [some .u8, some .i64, some .i64] w A n z) (hc : n ≤ c ∧ c ≤ maxLen ∧ (A = none → c = 0)) : Sr kF w (.slice A n c) (opsOf n z) ∧ okO (opsOf n z) := by
  refine ⟨⟨A, c, by rw [ops_len], by rw [ops_len]; exact hc.1, hc.2.1, hc.2.2, fun hp => ?_⟩, fun o ho => ?_⟩
  · rw [ops_len] at hp
    obtain ⟨b, o, e, hb, _⟩ := h.at_ 0 hp
    subst e
    refine ⟨b, o, rfl, hb, fun i j u hi hu => ?_⟩
    have hi' := hi
    rw [ops_len] at hi'
    obtain ⟨b', o', e, _, hcs⟩ := h.at_ i hi'
    injection e with e
    injection e with e1 e2
    subst e1 e2
    have e : (opsOf n z)[i] = (z i 0, z i 1, z i 2) := by simp [opsOf]
    rw [e] at hu
    have hj : j = 0 ∨ j = 1 ∨ j = 2 := by
      rcases Nat.lt_or_ge j 3 with k | k
      · omega
      · rw [List.getElem?_eq_none (by simpa [kF] using k)] at hu; cases hu
    rcases hj with rfl | rfl | rfl
    · have := hcs 0 (by simp); simp [kF] at hu; subst hu; exact this
    · have := hcs 1 (by simp); simp [kF] at hu; subst hu; exact this
    · have := hcs 2 (by simp); simp [kF] at hu; subst hu; exact this
  · obtain ⟨i, hi, rfl⟩ := List.mem_map.1 ho
    exact bounds_u8 (h.wf i 0)
def wordsOf (n : Nat) (z : Nat → Int) : List Int := (List.range n).map z
theorem words_len (n : Nat) (z : Nat → Int) : (wordsOf n z).length = n := by simp [wordsOf]
theorem came_words {w : World} {A : Option Addr} {n c : Nat} {z : Nat → Int} (h : Args.Ints .u64 w A n z) (hc : n ≤ c ∧ c ≤ maxLen ∧ (A = none → c = 0)) : Sr kU w (.slice A n c) (wordsOf n z) := by
  refine ⟨A, c, by rw [words_len], by rw [words_len]; exact hc.1, hc.2.1, hc.2.2, fun hp => ?_⟩
  rw [words_len] at hp
  obtain ⟨b, o, e, hb, _⟩ := h.at_ 0 hp
  subst e
  refine ⟨b, o, rfl, hb, fun i j u hi hu => ?_⟩
  have hi' := hi
  rw [words_len] at hi'
  obtain ⟨b', o', e, _, hcs⟩ := h.at_ i hi'
  injection e with e
  injection e with e1 e2
  subst e1 e2
  have e : (wordsOf n z)[i] = z i := by simp [wordsOf]
  rw [e] at hu
  have hj : j = 0 := by
    rcases Nat.lt_or_ge j 1 with k | k
    · omega
    · rw [List.getElem?_eq_none (by simpa [kU] using k)] at hu; cases hu
  subst hj
  simp [kU] at hu
  subst hu
  simpa [kU] using hcs

theorem list_of {α : Type} {P : Nat → α → Prop} : ∀ n : Nat, (∀ i, i < n → ∃ a, P i a) → ∃ l : List α, l.length = n ∧ ∀ (i : Nat) (h : i < l.length), P i l[i]
  | 0, _ => ⟨[], rfl, fun i h => by simp at h⟩
  | n + 1, h => by
    obtain ⟨l, h1, h2⟩ := list_of n fun i hi => h i (by omega)
    obtain ⟨a, ha⟩ := h n (by omega)
    refine ⟨l ++ [a], by simp [h1], fun i hi => ?_⟩
    by_cases e : i < l.length
    · rw [List.getElem_append_left e]
      exact h2 i e
    · have e' : i = n := by simp [h1] at hi e; omega
      subst e'
      rw [List.getElem_append_right (by omega)]
      simp only [h1, Nat.sub_self, List.getElem_cons_zero]
      exact ha
section
variable {H : Type} {enc : TypeId × Value → H} {w : World} {base : Nat} {spare : Nat → Bool} {held : Bool}
theorem prog_of {fuel : Nat} {cs : List Value} {x : DataW H × List MemPlace} (h : DataW.trod enc Try.prog w base spare held fuel 28 cs = some x) : ∃ p : (Option Addr × Nat × Nat) × List O, cs = [.slice p.1.1 p.1.2.1 p.1.2.2] ∧ Sr kF w (.slice p.1.1 p.1.2.1 p.1.2.2) p.2 ∧ okO p.2 := by
  obtain ⟨A, n, c, z, rfl, hz, hc⟩ := Args.precs_of (ks := [some .u8, some .i64, some .i64]) kF.under Try.underlying32 (by kernel_rfl) (by kernel_rfl) (by decide) h
  exact ⟨((A, n, c), opsOf n z), rfl, came_ops hz hc⟩
/-- Programs that came in. -/
def Came (w : World) (v : Value) (LL : List (List O)) : Prop := Rows w v LL ∧ okOs LL
theorem came_rows {ps : List MemPlace} {v : Value} {d : DataW H} {r : Reach} {b0 : Nat} (hv : Value.okWide Try.prog w r b0 22 v) (h : DataW.Trod enc Try.prog w base spare held 22 v d ps) : ∃ LL, Came w v LL := by
  obtain ⟨A, n, c, rfl⟩ := okWide_slice kR.under hv
  obtain ⟨fuel, hf⟩ := h
  rcases open_slice kR.under hf with ⟨hcs, _⟩ | ⟨a, len, cap, m, q, D, Pl, hcs, _, hl, hm, hmm, _, hi⟩
  · simp [Value.cells] at hcs
    obtain ⟨rfl, rfl, rfl⟩ := hcs
    exact ⟨[], ⟨[], Sr.nil w, rfl, fun i h => by simp at h⟩, fun L hL => absurd hL List.not_mem_nil⟩
  · simp [Value.cells] at hcs
    obtain ⟨rfl, rfl, rfl⟩ := hcs
    have hnm : n ≤ m := by rw [hmm]; split <;> omega
    have hc1 : Try.prog.cellsOf kR.T = 1 := by kernel_rfl
    have each : ∀ i, i < n → ∃ p : (Option Addr × Nat × Nat) × List O, w.cell? (a.add i) = some (.slice p.1.1 p.1.2.1 p.1.2.2) ∧ Sr kF w (.slice p.1.1 p.1.2.1 p.1.2.2) p.2 ∧ okO p.2 := by
      intro i hin
      obtain ⟨cs', h1, h2⟩ := hi i (by omega)
      obtain ⟨p, rfl, h3, h4⟩ := prog_of h2
      rw [hc1, Nat.mul_one] at h1
      obtain ⟨_, _, hat⟩ := World.cells?_some h1
      have := hat 0 (by omega)
      rw [Addr.add_zero'] at this
      exact ⟨p, this, h3, h4⟩
    obtain ⟨l, hl1, hl2⟩ := list_of (P := fun (i : Nat) (p : (Option Addr × Nat × Nat) × List O) => w.cell? (a.add i) = some (.slice p.1.1 p.1.2.1 p.1.2.2) ∧ Sr kF w (.slice p.1.1 p.1.2.1 p.1.2.2) p.2 ∧ okO p.2) n each
    refine ⟨l.map (·.2), ⟨l.map (·.1), ⟨some a, c, by simp [hl1], by simp [hl1]; exact hl, hm, (fun e => by cases e), fun hp => ?_⟩, by simp, fun i h h' => ?_⟩, fun L hL => ?_⟩
    · have hn : 0 < l.length := by simpa using hp
      have c0 := (hl2 0 hn).1
      obtain ⟨b, o, s⟩ := a
      have hs : s = none := World.cell?_spot (a := ⟨b, o, s⟩) (by rw [Addr.add_zero'] at c0; exact c0)
      subst hs
      refine ⟨b, o, rfl, ?_, fun i j u hi hu => ?_⟩
      · rw [Addr.add_lit] at c0
        exact Args.cell_lt (p := ⟨b, _, none⟩) c0
      · have hi' : i < l.length := by simpa using hi
        have ci := (hl2 i hi').1
        rw [Addr.add_lit] at ci
        have hj : j = 0 := by
          rcases Nat.lt_or_ge j 1 with k | k
          · omega
          · rw [List.getElem?_eq_none (by simpa [kR] using k)] at hu; cases hu
        subst hj
        simp [kR] at hu
        subst hu
        simpa [kR] using ci
    · simpa using (hl2 i (by simpa using h)).2.1
    · obtain ⟨p, hp, rfl⟩ := List.mem_map.1 hL
      obtain ⟨i, hi, rfl⟩ := List.mem_iff_getElem.1 hp
      exact (hl2 i hi).2.2
end
end Go.Proofs.Ytapbhcpcechccaa.Fina
