/-
  Plain mathematics for GroundApart and GroundTurns: extents that are held, disjoint and not free; given back one by one, in whatever order.
-/
import Derived.Test.YtnekbbdodhokbaaGives
namespace Go.Proofs.Ytnekbbdodhokbaa.Gr
open Go.ChangeShapes Go.WideShapes Go.ChangeAt Go.RowKit Gm
set_option linter.unusedVariables false

def In (p : Int) (e : E) : Prop := e.1 ≤ p ∧ p < e.1 + e.2
/-- What is held beside what is free. -/
structure Inv (L H : List E) : Prop where
  ok : Ok 80 400 L
  each : ∀ e ∈ H, 0 < e.2 ∧ e.2 % 8 = 0 ∧ e.1 % 8 = 0 ∧ 80 ≤ e.1 ∧ e.1 + e.2 ≤ 480
  apart : ∀ i j (hi : i < H.length) (hj : j < H.length) p, In p H[i] → In p H[j] → i = j
  out : ∀ e ∈ H, ∀ p, In p e → ¬ Mem p L
theorem Inv.start {L : List E} (ok : Ok 80 400 L) : Inv L [] :=
  ⟨ok, (fun e he => by cases he), (fun i j hi _ => by simp at hi), (fun e he => by cases he)⟩
theorem Inv.less {L L' H : List E} (h : Inv L H) (ok : Ok 80 400 L') (k : ∀ p, Mem p L' → Mem p L) : Inv L' H :=
  ⟨ok, h.each, h.apart, fun e he p hp m => h.out e he p hp (k p m)⟩
theorem Inv.more {L L' H : List E} {e : E} (h : Inv L H) (ok : Ok 80 400 L') (k : ∀ p, Mem p L' → Mem p L) (h1 : 0 < e.2 ∧ e.2 % 8 = 0 ∧ e.1 % 8 = 0 ∧ 80 ≤ e.1 ∧ e.1 + e.2 ≤ 480) (h2 : ∀ p, In p e → Mem p L) (h3 : ∀ p, In p e → ¬ Mem p L') : Inv L' (H ++ [e]) := by
  refine ⟨ok, fun x hx => ?_, fun i j hi hj p hp hq => ?_, fun x hx p hp m => ?_⟩
  · rcases List.mem_append.1 hx with hx | hx
    · exact h.each x hx
    · have : x = e := by simpa using hx
      subst this
      exact h1
  · have hl : (H ++ [e]).length = H.length + 1 := by simp
    by_cases ci : i < H.length
    · rw [List.getElem_append_left ci] at hp
      by_cases cj : j < H.length
      · rw [List.getElem_append_left cj] at hq
        exact h.apart i j ci cj p hp hq
      · have ej : j = H.length := by omega
        subst ej
        have hq' : In p e := by simpa using hq
        exact absurd (h2 p hq') (h.out _ (List.getElem_mem ci) p hp)
    · have ei : i = H.length := by omega
      subst ei
      have hp' : In p e := by simpa using hp
      by_cases cj : j < H.length
      · rw [List.getElem_append_left cj] at hq
        exact absurd (h2 p hp') (h.out _ (List.getElem_mem cj) p hq)
      · omega
  · rcases List.mem_append.1 hx with hx | hx
    · exact h.out x hx p hp (k p m)
    · have : x = e := by simpa using hx
      subst this
      exact h3 p hp m
/-- What Carve makes of it. -/
theorem Inv.carve {L H : List E} (h : Inv L H) (z : Int) : Inv (carveF z L) H ∧ (carveB z L = true → Inv (carveF z L) (H ++ [(carveV z L, z)])) := by
  have hok := ok_carve (z := z) h.ok
  cases hb : carveB z L with
  | false =>
    have e : carveF z L = L := by unfold carveF; rw [if_neg (by rw [hb]; decide)]
    rw [e]
    exact ⟨h, fun x => by cases x⟩
  | true =>
    have e : carveF z L = carveL z L := by unfold carveF; rw [if_pos hb]
    have ev : carveV z L = carveA z L := by unfold carveV; rw [if_pos hb]
    unfold carveB at hb
    rw [Bool.and_eq_true] at hb
    have ⟨s1, s2⟩ : 0 < z ∧ z % 8 = 0 := of_decide_eq_true hb.1
    have hm := carve_mem s1 h.ok.norm hb.2
    rw [e] at hok ⊢
    obtain ⟨x, hx, x1, x2⟩ := carve_in hb.2
    have xb := h.ok.mem hx
    refine ⟨h.less hok fun p m => ((hm p).1 m).1, fun _ => ?_⟩
    rw [ev]
    refine h.more hok (fun p m => ((hm p).1 m).1) ?_ (fun p hp => carve_sub hb.2 hp.1 hp.2) fun p hp m => ((hm p).1 m).2 hp
    show 0 < z ∧ z % 8 = 0 ∧ carveA z L % 8 = 0 ∧ 80 ≤ carveA z L ∧ carveA z L + z ≤ 480
    omega

/-- What is free when k of them were given back, in the order s. -/
structure Gv (L0 H : List E) (s : Nat → Nat) (k : Nat) (L : List E) : Prop where
  ok : Ok 80 400 L
  mem : ∀ p, Mem p L ↔ Mem p L0 ∨ ∃ j, j < k ∧ ∃ h : s j < H.length, In p H[s j]
theorem Gv.start {L0 H : List E} {s : Nat → Nat} (h : Inv L0 H) : Gv L0 H s 0 L0 :=
  ⟨h.ok, fun p => ⟨.inl, fun x => x.elim id fun ⟨j, hj, _⟩ => absurd hj (by omega)⟩⟩
theorem Gv.step {L0 H L : List E} {s : Nat → Nat} {k : Nat} (h : Inv L0 H) (hi : ∀ i j, i < H.length → j < H.length → s i = s j → i = j) (g : Gv L0 H s k L) (hk : k < H.length) (hs : s k < H.length) :
    giveE 80 400 L (H[s k]).1 (H[s k]).2 = 0 ∧ Gv L0 H s (k + 1) (giveF 80 400 L (H[s k]).1 (H[s k]).2) ∧ giveE 80 400 (giveF 80 400 L (H[s k]).1 (H[s k]).2) (H[s k]).1 (H[s k]).2 = 1 ∧ giveF 80 400 (giveF 80 400 L (H[s k]).1 (H[s k]).2) (H[s k]).1 (H[s k]).2 = giveF 80 400 L (H[s k]).1 (H[s k]).2 := by
  have he := h.each _ (List.getElem_mem hs)
  have hno : ∀ p, In p H[s k] → ¬ Mem p L := by
    intro p hp m
    rcases (g.mem p).1 m with m | ⟨j, hj, hs', hq⟩
    · exact h.out _ (List.getElem_mem hs) p hp m
    · have := hi j k (by omega) hk (h.apart _ _ hs' hs p hq hp)
      omega
  have hin : ∀ p, In p H[s k] ↔ (H[s k]).1 ≤ p ∧ p < (H[s k]).1 + (H[s k]).2 := fun p => Iff.rfl
  generalize hx : H[s k] = x at *
  have hbad : bad x.1 (x.1 + x.2) L = false := by
    cases hb : bad x.1 (x.1 + x.2) L with
    | false => rfl
    | true =>
      obtain ⟨p, p1, p2, pm⟩ := (bad_mem (by omega) g.ok.norm).1 hb
      exact absurd pm (hno p ⟨p1, p2⟩)
  have hB : giveB 80 400 L x.1 x.2 = true := by
    unfold giveB
    rw [show sizeB x.2 = true from decide_eq_true ⟨he.1, he.2.1⟩, decide_eq_true he.2.2.1, show hasB 80 400 x.1 x.2 = true from decide_eq_true (by omega), hbad]
    rfl
  have hF : giveF 80 400 L x.1 x.2 = giveL x.1 (x.1 + x.2) L := by unfold giveF; rw [if_pos hB]
  obtain ⟨k1, k2, k3⟩ := g.ok.give (a := x.1) (b := x.1 + x.2) (by omega) (by omega) (by omega) (by omega) (by omega) hbad
  have hB2 : giveB 80 400 (giveL x.1 (x.1 + x.2) L) x.1 x.2 = false := by
    unfold giveB
    rw [(bad_mem (by omega) k1.norm).2 ⟨x.1, Int.le_refl _, by omega, (k2 _).2 (.inr ⟨Int.le_refl _, by omega⟩)⟩]
    simp
  refine ⟨by unfold giveE; rw [if_pos hB], ?_, ?_, ?_⟩
  · rw [hF]
    refine ⟨k1, fun p => ?_⟩
    rw [k2 p, g.mem p]
    constructor
    · rintro ((m | ⟨j, hj, hs', hq⟩) | m)
      · exact .inl m
      · exact .inr ⟨j, by omega, hs', hq⟩
      · exact .inr ⟨k, by omega, hs, by rw [hx]; exact m⟩
    · rintro (m | ⟨j, hj, hs', hq⟩)
      · exact .inl (.inl m)
      · by_cases c : j = k
        · subst c
          rw [hx] at hq
          exact .inr hq
        · exact .inl (.inr ⟨j, by omega, hs', hq⟩)
  · rw [hF]
    exact (give_no hB2).1
  · rw [hF]
    exact (give_no hB2).2
/-- All of them: the order does not matter. -/
theorem Gv.all {L0 H L M : List E} {s t : Nat → Nat} (g : Gv L0 H s H.length L) (g' : Gv L0 H t H.length M) (hs : ∀ i, i < H.length → ∃ j, j < H.length ∧ s j = i) (ht : ∀ i, i < H.length → ∃ j, j < H.length ∧ t j = i) : L = M := by
  refine uniq g.ok.norm g'.ok.norm fun p => ?_
  rw [g.mem p, g'.mem p]
  constructor
  · rintro (m | ⟨j, hj, h1, h2⟩)
    · exact .inl m
    · obtain ⟨j', hj', e⟩ := ht (s j) h1
      refine .inr ⟨j', hj', by rw [e]; exact h1, ?_⟩
      simp only [e]
      exact h2
  · rintro (m | ⟨j, hj, h1, h2⟩)
    · exact .inl m
    · obtain ⟨j', hj', e⟩ := hs (t j) h1
      refine .inr ⟨j', hj', by rw [e]; exact h1, ?_⟩
      simp only [e]
      exact h2

theorem mul_gap {m a b : Nat} (h : a < b) : m * a + m ≤ m * b := by
  have : m * (a + 1) ≤ m * b := Nat.mul_le_mul_left m h
  rw [Nat.mul_add, Nat.mul_one] at this
  exact this
theorem mod_inj {m x y : Nat} (hxy : x < y + m) (hyx : y < x + m) (e : x % m = y % m) : x = y := by
  have h1 := Nat.div_add_mod x m
  have h2 := Nat.div_add_mod y m
  rcases Nat.lt_trichotomy (x / m) (y / m) with c | c | c
  · have := mul_gap (m := m) c
    omega
  · rw [c] at h1
    omega
  · have := mul_gap (m := m) c
    omega
def up (m f j : Nat) : Nat := (j + f) % m
def down (m f j : Nat) : Nat := (m - 1 - j + f) % m
theorem up_lt {m f j : Nat} (h : 0 < m) : up m f j < m := Nat.mod_lt _ h
theorem down_lt {m f j : Nat} (h : 0 < m) : down m f j < m := Nat.mod_lt _ h
theorem up_inj {m f i j : Nat} (hi : i < m) (hj : j < m) (e : up m f i = up m f j) : i = j := by
  have := mod_inj (by omega) (by omega) e
  omega
theorem down_inj {m f i j : Nat} (hi : i < m) (hj : j < m) (e : down m f i = down m f j) : i = j := by
  have := mod_inj (by omega) (by omega) e
  omega
theorem down_sur {m f t : Nat} (h : t < m) : ∃ j, j < m ∧ down m f j = t := by
  refine ⟨(m - 1 + f - t) % m, Nat.mod_lt _ (by omega), ?_⟩
  have h1 := Nat.div_add_mod (m - 1 + f - t) m
  have h2 := Nat.mod_lt (m - 1 + f - t) (by omega : 0 < m)
  unfold down
  have e : m - 1 - (m - 1 + f - t) % m + f = t + m * ((m - 1 + f - t) / m) := by omega
  rw [e, Nat.add_mul_mod_self_left, Nat.mod_eq_of_lt h]
theorem up_sur {m f t : Nat} (h : t < m) : ∃ j, j < m ∧ up m f j = t := by
  refine ⟨(t + (m * f - f)) % m, Nat.mod_lt _ (by omega), ?_⟩
  unfold up
  have h1 : f ≤ m * f := by
    have := Nat.mul_le_mul_right f (show 1 ≤ m by omega)
    omega
  rw [Nat.mod_add_mod, show t + (m * f - f) + f = t + m * f by omega, Nat.add_mul_mod_self_left, Nat.mod_eq_of_lt h]
end Go.Proofs.Ytnekbbdodhokbaa.Gr
