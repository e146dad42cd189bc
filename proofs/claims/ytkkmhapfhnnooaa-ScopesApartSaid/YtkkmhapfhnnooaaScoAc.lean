/-
  Plain mathematics for ScopesApart: how often each word is counted; scopes of which none is entered; all that is free when all are unmade.
-/
import Derived.Test.YtkkmhapfhnnooaaScoK
namespace Go.Proofs.Ytkkmhapfhnnooaa.Sco
open Gm
set_option linter.unusedVariables false
set_option linter.unusedSimpArgs false

/-- Whether a point is in an extent, as a count. -/
def inC (a z p : Int) : Int := if a ≤ p ∧ p < a + z then 1 else 0
theorem inC_bd (a z p : Int) : 0 ≤ inC a z p ∧ inC a z p ≤ 1 := by
  unfold inC
  split <;> omega
def cX : List Cx → Int → Int
  | [], _ => 0
  | x :: r, p => inC x.a x.z p + cX r p
def cL : List E → Int → Int
  | [], _ => 0
  | e :: r, p => inC e.1 e.2 p + cL r p
theorem cX_app (l m : List Cx) (p : Int) : cX (l ++ m) p = cX l p + cX m p := by
  induction l with
  | nil => simp [cX]
  | cons x r ih => simp only [List.cons_append, cX, ih]; omega
theorem cL_app (l m : List E) (p : Int) : cL (l ++ m) p = cL l p + cL m p := by
  induction l with
  | nil => simp [cL]
  | cons x r ih => simp only [List.cons_append, cL, ih]; omega
theorem cX_bd (l : List Cx) (p : Int) : 0 ≤ cX l p ∧ cX l p ≤ l.length := by
  induction l with
  | nil => simp [cX]
  | cons x r ih =>
    have := inC_bd x.a x.z p
    simp only [cX, List.length_cons]
    omega
theorem cL_bd (l : List E) (p : Int) : 0 ≤ cL l p ∧ cL l p ≤ l.length := by
  induction l with
  | nil => simp [cL]
  | cons x r ih =>
    have := inC_bd x.1 x.2 p
    simp only [cL, List.length_cons]
    omega
/-- Of scopes from 1 to one less than k. -/
def cntR (R : List Cx) (k : Nat) (p : Int) : Int := cX ((R.take k).drop 1) p
def cntL (L : List E) (k : Nat) (p : Int) : Int := cL (L.take k) p
theorem cntR_one (R : List Cx) (p : Int) : cntR R 1 p = 0 := by
  unfold cntR
  rw [List.drop_eq_nil_of_le (by rw [List.length_take]; omega)]
  rfl
theorem cntR_next {R : List Cx} {k : Nat} {x : Cx} (hk : 1 ≤ k) (hx : R[k]? = some x) (p : Int) : cntR R (k + 1) p = cntR R k p + inC x.a x.z p := by
  obtain ⟨hl, hx⟩ := List.getElem?_eq_some_iff.1 hx
  unfold cntR
  rw [List.take_succ_eq_append_getElem hl, List.drop_append_of_le_length (by rw [List.length_take]; omega), cX_app, hx]
  simp [cX]
theorem cntL_zero (L : List E) (p : Int) : cntL L 0 p = 0 := rfl
theorem cntL_next {L : List E} {k : Nat} (hk : k < L.length) (p : Int) : cntL L (k + 1) p = cntL L k p + inC (L[k]).1 (L[k]).2 p := by
  unfold cntL
  rw [List.take_succ_eq_append_getElem hk, cL_app]
  simp [cL]
theorem cntR_bd (R : List Cx) (k : Nat) (p : Int) : 0 ≤ cntR R k p ∧ cntR R k p ≤ k := by
  unfold cntR
  have := cX_bd ((R.take k).drop 1) p
  have h : ((R.take k).drop 1).length ≤ k := by rw [List.length_drop, List.length_take]; omega
  omega
theorem cntL_bd (L : List E) (k : Nat) (p : Int) : 0 ≤ cntL L k p ∧ cntL L k p ≤ k := by
  unfold cntL
  have := cL_bd (L.take k) p
  have h : (L.take k).length ≤ k := by rw [List.length_take]; omega
  omega
/-- Of so many words from a place on. -/
def pin (a : Int) (m : Nat) (p : Int) : Int := inC a (8 * (m : Int)) p
theorem pin_zero (a p : Int) : pin a 0 p = 0 := by
  unfold pin inC
  rw [if_neg (by omega)]
theorem pin_next {A a : Int} {v m u : Nat} (ha : a = A + 8 * (v : Int)) : pin a (m + 1) (A + 8 * (u : Int)) = if u = v + m then pin a m (A + 8 * (u : Int)) + 1 else pin a m (A + 8 * (u : Int)) := by
  unfold pin inC
  by_cases e : u = v + m
  · rw [if_pos e, if_pos (by omega), if_neg (by omega)]
    rfl
  · rw [if_neg e]
    by_cases c : a ≤ A + 8 * (u : Int) ∧ A + 8 * (u : Int) < a + 8 * (m : Int)
    · rw [if_pos c, if_pos (by omega)]
    · rw [if_neg c, if_neg (by omega)]
theorem pin_at {A a : Int} {v m : Nat} (ha : a = A + 8 * (v : Int)) : pin a m (A + 8 * ((v + m : Nat) : Int)) = 0 := by
  unfold pin inC
  rw [if_neg (by omega)]
theorem pin_all {a z p : Int} {m : Nat} (h : z = 8 * (m : Int)) : pin a m p = inC a z p := by
  unfold pin
  rw [h]

theorem cX_none {l : List Cx} {p : Int} (h : ∀ (i : Nat) (x : Cx), l[i]? = some x → ¬ (x.a ≤ p ∧ p < x.a + x.z)) : cX l p = 0 := by
  induction l with
  | nil => rfl
  | cons x r ih =>
    have h0 := h 0 x rfl
    have := ih (fun i y hy => h (i + 1) y (by simpa using hy))
    simp only [cX, this]
    unfold inC
    rw [if_neg h0]
    rfl
theorem cX_once {l : List Cx} {p : Int} (h : ∃ (i : Nat) (x : Cx), l[i]? = some x ∧ x.a ≤ p ∧ p < x.a + x.z) (no : ∀ (i j : Nat) (x y : Cx), l[i]? = some x → l[j]? = some y → (x.a ≤ p ∧ p < x.a + x.z) → (y.a ≤ p ∧ p < y.a + y.z) → i = j) : cX l p = 1 := by
  induction l with
  | nil =>
    obtain ⟨i, x, hx, _⟩ := h
    simp at hx
  | cons x r ih =>
    by_cases c : x.a ≤ p ∧ p < x.a + x.z
    · have : cX r p = 0 := cX_none (fun i y hy q => by
        have := no 0 (i + 1) x y rfl (by simpa using hy) c q
        omega)
      simp only [cX, this]
      unfold inC
      rw [if_pos c]
      rfl
    · have : cX r p = 1 := ih (by
        obtain ⟨i, y, hy, q⟩ := h
        cases i with
        | zero =>
          have e : x = y := by simpa using hy
          subst e
          exact absurd q c
        | succ i => exact ⟨i, y, by simpa using hy, q⟩) (fun i j y u hy hu q1 q2 => by
          have := no (i + 1) (j + 1) y u (by simpa using hy) (by simpa using hu) q1 q2
          omega)
      simp only [cX, this]
      unfold inC
      rw [if_neg c]
      rfl
theorem cL_none {l : List E} {p : Int} (h : ¬ Mem p l) : cL l p = 0 := by
  induction l with
  | nil => rfl
  | cons e r ih =>
    rw [mem_cons] at h
    have := ih (fun m => h (.inr m))
    simp only [cL, this]
    unfold inC
    rw [if_neg (fun q => h (.inl q))]
    rfl
theorem cL_once : ∀ {l : List E} {lo p : Int}, Norm lo l → Mem p l → cL l p = 1
  | [], _, p, _, m => absurd m (mem_nil p)
  | e :: r, lo, p, h, m => by
    obtain ⟨h1, h2, h3⟩ := h
    by_cases c : e.1 ≤ p ∧ p < e.1 + e.2
    · have : cL r p = 0 := cL_none (fun q => by have := h3.ge q; omega)
      simp only [cL, this]
      unfold inC
      rw [if_pos c]
      rfl
    · have : cL r p = 1 := cL_once h3 ((mem_cons.1 m).resolve_left c)
      simp only [cL, this]
      unfold inC
      rw [if_neg c]
      rfl
section
variable {n : Nat} {A S I J : Int} {F : Fo}
/-- Each word of the heap is counted once. -/
theorem Inv.once (h : Inv n A S I J F) {p : Int} (h1 : A ≤ p) (h2 : p < A + S) : cntR F.R n p + cntL F.L F.L.length p = 1 := by
  have eR : cntR F.R n p = cX (F.R.drop 1) p := by unfold cntR; rw [← h.len, List.take_length]
  have eL : cntL F.L F.L.length p = cL F.L p := by unfold cntL; rw [List.take_length]
  rw [eR, eL]
  have dr : ∀ (i : Nat) (x : Cx), (F.R.drop 1)[i]? = some x → F.R[i + 1]? = some x := fun i x hx => by
    rw [List.getElem?_drop] at hx
    rw [Nat.add_comm]
    exact hx
  by_cases m : Mem p F.L
  · rw [cL_once h.ok.norm m, cX_none (fun i x hx q => h.apartL (i + 1) x p (dr i x hx) (by omega) q.1 q.2 m)]
    rfl
  · rw [cL_none m]
    rcases h.cover p h1 h2 with q | ⟨i, x, hx, hi, q1, q2⟩
    · exact absurd q m
    · rw [cX_once ⟨i - 1, x, by rw [List.getElem?_drop, show 1 + (i - 1) = i by omega]; exact hx, q1, q2⟩ (fun i j x y hx hy p1 p2 => by
        rcases Nat.lt_trichotomy i j with c | c | c
        · exact absurd p2 (h.apart (i + 1) (j + 1) x y p (dr i x hx) (dr j y hy) (by omega) (by omega) (by omega) p1.1 p1.2)
        · exact c
        · exact absurd p2 (h.apart (i + 1) (j + 1) x y p (dr i x hx) (dr j y hy) (by omega) (by omega) (by omega) p1.1 p1.2))]
      rfl
/-- No scope but the immortal one is within anyone. -/
def AtRest (F : Fo) : Prop := ∀ (i : Nat) (x : Cx), F.R[i]? = some x → 1 ≤ i → x.s = 0 ∨ x.s = 1
theorem calm_start (n : Nat) (A S I J : Int) : AtRest (start n A S I J) := by
  intro i x hx hi
  obtain ⟨k, rfl⟩ : ∃ k, i = k + 1 := ⟨i - 1, by omega⟩
  have : (List.replicate (n - 1) (⟨0, 0, -1, 0, 0, 0⟩ : Cx))[k]? = some x := by simpa [start] using hx
  rw [List.eq_of_mem_replicate (List.mem_of_getElem? this)]
  exact .inl rfl
theorem back_at {F G : Fo} (hl : F.R.length = G.R.length) {i : Nat} {y : Cx} (hy : G.R[i]? = some y) : ∃ x, F.R[i]? = some x := by
  have := (List.getElem?_eq_some_iff.1 hy).1
  exact ⟨_, List.getElem?_eq_getElem (by omega)⟩
theorem AtRest.create (h : Inv n A S I J F) (c : AtRest F) (z : Int) : AtRest (createV F z).F := by
  intro i y hy hi
  obtain ⟨x, hx⟩ := back_at (F := F) (by rw [h.len, (h.create z).len]) hy
  obtain ⟨y', hy', q⟩ := create_life z i x hx
  rw [hy] at hy'
  injection hy' with e
  subst e
  rcases q with rfl | ⟨_, _, q⟩
  · exact c i _ hx hi
  · rcases q with ⟨_, _, e, _⟩ | ⟨e, _⟩ | ⟨e, _⟩ | ⟨e, _⟩ | ⟨e, _⟩ | ⟨e, _⟩ | ⟨e, _⟩ | ⟨e, _⟩
    · exact .inr e
    all_goals first | (exact absurd e (by decide)) | (rcases e with e | e <;> exact absurd e (by decide))
theorem AtRest.destroy (h : Inv n A S I J F) (c : AtRest F) (s : Int) : AtRest (destroyV F s).F := by
  intro i y hy hi
  obtain ⟨x, hx⟩ := back_at (F := F) (by rw [h.len, (h.destroy s).len]) hy
  obtain ⟨y', hy', q⟩ := destroy_life s i x hx
  rw [hy] at hy'
  injection hy' with e
  subst e
  rcases q with rfl | ⟨_, _, q⟩
  · exact c i _ hx hi
  · rcases q with ⟨e, _⟩ | ⟨_, _, e, _⟩ | ⟨e, _⟩ | ⟨e, _⟩ | ⟨e, _⟩ | ⟨e, _⟩ | ⟨e, _⟩ | ⟨e, _⟩
    · exact absurd e (by decide)
    · exact .inl e
    all_goals first | (exact absurd e (by decide)) | (rcases e with e | e <;> exact absurd e (by decide))
/-- A scope is unmade: it is free. -/
theorem destroy_free (h : Inv n A S I J F) (c : AtRest F) (k : Nat) (hk : 1 ≤ k) {y : Cx} (hy : (destroyV F (k : Int)).F.R[k]? = some y) : y.s = 0 := by
  obtain ⟨x, hx⟩ := back_at (F := F) (by rw [h.len, (h.destroy _).len]) hy
  have hl : look F.R (k : Int) = some x := by
    unfold look
    rw [if_pos (by omega), Int.toNat_natCast]
    exact hx
  unfold destroyV at hy
  rw [hl] at hy
  rcases c k x hx hk with s0 | s1
  · simp only [s0, if_true] at hy
    rw [hx] at hy
    injection hy with e
    rw [← e]
    exact s0
  · simp only [s1, if_true] at hy
    simp only [show ¬ ((1 : Int) = 0) by decide, if_false, Int.toNat_natCast] at hy
    rw [set_get (List.getElem?_eq_some_iff.1 hx).1] at hy
    injection hy with e
    rw [← e]
    rfl
/-- Those from 1 to one less than k are free. -/
def Gone (F : Fo) (k : Nat) : Prop := ∀ (i : Nat) (x : Cx), F.R[i]? = some x → 1 ≤ i → i < k → x.s = 0
theorem Gone.destroy (h : Inv n A S I J F) (c : AtRest F) {k : Nat} (hk : 1 ≤ k) (g : Gone F k) : Gone (destroyV F (k : Int)).F (k + 1) := by
  intro i y hy hi hik
  by_cases e : i = k
  · subst e
    exact destroy_free h c i hk hy
  · obtain ⟨x, hx⟩ := back_at (F := F) (by rw [h.len, (h.destroy _).len]) hy
    obtain ⟨y', hy', q⟩ := destroy_life (k : Int) i x hx
    rw [hy] at hy'
    injection hy' with e'
    subst e'
    rcases q with rfl | ⟨_, e', _⟩
    · exact g i _ hx hi (by omega)
    · omega
/-- All is free, and one extent, or none. -/
theorem Inv.whole (h : Inv n A S I J F) (g : Gone F n) : F.L = if S = 0 then [] else [(A, S)] := by
  have hm : ∀ p, Mem p F.L ↔ A ≤ p ∧ p < A + S := fun p => by
    constructor
    · exact fun m => h.ok.in_ m
    · intro q
      rcases h.cover p q.1 q.2 with m | ⟨i, x, hx, hi, q1, q2⟩
      · exact m
      · have hs := g i x hx hi (by have := (List.getElem?_eq_some_iff.1 hx).1; rw [h.len] at this; exact this)
        rcases h.ext i x hx hi with e | e
        · omega
        · exact absurd hs e.1
  have s0 := h.ok.s0
  by_cases c : S = 0
  · rw [if_pos c]
    cases hL : F.L with
    | nil => rfl
    | cons e r =>
      have hn := h.ok.norm
      rw [hL] at hn
      have := (hm e.1).1 (by rw [hL]; exact mem_cons.2 (.inl ⟨Int.le_refl _, by have := hn.2.1; omega⟩))
      omega
  · rw [if_neg c]
    refine uniq h.ok.norm (show Norm A [(A, S)] from ⟨Int.le_refl _, by show 0 < S; omega, trivial⟩) (fun p => ?_)
    rw [hm, mem_cons]
    exact ⟨fun q => .inl q, fun q => q.resolve_right (mem_nil p)⟩
end
end Go.Proofs.Ytkkmhapfhnnooaa.Sco
