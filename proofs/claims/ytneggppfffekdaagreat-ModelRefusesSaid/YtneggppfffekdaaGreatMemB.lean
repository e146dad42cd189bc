/-
  A model in memory: each store, and what it leaves; what a walk carries (Mh: where all stands, and local blocks beside it; Mw: the same of a model's state).
-/
import Derived.Test.YtneggppfffekdaaGreatMem
namespace Go.Proofs.YtneggppfffekdaaGreat.Mod
open Go.ChangeShapes Go.WideShapes Go.ChangeAt Go.RowKit
open Slic Sco
set_option linter.unusedVariables false

theorem zip_set {α β : Type} : ∀ (A : List α) (B : List β) (i : Nat) (a : α) (b : β), (A.zip B).set i (a, b) = (A.set i a).zip (B.set i b)
  | [], B, i, a, b => by simp
  | x :: A, [], i, a, b => by cases i <;> simp
  | x :: A, y :: B, 0, a, b => by simp
  | x :: A, y :: B, i + 1, a, b => by simp [zip_set A B i a b]
theorem set_same {α : Type} {A : List α} {i : Nat} {a : α} (h : A[i]? = some a) : A.set i a = A := by
  apply List.ext_getElem?
  intro j
  rw [List.getElem?_set]
  split
  · rename_i e
    subst e
    split
    · exact h.symm
    · rename_i c
      rw [List.getElem?_eq_none (by omega)]
  · rfl
theorem get_setL {α : Type} {A : List α} {k i : Nat} {y x : α} (h : (A.set k y)[i]? = some x) : (i = k ∧ x = y ∧ k < A.length) ∨ (i ≠ k ∧ A[i]? = some x) := by
  rw [List.getElem?_set] at h
  split at h
  · rename_i e
    split at h
    · injection h with h
      exact .inl ⟨e.symm, h.symm, by assumption⟩
    · cases h
  · rename_i e
    exact .inr ⟨fun q => e q.symm, h⟩
theorem zip_get {α β : Type} {A : List α} {B : List β} {i : Nat} {a : α} {b : β} (ha : A[i]? = some a) (hb : B[i]? = some b) : (A.zip B)[i]? = some (a, b) := by
  rw [List.getElem?_zip_eq_some]
  exact ⟨ha, hb⟩
/-- One cell of a row of one's own is stored. -/
theorem own_put {α : Type} {K : Kd α} {w : World} {base g n c : Nat} {L : List α} (h : Own K w base (.slice (some ⟨g, 0, none⟩) n c) L) (i j : Nat) {y : α} (hy : L[i]? = some y) (hj : j < K.m) (x : α) (v : Value) (hx : K.enc x = (K.enc y).set j v) :
    Own K (w.setCell ⟨g, i * K.m + j, none⟩ v) base (.slice (some ⟨g, 0, none⟩) n c) (L.set i x) := by
  obtain ⟨hi, hy⟩ := List.getElem?_eq_some_iff.1 hy
  have hn : L.length = n := by
    obtain ⟨A, c', e, _⟩ := h.sr
    injection e with _ e _
    exact e.symm
  subst hn
  subst hy
  exact (h.put i j hi hj x v hx).1
/-- The cells of an element of a row of one's own. -/
theorem own_at {α : Type} {K : Kd α} {w : World} {base g n c : Nat} {L : List α} (h : Own K w base (.slice (some ⟨g, 0, none⟩) n c) L) (i : Nat) {y : α} (hy : L[i]? = some y) :
    (∀ j u, (K.enc y)[j]? = some u → w.cell? ⟨g, i * K.m + j, none⟩ = some u) ∧ ∀ o, w.frozen? ⟨g, o, none⟩ = false := by
  obtain ⟨hi, hy⟩ := List.getElem?_eq_some_iff.1 hy
  have hn : L.length = n := by
    obtain ⟨A, c', e, _⟩ := h.sr
    injection e with _ e _
    exact e.symm
  subst hn
  subst hy
  obtain ⟨g', c', e, _, _, _, _, hf, hc⟩ := h.form (by omega)
  injection e with e
  injection e with e
  injection e with e
  subst e
  exact ⟨fun j u hu => hc i j u hi hu, hf⟩
section
variable {w w' : World} {Z : Fx} {H : Hp} {G : Gs}
theorem Mg.thAt (h : Mg w Z H G) {t : Nat} (ht : t < Z.nt) : ∃ th x, G.T[t]? = some th ∧ H.tm[t]? = some x := by
  have h1 := h.nT
  have h2 := h.tml
  exact ⟨G.T[t], H.tm[t], List.getElem?_eq_getElem (by omega), List.getElem?_eq_getElem (by omega)⟩
/-- A register is stored. -/
theorem Mg.reg (h : Mg w Z H G) (t : Nat) {th : Th} (ht : G.T[t]? = some th) (j : Nat) (hj : j < 4) (v : Int) :
    Mg (w.setCell ⟨Z.bt, t * 5 + j, none⟩ (.int .u64 v)) Z H ⟨G.F, G.A, G.T.set t ⟨setR th.r j v, th.c⟩, G.O, G.f, G.hh, G.c⟩ := by
  obtain ⟨x, hx⟩ := get_zip ht (by rw [h.tml, h.nT])
  have e : kT.enc (⟨setR th.r j v, th.c⟩, x) = (kT.enc (th, x)).set j (.int .u64 v) := by
    have : j = 0 ∨ j = 1 ∨ j = 2 ∨ j = 3 := by omega
    rcases this with rfl | rfl | rfl | rfl <;> rfl
  have s := own_put h.thr t j (zip_get ht hx) (show j < 5 by omega) (⟨setR th.r j v, th.c⟩, x) (.int .u64 v) e
  rw [zip_set, set_same hx] at s
  refine h.threads (Only.put w _ _ _ (by simp)) (by rw [List.length_set]; exact h.nT) h.tml s fun i t' x' h1 h2 => ?_
  rcases get_setL h1 with ⟨rfl, rfl, _⟩ | ⟨_, h1⟩
  · exact h.ent _ th x' ht h2
  · exact h.ent i t' x' h1 h2
/-- Entries are stored. -/
theorem Mg.ents (h : Mg w Z H G) (t : Nat) {th : Th} (ht : G.T[t]? = some th) (x : Tri) {L : List Chain.E} (hL : Own kE w 0 (sl3 x) L) :
    Mg (w.setCell ⟨Z.bt, t * 5 + 4, none⟩ (sl3 x)) Z ⟨H.tm.set t x, H.am, H.om⟩ ⟨G.F, G.A, G.T.set t ⟨th.r, L⟩, G.O, G.f, G.hh, G.c⟩ := by
  obtain ⟨y, hy⟩ := get_zip ht (by rw [h.tml, h.nT])
  have s := own_put h.thr t 4 (zip_get ht hy) (show 4 < 5 by omega) (⟨th.r, L⟩, x) (sl3 x) rfl
  rw [zip_set] at s
  refine h.threads (Only.put w _ _ _ (by simp)) (by rw [List.length_set]; exact h.nT) (by rw [List.length_set]; exact h.tml) s fun i t' x' h1 h2 => ?_
  rcases get_setL h1 with ⟨rfl, rfl, _⟩ | ⟨hne, h1⟩
  · rcases get_setL h2 with ⟨_, rfl, _⟩ | ⟨hne, _⟩
    · exact hL
    · exact absurd rfl hne
  · rcases get_setL h2 with ⟨e, _, _⟩ | ⟨_, h2⟩
    · exact absurd e hne
    · exact h.ent i t' x' h1 h2
/-- A portal, or how much is used, is stored. -/
theorem Mg.are (h : Mg w Z H G) (s : Nat) {a : Ar} (ha : G.A[s]? = some a) (j : Nat) (hj : j < 2) (b : Ar) (v : Value) (hv : ∀ x : Tri, kA.enc (b, x) = (kA.enc (a, x)).set j v) :
    Mg (w.setCell ⟨Z.ba, s * 3 + j, none⟩ v) Z H ⟨G.F, G.A.set s b, G.T, G.O, G.f, G.hh, G.c⟩ := by
  obtain ⟨x, hx⟩ := get_zip ha (by rw [h.aml, h.nA])
  have p := own_put h.ars s j (zip_get ha hx) (show j < 3 by omega) (b, x) v (hv x)
  rw [zip_set, set_same hx] at p
  exact h.areas (Only.put w _ _ _ (by simp)) (by rw [List.length_set]; exact h.nA) h.aml p h.hnd h.dAA h.dAO
/-- A row of handles that has grown is stored. -/
theorem Mg.hand (h : Mg w Z H G) (s : Nat) {a : Ar} (ha : G.A[s]? = some a) {y x : Tri} (hy : H.am[s]? = some y) {w1 : World} {L : List Int} (k : w.grownBy w1 (ob y)) (hL : Own Fina.kU w1 0 (sl3 x) L) (hx : ob x = ob y ∨ ob x = some w.heap.size) :
    Mg (w1.setCell ⟨Z.ba, s * 3 + 2, none⟩ (sl3 x)) Z ⟨H.tm, H.am.set s x, H.om⟩ ⟨G.F, G.A, G.T, G.O, G.f, fun i => if i = s then L else G.hh i, G.c⟩ := by
  have tk : ∀ b, ob y = some b → isT w b 50 := fun b e => own_isT (h.hnd s y hy) e
  have hwr : ∀ b, ob y = some b → wr Z H b := fun b e => wr_am hy e
  -- what has changed since
  have O1 : Only (ob y).toList w w1 := ⟨k.os, k.tape, k.output, k.size, fun i hi hx => k.block i hi fun e => hx (by simp [← e])⟩
  have O2 : Only (Z.ba :: (ob y).toList) w (w1.setCell ⟨Z.ba, s * 3 + 2, none⟩ (sl3 x)) := (O1.mono fun _ h => List.mem_cons_of_mem _ h).trans (Only.put w1 _ _ _ (by simp))
  have mem : ∀ b ∈ Z.ba :: (ob y).toList, b = Z.ba ∨ ob y = some b := fun b hb => by simpa using hb
  have hX : ∀ b ∈ Z.ba :: (ob y).toList, ∀ t ∈ rdT, noT w b t := fun b hb t ht => by
    refine h.wr_no ?_ ht
    rcases mem b hb with rfl | e
    · exact .inr (.inr (.inr (.inl rfl)))
    · exact hwr b e
  have ne : ∀ {b : Nat} {t : TypeId}, isT w b t → (138 == t) = false → (50 == t) = false → b ∉ Z.ba :: (ob y).toList := fun {b t} hb h1 h2 hx => by
    rcases mem b hx with rfl | e
    · exact (h.ta.no h1).ne hb rfl
    · exact ((tk b e).no h2).ne hb rfl
  -- the areas' row
  have ar1 : Own kA w1 0 (.slice (some ⟨Z.ba, 0, none⟩) Z.n Z.n) (G.A.zip H.am) := h.k_ars O1 fun hb => by
    have hb : ob y = some Z.ba := by simpa using hb
    exact (h.ta.no (show (138 == 50) = false by decide)).ne (tk _ hb) rfl
  have p := own_put ar1 s 2 (zip_get ha hy) (show 2 < 3 by omega) (a, x) (sl3 x) rfl
  rw [zip_set, set_same ha] at p
  have hba : ∀ b, ob x = some b → b ≠ Z.ba := fun b e => by
    rintro rfl
    rcases hx with q | q
    · exact (h.ta.no (show (138 == 50) = false by decide)).ne (tk _ (q ▸ e)) rfl
    · rw [q] at e
      have := h.ta.lt
      injection e with e
      omega
  have hold : ∀ b, wr Z H b → ob x = some b → ob y = some b := fun b hb e => by
    rcases hx with q | q
    · exact q ▸ e
    · rw [q] at e
      have := h.wr_lt hb
      injection e with e
      omega
  exact {
    sc := h.k_sc O2 (ne h.tB (by decide) (by decide)) (ne h.tg (by decide) (by decide)) hX
    fins := h.k_fins O2 hX
    nA := h.nA
    nT := h.nT
    tml := h.tml
    aml := by show (H.am.set s x).length = Z.n; rw [List.length_set]; exact h.aml
    oml := h.oml
    thr := h.k_thr O2 (ne h.tt (by decide) (by decide))
    ent := h.k_ent O2 hX
    ars := p
    hnd := fun i z hi => by
      show Own _ _ _ _ (if i = s then L else G.hh i)
      rcases get_setL hi with ⟨rfl, rfl, _⟩ | ⟨hne, hi⟩
      · rw [if_pos rfl]
        exact own_off hL (Only.put (X := [Z.ba]) w1 _ _ _ (by simp)) fun b hb e => hba b e (List.mem_singleton.1 hb)
      · rw [if_neg hne]
        refine h.k_hnd O2 i z hi fun b hb e => ?_
        rcases mem b hb with rfl | e'
        · exact (h.ta.no (show (138 == 50) = false by decide)).ne (h.areAt (List.mem_of_getElem? hi) e) rfl
        · exact hne (h.dAA i s z y b hi hy e e')
    obj := fun i o q ho hq => h.k_obj O2 i o q ho hq (ne (h.objAt (List.mem_of_getElem? hq)).1 (by decide) (by decide))
    slo := fun i o q ho hq => h.k_slo O2 i o q ho hq fun b hb e => by
      rcases mem b hb with rfl | e'
      · exact (h.ta.no (show (138 == 50) = false by decide)).ne ((h.objAt (List.mem_of_getElem? hq)).2 _ e) rfl
      · exact h.dAO y (List.mem_of_getElem? hy) q (List.mem_of_getElem? hq) b e' e
    map := h.k_map O2 fun hb => by
      rcases mem _ hb with e | e
      · obtain ⟨cs, e'⟩ := h.ta
        rw [← e] at e'
        exact h.map.noT _ _ _ e'
      · obtain ⟨cs, e'⟩ := tk _ e
        exact h.map.noT _ _ _ e'
    dAA := fun i j u v b hi hj e1 e2 => by
      rcases get_setL hi with ⟨rfl, rfl, _⟩ | ⟨hni, hi'⟩
      · rcases get_setL hj with ⟨rfl, _, _⟩ | ⟨hnj, hj'⟩
        · rfl
        · exact h.dAA i j y v b hy hj' (hold b (wr_am (H := H) hj' e2) e1) e2
      · rcases get_setL hj with ⟨rfl, rfl, _⟩ | ⟨hnj, hj'⟩
        · exact h.dAA i j u y b hi' hy e1 (hold b (wr_am (H := H) hi' e1) e2)
        · exact h.dAA i j u v b hi' hj' e1 e2
    dO := h.dO
    dAO := fun u hu q hq b e1 e2 => by
      obtain ⟨i, hi⟩ := List.mem_iff_getElem?.1 hu
      obtain ⟨j, hj⟩ := List.mem_iff_getElem?.1 hq
      rcases get_setL hi with ⟨rfl, rfl, _⟩ | ⟨_, hi⟩
      · exact h.dAO y (List.mem_of_getElem? hy) q hq b (hold b (wr_sl (H := H) hj e2) e1) e2
      · exact h.dAO u (List.mem_of_getElem? hi) q hq b e1 e2 }
/-- A new object. -/
theorem Mg.newob (h : Mg w Z H G) (k : Below w.heap.size w w') (o : Ob) (b : Nat) (x : Tri) (hb : w.heap.size ≤ b) (ho : w'.heap[b]? = some (.cells (obV o x).toArray 142 (0, 0))) (hx : Own Fina.kU w' 0 (sl3 x) o.sl) (hq : ∀ q, ob x = some q → w.heap.size ≤ q) :
    Mg w' Z ⟨H.tm, H.am, H.om ++ [(b, x)]⟩ ⟨G.F, G.A, G.T, G.O ++ [o], G.f, G.hh, G.c⟩ := by
  have h' := h.below k
  have last : ∀ (i : Nat) o' p', (G.O ++ [o])[i]? = some o' → (H.om ++ [(b, x)])[i]? = some p' → (G.O[i]? = some o' ∧ H.om[i]? = some p') ∨ (o' = o ∧ p' = (b, x)) := fun i o' p' h1 h2 => by
    have hl := h.oml
    rw [List.getElem?_append] at h1 h2
    by_cases c : i < G.O.length
    · rw [if_pos c] at h1
      rw [if_pos (by omega)] at h2
      exact .inl ⟨h1, h2⟩
    · rw [if_neg c] at h1
      rw [if_neg (by omega)] at h2
      rw [hl] at h2
      cases hi : i - G.O.length with
      | zero =>
        rw [hi] at h1 h2
        exact .inr ⟨by simpa using h1.symm, by simpa using h2.symm⟩
      | succ n =>
        rw [hi] at h1
        simp at h1
  exact {
    sc := h'.sc
    fins := h'.fins
    nA := h'.nA
    nT := h'.nT
    tml := h'.tml
    aml := h'.aml
    oml := by simp [h.oml]
    thr := h'.thr
    ent := h'.ent
    ars := h'.ars
    hnd := h'.hnd
    obj := fun i o' p' h1 h2 => by
      rcases last i o' p' h1 h2 with ⟨h1, h2⟩ | ⟨rfl, rfl⟩
      · exact h'.obj i o' p' h1 h2
      · exact ho
    slo := fun i o' p' h1 h2 => by
      rcases last i o' p' h1 h2 with ⟨h1, h2⟩ | ⟨rfl, rfl⟩
      · exact h'.slo i o' p' h1 h2
      · exact hx
    map := h'.map
    dAA := h'.dAA
    dO := by
      refine List.pairwise_append.2 ⟨h.dO, by simp, fun p hp q hq' => ?_⟩
      obtain rfl := List.mem_singleton.1 hq'
      obtain ⟨i, hi⟩ := List.mem_iff_getElem?.1 hp
      refine ⟨fun e => ?_, fun c e1 e2 => ?_⟩
      · have := h.wr_lt (wr_om hi)
        have e' : p.1 = b := e
        omega
      · have := h.wr_lt (wr_sl hi e1)
        have := hq c e2
        omega
    dAO := fun u hu q hq' c e1 e2 => by
      rcases List.mem_append.1 hq' with hq' | hq'
      · exact h.dAO u hu q hq' c e1 e2
      · obtain rfl := List.mem_singleton.1 hq'
        obtain ⟨i, hi⟩ := List.mem_iff_getElem?.1 hu
        have := h.wr_lt (wr_am (H := H) hi e1)
        have := hq c e2
        omega }
theorem pair_get {α : Type} {R : α → α → Prop} (hs : ∀ {a b}, R a b → R b a) {L : List α} (h : L.Pairwise R) {i j : Nat} {a b : α} (hi : L[i]? = some a) (hj : L[j]? = some b) (hne : i ≠ j) : R a b := by
  obtain ⟨hi', rfl⟩ := List.getElem?_eq_some_iff.1 hi
  obtain ⟨hj', rfl⟩ := List.getElem?_eq_some_iff.1 hj
  rcases Nat.lt_or_gt_of_ne hne with c | c
  · exact List.pairwise_iff_getElem.1 h i j hi' hj' c
  · exact hs (List.pairwise_iff_getElem.1 h j i hj' hi' c)
theorem pair_set {α : Type} {R : α → α → Prop} (hs : ∀ {a b}, R a b → R b a) {L : List α} (h : L.Pairwise R) {k : Nat} {y : α} (hy : ∀ (i : Nat) a, L[i]? = some a → i ≠ k → R a y) : (L.set k y).Pairwise R := by
  rw [List.pairwise_iff_getElem]
  intro i j hi hj hij
  have ei : (L.set k y)[i]? = some (L.set k y)[i] := List.getElem?_eq_getElem hi
  have ej : (L.set k y)[j]? = some (L.set k y)[j] := List.getElem?_eq_getElem hj
  rcases get_setL ei with ⟨e1, e2, _⟩ | ⟨n1, e1⟩
  · rcases get_setL ej with ⟨e3, _, _⟩ | ⟨n2, e3⟩
    · omega
    · rw [e2]
      exact hs (hy j _ e3 n2)
  · rcases get_setL ej with ⟨e3, e4, _⟩ | ⟨n2, e3⟩
    · rw [e4]
      exact hy i _ e1 n1
    · exact pair_get hs h e1 e3 (by omega)
/-- An object's block, and its slots' row, are others. -/
theorem Mg.objs (h : Mg w Z H G) {X : List Nat} {i : Nat} {o : Ob} {p : Nat × Tri} (ho : G.O[i]? = some o) (hp : H.om[i]? = some p) (k : Only X w w') (hX : ∀ b ∈ X, b = p.1 ∨ ob p.2 = some b) (o' : Ob) (x : Tri)
    (hb : w'.heap[p.1]? = some (.cells (obV o' x).toArray 142 (0, 0))) (hx : Own Fina.kU w' 0 (sl3 x) o'.sl) (hq : ∀ q, ob x = some q → ob p.2 = some q ∨ ¬ wr Z H q) :
    Mg w' Z ⟨H.tm, H.am, H.om.set i (p.1, x)⟩ ⟨G.F, G.A, G.T, G.O.set i o', G.f, G.hh, G.c⟩ := by
  have t1 := (h.objAt (List.mem_of_getElem? hp)).1
  have t2 := (h.objAt (List.mem_of_getElem? hp)).2
  have hr : ∀ b ∈ X, ∀ t ∈ rdT, noT w b t := fun b hb t ht => by
    refine h.wr_no ?_ ht
    rcases hX b hb with rfl | e
    · exact wr_om hp
    · exact wr_sl hp e
  have ne : ∀ {b : Nat} {t : TypeId}, isT w b t → (142 == t) = false → (50 == t) = false → b ∉ X := fun {b t} hb h1 h2 hx => by
    rcases hX b hx with rfl | e
    · exact (t1.no h1).ne hb rfl
    · exact ((t2 b e).no h2).ne hb rfl
  have hs : ∀ {p q : Nat × Tri}, apartO p q → apartO q p := fun h => h.symm
  exact {
    sc := h.k_sc k (ne h.tB (by decide) (by decide)) (ne h.tg (by decide) (by decide)) hr
    fins := h.k_fins k hr
    nA := h.nA
    nT := h.nT
    tml := h.tml
    aml := h.aml
    oml := by show (H.om.set i (p.1, x)).length = (G.O.set i o').length; rw [List.length_set, List.length_set]; exact h.oml
    thr := h.k_thr k (ne h.tt (by decide) (by decide))
    ent := h.k_ent k hr
    ars := h.k_ars k (ne h.ta (by decide) (by decide))
    hnd := fun j z hj => h.k_hnd k j z hj fun b hb e => by
      rcases hX b hb with rfl | e'
      · exact (t1.no (show (142 == 50) = false by decide)).ne (h.areAt (List.mem_of_getElem? hj) e) rfl
      · exact h.dAO z (List.mem_of_getElem? hj) p (List.mem_of_getElem? hp) b e e'
    obj := fun j u q hu hq' => by
      rcases get_setL hu with ⟨rfl, rfl, _⟩ | ⟨hne, hu⟩
      · rcases get_setL hq' with ⟨_, rfl, _⟩ | ⟨hne, _⟩
        · exact hb
        · exact absurd rfl hne
      · rcases get_setL hq' with ⟨e, _, _⟩ | ⟨_, hq'⟩
        · exact absurd e hne
        · have A := pair_get hs h.dO hq' hp hne
          refine h.k_obj k j u q hu hq' fun hx' => ?_
          rcases hX _ hx' with e | e
          · exact A.1 e
          · exact ((h.objAt (List.mem_of_getElem? hq')).1.no (show (142 == 50) = false by decide)).ne (t2 _ e) rfl
    slo := fun j u q hu hq' => by
      rcases get_setL hu with ⟨rfl, rfl, _⟩ | ⟨hne, hu⟩
      · rcases get_setL hq' with ⟨_, rfl, _⟩ | ⟨hne, _⟩
        · exact hx
        · exact absurd rfl hne
      · rcases get_setL hq' with ⟨e, _, _⟩ | ⟨_, hq'⟩
        · exact absurd e hne
        · have A := pair_get hs h.dO hq' hp hne
          refine h.k_slo k j u q hu hq' fun b hb' e => ?_
          rcases hX _ hb' with rfl | e'
          · exact (t1.no (show (142 == 50) = false by decide)).ne ((h.objAt (List.mem_of_getElem? hq')).2 _ e) rfl
          · exact A.2 b e e'
    map := h.k_map k fun hb' => by
      rcases hX _ hb' with e | e
      · obtain ⟨cs, e'⟩ := t1
        rw [← e] at e'
        exact h.map.noT _ _ _ e'
      · obtain ⟨cs, e'⟩ := t2 _ e
        exact h.map.noT _ _ _ e'
    dAA := h.dAA
    dO := by
      refine pair_set hs h.dO fun j q hj hne => ?_
      have A := pair_get hs h.dO hj hp hne
      refine ⟨A.1, fun b e1 e2 => ?_⟩
      rcases hq b e2 with e | e
      · exact A.2 b e1 e
      · exact e (wr_sl hj e1)
    dAO := fun u hu q hq' b e1 e2 => by
      obtain ⟨j, hj⟩ := List.mem_iff_getElem?.1 hq'
      obtain ⟨l, hl⟩ := List.mem_iff_getElem?.1 hu
      rcases get_setL hj with ⟨_, rfl, _⟩ | ⟨_, hj⟩
      · rcases hq b e2 with e | e
        · exact h.dAO u hu p (List.mem_of_getElem? hp) b e1 e
        · exact e (wr_am (H := H) hl e1)
      · exact h.dAO u hu q (List.mem_of_getElem? hj) b e1 e2 }
/-- Objects are forgotten. -/
theorem Mg.keepO (h : Mg w Z H G) (P : Ob → Bool) :
    Mg w Z ⟨H.tm, H.am, ((G.O.zip H.om).filter (fun x => P x.1)).map (·.2)⟩ ⟨G.F, G.A, G.T, G.O.filter P, G.f, G.hh, G.c⟩ := by
  have e1 : ∀ (O : List Ob) (M : List (Nat × Tri)), M.length = O.length → ((O.zip M).filter (fun x => P x.1)).map (·.1) = O.filter P := by
    intro O
    induction O with
    | nil => intro M _; simp
    | cons o O ih =>
      intro M hM
      cases M with
      | nil => simp at hM
      | cons q M =>
        rw [List.zip_cons_cons, List.filter_cons, List.filter_cons]
        by_cases c : P o = true
        · rw [if_pos c, if_pos c, List.map_cons, ih M (by simpa using hM)]
        · rw [if_neg c, if_neg c, ih M (by simpa using hM)]
  have hE := e1 G.O H.om h.oml
  have back : ∀ (i : Nat) o p, (G.O.filter P)[i]? = some o → (((G.O.zip H.om).filter (fun x => P x.1)).map (·.2))[i]? = some p → ∃ j : Nat, G.O[j]? = some o ∧ H.om[j]? = some p := by
    intro i o p h1 h2
    rw [← hE, List.getElem?_map] at h1
    rw [List.getElem?_map] at h2
    cases hc : ((G.O.zip H.om).filter (fun x => P x.1))[i]? with
    | none => rw [hc] at h1; cases h1
    | some u =>
      rw [hc] at h1 h2
      simp at h1 h2
      obtain ⟨hu, _⟩ := List.mem_filter.1 (List.mem_of_getElem? hc)
      obtain ⟨j, hj⟩ := List.mem_iff_getElem?.1 hu
      obtain ⟨ha, hb⟩ := List.getElem?_zip_eq_some.1 hj
      rw [h1] at ha
      rw [h2] at hb
      exact ⟨j, ha, hb⟩
  have sub : ∀ p ∈ ((G.O.zip H.om).filter (fun x => P x.1)).map (·.2), p ∈ H.om := by
    intro p hp
    obtain ⟨u, hu, rfl⟩ := List.mem_map.1 hp
    exact (List.of_mem_zip (List.mem_filter.1 hu).1).2
  have subl : (((G.O.zip H.om).filter (fun x => P x.1)).map (·.2)).Sublist H.om := by
    have s1 : ((G.O.zip H.om).filter (fun x => P x.1)).Sublist (G.O.zip H.om) := List.filter_sublist
    have s2 := s1.map (·.2)
    rwa [show (G.O.zip H.om).map (·.2) = H.om from List.map_snd_zip (by rw [h.oml]; exact Nat.le_refl _)] at s2
  exact { h with
    oml := by
      show (((G.O.zip H.om).filter (fun x => P x.1)).map (·.2)).length = (G.O.filter P).length
      rw [← hE, List.length_map, List.length_map]
    obj := fun i o p h1 h2 => by
      obtain ⟨j, a, b⟩ := back i o p h1 h2
      exact h.obj j o p a b
    slo := fun i o p h1 h2 => by
      obtain ⟨j, a, b⟩ := back i o p h1 h2
      exact h.slo j o p a b
    dO := h.dO.sublist subl
    dAO := fun u hu q hq b e1 e2 => h.dAO u hu q (sub q hq) b e1 e2 }
/-- A scope's area is new. -/
theorem Mg.fresh (h : Mg w Z H G) (s : Nat) {a : Ar} (ha : G.A[s]? = some a) :
    Mg (((w.setCell ⟨Z.ba, s * 3, none⟩ (.int .u64 0)).setCell ⟨Z.ba, s * 3 + 1, none⟩ (.int .i64 0)).setCell ⟨Z.ba, s * 3 + 2, none⟩ (.slice none 0 0)) Z ⟨H.tm, H.am.set s (none, 0, 0), H.om⟩ ⟨G.F, G.A.set s ar0, G.T, G.O, G.f, fun i => if i = s then [] else G.hh i, G.c⟩ := by
  obtain ⟨x, hx⟩ := get_zip ha (by rw [h.aml, h.nA])
  have p1 := own_put h.ars s 0 (zip_get ha hx) (show 0 < 3 by omega) (⟨0, a.u⟩, x) (.int .u64 0) rfl
  have hl : s < (G.A.zip H.am).length := (List.getElem?_eq_some_iff.1 (zip_get ha hx)).1
  have g1 : ∀ y : Ar × Tri, ((G.A.zip H.am).set s y)[s]? = some y := fun y => by rw [List.getElem?_set, if_pos rfl, if_pos hl]
  have p2 := own_put p1 s 1 (g1 _) (show 1 < 3 by omega) (⟨0, 0⟩, x) (.int .i64 0) rfl
  rw [List.set_set] at p2
  have p3 := own_put p2 s 2 (g1 _) (show 2 < 3 by omega) (⟨0, 0⟩, (none, 0, 0)) (.slice none 0 0) rfl
  rw [List.set_set, zip_set] at p3
  refine h.areas (((Only.put w _ _ _ (by simp)).trans (Only.put _ _ _ _ (by simp))).trans (Only.put _ _ _ _ (by simp))) (by rw [List.length_set]; exact h.nA) (by rw [List.length_set]; exact h.aml) p3 (fun i z hi => ?_) (fun i j u v b hi hj e1 e2 => ?_) fun u hu q hq b e1 e2 => ?_
  · rcases get_setL hi with ⟨rfl, rfl, _⟩ | ⟨hne, hi⟩
    · simp only [if_true]
      exact Own.nil _ _
    · simp only [hne, if_false]
      exact h.hnd i z hi
  · rcases get_setL hi with ⟨rfl, rfl, _⟩ | ⟨_, hi⟩
    · cases e1
    · rcases get_setL hj with ⟨rfl, rfl, _⟩ | ⟨_, hj⟩
      · cases e2
      · exact h.dAA i j u v b hi hj e1 e2
  · obtain ⟨i, hi⟩ := List.mem_iff_getElem?.1 hu
    rcases get_setL hi with ⟨rfl, rfl, _⟩ | ⟨_, hi⟩
    · cases e1
    · exact h.dAO u (List.mem_of_getElem? hi) q hq b e1 e2
end
end Go.Proofs.YtneggppfffekdaaGreat.Mod
