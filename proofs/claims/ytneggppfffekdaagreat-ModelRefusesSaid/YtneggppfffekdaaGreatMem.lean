/-
  A model in memory: kinds of its rows; its map of objects; where all stands (Md); what is kept by whatever is done elsewhere.
-/
import Derived.Test.YtneggppfffekdaaGreatMod
import Derived.Test.YtneggppfffekdaaGreatScoG
import Derived.Maps.OwnSet
namespace Go.Proofs.YtneggppfffekdaaGreat.Sco
open Go.ChangeShapes Go.WideShapes Go.ChangeAt Go.RowKit
/-- A block that does not hold elements of a type. -/
def noT (w : World) (b : Nat) (t : TypeId) : Prop := ∀ cs fz, w.heap[b]? ≠ some (.cells cs t fz)
theorem isT.of {w : World} {b : Nat} {cs : Array Value} {t : TypeId} (h : w.heap[b]? = some (.cells cs t (0, 0))) : isT w b t := ⟨cs, h⟩
theorem isT.lt {w : World} {b : Nat} {t : TypeId} (h : isT w b t) : b < w.heap.size := by
  obtain ⟨cs, h⟩ := h
  exact (Array.getElem?_eq_some_iff.1 h).1
theorem isT.no {w : World} {b : Nat} {t t' : TypeId} (h : isT w b t) (hn : (t == t') = false) : noT w b t' := by
  obtain ⟨c, h⟩ := h
  intro cs fz e
  rw [h] at e
  injection e with e
  injection e with _ e
  subst e
  simp at hn
theorem noT.ne {w : World} {b b' : Nat} {t : TypeId} (h : noT w b t) (h' : isT w b' t) : b ≠ b' := by
  rintro rfl
  obtain ⟨c, e⟩ := h'
  exact h _ _ e
end Go.Proofs.YtneggppfffekdaaGreat.Sco
namespace Go.Proofs.YtneggppfffekdaaGreat.Mod
open Go.ChangeShapes Go.WideShapes Go.ChangeAt Go.RowKit
open Slic Sco
set_option linter.unusedVariables false

abbrev Tri := Option Addr × Nat × Nat
abbrev sl3 (x : Tri) : Value := .slice x.1 x.2.1 x.2.2
abbrev ob (x : Tri) : Option Nat := (sl3 x).ownBlock
def kT : Kd (Th × Tri) := { X := 114, T := 123, m := 5, by_ := 56, z := .agg #[.int .u64 0, .int .u64 0, .int .u64 0, .int .u64 0, .slice none 0 0], enc := fun x => [.int .u64 (x.1.r 0), .int .u64 (x.1.r 1), .int .u64 (x.1.r 2), .int .u64 (x.1.r 3), sl3 x.2], len := fun _ => rfl, one := fun _ u h => by simp at h; rcases h with rfl | rfl | rfl | rfl | rfl <;> rfl, pos := by decide, small := by decide, zs := rfl, under := by kernel_rfl, info := by kernel_rfl, elem := by kernel_rfl }
def kA : Kd (Ar × Tri) := { X := 115, T := 138, m := 3, by_ := 40, z := .agg #[.int .u64 0, .int .i64 0, .slice none 0 0], enc := fun x => [.int .u64 x.1.g, .int .i64 x.1.u, sl3 x.2], len := fun _ => rfl, one := fun _ u h => by simp at h; rcases h with rfl | rfl | rfl <;> rfl, pos := by decide, small := by decide, zs := rfl, under := by kernel_rfl, info := by kernel_rfl, elem := by kernel_rfl }
def kE : Kd Chain.E := { X := 57, T := 91, m := 2, by_ := 16, z := .agg #[.int .i64 0, .bool false], enc := fun x => [.int .i64 x.1, .bool x.2], len := fun _ => rfl, one := fun _ u h => by simp at h; rcases h with rfl | rfl <;> rfl, pos := by decide, small := by decide, zs := rfl, under := by kernel_rfl, info := by kernel_rfl, elem := by kernel_rfl }
theorem ent_own {w : World} {b : Nat} {v : Value} {L : List Chain.E} : Chain.Own w b v L ↔ Own kE w b v L := Iff.rfl

/-! The map of objects. -/
def enB : Option Nat → DataW Unit
  | none => .lit (.int .i64 (-1))
  | some b => .lit (.int .i64 (b : Int))
def ptrO : Option Nat → Value
  | none => .pointer none
  | some b => .pointer (some ⟨b, 0, none⟩)
def Rp : Value → Option (DataW Unit × List MemPlace)
  | .pointer none => some (enB none, [])
  | .pointer (some ⟨b, 0, none⟩) => some (enB (some b), [])
  | _ => none
theorem Rp_mk (r : Option Nat) : Rp (ptrO r) = some (enB r, []) := by cases r <;> rfl
theorem enB_inj {r s : Option Nat} (h : enB r = enB s) : r = s := by
  cases r <;> cases s <;> simp [enB] at h ⊢ <;> omega
theorem Rp_inv {v : Value} {r : Option Nat} {ps : List MemPlace} (h : Rp v = some (enB r, ps)) : v = ptrO r := by
  unfold Rp at h
  split at h
  · injection h with h
    injection h with h _
    have := enB_inj h
    subst this
    rfl
  · injection h with h
    injection h with h _
    have := enB_inj h
    subst this
    rfl
  · cases h
abbrev u64t : TypeId := 50
abbrev mapt : TypeId := 116
theorem key_u64 : Maps.Keyed Tryz.prog u64t := Maps.int_keyed (q := .u64) (by kernel_rfl)
theorem under_map : Tryz.prog.underlying mapt = some (.map u64t 139) := by kernel_rfl
theorem key_mk {k : Int} (h : (Lit.int .u64 k).wf = true) : keyOf Tryz.prog u64t (.int .u64 k) = some (.int .u64 k) := Maps.keyOf_int_mk (q := .u64) (by kernel_rfl) h
theorem zero_obj (w : World) : (zeroValue 139).run Tryz.prog w = .ok (ptrO none) w := by
  have : (Tryz.prog.info? 139).map (fun i => i.zero) = some (some (ptrO none)) := by kernel_rfl
  cases hq : Tryz.prog.info? 139 with
  | none => simp [hq] at this
  | some i =>
    have hi : i.zero = some (ptrO none) := by simpa [hq] using this
    simp [zeroValue, typeInfo, hq, hi]
def wf64 (k : Int) : Prop := 0 ≤ k ∧ k ≤ 18446744073709551615
theorem wf_lit {k : Int} (h : wf64 k) : (Lit.int .u64 k).wf = true := by
  obtain ⟨h1, h2⟩ := h
  simp [Lit.wf, IntKind.min, IntKind.max, IntKind.signed, IntKind.bits]
  omega
/-- A map of so many numbers to objects' blocks. -/
def Mp (w : World) (b n : Nat) (f : Int → Option Nat) : Prop :=
  ∃ D : DataW Unit, w.ownsMap Tryz.prog u64t Rp b n D ∧ Maps.size D = n ∧ ∀ k, wf64 k → Maps.has D (.int .u64 k) = (f k).isSome ∧ D.atKey (.int .u64 k) (enB none) = enB (f k)
theorem shrink {w : World} {b n : Nat} {D : DataW Unit} (h : w.ownsMap Tryz.prog u64t Rp b n D) : w.ownsMap Tryz.prog u64t Rp b (Maps.size D) D := by
  obtain ⟨es, clock, hb, F, hs, rfl⟩ := h
  exact ⟨es, clock, hb, F, by simp [Maps.size, length_sorted], rfl⟩
section
variable {w w' : World} {b n : Nat} {f : Int → Option Nat}
theorem Mp.lt (h : Mp w b n f) : b < w.heap.size := by
  obtain ⟨D, h, _⟩ := h
  exact h.lt
theorem Mp.block (h : Mp w b n f) (k : w'.heap[b]? = w.heap[b]?) : Mp w' b n f := by
  obtain ⟨D, ⟨es, clock, hb, r⟩, h2⟩ := h
  exact ⟨D, ⟨es, clock, k.trans hb, r⟩, h2⟩
theorem Mp.noT (h : Mp w b n f) (t : TypeId) : noT w b t := by
  obtain ⟨D, ⟨es, clock, hb, r⟩, h2⟩ := h
  intro cs fz e
  rw [hb] at e
  cases e
theorem Mp.made (w : World) : Mp (w.alloc (.map #[] 0)) w.heap.size 0 (fun _ => none) :=
  ⟨.map [], World.ownsMap_made w _ _ _, rfl, fun k hk => ⟨rfl, rfl⟩⟩
theorem Mp.look (h : Mp w b n f) {k : Int} (hk : wf64 k) : (Instr.lookup mapt (.map (some b)) (.int .u64 k) true).run Tryz.prog w = .ok (.tuple #[ptrO (f k), .bool (f k).isSome]) w := by
  obtain ⟨D, h1, _, h2⟩ := h
  obtain ⟨v, ps, hr, hv⟩ := h1.look_ok key_u64 under_map (zero_obj w) (Rp_mk none) (key_mk (wf_lit hk))
  obtain ⟨e1, e2⟩ := h2 k hk
  rw [e2] at hv
  rw [hr, e1, Rp_inv hv]
theorem Mp.look0 (h : Mp w b n f) {k : Int} (hk : wf64 k) : (Instr.lookup mapt (.map (some b)) (.int .u64 k) false).run Tryz.prog w = .ok (ptrO (f k)) w := by
  obtain ⟨D, h1, _, h2⟩ := h
  obtain ⟨v, ps, hr, hv⟩ := h1.lookup key_u64 under_map (zero_obj w) (Rp_mk none) (key_mk (wf_lit hk))
  rw [(h2 k hk).2] at hv
  rw [hr, Rp_inv hv]
theorem Mp.put (h : Mp w b n f) (hn : n < 1000000) {k : Int} (hk : wf64 k) (hf : f k = none) (q : Nat) :
    ∃ w', (Instr.mapUpdate mapt (.map (some b)) (.int .u64 k) (ptrO (some q))).run Tryz.prog w = .ok () w' ∧ Mp w' b (n + 1) (fun x => if x = k then some q else f x) ∧ w.grownBy w' (some b) := by
  obtain ⟨D, h1, hz, h2⟩ := h
  obtain ⟨w', hr, h3, h4⟩ := h1.update key_u64 under_map (by have : 1000000 ≤ maxLen := by decide
                                                             omega) (key_mk (wf_lit hk)) (Rp_mk (some q))
  have hK : WideAt.IsKeyLit (.int .u64 k) := trivial
  have hh : Maps.has D (.int .u64 k) = false := by rw [(h2 k hk).1, hf]; rfl
  have e1 : Maps.size (D.put (.int .u64 k) (enB (some q))) = n + 1 := by
    rw [Maps.size_put (h1.tidy key_u64), hh, hz]
    rfl
  refine ⟨w', hr, ⟨_, h3, e1, fun x hx => ?_⟩, h4⟩
  by_cases e : x = k
  · subst e
    simp only [if_true]
    exact ⟨by rw [Maps.has_put_same h1.isMap hK]; rfl, Maps.atKey_put_same h1.isMap hK _ _⟩
  · simp only [e, if_false]
    have hne : Lit.int .u64 x ≠ Lit.int .u64 k := fun q => by injection q with _ q; exact e q
    rw [Maps.has_put_other hne, Maps.atKey_put_other hne]
    exact h2 x hx
theorem Mp.del (h : Mp w b n f) {k : Int} (hk : wf64 k) (hf : (f k).isSome = true) (ty : TypeId) :
    ∃ w', (Builtin.delete_ #[mapt, u64t] ty #[.map (some b), .int .u64 k]).run Tryz.prog w = .ok (.tuple #[]) w' ∧ Mp w' b (n - 1) (fun x => if x = k then none else f x) ∧ w.grownBy w' (some b) := by
  obtain ⟨D, h1, hz, h2⟩ := h
  obtain ⟨w', hr, h3, h4⟩ := h1.drop key_u64 under_map (key_mk (wf_lit hk)) ty
  have hh : Maps.has D (.int .u64 k) = true := by rw [(h2 k hk).1, hf]
  have e1 : Maps.size (D.del (.int .u64 k)) = n - 1 := by
    have := Maps.size_del (k := .int .u64 k) (h1.tidy key_u64)
    rw [hh, hz] at this
    simp at this
    omega
  have h5 := shrink h3
  rw [e1] at h5
  refine ⟨w', hr, ⟨_, h5, e1, fun x hx => ?_⟩, h4.grown⟩
  by_cases e : x = k
  · subst e
    simp only [if_true]
    exact ⟨Maps.has_del_same, Maps.atKey_del_same _⟩
  · simp only [e, if_false]
    have hne : Lit.int .u64 x ≠ Lit.int .u64 k := fun q => by injection q with _ q; exact e q
    rw [Maps.has_del_other hne, Maps.atKey_del_other hne]
    exact h2 x hx
end

/-! Where all stands. -/
/-- What stays: where the struct, its row of records, its threads, areas and map are; how many there are; the heap's extent; finalizers. -/
structure Fx where
  B : Nat
  g : Nat
  bt : Nat
  ba : Nat
  bm : Nat
  n : Nat
  nt : Nat
  A : Int
  S : Int
  I : Int
  J : Int
  fv : Tri
  FF : List (List Fina.O)
def Fx.fr (Z : Fx) : Fr := ⟨118, 8, fun i => if i = 4 then sl3 Z.fv else if i = 5 then .slice (some ⟨Z.bt, 0, none⟩) Z.nt Z.nt else if i = 6 then .slice (some ⟨Z.ba, 0, none⟩) Z.n Z.n else .map (some Z.bm), by decide, by decide, by decide⟩
/-- What does not: entries' rows, handles' rows, objects' blocks and slots' rows. -/
structure Hp where
  tm : List Tri
  am : List Tri
  om : List (Nat × Tri)
def hs (s : Nat) (O : List Ob) : List Int := (O.filter (fun o => decide (o.s = (s : Int)))).map Ob.h
/-- The block of the object of a number. -/
def blk : List Ob → List (Nat × Tri) → Int → Option Nat
  | o :: O, p :: M, h => if o.h = h then some p.1 else blk O M h
  | _, _, _ => none
def obV (o : Ob) (x : Tri) : List Value := [.int .i64 o.s, .int .i64 o.e, .int .i64 o.a, sl3 x, .int .i64 o.tag, .bool o.d]
/-- Rows of programs. -/
def FRows (w : World) (v : Value) (LL : List (List Fina.O)) : Prop := ∃ Hs : List Tri, Own Fina.kR w 0 v Hs ∧ Hs.length = LL.length ∧ ∀ (i : Nat) (h : i < Hs.length) (h' : i < LL.length), Own Fina.kF w 0 (sl3 Hs[i]) LL[i]
/-- What is so of all rows and blocks, whatever objects a law of the model would have: the map tells f, handles' rows tell hh. -/
structure Gs where
  F : Fo
  A : List Ar
  T : List Th
  O : List Ob
  f : Int → Option Nat
  hh : Nat → List Int
  c : Nat
def Mo.gs (m : Mo) (om : List (Nat × Tri)) : Gs := ⟨m.F, m.A, m.T, m.O, blk m.O om, fun s => hs s m.O, m.O.length⟩
/-- Two objects share no block. -/
def apartO (p q : Nat × Tri) : Prop := p.1 ≠ q.1 ∧ ∀ b, ob p.2 = some b → ob q.2 ≠ some b
theorem apartO.symm {p q : Nat × Tri} (h : apartO p q) : apartO q p := ⟨fun e => h.1 e.symm, fun b h1 h2 => h.2 b h2 h1⟩
structure Mg (w : World) (Z : Fx) (H : Hp) (G : Gs) : Prop where
  sc : Sc w Z.fr Z.B Z.g Z.B Z.n Z.A Z.S G.F
  fins : FRows w (sl3 Z.fv) Z.FF
  nA : G.A.length = Z.n
  nT : G.T.length = Z.nt
  tml : H.tm.length = Z.nt
  aml : H.am.length = Z.n
  oml : H.om.length = G.O.length
  thr : Own kT w 0 (.slice (some ⟨Z.bt, 0, none⟩) Z.nt Z.nt) (G.T.zip H.tm)
  ent : ∀ (i : Nat) t x, G.T[i]? = some t → H.tm[i]? = some x → Own kE w 0 (sl3 x) t.c
  ars : Own kA w 0 (.slice (some ⟨Z.ba, 0, none⟩) Z.n Z.n) (G.A.zip H.am)
  hnd : ∀ (i : Nat) x, H.am[i]? = some x → Own Fina.kU w 0 (sl3 x) (G.hh i)
  obj : ∀ (i : Nat) o p, G.O[i]? = some o → H.om[i]? = some p → w.heap[p.1]? = some (.cells (obV o p.2).toArray 142 (0, 0))
  slo : ∀ (i : Nat) o p, G.O[i]? = some o → H.om[i]? = some p → Own Fina.kU w 0 (sl3 p.2) o.sl
  map : Mp w Z.bm G.c G.f
  dAA : ∀ (i j : Nat) x y b, H.am[i]? = some x → H.am[j]? = some y → ob x = some b → ob y = some b → i = j
  dO : H.om.Pairwise apartO
  dAO : ∀ x ∈ H.am, ∀ p ∈ H.om, ∀ b, ob x = some b → ob p.2 ≠ some b
/-- Where a call may write. -/
def wr (Z : Fx) (H : Hp) (b : Nat) : Prop := b = Z.B ∨ b = Z.g ∨ b = Z.bt ∨ b = Z.ba ∨ b = Z.bm ∨ (∃ x ∈ H.am, ob x = some b) ∨ (∃ p ∈ H.om, p.1 = b ∨ ob p.2 = some b)

theorem own_isT {α : Type} {K : Kd α} {w : World} {base b : Nat} {v : Value} {L : List α} (h : Own K w base v L) (e : v.ownBlock = some b) : isT w b K.T := by
  rcases h.2 with ⟨e', _⟩ | ⟨g', cap, cur, e', _, hg, _⟩
  · rw [e'] at e
    cases e
  · rw [e'] at e
    injection e with e
    subst e
    exact ⟨cur, hg⟩
theorem own_lt {α : Type} {K : Kd α} {w : World} {base b : Nat} {v : Value} {L : List α} (h : Own K w base v L) (e : v.ownBlock = some b) : b < w.heap.size := (World.ownsRow.lt h b e).2
/-- A row of one's own stands while its block does. -/
theorem own_keep {α : Type} {K : Kd α} {w w' : World} {base : Nat} {v : Value} {L : List α} (h : Own K w base v L) (k : ∀ b, v.ownBlock = some b → w'.heap[b]? = w.heap[b]?) : Own K w' base v L := by
  refine ⟨h.1, ?_⟩
  rcases h.2 with hn | ⟨g', cap, cur, e, hb, hgg, rest⟩
  · exact .inl hn
  · exact .inr ⟨g', cap, cur, e, hb, (k g' (by rw [e]; rfl)).trans hgg, rest⟩
theorem own_off {α : Type} {K : Kd α} {w w' : World} {base : Nat} {v : Value} {L : List α} {X : List Nat} (h : Own K w base v L) (k : Only X w w') (hX : ∀ x ∈ X, v.ownBlock ≠ some x) : Own K w' base v L :=
  own_keep h fun b e => k.block b (own_lt h e) fun hx => hX b hx e
/-- .. what is done to blocks of other types. -/
theorem own_types {α : Type} {K : Kd α} {w w' : World} {base : Nat} {v : Value} {L : List α} {X : List Nat} (h : Own K w base v L) (k : Only X w w') (hX : ∀ x ∈ X, noT w x K.T) : Own K w' base v L :=
  own_off h k fun x hx e => (hX x hx).ne (own_isT h e) rfl
theorem FRows.types {w w' : World} {v : Value} {LL : List (List Fina.O)} {X : List Nat} (h : FRows w v LL) (k : Only X w w') (h1 : ∀ x ∈ X, noT w x Fina.kR.T) (h2 : ∀ x ∈ X, noT w x Fina.kF.T) : FRows w' v LL := by
  obtain ⟨Hs, a, b, c⟩ := h
  exact ⟨Hs, own_types a k h1, b, fun i h h' => own_types (c i h h') k h2⟩
theorem FRows.rows {w : World} {v : Value} {LL : List (List Fina.O)} (h : FRows w v LL) : Fina.Rows w v LL := by
  obtain ⟨Hs, a, b, c⟩ := h
  exact ⟨Hs, a.sr, b, fun i h h' => (c i h h').sr⟩
theorem sc_types {w w' : World} {Y : Fr} {B g K n : Nat} {A S : Int} {F : Fo} {X : List Nat} (h : Sc w Y B g K n A S F) (k : Only X w w') (hB : B ∉ X) (hg : g ∉ X) (hX : ∀ x ∈ X, noT w x 109) : Sc w' Y B g K n A S F := by
  refine ⟨h.len, ?_, own_block h.row (k.block g h.ltg hg)⟩
  obtain ⟨v, a, b, c, d, t⟩ := h.gr
  have hv : ∀ q, v.ownBlock = some q → q ∉ X := fun q hq hqX => by
    obtain ⟨cs, fz, e⟩ := t q hq
    exact hX q hqX cs fz e
  exact ⟨v, a.of_block (k.block B a.lt hB), b.keep k.size fun q hq => k.block q (b.lt hq) (hv q hq), c, d, t.keep fun q hq => k.block q (b.lt hq) (hv q hq)⟩

/-- Types of rows that nobody writes into. -/
def rdT : List TypeId := [109, 87, 86, 91]
section
variable {w w' : World} {Z : Fx} {H : Hp} {G : Gs} {X : List Nat}
theorem Mg.tB (h : Mg w Z H G) : isT w Z.B 118 := h.sc.tB
theorem Mg.tg (h : Mg w Z H G) : isT w Z.g 157 := h.sc.tg
theorem Mg.tt (h : Mg w Z H G) : isT w Z.bt 123 := own_isT h.thr rfl
theorem Mg.ta (h : Mg w Z H G) : isT w Z.ba 138 := own_isT h.ars rfl
theorem get_zip {α β : Type} {A : List α} {B : List β} {i : Nat} {a : α} (h : A[i]? = some a) (hl : B.length = A.length) : ∃ b, B[i]? = some b := by
  have := (List.getElem?_eq_some_iff.1 h).1
  exact ⟨B[i], List.getElem?_eq_getElem (by omega)⟩
theorem Mg.objAt (h : Mg w Z H G) {p : Nat × Tri} (hp : p ∈ H.om) : isT w p.1 142 ∧ (∀ b, ob p.2 = some b → isT w b 50) := by
  obtain ⟨i, hi⟩ := List.mem_iff_getElem?.1 hp
  obtain ⟨o, ho⟩ := get_zip hi h.oml.symm
  exact ⟨⟨_, h.obj i o p ho hi⟩, fun b e => own_isT (h.slo i o p ho hi) e⟩
theorem Mg.areAt (h : Mg w Z H G) {x : Tri} (hx : x ∈ H.am) {b : Nat} (e : ob x = some b) : isT w b 50 := by
  obtain ⟨i, hi⟩ := List.mem_iff_getElem?.1 hx
  exact own_isT (h.hnd i x hi) e
/-- Where a call may write stand blocks of these types, or the map. -/
theorem Mg.wrT (h : Mg w Z H G) {b : Nat} (hb : wr Z H b) : b = Z.bm ∨ ∃ t ∈ [118, 157, 123, 138, 50, 142], isT w b t := by
  rcases hb with rfl | rfl | rfl | rfl | rfl | ⟨x, hx, e⟩ | ⟨p, hp, rfl | e⟩
  · exact .inr ⟨_, by simp, h.tB⟩
  · exact .inr ⟨_, by simp, h.tg⟩
  · exact .inr ⟨_, by simp, h.tt⟩
  · exact .inr ⟨_, by simp, h.ta⟩
  · exact .inl rfl
  · exact .inr ⟨_, by simp, h.areAt hx e⟩
  · exact .inr ⟨_, by simp, (h.objAt hp).1⟩
  · exact .inr ⟨_, by simp, (h.objAt hp).2 _ e⟩
theorem Mg.wr_lt (h : Mg w Z H G) {b : Nat} (hb : wr Z H b) : b < w.heap.size := by
  rcases h.wrT hb with rfl | ⟨t, _, ht⟩
  · exact h.map.lt
  · exact ht.lt
theorem Mg.wr_no (h : Mg w Z H G) {b : Nat} (hb : wr Z H b) {t : TypeId} (ht : t ∈ rdT) : noT w b t := by
  rcases h.wrT hb with rfl | ⟨t', h', hi⟩
  · exact h.map.noT t
  · refine hi.no ?_
    simp [rdT] at ht h'
    rcases ht with rfl | rfl | rfl | rfl <;> rcases h' with rfl | rfl | rfl | rfl | rfl | rfl <;> decide

/-- Each part, kept by whatever is done elsewhere. -/
theorem Mg.k_sc (h : Mg w Z H G) (k : Only X w w') (hB : Z.B ∉ X) (hg : Z.g ∉ X) (hX : ∀ x ∈ X, ∀ t ∈ rdT, noT w x t) : Sc w' Z.fr Z.B Z.g Z.B Z.n Z.A Z.S G.F := sc_types h.sc k hB hg fun x hx => hX x hx _ (by simp [rdT])
theorem Mg.k_fins (h : Mg w Z H G) (k : Only X w w') (hX : ∀ x ∈ X, ∀ t ∈ rdT, noT w x t) : FRows w' (sl3 Z.fv) Z.FF := h.fins.types k (fun x hx => hX x hx _ (by simp [rdT, Fina.kR])) (fun x hx => hX x hx _ (by simp [rdT, Fina.kF]))
theorem Mg.k_ent (h : Mg w Z H G) (k : Only X w w') (hX : ∀ x ∈ X, ∀ t ∈ rdT, noT w x t) : ∀ (i : Nat) t x, G.T[i]? = some t → H.tm[i]? = some x → Own kE w' 0 (sl3 x) t.c := fun i t x h1 h2 => own_types (h.ent i t x h1 h2) k fun x hx => hX x hx _ (by simp [rdT, kE])
theorem Mg.k_thr (h : Mg w Z H G) (k : Only X w w') (hX : Z.bt ∉ X) : Own kT w' 0 (.slice (some ⟨Z.bt, 0, none⟩) Z.nt Z.nt) (G.T.zip H.tm) := own_off h.thr k fun x hx e => by simp only [Value.ownBlock, Option.some.injEq] at e; exact hX (e ▸ hx)
theorem Mg.k_ars (h : Mg w Z H G) (k : Only X w w') (hX : Z.ba ∉ X) : Own kA w' 0 (.slice (some ⟨Z.ba, 0, none⟩) Z.n Z.n) (G.A.zip H.am) := own_off h.ars k fun x hx e => by simp only [Value.ownBlock, Option.some.injEq] at e; exact hX (e ▸ hx)
theorem Mg.k_hnd (h : Mg w Z H G) (k : Only X w w') (i : Nat) (x : Tri) (hi : H.am[i]? = some x) (hX : ∀ b ∈ X, ob x ≠ some b) : Own Fina.kU w' 0 (sl3 x) (G.hh i) := own_off (h.hnd i x hi) k hX
theorem Mg.k_obj (h : Mg w Z H G) (k : Only X w w') (i : Nat) (o : Ob) (p : Nat × Tri) (ho : G.O[i]? = some o) (hp : H.om[i]? = some p) (hX : p.1 ∉ X) : w'.heap[p.1]? = some (.cells (obV o p.2).toArray 142 (0, 0)) := (k.block p.1 (isT.of (h.obj i o p ho hp)).lt hX).trans (h.obj i o p ho hp)
theorem Mg.k_slo (h : Mg w Z H G) (k : Only X w w') (i : Nat) (o : Ob) (p : Nat × Tri) (ho : G.O[i]? = some o) (hp : H.om[i]? = some p) (hX : ∀ b ∈ X, ob p.2 ≠ some b) : Own Fina.kU w' 0 (sl3 p.2) o.sl := own_off (h.slo i o p ho hp) k hX
theorem Mg.k_map (h : Mg w Z H G) (k : Only X w w') (hX : Z.bm ∉ X) : Mp w' Z.bm G.c G.f := h.map.block (k.block _ h.map.lt hX)
theorem wr_am {x : Tri} {i : Nat} (h : H.am[i]? = some x) {b : Nat} (e : ob x = some b) : wr Z H b := .inr (.inr (.inr (.inr (.inr (.inl ⟨x, List.mem_of_getElem? h, e⟩)))))
theorem wr_om {p : Nat × Tri} {i : Nat} (h : H.om[i]? = some p) : wr Z H p.1 := .inr (.inr (.inr (.inr (.inr (.inr ⟨p, List.mem_of_getElem? h, .inl rfl⟩)))))
theorem wr_sl {p : Nat × Tri} {i : Nat} (h : H.om[i]? = some p) {b : Nat} (e : ob p.2 = some b) : wr Z H b := .inr (.inr (.inr (.inr (.inr (.inr ⟨p, List.mem_of_getElem? h, .inr e⟩)))))
/-- What is done elsewhere. -/
theorem Mg.off (h : Mg w Z H G) (k : Only X w w') (hw : ∀ x ∈ X, ¬ wr Z H x) (hX : ∀ x ∈ X, ∀ t ∈ rdT, noT w x t) : Mg w' Z H G where
  sc := h.k_sc k (fun e => hw _ e (.inl rfl)) (fun e => hw _ e (.inr (.inl rfl))) hX
  fins := h.k_fins k hX
  nA := h.nA
  nT := h.nT
  tml := h.tml
  aml := h.aml
  oml := h.oml
  thr := h.k_thr k fun e => hw _ e (.inr (.inr (.inl rfl)))
  ent := h.k_ent k hX
  ars := h.k_ars k fun e => hw _ e (.inr (.inr (.inr (.inl rfl))))
  hnd := fun i x hi => h.k_hnd k i x hi fun b hb e => hw b hb (wr_am hi e)
  obj := fun i o p ho hp => h.k_obj k i o p ho hp fun e => hw _ e (wr_om hp)
  slo := fun i o p ho hp => h.k_slo k i o p ho hp fun b hb e => hw b hb (wr_sl hp e)
  map := h.k_map k fun e => hw _ e (.inr (.inr (.inr (.inr (.inl rfl)))))
  dAA := h.dAA
  dO := h.dO
  dAO := h.dAO
theorem Mg.below (h : Mg w Z H G) (k : Below w.heap.size w w') : Mg w' Z H G := h.off (X := []) (Only.below k) (fun x hx => absurd hx List.not_mem_nil) (fun x hx => absurd hx List.not_mem_nil)
/-- The forest alone. -/
theorem Mg.forest (h : Mg w Z H G) (k : Only [Z.B, Z.g] w w') {F : Fo} (s : Sc w' Z.fr Z.B Z.g Z.B Z.n Z.A Z.S F) : Mg w' Z H ⟨F, G.A, G.T, G.O, G.f, G.hh, G.c⟩ := by
  have hm : ∀ x ∈ [Z.B, Z.g], isT w x 118 ∨ isT w x 157 := by
    intro x hx
    simp at hx
    rcases hx with rfl | rfl
    · exact .inl h.tB
    · exact .inr h.tg
  have hX : ∀ x ∈ [Z.B, Z.g], ∀ t ∈ rdT, noT w x t := by
    intro x hx t ht
    refine h.wr_no ?_ ht
    simp at hx
    rcases hx with rfl | rfl
    · exact .inl rfl
    · exact .inr (.inl rfl)
  have ne : ∀ {b : Nat} {t : TypeId}, isT w b t → (118 == t) = false → (157 == t) = false → b ∉ [Z.B, Z.g] := fun {b t} hb h1 h2 hx => by
    rcases hm b hx with e | e
    · exact (e.no h1).ne hb rfl
    · exact (e.no h2).ne hb rfl
  exact {
    sc := s
    fins := h.k_fins k hX
    nA := h.nA
    nT := h.nT
    tml := h.tml
    aml := h.aml
    oml := h.oml
    thr := h.k_thr k (ne h.tt (by decide) (by decide))
    ent := h.k_ent k hX
    ars := h.k_ars k (ne h.ta (by decide) (by decide))
    hnd := fun i x hi => h.k_hnd k i x hi fun b hb e => ne (h.areAt (List.mem_of_getElem? hi) e) (by decide) (by decide) hb
    obj := fun i o p ho hp => h.k_obj k i o p ho hp (ne (h.objAt (List.mem_of_getElem? hp)).1 (by decide) (by decide))
    slo := fun i o p ho hp => h.k_slo k i o p ho hp fun b hb e => ne ((h.objAt (List.mem_of_getElem? hp)).2 b e) (by decide) (by decide) hb
    map := h.k_map k (fun hx => by
      rcases hm _ hx with ⟨cs, e⟩ | ⟨cs, e⟩
      · exact h.map.noT _ cs _ e
      · exact h.map.noT _ cs _ e)
    dAA := h.dAA
    dO := h.dO
    dAO := h.dAO }
/-- One block that is not the forest's. -/
theorem Mg.nots (h : Mg w Z H G) {b : Nat} {t : TypeId} (hb : isT w b t) (h1 : (t == 118) = false) (h2 : (t == 157) = false) : Z.B ∉ [b] ∧ Z.g ∉ [b] ∧ Z.bm ∉ [b] := by
  simp
  exact ⟨fun e => (hb.no h1).ne h.tB e.symm, fun e => (hb.no h2).ne h.tg e.symm, fun e => by
    obtain ⟨cs, hb⟩ := hb
    rw [← e] at hb
    exact h.map.noT _ cs _ hb⟩
theorem one_no {b : Nat} (h : Mg w Z H G) (hb : wr Z H b) : ∀ x ∈ [b], ∀ t ∈ rdT, noT w x t := fun x hx t ht => by
  rw [List.mem_singleton.1 hx]
  exact h.wr_no hb ht
/-- The threads' row alone. -/
theorem Mg.threads (h : Mg w Z H G) (k : Only [Z.bt] w w') {T : List Th} {tm : List Tri} (hT : T.length = Z.nt) (htm : tm.length = Z.nt) (s : Own kT w' 0 (.slice (some ⟨Z.bt, 0, none⟩) Z.nt Z.nt) (T.zip tm))
    (he : ∀ (i : Nat) t x, T[i]? = some t → tm[i]? = some x → Own kE w 0 (sl3 x) t.c) : Mg w' Z ⟨tm, H.am, H.om⟩ ⟨G.F, G.A, T, G.O, G.f, G.hh, G.c⟩ := by
  obtain ⟨n1, n2, n3⟩ := h.nots h.tt (by decide) (by decide)
  have hX := one_no h (show wr Z H Z.bt from .inr (.inr (.inl rfl)))
  have ne : ∀ {b : Nat} {t : TypeId}, isT w b t → (123 == t) = false → b ∉ [Z.bt] := fun {b t} hb h1 hx => by
    rw [List.mem_singleton.1 hx] at hb
    exact (h.tt.no h1).ne hb rfl
  exact {
    sc := h.k_sc k n1 n2 hX
    fins := h.k_fins k hX
    nA := h.nA
    nT := hT
    tml := htm
    aml := h.aml
    oml := h.oml
    thr := s
    ent := fun i t x h1 h2 => own_types (he i t x h1 h2) k fun x hx => hX x hx _ (by simp [rdT, kE])
    ars := h.k_ars k (ne h.ta (by decide))
    hnd := fun i x hi => h.k_hnd k i x hi fun b hb e => ne (h.areAt (List.mem_of_getElem? hi) e) (by decide) hb
    obj := fun i o p ho hp => h.k_obj k i o p ho hp (ne (h.objAt (List.mem_of_getElem? hp)).1 (by decide))
    slo := fun i o p ho hp => h.k_slo k i o p ho hp fun b hb e => ne ((h.objAt (List.mem_of_getElem? hp)).2 b e) (by decide) hb
    map := h.k_map k n3
    dAA := h.dAA
    dO := h.dO
    dAO := h.dAO }
/-- The areas' row alone: how much is used, portals; handles' rows that are others. -/
theorem Mg.areas (h : Mg w Z H G) (k : Only [Z.ba] w w') {A : List Ar} {am : List Tri} {hh : Nat → List Int} (hA : A.length = Z.n) (ham : am.length = Z.n) (s : Own kA w' 0 (.slice (some ⟨Z.ba, 0, none⟩) Z.n Z.n) (A.zip am))
    (hn : ∀ (i : Nat) x, am[i]? = some x → Own Fina.kU w 0 (sl3 x) (hh i))
    (dAA : ∀ (i j : Nat) x y b, am[i]? = some x → am[j]? = some y → ob x = some b → ob y = some b → i = j)
    (dAO : ∀ x ∈ am, ∀ p ∈ H.om, ∀ b, ob x = some b → ob p.2 ≠ some b) : Mg w' Z ⟨H.tm, am, H.om⟩ ⟨G.F, A, G.T, G.O, G.f, hh, G.c⟩ := by
  obtain ⟨n1, n2, n3⟩ := h.nots h.ta (by decide) (by decide)
  have hX := one_no h (show wr Z H Z.ba from .inr (.inr (.inr (.inl rfl))))
  have ne : ∀ {b : Nat} {t : TypeId}, isT w b t → (138 == t) = false → b ∉ [Z.ba] := fun {b t} hb h1 hx => by
    rw [List.mem_singleton.1 hx] at hb
    exact (h.ta.no h1).ne hb rfl
  exact {
    sc := h.k_sc k n1 n2 hX
    fins := h.k_fins k hX
    nA := hA
    nT := h.nT
    tml := h.tml
    aml := ham
    oml := h.oml
    thr := h.k_thr k (ne h.tt (by decide))
    ent := h.k_ent k hX
    ars := s
    hnd := fun i x hi => own_off (hn i x hi) k fun b hb e => ne (own_isT (hn i x hi) e) (by decide) hb
    obj := fun i o p ho hp => h.k_obj k i o p ho hp (ne (h.objAt (List.mem_of_getElem? hp)).1 (by decide))
    slo := fun i o p ho hp => h.k_slo k i o p ho hp fun b hb e => ne ((h.objAt (List.mem_of_getElem? hp)).2 b e) (by decide) hb
    map := h.k_map k n3
    dAA := dAA
    dO := h.dO
    dAO := dAO }
/-- The map alone. -/
theorem Mg.mapped (h : Mg w Z H G) (k : Only [Z.bm] w w') {c : Nat} {f : Int → Option Nat} (s : Mp w' Z.bm c f) : Mg w' Z H ⟨G.F, G.A, G.T, G.O, f, G.hh, c⟩ := by
  have hX := one_no h (show wr Z H Z.bm from .inr (.inr (.inr (.inr (.inl rfl)))))
  have ne : ∀ {b : Nat} {t : TypeId}, isT w b t → b ∉ [Z.bm] := fun {b t} hb hx => by
    rw [List.mem_singleton.1 hx] at hb
    exact (h.map.noT t).ne hb rfl
  exact {
    sc := h.k_sc k (ne h.tB) (ne h.tg) hX
    fins := h.k_fins k hX
    nA := h.nA
    nT := h.nT
    tml := h.tml
    aml := h.aml
    oml := h.oml
    thr := h.k_thr k (ne h.tt)
    ent := h.k_ent k hX
    ars := h.k_ars k (ne h.ta)
    hnd := fun i x hi => h.k_hnd k i x hi fun b hb e => ne (h.areAt (List.mem_of_getElem? hi) e) hb
    obj := fun i o p ho hp => h.k_obj k i o p ho hp (ne (h.objAt (List.mem_of_getElem? hp)).1)
    slo := fun i o p ho hp => h.k_slo k i o p ho hp fun b hb e => ne ((h.objAt (List.mem_of_getElem? hp)).2 b e) hb
    map := s
    dAA := h.dAA
    dO := h.dO
    dAO := h.dAO }
end
end Go.Proofs.YtneggppfffekdaaGreat.Mod
