/-
  Layer 12 in plain mathematics: a model's state (the forest, objects, what each scope has beside it, threads); what each call tells, and leaves.
-/
import Derived.Test.YteakglkagmghpaaScop
import Derived.Test.YteakglkagmghpaaRefz
import Derived.Test.YteakglkagmghpaaHeads
import Derived.Test.YteakglkagmghpaaChai
import Derived.Test.YteakglkagmghpaaFinp
import Derived.Maps.OwnSet
import Derived.Deep.DeepCutAuto
import Derived.Lib.SliceRun
namespace Go.Proofs.Yteakglkagmghpaa.Mod
open Sco
set_option linter.unusedVariables false
set_option maxRecDepth 8000

/-- An object: its scope, epoch and place; slots, tag, and whether it was finalized. -/
structure Ob where
  s : Int
  e : Int
  a : Int
  sl : List Int
  tag : Int
  d : Bool
def Ob.h (o : Ob) : Int := Refs.handle o.s o.e o.a
/-- What a scope has beside the forest: its portal, and how much is used. -/
structure Ar where
  g : Int
  u : Int
/-- A thread: registers, entries. -/
structure Th where
  r : Nat → Int
  c : List Chain.E
structure Mo where
  F : Fo
  O : List Ob
  A : List Ar
  T : List Th
/-- An answer. -/
structure An where
  c : Int
  n : Int
  said : List Int
/-- A call. -/
structure Ca where
  op : Int
  r : Int
  h : Int
  v : Int
  a : Int
  b : Int
  c : Int
abbrev Re2 := An × Mo

def no (c : Int) : An := ⟨c, 0, []⟩
def th0 : Th := ⟨fun _ => 0, []⟩
def Mo.th (m : Mo) (t : Nat) : Th := m.T.getD t th0
def Mo.ents (m : Mo) (t : Nat) : List Chain.E := (m.th t).c
def Mo.reg (m : Mo) (t : Nat) (i : Int) : Int := (m.th t).r i.toNat
def setR (r : Nat → Int) (i : Nat) (v : Int) : Nat → Int := fun j => if j = i then v else r j
def Mo.setReg (m : Mo) (t : Nat) (i : Int) (v : Int) : Mo := ⟨m.F, m.O, m.A, m.T.set t ⟨setR (m.th t).r i.toNat v, (m.th t).c⟩⟩
def Mo.setEnt (m : Mo) (t : Nat) (c : List Chain.E) : Mo := ⟨m.F, m.O, m.A, m.T.set t ⟨(m.th t).r, c⟩⟩
def ar0 : Ar := ⟨0, 0⟩
def Mo.ar (m : Mo) (s : Int) : Ar := m.A.getD s.toNat ar0
def Mo.obs (m : Mo) (h : Int) : Option Ob := m.O.find? (fun o => o.h == h)

/-- The check of a number, by a thread with these entries. -/
def Mo.chk (m : Mo) (L : List Chain.E) (h : Int) : Int :=
  if (Refs.unV h).err ≠ 0 then (Refs.unV h).err
  else if (seeC m.F.R (Refs.unV h).s).x ≠ 0 then 18
  else if Chain.reachV L (Refs.unV h).s = false then 20
  else if (Refs.unV h).e ≠ (seeC m.F.R (Refs.unV h).s).e then 19
  else if (m.obs h).isSome = false then 18 else 0
/-- What stands against a reference from a scope to a number. -/
def Mo.fits (m : Mo) (L : List Chain.E) (v f : Int) : Int :=
  if v = 0 then 0 else if m.chk L v ≠ 0 then m.chk L v else if Chain.aboveV L (Refs.unV v).s f = false then 22 else 0
def badR (r : Int) : Bool := decide (4 ≤ r)
def scopeB (m : Mo) (i : Int) : Bool := decide (1 ≤ i ∧ i < (m.A.length : Int))
/-- A number that is told, and is the register R. -/
def give (m : Mo) (t : Nat) (r : Int) (v : Int) : Re2 := (⟨0, IntKind.i64.wrap v, []⟩, m.setReg t r v)

def ops (FF : List (List Fina.O)) (o : Ob) : List Fina.O := Fina.ofV FF o.tag
/-- Whether an object is to be finalized. -/
def todo (FF : List (List Fina.O)) (s : Int) (o : Ob) : Bool := decide (o.s = s) && (!o.d && decide ((ops FF o).length ≠ 0))
def fin1 (FF : List (List Fina.O)) (s : Int) (o : Ob) : Ob := if todo FF s o = true then ⟨o.s, o.e, o.a, (Fina.walk (ops FF o) 0 o.sl).S, o.tag, true⟩ else o
def todoL (FF : List (List Fina.O)) (s : Int) (O : List Ob) : List Ob := (O.filter (todo FF s)).reverse
def finSaid (FF : List (List Fina.O)) (s : Int) (O : List Ob) : List Int := (todoL FF s O).flatMap fun o => (Fina.walk (ops FF o) 0 o.sl).said
def finHeld (FF : List (List Fina.O)) (s : Int) (O : List Ob) : Bool := (todoL FF s O).any fun o => (Fina.walk (ops FF o) 0 o.sl).held

def enterV (m : Mo) (t : Nat) (i : Int) : Re2 :=
  if scopeB m i = false then (no 11, m)
  else if Chain.pushE (m.ents t) ≠ 0 then (no (Chain.pushE (m.ents t)), m)
  else if (turnV m.F i (enF (Chain.areaV (m.ents t)))).x ≠ 0 then (no (turnV m.F i (enF (Chain.areaV (m.ents t)))).x, m)
  else (no 0, Mo.setEnt ⟨(turnV m.F i (enF (Chain.areaV (m.ents t)))).F, m.O, m.A, m.T⟩ t (m.ents t ++ [(i, true)]))
def inV (m : Mo) (t : Nat) (i : Int) : Re2 :=
  if decide (0 ≤ i ∧ i < (m.A.length : Int)) = false then (no 11, m)
  else if Chain.reachV (m.ents t) i = false then (no 20, m)
  else if Chain.pushE (m.ents t) ≠ 0 then (no (Chain.pushE (m.ents t)), m)
  else (no 0, m.setEnt t (m.ents t ++ [(i, false)]))
/-- The last one leaves: finalizers, and what they leave. -/
def lastV (FF : List (List Fina.O)) (m : Mo) (F1 : Fo) (t : Nat) (s : Int) : Re2 :=
  if finHeld FF s m.O = true then (⟨25, ((todoL FF s m.O).length : Int), finSaid FF s m.O⟩, ⟨(turnV F1 s hoF).F, m.O.map (fin1 FF s), m.A, m.T⟩)
  else (⟨0, ((todoL FF s m.O).length : Int), finSaid FF s m.O⟩, Mo.setEnt ⟨(turnV F1 s opF).F, m.O.filter (fun o => !decide (o.s = s)), m.A.set s.toNat ar0, m.T⟩ t (m.ents t).dropLast)
def exitV (FF : List (List Fina.O)) (m : Mo) (t : Nat) : Re2 :=
  if Chain.popE (m.ents t) ≠ 0 then (no (Chain.popE (m.ents t)), m)
  else if (Chain.lastV (m.ents t)).2 = false then (no 0, m.setEnt t (m.ents t).dropLast)
  else if (turnV m.F (Chain.lastV (m.ents t)).1 leF).x ≠ 0 then (no (turnV m.F (Chain.lastV (m.ents t)).1 leF).x, m)
  else if (turnV m.F (Chain.lastV (m.ents t)).1 leF).d = false then (no 0, Mo.setEnt ⟨(turnV m.F (Chain.lastV (m.ents t)).1 leF).F, m.O, m.A, m.T⟩ t (m.ents t).dropLast)
  else lastV FF m (turnV m.F (Chain.lastV (m.ents t)).1 leF).F t (Chain.lastV (m.ents t)).1
/-- Where an object of so many bytes would stand. -/
def roomX (m : Mo) (s bytes : Int) : Int := if (m.ar s).u + bytes > (seeX m.F.R s).2.1 then 17 else 0
def roomA (m : Mo) (s : Int) : Int := (seeX m.F.R s).1 + (m.ar s).u
def newOb (m : Mo) (s : Int) (c : Ca) : Ob := ⟨s, (seeC m.F.R s).e, roomA m s, List.replicate c.a.toNat 0, c.c, false⟩
def putOb (m : Mo) (o : Ob) (bytes : Int) : Mo := ⟨m.F, m.O ++ [o], m.A.set o.s.toNat ⟨(m.ar o.s).g, (m.ar o.s).u + bytes⟩, m.T⟩
def allocV (m : Mo) (t : Nat) (c : Ca) : Re2 :=
  if (Heads.wordsV c.a c.b).err ≠ 0 ∨ ¬ (0 ≤ c.c ∧ c.c ≤ 7) then (no 1, m)
  else if roomX m (Chain.areaV (m.ents t)) ((Heads.wordsV c.a c.b).n * 8) ≠ 0 then (no (roomX m (Chain.areaV (m.ents t)) ((Heads.wordsV c.a c.b).n * 8)), m)
  else give (putOb m (newOb m (Chain.areaV (m.ents t)) c) ((Heads.wordsV c.a c.b).n * 8)) t c.r (newOb m (Chain.areaV (m.ents t)) c).h
/-- What stands against the slot B of the object of a number. -/
def holdX (m : Mo) (L : List Chain.E) (h b : Int) : Int :=
  if m.chk L h ≠ 0 then m.chk L h else match m.obs h with
    | none => 18
    | some o => if decide (0 ≤ b ∧ b < (o.sl.length : Int)) = true then 0 else 21
def slotOf (m : Mo) (h b : Int) : Int := match m.obs h with | none => 0 | some o => o.sl.getD b.toNat 0
def loadV (m : Mo) (t : Nat) (c : Ca) : Re2 :=
  if holdX m (m.ents t) (m.reg t c.h) c.b ≠ 0 then (no (holdX m (m.ents t) (m.reg t c.h) c.b), m)
  else give m t c.r (slotOf m (m.reg t c.h) c.b)
def putSlot (h : Int) (b : Nat) (v : Int) (o : Ob) : Ob := if o.h = h then ⟨o.s, o.e, o.a, o.sl.set b v, o.tag, o.d⟩ else o
def storeV (m : Mo) (t : Nat) (c : Ca) : Re2 :=
  if holdX m (m.ents t) (m.reg t c.h) c.b ≠ 0 then (no (holdX m (m.ents t) (m.reg t c.h) c.b), m)
  else if m.fits (m.ents t) (m.reg t c.v) (Refs.unV (m.reg t c.h)).s ≠ 0 then (no (m.fits (m.ents t) (m.reg t c.v) (Refs.unV (m.reg t c.h)).s), m)
  else (no 0, ⟨m.F, m.O.map (putSlot (m.reg t c.h) c.b.toNat (m.reg t c.v)), m.A, m.T⟩)
/-- What stands against the portal of a scope. -/
def reachX (m : Mo) (L : List Chain.E) (i : Int) : Int := if scopeB m i = false then 11 else if Chain.reachV L i = false then 20 else 0
def lookV (m : Mo) (t : Nat) (c : Ca) : Re2 :=
  if reachX m (m.ents t) c.a ≠ 0 then (no (reachX m (m.ents t) c.a), m) else give m t c.r (m.ar c.a).g
def gateV (m : Mo) (t : Nat) (c : Ca) : Re2 :=
  if reachX m (m.ents t) c.a ≠ 0 then (no (reachX m (m.ents t) c.a), m)
  else if m.fits (m.ents t) (m.reg t c.v) c.a ≠ 0 then (no (m.fits (m.ents t) (m.reg t c.v) c.a), m)
  else (no 0, ⟨m.F, m.O, m.A.set c.a.toNat ⟨m.reg t c.v, (m.ar c.a).u⟩, m.T⟩)
/-- Whether a register that a call names is none. -/
def badC (c : Ca) : Bool :=
  if c.op = 1 ∨ c.op = 7 ∨ c.op = 10 then badR c.r
  else if c.op = 8 then badR c.r || badR c.h
  else if c.op = 9 then badR c.h || badR c.v
  else if c.op = 11 then badR c.v else false
def createM (m : Mo) (z : Int) : Re2 := (⟨(createV m.F z).x, (createV m.F z).v, []⟩, ⟨(createV m.F z).F, m.O, m.A, m.T⟩)
def destroyM (m : Mo) (i : Int) : Re2 := (no (destroyV m.F i).x, ⟨(destroyV m.F i).F, m.O, m.A, m.T⟩)
def doM (FF : List (List Fina.O)) (m : Mo) (t : Nat) (c : Ca) : Re2 :=
  if badC c = true then (no 1, m)
  else if c.op = 0 then (no 0, m)
  else if c.op = 1 then (no 0, m.setReg t c.r (IntKind.u64.wrap c.a))
  else if c.op = 2 then createM m c.a
  else if c.op = 3 then destroyM m c.a
  else if c.op = 4 then enterV m t c.a
  else if c.op = 5 then exitV FF m t
  else if c.op = 6 then inV m t c.a
  else if c.op = 7 then allocV m t c
  else if c.op = 8 then loadV m t c
  else if c.op = 9 then storeV m t c
  else if c.op = 10 then lookV m t c
  else if c.op = 11 then gateV m t c
  else (no 1, m)

end Go.Proofs.Yteakglkagmghpaa.Mod

/-
  A model in memory: kinds of its rows; its map of objects; where all stands (Md); what is kept by whatever is done elsewhere.
-/
namespace Go.Proofs.Yteakglkagmghpaa.Sco
open Go.ChangeShapes Go.WideShapes Go.ChangeAt Go.RowKit
/-- A block that does not hold elements of a type. -/
def noT (w : World) (b : Nat) (t : TypeId) : Prop := ∀ cs fz, w.heap[b]? ≠ some (.cells cs t fz)
theorem isT.of {w : World} {b : Nat} {cs : Array Value} {t : TypeId} (h : w.heap[b]? = some (.cells cs t (0, 0))) : isT w b t := ⟨cs, h⟩
theorem isT.lt {w : World} {b : Nat} {t : TypeId} (h : isT w b t) : b < w.heap.size := by
  obtain ⟨cs, h⟩ := h
  exact (Array.getElem?_eq_some_iff.1 h).1
theorem isT.no {w : World} {b : Nat} {t t' : TypeId} (h : isT w b t) (hn : (t == t') = false) : noT w b t' := by
  obtain ⟨c, h⟩ := h
  intro cs fz e
  rw [h] at e
  injection e with e
  injection e with _ e
  subst e
  simp at hn
theorem noT.ne {w : World} {b b' : Nat} {t : TypeId} (h : noT w b t) (h' : isT w b' t) : b ≠ b' := by
  rintro rfl
  obtain ⟨c, e⟩ := h'
  exact h _ _ e
end Go.Proofs.Yteakglkagmghpaa.Sco
namespace Go.Proofs.Yteakglkagmghpaa.Mod
open Go.ChangeShapes Go.WideShapes Go.ChangeAt Go.RowKit
open Slic Sco
set_option linter.unusedVariables false
set_option maxRecDepth 8000

abbrev Tri := Option Addr × Nat × Nat
abbrev sl3 (x : Tri) : Value := .slice x.1 x.2.1 x.2.2
abbrev ob (x : Tri) : Option Nat := (sl3 x).ownBlock
def kE : Kd Chain.E := { X := 31, T := 87, m := 2, by_ := 16, z := .agg #[.int .i64 0, .bool false], enc := fun x => [.int .i64 x.1, .bool x.2], len := fun _ => rfl, one := fun _ u h => by simp at h; rcases h with rfl | rfl <;> rfl, pos := by decide, small := by decide, zs := rfl, under := by kernel_rfl, info := by kernel_rfl, elem := by kernel_rfl }
/-! The map of objects. -/
def enB : Option Nat → DataW Unit
  | none => .lit (.int .i64 (-1))
  | some b => .lit (.int .i64 (b : Int))
def Rp : Value → Option (DataW Unit × List MemPlace)
  | .pointer none => some (enB none, [])
  | .pointer (some ⟨b, 0, none⟩) => some (enB (some b), [])
  | _ => none
abbrev u64t : TypeId := 30
def wf64 (k : Int) : Prop := 0 ≤ k ∧ k ≤ 18446744073709551615
/-- A map of so many numbers to objects' blocks. -/
def Mp (w : World) (b n : Nat) (f : Int → Option Nat) : Prop :=
  ∃ D : DataW Unit, w.ownsMap Try.prog u64t Rp b n D ∧ Maps.size D = n ∧ ∀ k, wf64 k → Maps.has D (.int .u64 k) = (f k).isSome ∧ D.atKey (.int .u64 k) (enB none) = enB (f k)
section
variable {w w' : World} {b n : Nat} {f : Int → Option Nat}
theorem Mp.lt (h : Mp w b n f) : b < w.heap.size := by
  obtain ⟨D, h, _⟩ := h
  exact h.lt
theorem Mp.block (h : Mp w b n f) (k : w'.heap[b]? = w.heap[b]?) : Mp w' b n f := by
  obtain ⟨D, ⟨es, clock, hb, r⟩, h2⟩ := h
  exact ⟨D, ⟨es, clock, k.trans hb, r⟩, h2⟩
theorem Mp.made (w : World) : Mp (w.alloc (.map #[] 0)) w.heap.size 0 (fun _ => none) :=
  ⟨.map [], World.ownsMap_made w _ _ _, rfl, fun k hk => ⟨rfl, rfl⟩⟩
end

/-! Where all stands. -/
/-- What stays: where the struct, its row of records, its threads, areas and map are; how many there are; the heap's extent; finalizers. -/
structure Fx where
  B : Nat
  g : Nat
  bt : Nat
  ba : Nat
  bm : Nat
  n : Nat
  nt : Nat
  A : Int
  S : Int
  I : Int
  J : Int
  fv : Tri
  FF : List (List Fina.O)
/-- What does not: entries' rows, handles' rows, objects' blocks and slots' rows. -/
structure Hp where
  tm : List Tri
  am : List Tri
  om : List (Nat × Tri)
def hs (s : Nat) (O : List Ob) : List Int := (O.filter (fun o => decide (o.s = (s : Int)))).map Ob.h
/-- The block of the object of a number. -/
def blk : List Ob → List (Nat × Tri) → Int → Option Nat
  | o :: O, p :: M, h => if o.h = h then some p.1 else blk O M h
  | _, _, _ => none
/-- Rows of programs. -/
def FRows (w : World) (v : Value) (LL : List (List Fina.O)) : Prop := ∃ Hs : List Tri, Own Fina.kR w 0 v Hs ∧ Hs.length = LL.length ∧ ∀ (i : Nat) (h : i < Hs.length) (h' : i < LL.length), Own Fina.kF w 0 (sl3 Hs[i]) LL[i]
/-- What is so of all rows and blocks, whatever objects a law of the model would have: the map tells f, handles' rows tell hh. -/
structure Gs where
  F : Fo
  A : List Ar
  T : List Th
  O : List Ob
  f : Int → Option Nat
  hh : Nat → List Int
  c : Nat
/-- Two objects share no block. -/
def apartO (p q : Nat × Tri) : Prop := p.1 ≠ q.1 ∧ ∀ b, ob p.2 = some b → ob q.2 ≠ some b
theorem apartO.symm {p q : Nat × Tri} (h : apartO p q) : apartO q p := ⟨fun e => h.1 e.symm, fun b h1 h2 => h.2 b h2 h1⟩
/-- Where a call may write. -/
def wr (Z : Fx) (H : Hp) (b : Nat) : Prop := b = Z.B ∨ b = Z.g ∨ b = Z.bt ∨ b = Z.ba ∨ b = Z.bm ∨ (∃ x ∈ H.am, ob x = some b) ∨ (∃ p ∈ H.om, p.1 = b ∨ ob p.2 = some b)

theorem own_isT {α : Type} {K : Kd α} {w : World} {base b : Nat} {v : Value} {L : List α} (h : Own K w base v L) (e : v.ownBlock = some b) : isT w b K.T := by
  rcases h.2 with ⟨e', _⟩ | ⟨g', cap, cur, e', _, hg, _⟩
  · rw [e'] at e
    cases e
  · rw [e'] at e
    injection e with e
    subst e
    exact ⟨cur, hg⟩
theorem own_lt {α : Type} {K : Kd α} {w : World} {base b : Nat} {v : Value} {L : List α} (h : Own K w base v L) (e : v.ownBlock = some b) : b < w.heap.size := (World.ownsRow.lt h b e).2
/-- A row of one's own stands while its block does. -/
theorem own_keep {α : Type} {K : Kd α} {w w' : World} {base : Nat} {v : Value} {L : List α} (h : Own K w base v L) (k : ∀ b, v.ownBlock = some b → w'.heap[b]? = w.heap[b]?) : Own K w' base v L := by
  refine ⟨h.1, ?_⟩
  rcases h.2 with hn | ⟨g', cap, cur, e, hb, hgg, rest⟩
  · exact .inl hn
  · exact .inr ⟨g', cap, cur, e, hb, (k g' (by rw [e]; rfl)).trans hgg, rest⟩
theorem own_off {α : Type} {K : Kd α} {w w' : World} {base : Nat} {v : Value} {L : List α} {X : List Nat} (h : Own K w base v L) (k : Only X w w') (hX : ∀ x ∈ X, v.ownBlock ≠ some x) : Own K w' base v L :=
  own_keep h fun b e => k.block b (own_lt h e) fun hx => hX b hx e
/-- .. what is done to blocks of other types. -/
theorem own_types {α : Type} {K : Kd α} {w w' : World} {base : Nat} {v : Value} {L : List α} {X : List Nat} (h : Own K w base v L) (k : Only X w w') (hX : ∀ x ∈ X, noT w x K.T) : Own K w' base v L :=
  own_off h k fun x hx e => (hX x hx).ne (own_isT h e) rfl
theorem FRows.types {w w' : World} {v : Value} {LL : List (List Fina.O)} {X : List Nat} (h : FRows w v LL) (k : Only X w w') (h1 : ∀ x ∈ X, noT w x Fina.kR.T) (h2 : ∀ x ∈ X, noT w x Fina.kF.T) : FRows w' v LL := by
  obtain ⟨Hs, a, b, c⟩ := h
  exact ⟨Hs, own_types a k h1, b, fun i h h' => own_types (c i h h') k h2⟩
theorem FRows.rows {w : World} {v : Value} {LL : List (List Fina.O)} (h : FRows w v LL) : Fina.Rows w v LL := by
  obtain ⟨Hs, a, b, c⟩ := h
  exact ⟨Hs, a.sr, b, fun i h h' => (c i h h').sr⟩
section
variable {w w' : World} {Z : Fx} {H : Hp} {G : Gs} {X : List Nat}
end
end Go.Proofs.Yteakglkagmghpaa.Mod

/-
  A model in memory: each store, and what it leaves; what a walk carries (Mh: where all stands, and local blocks beside it; Mw: the same of a model's state).
-/
namespace Go.Proofs.Yteakglkagmghpaa.Mod
open Go.ChangeShapes Go.WideShapes Go.ChangeAt Go.RowKit
open Slic Sco
set_option linter.unusedVariables false
set_option maxRecDepth 8000

section
variable {w w' : World} {Z : Fx} {H : Hp} {G : Gs}
end
end Go.Proofs.Yteakglkagmghpaa.Mod

/-
  What a walk carries: where all of a model stands, and local blocks beside it (Mh); the same of a model's state (Mw).
-/
namespace Go.Proofs.Yteakglkagmghpaa.Mod
open Go.ChangeShapes Go.WideShapes Go.ChangeAt Go.RowKit
open Slic Sco
set_option linter.unusedVariables false
set_option maxRecDepth 8000

abbrev Bx := List (Nat × Obj)
section
variable {w0 w w' : World} {Z : Fx} {H H' : Hp} {G G' : Gs} {bx : Bx}
theorem cell_of {w : World} {b : Nat} {vs : Array Value} {t : TypeId} {fz : Nat × Nat} (h : w.heap[b]? = some (.cells vs t fz)) (k : Nat) (v : Value) (e : vs[k]? = some v) : w.cell? ⟨b, k, none⟩ = some v := by simp [World.cell?, h, e]
end
section
variable {w0 w w' : World} {Z : Fx} {m m' : Mo} {bx : Bx}
end
end Go.Proofs.Yteakglkagmghpaa.Mod

/-
  Contracts of package model: what only looks (threads, scopes, words, portals, how much is used), answers that are refused, registers.
-/
namespace Go.Proofs.Yteakglkagmghpaa.Mod
open Go.ChangeShapes Go.WideShapes Go.ChangeAt Go.RowKit
open Slic Sco
set_option linter.unusedVariables false
set_option maxRecDepth 8000
set_option linter.unusedSimpArgs false
set_option maxRecDepth 8000
attribute [local go_sem ↓] Go.wp_at_zero Go.wp_at_succ

abbrev anT : TypeId := 35
section
variable {w0 w w' : World} {Z : Fx} {m : Mo} {bx : Bx}
end
end Go.Proofs.Yteakglkagmghpaa.Mod

/-
  Contracts of package model: registers and entries told; a number that is given; calls that do nothing, set, make and unmake.
-/
namespace Go.Proofs.Yteakglkagmghpaa.Mod
open Go.ChangeShapes Go.WideShapes Go.ChangeAt Go.RowKit
open Slic Sco
set_option linter.unusedVariables false
set_option maxRecDepth 8000
set_option linter.unusedSimpArgs false
set_option maxRecDepth 8000
attribute [local go_sem ↓] Go.wp_at_zero Go.wp_at_succ

set_option maxHeartbeats 1000000 in
theorem cloneE_any (w : World) (v : Value) {S : List _} (h : Sr kE w v S) (hS : S.length ≤ 100000) : Calls Try.prog 29 #[v] w fun e w' => ∃ v', e = .returned v' ∧ Own kE w' w.heap.size v' S ∧ Below w.heap.size w w' := by
  have h' := h
  obtain ⟨A, c, rfl, h1, h2, h3, h4⟩ := h
  clear h4
  have q : ∀ (W : World) (a : Option Addr) (n c : Nat), (binOp .eql 31 (.slice a n c) (.slice none 0 0)).run Try.prog W = .ok (.bool a.isNone) W := fun W a n c => Lib.run_eql_slice_nil W _ _ a n c 0 0 kE.under
  rcases A with _ | x
  · have hc := h3 rfl
    subst hc
    have e : S = [] := List.eq_nil_of_length_eq_zero (by omega)
    subst e
    clear h' h1 h2 h3
    go_enter Try.func29, Try.ntmps29
    go_wp2
    go_ret
    exact ⟨_, rfl, Own.nil _ _, Below.refl _ _⟩
  · clear h3
    go_enter Try.func29, Try.ntmps29
    go_wp2_with (
      refine wpList_app (K := kE) rfl (.tmp 5) (.tmp 6) rfl rfl rfl rfl (Own.empty w w.heap.size (Nat.le_refl _)) (h'.alloc _) (by simp; omega) (by simp) ?_
      intro v' w' O' g' G')
    go_ret
    exact ⟨_, rfl, O', G'.below _ _ (Nat.le_refl _) (below_one _ _)⟩
section
variable {w0 w w' : World} {Z : Fx} {m : Mo} {bx : Bx}
end
end Go.Proofs.Yteakglkagmghpaa.Mod

/-
  Contracts of package model: enter, in.
-/
namespace Go.Proofs.Yteakglkagmghpaa.Mod
open Go.ChangeShapes Go.WideShapes Go.ChangeAt Go.RowKit
open Slic Sco
set_option linter.unusedVariables false
set_option maxRecDepth 8000
set_option linter.unusedSimpArgs false
set_option maxRecDepth 8000
attribute [local go_sem ↓] Go.wp_at_zero Go.wp_at_succ
section
variable {w0 w w' : World} {Z : Fx} {m : Mo} {bx : Bx}
end
end Go.Proofs.Yteakglkagmghpaa.Mod

/-
  Contracts of package model: check, holder, fits, reached.
-/
namespace Go.Proofs.Yteakglkagmghpaa.Mod
open Go.ChangeShapes Go.WideShapes Go.ChangeAt Go.RowKit
open Slic Sco
set_option linter.unusedVariables false
set_option maxRecDepth 8000
set_option linter.unusedSimpArgs false
set_option maxRecDepth 8000
attribute [local go_sem ↓] Go.wp_at_zero Go.wp_at_succ
section
variable {w0 w w' : World} {Z : Fx} {m : Mo} {bx : Bx}
/-- The words of all handles say what they were made of. -/
def Rt (m : Mo) : Prop := ∀ o ∈ m.O, Refs.rightB o.s o.e o.a = true
theorem un_handle {s e a : Int} (h : Refs.rightB s e a = true) : Refs.unV (Refs.handle s e a) = ⟨s, e, a, 0⟩ := by
  obtain ⟨b1, b2, b3, b4, b5, b6, b7⟩ := Refs.rbounds h
  have e1 : Refs.handle s e a / 16777216 % 256 = s := by unfold Refs.handle; omega
  have e2 : Refs.handle s e a / 4294967296 = e := by unfold Refs.handle; omega
  have e3 : 8 * (Refs.handle s e a % 16777216) = a := by unfold Refs.handle; omega
  unfold Refs.unV Refs.unB
  rw [e1, e2, e3, if_pos h]
theorem Rt.un {m : Mo} (R : Rt m) {o : Ob} (ho : o ∈ m.O) : Refs.unV o.h = ⟨o.s, o.e, o.a, 0⟩ := un_handle (R o ho)
section
variable {H : Hp}
end
end
end Go.Proofs.Yteakglkagmghpaa.Mod

/-
  What is so of every state of a model.
-/
namespace Go.Proofs.Yteakglkagmghpaa.Mod
open Sco
set_option linter.unusedVariables false
set_option maxRecDepth 8000

/-- How often a scope is entered, counted. -/
def cou (T : List Th) (i : Int) : Nat := (T.map fun t => t.c.countP (Chain.hit i)).sum
structure Iv (Z : Fx) (k : Nat) (m : Mo) : Prop where
  f : Inv Z.n Z.A Z.S Z.I Z.J m.F
  nA : m.A.length = Z.n
  nT : m.T.length = Z.nt
  nt : 1 ≤ Z.nt ∧ Z.nt ≤ 4
  im : 8 ≤ Z.I ∧ Z.I % 8 = 0 ∧ 0 ≤ Z.J ∧ Z.J % 8 = 0 ∧ Z.I + Z.J = Z.A
  hp : Z.A + Z.S ≤ 65536
  cnt : m.O.length ≤ k
  reg : ∀ t ∈ m.T, ∀ i, wf64 (t.r i)
  ent : ∀ t ∈ m.T, t.c.length ≤ 6 ∧ Chain.Fits t.c ∧ ∀ e ∈ t.c, 0 ≤ e.1 ∧ e.1 < (Z.n : Int)
  par : ∀ t ∈ m.T, ∀ i : Int, Chain.inP t.c i → ∃ x : Cx, m.F.R[i.toNat]? = some x ∧ x.s = 2 ∧ x.p = Chain.parV t.c i
  cou : ∀ (i : Nat) (x : Cx), 1 ≤ i → m.F.R[i]? = some x → x.s ≠ 3 ∧ x.c = (cou m.T i : Int)
  are : ∀ (i : Nat) (x : Cx) (a : Ar), m.F.R[i]? = some x → m.A[i]? = some a → wf64 a.g ∧ 0 ≤ a.u ∧ a.u % 8 = 0 ∧ a.u ≤ x.z ∧ (x.s ≠ 2 → a.u = 0 ∧ a.g = 0)
  obj : ∀ o ∈ m.O, 0 ≤ o.s ∧ ∃ (x : Cx) (a : Ar), m.F.R[o.s.toNat]? = some x ∧ m.A[o.s.toNat]? = some a ∧ o.e = x.e ∧ x.a ≤ o.a ∧ o.a % 8 = 0 ∧ o.a + 16 ≤ x.a + a.u ∧ o.sl.length ≤ 6 ∧ (∀ v ∈ o.sl, wf64 v) ∧ 0 ≤ o.tag ∧ o.tag ≤ 7
  ord : m.O.Pairwise fun o p => o.s = p.s → o.a + 16 ≤ p.a
section
variable {Z : Fx} {k : Nat} {m : Mo}
theorem Iv.n8 (v : Iv Z k m) : Z.n ≤ 8 := v.f.n8
theorem Iv.n1 (v : Iv Z k m) : 1 ≤ Z.n := v.f.n1
theorem Iv.th_mem (v : Iv Z k m) {t : Nat} (ht : t < Z.nt) : m.th t ∈ m.T := by
  have : t < m.T.length := by rw [v.nT]; exact ht
  unfold Mo.th
  rw [List.getD_eq_getElem?_getD, List.getElem?_eq_getElem this]
  exact List.getElem_mem this
theorem Iv.wreg (v : Iv Z k m) {t : Nat} (ht : t < Z.nt) (i : Int) : wf64 (m.reg t i) := v.reg _ (v.th_mem ht) _
theorem Iv.l6 (v : Iv Z k m) {t : Nat} (ht : t < Z.nt) : (m.ents t).length ≤ 6 := (v.ent _ (v.th_mem ht)).1
theorem Iv.fit (v : Iv Z k m) {t : Nat} (ht : t < Z.nt) : Chain.Fits (m.ents t) := (v.ent _ (v.th_mem ht)).2.1
theorem Iv.sl (v : Iv Z k m) : ∀ o ∈ m.O, o.sl.length ≤ 1000000 := fun o ho => by
  obtain ⟨_, x, a, _, _, _, _, _, _, h, _⟩ := v.obj o ho
  omega
theorem Iv.scope (v : Iv Z k m) {i : Nat} (hi : i < Z.n) : ∃ (x : Cx) (a : Ar), m.F.R[i]? = some x ∧ m.A[i]? = some a := by
  have h1 := v.f.len
  have h2 := v.nA
  exact ⟨m.F.R[i], m.A[i], List.getElem?_eq_getElem (by omega), List.getElem?_eq_getElem (by omega)⟩
/-- A live scope's extent. -/
theorem Iv.live (v : Iv Z k m) {i : Nat} {x : Cx} (hx : m.F.R[i]? = some x) (hs : x.s = 2) : 8 ≤ x.a ∧ x.a % 8 = 0 ∧ 0 ≤ x.z ∧ x.z % 8 = 0 ∧ x.a + x.z ≤ 65536 ∧ 0 ≤ x.e ∧ x.e ≤ 16777215 ∧ i ≤ 7 := by
  obtain ⟨i1, i2, i3, i4, i5⟩ := v.im
  have h1 := v.hp
  have h2 := v.n8
  have h3 := v.f.len
  have hi : i < m.F.R.length := (List.getElem?_eq_some_iff.1 hx).1
  have hr := rightI (v.f.right i x hx)
  have s0 := v.f.ok.s0
  rcases Nat.eq_zero_or_pos i with rfl | hp
  · have hz := v.f.zero
    rw [hz] at hx
    injection hx with hx
    subst hx
    exact ⟨i1, i2, i3, i4, by show Z.I + Z.J ≤ 65536; omega, by show (0 : Int) ≤ 0; decide, by show (0 : Int) ≤ 16777215; decide, by omega⟩
  · rcases v.f.ext i x hx hp with ⟨e, _⟩ | ⟨_, e1, e2, e3, e4, e5⟩
    · omega
    · exact ⟨by omega, e3, by omega, e2, by omega, by omega, by omega, by omega⟩
theorem Iv.rt (v : Iv Z k m) : Rt m := fun o ho => by
  obtain ⟨h0, x, a, hx, ha, e1, e2, e3, e4, _⟩ := v.obj o ho
  obtain ⟨_, a1, a2, a3, a4⟩ := v.are _ x a hx ha
  have hs : x.s = 2 := by
    rcases Int.decEq x.s 2 with c | c
    · have := a4 c
      omega
    · exact c
  obtain ⟨l1, l2, l3, l4, l5, l6, l7, l8⟩ := v.live hx hs
  exact decide_eq_true (by omega)
/-- Handles are unlike. -/
theorem Iv.hne (v : Iv Z k m) : m.O.Pairwise fun o p => o.h ≠ p.h := by
  refine List.Pairwise.imp_of_mem ?_ v.ord
  intro o p ho hp h e
  have e1 := v.rt.un ho
  have e2 := v.rt.un hp
  rw [e, e2] at e1
  injection e1 with a b c d
  have := h a.symm
  omega
theorem Iv.area (v : Iv Z k m) {t : Nat} (ht : t < Z.nt) : ∃ (x : Cx) (a : Ar), 0 ≤ Chain.areaV (m.ents t) ∧ Chain.areaV (m.ents t) < (Z.n : Int) ∧ m.F.R[(Chain.areaV (m.ents t)).toNat]? = some x ∧ m.A[(Chain.areaV (m.ents t)).toNat]? = some a ∧ x.s = 2 := by
  have n1 := v.n1
  rcases Chain.fits_area (v.fit ht) with e | e
  · obtain ⟨x, a, hx, ha⟩ := v.scope (i := 0) (by omega)
    have hz := v.f.zero
    rw [hx] at hz
    injection hz with hz
    refine ⟨x, a, by omega, by omega, by rw [e]; exact hx, by rw [e]; exact ha, by rw [hz]⟩
  · obtain ⟨x, hx, hs, _⟩ := v.par _ (v.th_mem ht) _ e
    have hr := Chain.fits_range (v.fit ht) _ e
    have hl := (List.getElem?_eq_some_iff.1 hx).1
    have h3 := v.f.len
    obtain ⟨x', a, hx', ha⟩ := v.scope (i := (Chain.areaV (m.ents t)).toNat) (by omega)
    exact ⟨x, a, by omega, by omega, hx, ha, hs⟩
end
end Go.Proofs.Yteakglkagmghpaa.Mod

/-
  Contracts of package model: load, store, look, gate.
-/
namespace Go.Proofs.Yteakglkagmghpaa.Mod
open Go.ChangeShapes Go.WideShapes Go.ChangeAt Go.RowKit
open Slic Sco
set_option linter.unusedVariables false
set_option maxRecDepth 8000
set_option linter.unusedSimpArgs false
set_option maxRecDepth 8000
attribute [local go_sem ↓] Go.wp_at_zero Go.wp_at_succ
section
variable {w0 w w' : World} {Z : Fx} {m : Mo} {bx : Bx} {k : Nat}
theorem sr_empty {α : Type} {K : Kd α} {w w' : World} {v : Value} (h : Sr K w v []) : Sr K w' v [] := by
  obtain ⟨A, c, e, h1, h2, h3, _⟩ := h
  exact ⟨A, c, e, h1, h2, h3, fun hl => absurd hl (by simp)⟩
end
end Go.Proofs.Yteakglkagmghpaa.Mod

/-
  Contracts of package model: room, alloc.
-/
namespace Go.Proofs.Yteakglkagmghpaa.Mod
open Go.ChangeShapes Go.WideShapes Go.ChangeAt Go.RowKit
open Slic Sco
set_option linter.unusedVariables false
set_option maxRecDepth 8000
set_option linter.unusedSimpArgs false
set_option maxRecDepth 8000
attribute [local go_sem ↓] Go.wp_at_zero Go.wp_at_succ
section
variable {w0 w w' : World} {Z : Fx} {m : Mo} {bx : Bx} {k : Nat}
end
end Go.Proofs.Yteakglkagmghpaa.Mod

/-
  Contract of package model: alloc.
-/
namespace Go.Proofs.Yteakglkagmghpaa.Mod
open Go.ChangeShapes Go.WideShapes Go.ChangeAt Go.RowKit
open Slic Sco
set_option linter.unusedVariables false
set_option maxRecDepth 8000
set_option linter.unusedSimpArgs false
set_option maxRecDepth 8000
attribute [local go_sem ↓] Go.wp_at_zero Go.wp_at_succ
section
variable {w0 w w' : World} {Z : Fx} {m : Mo} {bx : Bx} {k : Nat}
end
end Go.Proofs.Yteakglkagmghpaa.Mod
