/-
  Layer 12 in plain mathematics: a model's state (the forest, objects, what each scope has beside it, threads); what each call tells, and leaves.
-/
import Derived.Test.YtbpmnjmegffllaaScop
import Derived.Test.YtbpmnjmegffllaaRefz
import Derived.Test.YtbpmnjmegffllaaHeads
import Derived.Test.YtbpmnjmegffllaaChai
import Derived.Test.YtbpmnjmegffllaaFinp
import Derived.Maps.OwnSet
import Derived.Deep.DeepCutAuto
import Derived.Lib.SliceRun
namespace Go.Proofs.Ytbpmnjmegffllaa.Mod
open Sco
set_option linter.unusedVariables false
set_option maxRecDepth 8000

/-- An object: its scope, epoch and place; slots, tag, and whether it was finalized. -/
structure Ob where
  s : Int
  e : Int
  a : Int
  sl : List Int
  tag : Int
  d : Bool
def Ob.h (o : Ob) : Int := Refs.handle o.s o.e o.a
/-- What a scope has beside the forest: its portal, and how much is used. -/
structure Ar where
  g : Int
  u : Int
/-- A thread: registers, entries. -/
structure Th where
  r : Nat → Int
  c : List Chain.E
structure Mo where
  F : Fo
  O : List Ob
  A : List Ar
  T : List Th
/-- An answer. -/
structure An where
  c : Int
  n : Int
  said : List Int
/-- A call. -/
structure Ca where
  op : Int
  r : Int
  h : Int
  v : Int
  a : Int
  b : Int
  c : Int
abbrev Re2 := An × Mo

def no (c : Int) : An := ⟨c, 0, []⟩
def th0 : Th := ⟨fun _ => 0, []⟩
def Mo.th (m : Mo) (t : Nat) : Th := m.T.getD t th0
def Mo.ents (m : Mo) (t : Nat) : List Chain.E := (m.th t).c
def Mo.reg (m : Mo) (t : Nat) (i : Int) : Int := (m.th t).r i.toNat
def setR (r : Nat → Int) (i : Nat) (v : Int) : Nat → Int := fun j => if j = i then v else r j
def Mo.setReg (m : Mo) (t : Nat) (i : Int) (v : Int) : Mo := ⟨m.F, m.O, m.A, m.T.set t ⟨setR (m.th t).r i.toNat v, (m.th t).c⟩⟩
def Mo.setEnt (m : Mo) (t : Nat) (c : List Chain.E) : Mo := ⟨m.F, m.O, m.A, m.T.set t ⟨(m.th t).r, c⟩⟩
def ar0 : Ar := ⟨0, 0⟩
def Mo.ar (m : Mo) (s : Int) : Ar := m.A.getD s.toNat ar0
def Mo.obs (m : Mo) (h : Int) : Option Ob := m.O.find? (fun o => o.h == h)

/-- The check of a number, by a thread with these entries. -/
def Mo.chk (m : Mo) (L : List Chain.E) (h : Int) : Int :=
  if (Refs.unV h).err ≠ 0 then (Refs.unV h).err
  else if (seeC m.F.R (Refs.unV h).s).x ≠ 0 then 18
  else if Chain.reachV L (Refs.unV h).s = false then 20
  else if (Refs.unV h).e ≠ (seeC m.F.R (Refs.unV h).s).e then 19
  else if (m.obs h).isSome = false then 18 else 0
/-- What stands against a reference from a scope to a number. -/
def Mo.fits (m : Mo) (L : List Chain.E) (v f : Int) : Int :=
  if v = 0 then 0 else if m.chk L v ≠ 0 then m.chk L v else if Chain.aboveV L (Refs.unV v).s f = false then 22 else 0
def badR (r : Int) : Bool := decide (4 ≤ r)
def scopeB (m : Mo) (i : Int) : Bool := decide (1 ≤ i ∧ i < (m.A.length : Int))
/-- A number that is told, and is the register R. -/
def give (m : Mo) (t : Nat) (r : Int) (v : Int) : Re2 := (⟨0, IntKind.i64.wrap v, []⟩, m.setReg t r v)

def ops (FF : List (List Fina.O)) (o : Ob) : List Fina.O := Fina.ofV FF o.tag
/-- Whether an object is to be finalized. -/
def todo (FF : List (List Fina.O)) (s : Int) (o : Ob) : Bool := decide (o.s = s) && (!o.d && decide ((ops FF o).length ≠ 0))
def fin1 (FF : List (List Fina.O)) (s : Int) (o : Ob) : Ob := if todo FF s o = true then ⟨o.s, o.e, o.a, (Fina.walk (ops FF o) 0 o.sl).S, o.tag, true⟩ else o
def todoL (FF : List (List Fina.O)) (s : Int) (O : List Ob) : List Ob := (O.filter (todo FF s)).reverse
def finSaid (FF : List (List Fina.O)) (s : Int) (O : List Ob) : List Int := (todoL FF s O).flatMap fun o => (Fina.walk (ops FF o) 0 o.sl).said
def finHeld (FF : List (List Fina.O)) (s : Int) (O : List Ob) : Bool := (todoL FF s O).any fun o => (Fina.walk (ops FF o) 0 o.sl).held

def enterV (m : Mo) (t : Nat) (i : Int) : Re2 :=
  if scopeB m i = false then (no 11, m)
  else if Chain.pushE (m.ents t) ≠ 0 then (no (Chain.pushE (m.ents t)), m)
  else if (turnV m.F i (enF (Chain.areaV (m.ents t)))).x ≠ 0 then (no (turnV m.F i (enF (Chain.areaV (m.ents t)))).x, m)
  else (no 0, Mo.setEnt ⟨(turnV m.F i (enF (Chain.areaV (m.ents t)))).F, m.O, m.A, m.T⟩ t (m.ents t ++ [(i, true)]))
def inV (m : Mo) (t : Nat) (i : Int) : Re2 :=
  if decide (0 ≤ i ∧ i < (m.A.length : Int)) = false then (no 11, m)
  else if Chain.reachV (m.ents t) i = false then (no 20, m)
  else if Chain.pushE (m.ents t) ≠ 0 then (no (Chain.pushE (m.ents t)), m)
  else (no 0, m.setEnt t (m.ents t ++ [(i, false)]))
/-- The last one leaves: finalizers, and what they leave. -/
def lastV (FF : List (List Fina.O)) (m : Mo) (F1 : Fo) (t : Nat) (s : Int) : Re2 :=
  if finHeld FF s m.O = true then (⟨25, ((todoL FF s m.O).length : Int), finSaid FF s m.O⟩, ⟨(turnV F1 s hoF).F, m.O.map (fin1 FF s), m.A, m.T⟩)
  else (⟨0, ((todoL FF s m.O).length : Int), finSaid FF s m.O⟩, Mo.setEnt ⟨(turnV F1 s opF).F, m.O.filter (fun o => !decide (o.s = s)), m.A.set s.toNat ar0, m.T⟩ t (m.ents t).dropLast)
def exitV (FF : List (List Fina.O)) (m : Mo) (t : Nat) : Re2 :=
  if Chain.popE (m.ents t) ≠ 0 then (no (Chain.popE (m.ents t)), m)
  else if (Chain.lastV (m.ents t)).2 = false then (no 0, m.setEnt t (m.ents t).dropLast)
  else if (turnV m.F (Chain.lastV (m.ents t)).1 leF).x ≠ 0 then (no (turnV m.F (Chain.lastV (m.ents t)).1 leF).x, m)
  else if (turnV m.F (Chain.lastV (m.ents t)).1 leF).d = false then (no 0, Mo.setEnt ⟨(turnV m.F (Chain.lastV (m.ents t)).1 leF).F, m.O, m.A, m.T⟩ t (m.ents t).dropLast)
  else lastV FF m (turnV m.F (Chain.lastV (m.ents t)).1 leF).F t (Chain.lastV (m.ents t)).1
/-- Where an object of so many bytes would stand. -/
def roomX (m : Mo) (s bytes : Int) : Int := if (m.ar s).u + bytes > (seeX m.F.R s).2.1 then 17 else 0
def roomA (m : Mo) (s : Int) : Int := (seeX m.F.R s).1 + (m.ar s).u
def newOb (m : Mo) (s : Int) (c : Ca) : Ob := ⟨s, (seeC m.F.R s).e, roomA m s, List.replicate c.a.toNat 0, c.c, false⟩
def putOb (m : Mo) (o : Ob) (bytes : Int) : Mo := ⟨m.F, m.O ++ [o], m.A.set o.s.toNat ⟨(m.ar o.s).g, (m.ar o.s).u + bytes⟩, m.T⟩
def allocV (m : Mo) (t : Nat) (c : Ca) : Re2 :=
  if (Heads.wordsV c.a c.b).err ≠ 0 ∨ ¬ (0 ≤ c.c ∧ c.c ≤ 7) then (no 1, m)
  else if roomX m (Chain.areaV (m.ents t)) ((Heads.wordsV c.a c.b).n * 8) ≠ 0 then (no (roomX m (Chain.areaV (m.ents t)) ((Heads.wordsV c.a c.b).n * 8)), m)
  else give (putOb m (newOb m (Chain.areaV (m.ents t)) c) ((Heads.wordsV c.a c.b).n * 8)) t c.r (newOb m (Chain.areaV (m.ents t)) c).h
/-- What stands against the slot B of the object of a number. -/
def holdX (m : Mo) (L : List Chain.E) (h b : Int) : Int :=
  if m.chk L h ≠ 0 then m.chk L h else match m.obs h with
    | none => 18
    | some o => if decide (0 ≤ b ∧ b < (o.sl.length : Int)) = true then 0 else 21
def slotOf (m : Mo) (h b : Int) : Int := match m.obs h with | none => 0 | some o => o.sl.getD b.toNat 0
def loadV (m : Mo) (t : Nat) (c : Ca) : Re2 :=
  if holdX m (m.ents t) (m.reg t c.h) c.b ≠ 0 then (no (holdX m (m.ents t) (m.reg t c.h) c.b), m)
  else give m t c.r (slotOf m (m.reg t c.h) c.b)
def putSlot (h : Int) (b : Nat) (v : Int) (o : Ob) : Ob := if o.h = h then ⟨o.s, o.e, o.a, o.sl.set b v, o.tag, o.d⟩ else o
def storeV (m : Mo) (t : Nat) (c : Ca) : Re2 :=
  if holdX m (m.ents t) (m.reg t c.h) c.b ≠ 0 then (no (holdX m (m.ents t) (m.reg t c.h) c.b), m)
  else if m.fits (m.ents t) (m.reg t c.v) (Refs.unV (m.reg t c.h)).s ≠ 0 then (no (m.fits (m.ents t) (m.reg t c.v) (Refs.unV (m.reg t c.h)).s), m)
  else (no 0, ⟨m.F, m.O.map (putSlot (m.reg t c.h) c.b.toNat (m.reg t c.v)), m.A, m.T⟩)
/-- What stands against the portal of a scope. -/
def reachX (m : Mo) (L : List Chain.E) (i : Int) : Int := if scopeB m i = false then 11 else if Chain.reachV L i = false then 20 else 0
def lookV (m : Mo) (t : Nat) (c : Ca) : Re2 :=
  if reachX m (m.ents t) c.a ≠ 0 then (no (reachX m (m.ents t) c.a), m) else give m t c.r (m.ar c.a).g
def gateV (m : Mo) (t : Nat) (c : Ca) : Re2 :=
  if reachX m (m.ents t) c.a ≠ 0 then (no (reachX m (m.ents t) c.a), m)
  else if m.fits (m.ents t) (m.reg t c.v) c.a ≠ 0 then (no (m.fits (m.ents t) (m.reg t c.v) c.a), m)
  else (no 0, ⟨m.F, m.O, m.A.set c.a.toNat ⟨m.reg t c.v, (m.ar c.a).u⟩, m.T⟩)
/-- Whether a register that a call names is none. -/
def badC (c : Ca) : Bool :=
  if c.op = 1 ∨ c.op = 7 ∨ c.op = 10 then badR c.r
  else if c.op = 8 then badR c.r || badR c.h
  else if c.op = 9 then badR c.h || badR c.v
  else if c.op = 11 then badR c.v else false
def createM (m : Mo) (z : Int) : Re2 := (⟨(createV m.F z).x, (createV m.F z).v, []⟩, ⟨(createV m.F z).F, m.O, m.A, m.T⟩)
def destroyM (m : Mo) (i : Int) : Re2 := (no (destroyV m.F i).x, ⟨(destroyV m.F i).F, m.O, m.A, m.T⟩)
def doM (FF : List (List Fina.O)) (m : Mo) (t : Nat) (c : Ca) : Re2 :=
  if badC c = true then (no 1, m)
  else if c.op = 0 then (no 0, m)
  else if c.op = 1 then (no 0, m.setReg t c.r (IntKind.u64.wrap c.a))
  else if c.op = 2 then createM m c.a
  else if c.op = 3 then destroyM m c.a
  else if c.op = 4 then enterV m t c.a
  else if c.op = 5 then exitV FF m t
  else if c.op = 6 then inV m t c.a
  else if c.op = 7 then allocV m t c
  else if c.op = 8 then loadV m t c
  else if c.op = 9 then storeV m t c
  else if c.op = 10 then lookV m t c
  else if c.op = 11 then gateV m t c
  else (no 1, m)

/-- A model that is new. -/
def newM (n nt : Nat) (A S I J : Int) : Mo := ⟨Sco.start n A S I J, [], List.replicate n ar0, List.replicate nt th0⟩
end Go.Proofs.Ytbpmnjmegffllaa.Mod

/-
  A model in memory: kinds of its rows; its map of objects; where all stands (Md); what is kept by whatever is done elsewhere.
-/
namespace Go.Proofs.Ytbpmnjmegffllaa.Sco
open Go.ChangeShapes Go.WideShapes Go.ChangeAt Go.RowKit
/-- A block that does not hold elements of a type. -/
def noT (w : World) (b : Nat) (t : TypeId) : Prop := ∀ cs fz, w.heap[b]? ≠ some (.cells cs t fz)
theorem isT.of {w : World} {b : Nat} {cs : Array Value} {t : TypeId} (h : w.heap[b]? = some (.cells cs t (0, 0))) : isT w b t := ⟨cs, h⟩
theorem isT.lt {w : World} {b : Nat} {t : TypeId} (h : isT w b t) : b < w.heap.size := by
  obtain ⟨cs, h⟩ := h
  exact (Array.getElem?_eq_some_iff.1 h).1
theorem isT.no {w : World} {b : Nat} {t t' : TypeId} (h : isT w b t) (hn : (t == t') = false) : noT w b t' := by
  obtain ⟨c, h⟩ := h
  intro cs fz e
  rw [h] at e
  injection e with e
  injection e with _ e
  subst e
  simp at hn
theorem noT.ne {w : World} {b b' : Nat} {t : TypeId} (h : noT w b t) (h' : isT w b' t) : b ≠ b' := by
  rintro rfl
  obtain ⟨c, e⟩ := h'
  exact h _ _ e
end Go.Proofs.Ytbpmnjmegffllaa.Sco
namespace Go.Proofs.Ytbpmnjmegffllaa.Mod
open Go.ChangeShapes Go.WideShapes Go.ChangeAt Go.RowKit
open Slic Sco
set_option linter.unusedVariables false
set_option maxRecDepth 8000

abbrev Tri := Option Addr × Nat × Nat
abbrev sl3 (x : Tri) : Value := .slice x.1 x.2.1 x.2.2
abbrev ob (x : Tri) : Option Nat := (sl3 x).ownBlock
def kE : Kd Chain.E := { X := 48, T := 106, m := 2, by_ := 16, z := .agg #[.int .i64 0, .bool false], enc := fun x => [.int .i64 x.1, .bool x.2], len := fun _ => rfl, one := fun _ u h => by simp at h; rcases h with rfl | rfl <;> rfl, pos := by decide, small := by decide, zs := rfl, under := by kernel_rfl, info := by kernel_rfl, elem := by kernel_rfl }
theorem ent_own {w : World} {b : Nat} {v : Value} {L : List Chain.E} : Chain.Own w b v L ↔ Own kE w b v L := Iff.rfl

/-! The map of objects. -/
def enB : Option Nat → DataW Unit
  | none => .lit (.int .i64 (-1))
  | some b => .lit (.int .i64 (b : Int))
def ptrO : Option Nat → Value
  | none => .pointer none
  | some b => .pointer (some ⟨b, 0, none⟩)
def Rp : Value → Option (DataW Unit × List MemPlace)
  | .pointer none => some (enB none, [])
  | .pointer (some ⟨b, 0, none⟩) => some (enB (some b), [])
  | _ => none
theorem Rp_mk (r : Option Nat) : Rp (ptrO r) = some (enB r, []) := by cases r <;> rfl
theorem enB_inj {r s : Option Nat} (h : enB r = enB s) : r = s := by
  cases r <;> cases s <;> simp [enB] at h ⊢ <;> omega
theorem Rp_inv {v : Value} {r : Option Nat} {ps : List MemPlace} (h : Rp v = some (enB r, ps)) : v = ptrO r := by
  unfold Rp at h
  split at h
  · injection h with h
    injection h with h _
    have := enB_inj h
    subst this
    rfl
  · injection h with h
    injection h with h _
    have := enB_inj h
    subst this
    rfl
  · cases h
abbrev u64t : TypeId := 33
theorem key_u64 : Maps.Keyed Try.prog u64t := Maps.int_keyed (q := .u64) (by kernel_rfl)
theorem key_mk {k : Int} (h : (Lit.int .u64 k).wf = true) : keyOf Try.prog u64t (.int .u64 k) = some (.int .u64 k) := Maps.keyOf_int_mk (q := .u64) (by kernel_rfl) h
def wf64 (k : Int) : Prop := 0 ≤ k ∧ k ≤ 18446744073709551615
theorem wf_lit {k : Int} (h : wf64 k) : (Lit.int .u64 k).wf = true := by
  obtain ⟨h1, h2⟩ := h
  simp [Lit.wf, IntKind.min, IntKind.max, IntKind.signed, IntKind.bits]
  omega
/-- A map of so many numbers to objects' blocks. -/
def Mp (w : World) (b n : Nat) (f : Int → Option Nat) : Prop :=
  ∃ D : DataW Unit, w.ownsMap Try.prog u64t Rp b n D ∧ Maps.size D = n ∧ ∀ k, wf64 k → Maps.has D (.int .u64 k) = (f k).isSome ∧ D.atKey (.int .u64 k) (enB none) = enB (f k)
theorem shrink {w : World} {b n : Nat} {D : DataW Unit} (h : w.ownsMap Try.prog u64t Rp b n D) : w.ownsMap Try.prog u64t Rp b (Maps.size D) D := by
  obtain ⟨es, clock, hb, F, hs, rfl⟩ := h
  exact ⟨es, clock, hb, F, by simp [Maps.size, length_sorted], rfl⟩
section
variable {w w' : World} {b n : Nat} {f : Int → Option Nat}
theorem Mp.lt (h : Mp w b n f) : b < w.heap.size := by
  obtain ⟨D, h, _⟩ := h
  exact h.lt
theorem Mp.block (h : Mp w b n f) (k : w'.heap[b]? = w.heap[b]?) : Mp w' b n f := by
  obtain ⟨D, ⟨es, clock, hb, r⟩, h2⟩ := h
  exact ⟨D, ⟨es, clock, k.trans hb, r⟩, h2⟩
theorem Mp.noT (h : Mp w b n f) (t : TypeId) : noT w b t := by
  obtain ⟨D, ⟨es, clock, hb, r⟩, h2⟩ := h
  intro cs fz e
  rw [hb] at e
  cases e
theorem Mp.made (w : World) : Mp (w.alloc (.map #[] 0)) w.heap.size 0 (fun _ => none) :=
  ⟨.map [], World.ownsMap_made w _ _ _, rfl, fun k hk => ⟨rfl, rfl⟩⟩
end

/-! Where all stands. -/
/-- What stays: where the struct, its row of records, its threads, areas and map are; how many there are; the heap's extent; finalizers. -/
structure Fx where
  B : Nat
  g : Nat
  bt : Nat
  ba : Nat
  bm : Nat
  n : Nat
  nt : Nat
  A : Int
  S : Int
  I : Int
  J : Int
  fv : Tri
  FF : List (List Fina.O)
/-- What does not: entries' rows, handles' rows, objects' blocks and slots' rows. -/
structure Hp where
  tm : List Tri
  am : List Tri
  om : List (Nat × Tri)
def hs (s : Nat) (O : List Ob) : List Int := (O.filter (fun o => decide (o.s = (s : Int)))).map Ob.h
/-- The block of the object of a number. -/
def blk : List Ob → List (Nat × Tri) → Int → Option Nat
  | o :: O, p :: M, h => if o.h = h then some p.1 else blk O M h
  | _, _, _ => none
def obV (o : Ob) (x : Tri) : List Value := [.int .i64 o.s, .int .i64 o.e, .int .i64 o.a, sl3 x, .int .i64 o.tag, .bool o.d]
/-- Rows of programs. -/
def FRows (w : World) (v : Value) (LL : List (List Fina.O)) : Prop := ∃ Hs : List Tri, Own Fina.kR w 0 v Hs ∧ Hs.length = LL.length ∧ ∀ (i : Nat) (h : i < Hs.length) (h' : i < LL.length), Own Fina.kF w 0 (sl3 Hs[i]) LL[i]
/-- What is so of all rows and blocks, whatever objects a law of the model would have: the map tells f, handles' rows tell hh. -/
structure Gs where
  F : Fo
  A : List Ar
  T : List Th
  O : List Ob
  f : Int → Option Nat
  hh : Nat → List Int
  c : Nat
def Mo.gs (m : Mo) (om : List (Nat × Tri)) : Gs := ⟨m.F, m.A, m.T, m.O, blk m.O om, fun s => hs s m.O, m.O.length⟩
/-- Two objects share no block. -/
def apartO (p q : Nat × Tri) : Prop := p.1 ≠ q.1 ∧ ∀ b, ob p.2 = some b → ob q.2 ≠ some b
theorem apartO.symm {p q : Nat × Tri} (h : apartO p q) : apartO q p := ⟨fun e => h.1 e.symm, fun b h1 h2 => h.2 b h2 h1⟩
/-- Where a call may write. -/
def wr (Z : Fx) (H : Hp) (b : Nat) : Prop := b = Z.B ∨ b = Z.g ∨ b = Z.bt ∨ b = Z.ba ∨ b = Z.bm ∨ (∃ x ∈ H.am, ob x = some b) ∨ (∃ p ∈ H.om, p.1 = b ∨ ob p.2 = some b)

theorem own_isT {α : Type} {K : Kd α} {w : World} {base b : Nat} {v : Value} {L : List α} (h : Own K w base v L) (e : v.ownBlock = some b) : isT w b K.T := by
  rcases h.2 with ⟨e', _⟩ | ⟨g', cap, cur, e', _, hg, _⟩
  · rw [e'] at e
    cases e
  · rw [e'] at e
    injection e with e
    subst e
    exact ⟨cur, hg⟩
theorem own_lt {α : Type} {K : Kd α} {w : World} {base b : Nat} {v : Value} {L : List α} (h : Own K w base v L) (e : v.ownBlock = some b) : b < w.heap.size := (World.ownsRow.lt h b e).2
/-- A row of one's own stands while its block does. -/
theorem own_keep {α : Type} {K : Kd α} {w w' : World} {base : Nat} {v : Value} {L : List α} (h : Own K w base v L) (k : ∀ b, v.ownBlock = some b → w'.heap[b]? = w.heap[b]?) : Own K w' base v L := by
  refine ⟨h.1, ?_⟩
  rcases h.2 with hn | ⟨g', cap, cur, e, hb, hgg, rest⟩
  · exact .inl hn
  · exact .inr ⟨g', cap, cur, e, hb, (k g' (by rw [e]; rfl)).trans hgg, rest⟩
theorem own_off {α : Type} {K : Kd α} {w w' : World} {base : Nat} {v : Value} {L : List α} {X : List Nat} (h : Own K w base v L) (k : Only X w w') (hX : ∀ x ∈ X, v.ownBlock ≠ some x) : Own K w' base v L :=
  own_keep h fun b e => k.block b (own_lt h e) fun hx => hX b hx e
/-- .. what is done to blocks of other types. -/
theorem own_types {α : Type} {K : Kd α} {w w' : World} {base : Nat} {v : Value} {L : List α} {X : List Nat} (h : Own K w base v L) (k : Only X w w') (hX : ∀ x ∈ X, noT w x K.T) : Own K w' base v L :=
  own_off h k fun x hx e => (hX x hx).ne (own_isT h e) rfl
theorem FRows.types {w w' : World} {v : Value} {LL : List (List Fina.O)} {X : List Nat} (h : FRows w v LL) (k : Only X w w') (h1 : ∀ x ∈ X, noT w x Fina.kR.T) (h2 : ∀ x ∈ X, noT w x Fina.kF.T) : FRows w' v LL := by
  obtain ⟨Hs, a, b, c⟩ := h
  exact ⟨Hs, own_types a k h1, b, fun i h h' => own_types (c i h h') k h2⟩
theorem FRows.rows {w : World} {v : Value} {LL : List (List Fina.O)} (h : FRows w v LL) : Fina.Rows w v LL := by
  obtain ⟨Hs, a, b, c⟩ := h
  exact ⟨Hs, a.sr, b, fun i h h' => (c i h h').sr⟩
/-- Types of rows that nobody writes into. -/
def rdT : List TypeId := [60, 157, 207, 106]
section
variable {w w' : World} {Z : Fx} {H : Hp} {G : Gs} {X : List Nat}
theorem get_zip {α β : Type} {A : List α} {B : List β} {i : Nat} {a : α} (h : A[i]? = some a) (hl : B.length = A.length) : ∃ b, B[i]? = some b := by
  have := (List.getElem?_eq_some_iff.1 h).1
  exact ⟨B[i], List.getElem?_eq_getElem (by omega)⟩
theorem wr_am {x : Tri} {i : Nat} (h : H.am[i]? = some x) {b : Nat} (e : ob x = some b) : wr Z H b := .inr (.inr (.inr (.inr (.inr (.inl ⟨x, List.mem_of_getElem? h, e⟩)))))
theorem wr_om {p : Nat × Tri} {i : Nat} (h : H.om[i]? = some p) : wr Z H p.1 := .inr (.inr (.inr (.inr (.inr (.inr ⟨p, List.mem_of_getElem? h, .inl rfl⟩)))))
theorem wr_sl {p : Nat × Tri} {i : Nat} (h : H.om[i]? = some p) {b : Nat} (e : ob p.2 = some b) : wr Z H b := .inr (.inr (.inr (.inr (.inr (.inr ⟨p, List.mem_of_getElem? h, .inr e⟩)))))
end
end Go.Proofs.Ytbpmnjmegffllaa.Mod

/-
  A model in memory: each store, and what it leaves; what a walk carries (Mh: where all stands, and local blocks beside it; Mw: the same of a model's state).
-/
namespace Go.Proofs.Ytbpmnjmegffllaa.Mod
open Go.ChangeShapes Go.WideShapes Go.ChangeAt Go.RowKit
open Slic Sco
set_option linter.unusedVariables false
set_option maxRecDepth 8000

theorem zip_set {α β : Type} : ∀ (A : List α) (B : List β) (i : Nat) (a : α) (b : β), (A.zip B).set i (a, b) = (A.set i a).zip (B.set i b)
  | [], B, i, a, b => by simp
  | x :: A, [], i, a, b => by cases i <;> simp
  | x :: A, y :: B, 0, a, b => by simp
  | x :: A, y :: B, i + 1, a, b => by simp [zip_set A B i a b]
theorem set_same {α : Type} {A : List α} {i : Nat} {a : α} (h : A[i]? = some a) : A.set i a = A := by
  apply List.ext_getElem?
  intro j
  rw [List.getElem?_set]
  split
  · rename_i e
    subst e
    split
    · exact h.symm
    · rename_i c
      rw [List.getElem?_eq_none (by omega)]
  · rfl
theorem get_setL {α : Type} {A : List α} {k i : Nat} {y x : α} (h : (A.set k y)[i]? = some x) : (i = k ∧ x = y ∧ k < A.length) ∨ (i ≠ k ∧ A[i]? = some x) := by
  rw [List.getElem?_set] at h
  split at h
  · rename_i e
    split at h
    · injection h with h
      exact .inl ⟨e.symm, h.symm, by assumption⟩
    · cases h
  · rename_i e
    exact .inr ⟨fun q => e q.symm, h⟩
theorem zip_get {α β : Type} {A : List α} {B : List β} {i : Nat} {a : α} {b : β} (ha : A[i]? = some a) (hb : B[i]? = some b) : (A.zip B)[i]? = some (a, b) := by
  rw [List.getElem?_zip_eq_some]
  exact ⟨ha, hb⟩
/-- One cell of a row of one's own is stored. -/
theorem own_put {α : Type} {K : Kd α} {w : World} {base g n c : Nat} {L : List α} (h : Own K w base (.slice (some ⟨g, 0, none⟩) n c) L) (i j : Nat) {y : α} (hy : L[i]? = some y) (hj : j < K.m) (x : α) (v : Value) (hx : K.enc x = (K.enc y).set j v) :
    Own K (w.setCell ⟨g, i * K.m + j, none⟩ v) base (.slice (some ⟨g, 0, none⟩) n c) (L.set i x) := by
  obtain ⟨hi, hy⟩ := List.getElem?_eq_some_iff.1 hy
  have hn : L.length = n := by
    obtain ⟨A, c', e, _⟩ := h.sr
    injection e with _ e _
    exact e.symm
  subst hn
  subst hy
  exact (h.put i j hi hj x v hx).1
/-- The cells of an element of a row of one's own. -/
theorem own_at {α : Type} {K : Kd α} {w : World} {base g n c : Nat} {L : List α} (h : Own K w base (.slice (some ⟨g, 0, none⟩) n c) L) (i : Nat) {y : α} (hy : L[i]? = some y) :
    (∀ j u, (K.enc y)[j]? = some u → w.cell? ⟨g, i * K.m + j, none⟩ = some u) ∧ ∀ o, w.frozen? ⟨g, o, none⟩ = false := by
  obtain ⟨hi, hy⟩ := List.getElem?_eq_some_iff.1 hy
  have hn : L.length = n := by
    obtain ⟨A, c', e, _⟩ := h.sr
    injection e with _ e _
    exact e.symm
  subst hn
  subst hy
  obtain ⟨g', c', e, _, _, _, _, hf, hc⟩ := h.form (by omega)
  injection e with e
  injection e with e
  injection e with e
  subst e
  exact ⟨fun j u hu => hc i j u hi hu, hf⟩
section
variable {w w' : World} {Z : Fx} {H : Hp} {G : Gs}
theorem pair_get {α : Type} {R : α → α → Prop} (hs : ∀ {a b}, R a b → R b a) {L : List α} (h : L.Pairwise R) {i j : Nat} {a b : α} (hi : L[i]? = some a) (hj : L[j]? = some b) (hne : i ≠ j) : R a b := by
  obtain ⟨hi', rfl⟩ := List.getElem?_eq_some_iff.1 hi
  obtain ⟨hj', rfl⟩ := List.getElem?_eq_some_iff.1 hj
  rcases Nat.lt_or_gt_of_ne hne with c | c
  · exact List.pairwise_iff_getElem.1 h i j hi' hj' c
  · exact hs (List.pairwise_iff_getElem.1 h j i hj' hi' c)
theorem pair_set {α : Type} {R : α → α → Prop} (hs : ∀ {a b}, R a b → R b a) {L : List α} (h : L.Pairwise R) {k : Nat} {y : α} (hy : ∀ (i : Nat) a, L[i]? = some a → i ≠ k → R a y) : (L.set k y).Pairwise R := by
  rw [List.pairwise_iff_getElem]
  intro i j hi hj hij
  have ei : (L.set k y)[i]? = some (L.set k y)[i] := List.getElem?_eq_getElem hi
  have ej : (L.set k y)[j]? = some (L.set k y)[j] := List.getElem?_eq_getElem hj
  rcases get_setL ei with ⟨e1, e2, _⟩ | ⟨n1, e1⟩
  · rcases get_setL ej with ⟨e3, _, _⟩ | ⟨n2, e3⟩
    · omega
    · rw [e2]
      exact hs (hy j _ e3 n2)
  · rcases get_setL ej with ⟨e3, e4, _⟩ | ⟨n2, e3⟩
    · rw [e4]
      exact hy i _ e1 n1
    · exact pair_get hs h e1 e3 (by omega)
end
end Go.Proofs.Ytbpmnjmegffllaa.Mod

/-
  What a walk carries: where all of a model stands, and local blocks beside it (Mh); the same of a model's state (Mw).
-/
namespace Go.Proofs.Ytbpmnjmegffllaa.Mod
open Go.ChangeShapes Go.WideShapes Go.ChangeAt Go.RowKit
open Slic Sco
set_option linter.unusedVariables false
set_option maxRecDepth 8000

abbrev Bx := List (Nat × Obj)
section
variable {w0 w w' : World} {Z : Fx} {H H' : Hp} {G G' : Gs} {bx : Bx}
theorem cell_of {w : World} {b : Nat} {vs : Array Value} {t : TypeId} {fz : Nat × Nat} (h : w.heap[b]? = some (.cells vs t fz)) (k : Nat) (v : Value) (e : vs[k]? = some v) : w.cell? ⟨b, k, none⟩ = some v := by simp [World.cell?, h, e]
theorem fz_of {w : World} {b : Nat} {vs : Array Value} {t : TypeId} (h : w.heap[b]? = some (.cells vs t (0, 0))) (o : Nat) : w.frozen? ⟨b, o, none⟩ = false := by simp [World.frozen?, h]
end
section
variable {w0 w w' : World} {Z : Fx} {m m' : Mo} {bx : Bx}
end
end Go.Proofs.Ytbpmnjmegffllaa.Mod

/-
  Contracts of package model: what only looks (threads, scopes, words, portals, how much is used), answers that are refused, registers.
-/
namespace Go.Proofs.Ytbpmnjmegffllaa.Mod
open Go.ChangeShapes Go.WideShapes Go.ChangeAt Go.RowKit
open Slic Sco
set_option linter.unusedVariables false
set_option maxRecDepth 8000
set_option linter.unusedSimpArgs false
set_option maxRecDepth 8000
attribute [local go_sem ↓] Go.wp_at_zero Go.wp_at_succ

/-- A call as a value, and a call of a thread of a model. -/
def caL (c : Ca) : List Value := [.int .u8 c.op, .int .u8 c.r, .int .u8 c.h, .int .u8 c.v, .int .i64 c.a, .int .i64 c.b, .int .i64 c.c]
abbrev caV (c : Ca) : Value := .agg #[.int .u8 c.op, .int .u8 c.r, .int .u8 c.h, .int .u8 c.v, .int .i64 c.a, .int .i64 c.b, .int .i64 c.c]
abbrev doA (Z : Fx) (t : Nat) (c : Ca) : Array Value := #[.pointer (some ⟨Z.B, 0, none⟩), .pointer (some ⟨Z.bt, t * 5, none⟩), .int .u8 c.op, .int .u8 c.r, .int .u8 c.h, .int .u8 c.v, .int .i64 c.a, .int .i64 c.b, .int .i64 c.c]
abbrev doV (Z : Fx) (t : Nat) (c : Ca) : Value := .agg (doA Z t c)
abbrev anT : TypeId := 51
/-- An answer as a value: its code, number, and what was said. -/
abbrev anV (c n : Int) (v : Value) : Value := .agg #[.int .i64 c, .int .i64 n, v]
abbrev nil0 : Value := .slice none 0 0

section
variable {w0 w w' : World} {Z : Fx} {m : Mo} {bx : Bx}
def inN (i : Int) (n : Nat) : Bool := decide (0 ≤ i ∧ i < (n : Int))
theorem within_n {i : Int} {n : Nat} : Ctl.withinB i 0 ((n : Int) - 1) = inN i n := decide_eq_decide.2 (by omega)
def portV (m : Mo) (n : Nat) (i : Int) : Int := if inN i n = true then (m.ar i).g else 0
def usedV (m : Mo) (n : Nat) (i : Int) : Int := if inN i n = true then (m.ar i).u else 0
end
end Go.Proofs.Ytbpmnjmegffllaa.Mod

/-
  Contracts of package model: registers and entries told; a number that is given; calls that do nothing, set, make and unmake.
-/
namespace Go.Proofs.Ytbpmnjmegffllaa.Mod
open Go.ChangeShapes Go.WideShapes Go.ChangeAt Go.RowKit
open Slic Sco
set_option linter.unusedVariables false
set_option maxRecDepth 8000
set_option linter.unusedSimpArgs false
set_option maxRecDepth 8000
attribute [local go_sem ↓] Go.wp_at_zero Go.wp_at_succ

set_option maxHeartbeats 1000000 in
theorem cloneE_any (w : World) (v : Value) {S : List _} (h : Sr kE w v S) (hS : S.length ≤ 100000) : Calls Try.prog 38 #[v] w fun e w' => ∃ v', e = .returned v' ∧ Own kE w' w.heap.size v' S ∧ Below w.heap.size w w' := by
  have h' := h
  obtain ⟨A, c, rfl, h1, h2, h3, h4⟩ := h
  clear h4
  have q : ∀ (W : World) (a : Option Addr) (n c : Nat), (binOp .eql 48 (.slice a n c) (.slice none 0 0)).run Try.prog W = .ok (.bool a.isNone) W := fun W a n c => Lib.run_eql_slice_nil W _ _ a n c 0 0 kE.under
  rcases A with _ | x
  · have hc := h3 rfl
    subst hc
    have e : S = [] := List.eq_nil_of_length_eq_zero (by omega)
    subst e
    clear h' h1 h2 h3
    go_enter Try.func38, Try.ntmps38
    go_wp2
    go_ret
    exact ⟨_, rfl, Own.nil _ _, Below.refl _ _⟩
  · clear h3
    go_enter Try.func38, Try.ntmps38
    go_wp2_with (
      refine wpList_app (K := kE) rfl (.tmp 5) (.tmp 6) rfl rfl rfl rfl (Own.empty w w.heap.size (Nat.le_refl _)) (h'.alloc _) (by simp; omega) (by simp) ?_
      intro v' w' O' g' G')
    go_ret
    exact ⟨_, rfl, O', G'.below _ _ (Nat.le_refl _) (below_one _ _)⟩
section
variable {w0 w w' : World} {Z : Fx} {m : Mo} {bx : Bx}
def regL (th : Th) : List Int := [th.r 0, th.r 1, th.r 2, th.r 3]
def regsV (m : Mo) (nt : Nat) (i : Int) : List Int := if inN i nt = true then regL (m.th i.toNat) else []
def entsV (m : Mo) (nt : Nat) (i : Int) : List Chain.E := if inN i nt = true then m.ents i.toNat else []
theorem regs_sr {w : World} {b o : Nat} {th : Th} (hb : b < w.heap.size) (h0 : w.cell? ⟨b, o, none⟩ = some (.int .u64 (th.r 0))) (h1 : w.cell? ⟨b, o + 1, none⟩ = some (.int .u64 (th.r 1))) (h2 : w.cell? ⟨b, o + 2, none⟩ = some (.int .u64 (th.r 2))) (h3 : w.cell? ⟨b, o + 3, none⟩ = some (.int .u64 (th.r 3))) :
    Sr Fina.kU w (.slice (some ⟨b, o, none⟩) 4 4) (regL th) := by
  refine ⟨_, 4, rfl, Nat.le_refl _, by decide, fun e => (by cases e), fun _ => ⟨b, o, rfl, hb, fun i j u hi hu => ?_⟩⟩
  have hj : j = 0 := by
    rcases Nat.eq_zero_or_pos j with e | e
    · exact e
    · rw [List.getElem?_eq_none (by rw [Fina.kU.len]; exact e)] at hu
      cases hu
  subst hj
  have hu' : u = .int .u64 ((regL th)[i]) := by
    have : (Fina.kU.enc (regL th)[i])[0]? = some (.int .u64 ((regL th)[i])) := rfl
    rw [this] at hu
    exact (Option.some.inj hu).symm
  subst hu'
  have hi4 : i < 4 := hi
  have : i = 0 ∨ i = 1 ∨ i = 2 ∨ i = 3 := by omega
  rcases this with rfl | rfl | rfl | rfl
  · exact h0
  · exact h1
  · exact h2
  · exact h3
end
end Go.Proofs.Ytbpmnjmegffllaa.Mod

/-
  Contracts of package model: enter, in.
-/
namespace Go.Proofs.Ytbpmnjmegffllaa.Mod
open Go.ChangeShapes Go.WideShapes Go.ChangeAt Go.RowKit
open Slic Sco
set_option linter.unusedVariables false
set_option maxRecDepth 8000
set_option linter.unusedSimpArgs false
set_option maxRecDepth 8000
attribute [local go_sem ↓] Go.wp_at_zero Go.wp_at_succ
section
variable {w0 w w' : World} {Z : Fx} {m : Mo} {bx : Bx}
theorem own_tri {α : Type} {K : Kd α} {w : World} {b : Nat} {v : Value} {L : List α} (h : Own K w b v L) : ∃ x : Tri, v = sl3 x := by
  obtain ⟨A, c, e, _⟩ := h.sr
  exact ⟨(A, L.length, c), e⟩
theorem own_zero {α : Type} {K : Kd α} {w : World} {b : Nat} {v : Value} {L : List α} (h : Own K w b v L) : Own K w 0 v L := h.zero (Nat.zero_le _)
theorem push_len {L : List Chain.E} {e : Chain.E} (h : Chain.pushE L = 0) : Chain.pushL L e = L ++ [e] := by
  unfold Chain.pushE at h
  unfold Chain.pushL
  split at h
  · cases h
  · rename_i c
    rw [if_neg c]
theorem turn_bad {F : Fo} {i : Int} {f : Cx → Ctl.R} (h : (turnV F i f).x ≠ 0) : (turnV F i f).F = F := by
  revert h
  unfold turnV
  cases Sco.look F.R i with
  | none => exact fun _ => rfl
  | some x =>
    by_cases h0 : (f x).x = 0
    · simp [h0]
    · simp [h0]
end
end Go.Proofs.Ytbpmnjmegffllaa.Mod

/-
  Contracts of package model: check, holder, fits, reached.
-/
namespace Go.Proofs.Ytbpmnjmegffllaa.Mod
open Go.ChangeShapes Go.WideShapes Go.ChangeAt Go.RowKit
open Slic Sco
set_option linter.unusedVariables false
set_option maxRecDepth 8000
set_option linter.unusedSimpArgs false
set_option maxRecDepth 8000
attribute [local go_sem ↓] Go.wp_at_zero Go.wp_at_succ
section
variable {w0 w w' : World} {Z : Fx} {m : Mo} {bx : Bx}
theorem blk_obs : ∀ (O : List Ob) (M : List (Nat × Tri)) (x : Int), M.length = O.length → (blk O M x).isSome = (O.find? (fun o => o.h == x)).isSome
  | [], M, x, _ => by cases M <;> rfl
  | o :: O, [], x, h => by simp at h
  | o :: O, p :: M, x, h => by
    unfold blk
    rw [List.find?_cons]
    by_cases e : o.h = x
    · rw [if_pos e, show (o.h == x) = true from beq_iff_eq.2 e]
      rfl
    · rw [if_neg e, show (o.h == x) = false from beq_eq_false_iff_ne.2 e]
      exact blk_obs O M x (by simpa using h)
theorem blk_at : ∀ (O : List Ob) (M : List (Nat × Tri)) (x : Int), M.length = O.length → ∀ o, O.find? (fun o => o.h == x) = some o → ∃ (i : Nat) (p : Nat × Tri), O[i]? = some o ∧ M[i]? = some p ∧ o.h = x ∧ blk O M x = some p.1
  | [], M, x, _, o, h => by simp at h
  | o :: O, [], x, h, _, _ => by simp at h
  | o :: O, p :: M, x, h, q, hq => by
    rw [List.find?_cons] at hq
    unfold blk
    by_cases e : o.h = x
    · rw [show (o.h == x) = true from beq_iff_eq.2 e] at hq
      injection hq with hq
      subst hq
      exact ⟨0, p, rfl, rfl, e, if_pos e⟩
    · rw [show (o.h == x) = false from beq_eq_false_iff_ne.2 e] at hq
      obtain ⟨i, p', a, b, c, d⟩ := blk_at O M x (by simpa using h) q hq
      exact ⟨i + 1, p', a, b, c, by rw [if_neg e]; exact d⟩
def ckO (m : Mo) (L : List Chain.E) (om : List (Nat × Tri)) (x : Int) : Option Nat := if m.chk L x = 0 then blk m.O om x else none
def hoO (m : Mo) (L : List Chain.E) (om : List (Nat × Tri)) (x b : Int) : Option Nat := if holdX m L x b = 0 then blk m.O om x else none
/-- The words of all handles say what they were made of. -/
def Rt (m : Mo) : Prop := ∀ o ∈ m.O, Refs.rightB o.s o.e o.a = true
theorem un_handle {s e a : Int} (h : Refs.rightB s e a = true) : Refs.unV (Refs.handle s e a) = ⟨s, e, a, 0⟩ := by
  obtain ⟨b1, b2, b3, b4, b5, b6, b7⟩ := Refs.rbounds h
  have e1 : Refs.handle s e a / 16777216 % 256 = s := by unfold Refs.handle; omega
  have e2 : Refs.handle s e a / 4294967296 = e := by unfold Refs.handle; omega
  have e3 : 8 * (Refs.handle s e a % 16777216) = a := by unfold Refs.handle; omega
  unfold Refs.unV Refs.unB
  rw [e1, e2, e3, if_pos h]
theorem Rt.un {m : Mo} (R : Rt m) {o : Ob} (ho : o ∈ m.O) : Refs.unV o.h = ⟨o.s, o.e, o.a, 0⟩ := un_handle (R o ho)
section
variable {H : Hp}
end
theorem chk_obs {L : List Chain.E} {x : Int} (h : m.chk L x = 0) : ∃ o, m.obs x = some o := by
  cases ho : m.obs x with
  | some o => exact ⟨o, rfl⟩
  | none =>
    exfalso
    unfold Mo.chk at h
    split at h
    · rename_i c
      exact c h
    · split at h
      · exact absurd h (by decide)
      · split at h
        · exact absurd h (by decide)
        · split at h
          · exact absurd h (by decide)
          · rw [if_pos (by rw [ho]; rfl)] at h
            exact absurd h (by decide)
end
end Go.Proofs.Ytbpmnjmegffllaa.Mod

/-
  What is so of every state of a model.
-/
namespace Go.Proofs.Ytbpmnjmegffllaa.Mod
open Sco
set_option linter.unusedVariables false
set_option maxRecDepth 8000

/-- How often a scope is entered, counted. -/
def cou (T : List Th) (i : Int) : Nat := (T.map fun t => t.c.countP (Chain.hit i)).sum
structure Iv (Z : Fx) (k : Nat) (m : Mo) : Prop where
  f : Inv Z.n Z.A Z.S Z.I Z.J m.F
  nA : m.A.length = Z.n
  nT : m.T.length = Z.nt
  nt : 1 ≤ Z.nt ∧ Z.nt ≤ 4
  im : 8 ≤ Z.I ∧ Z.I % 8 = 0 ∧ 0 ≤ Z.J ∧ Z.J % 8 = 0 ∧ Z.I + Z.J = Z.A
  hp : Z.A + Z.S ≤ 65536
  cnt : m.O.length ≤ k
  reg : ∀ t ∈ m.T, ∀ i, wf64 (t.r i)
  ent : ∀ t ∈ m.T, t.c.length ≤ 6 ∧ Chain.Fits t.c ∧ ∀ e ∈ t.c, 0 ≤ e.1 ∧ e.1 < (Z.n : Int)
  par : ∀ t ∈ m.T, ∀ i : Int, Chain.inP t.c i → ∃ x : Cx, m.F.R[i.toNat]? = some x ∧ x.s = 2 ∧ x.p = Chain.parV t.c i
  cou : ∀ (i : Nat) (x : Cx), 1 ≤ i → m.F.R[i]? = some x → x.s ≠ 3 ∧ x.c = (cou m.T i : Int)
  are : ∀ (i : Nat) (x : Cx) (a : Ar), m.F.R[i]? = some x → m.A[i]? = some a → wf64 a.g ∧ 0 ≤ a.u ∧ a.u % 8 = 0 ∧ a.u ≤ x.z ∧ (x.s ≠ 2 → a.u = 0 ∧ a.g = 0)
  obj : ∀ o ∈ m.O, 0 ≤ o.s ∧ ∃ (x : Cx) (a : Ar), m.F.R[o.s.toNat]? = some x ∧ m.A[o.s.toNat]? = some a ∧ o.e = x.e ∧ x.a ≤ o.a ∧ o.a % 8 = 0 ∧ o.a + 16 ≤ x.a + a.u ∧ o.sl.length ≤ 6 ∧ (∀ v ∈ o.sl, wf64 v) ∧ 0 ≤ o.tag ∧ o.tag ≤ 7
  ord : m.O.Pairwise fun o p => o.s = p.s → o.a + 16 ≤ p.a
section
variable {Z : Fx} {k : Nat} {m : Mo}
theorem Iv.n8 (v : Iv Z k m) : Z.n ≤ 8 := v.f.n8
theorem Iv.n1 (v : Iv Z k m) : 1 ≤ Z.n := v.f.n1
theorem Iv.th_mem (v : Iv Z k m) {t : Nat} (ht : t < Z.nt) : m.th t ∈ m.T := by
  have : t < m.T.length := by rw [v.nT]; exact ht
  unfold Mo.th
  rw [List.getD_eq_getElem?_getD, List.getElem?_eq_getElem this]
  exact List.getElem_mem this
theorem Iv.wreg (v : Iv Z k m) {t : Nat} (ht : t < Z.nt) (i : Int) : wf64 (m.reg t i) := v.reg _ (v.th_mem ht) _
theorem Iv.l6 (v : Iv Z k m) {t : Nat} (ht : t < Z.nt) : (m.ents t).length ≤ 6 := (v.ent _ (v.th_mem ht)).1
theorem Iv.fit (v : Iv Z k m) {t : Nat} (ht : t < Z.nt) : Chain.Fits (m.ents t) := (v.ent _ (v.th_mem ht)).2.1
theorem Iv.sl (v : Iv Z k m) : ∀ o ∈ m.O, o.sl.length ≤ 1000000 := fun o ho => by
  obtain ⟨_, x, a, _, _, _, _, _, _, h, _⟩ := v.obj o ho
  omega
theorem Iv.scope (v : Iv Z k m) {i : Nat} (hi : i < Z.n) : ∃ (x : Cx) (a : Ar), m.F.R[i]? = some x ∧ m.A[i]? = some a := by
  have h1 := v.f.len
  have h2 := v.nA
  exact ⟨m.F.R[i], m.A[i], List.getElem?_eq_getElem (by omega), List.getElem?_eq_getElem (by omega)⟩
/-- A live scope's extent. -/
theorem Iv.live (v : Iv Z k m) {i : Nat} {x : Cx} (hx : m.F.R[i]? = some x) (hs : x.s = 2) : 8 ≤ x.a ∧ x.a % 8 = 0 ∧ 0 ≤ x.z ∧ x.z % 8 = 0 ∧ x.a + x.z ≤ 65536 ∧ 0 ≤ x.e ∧ x.e ≤ 16777215 ∧ i ≤ 7 := by
  obtain ⟨i1, i2, i3, i4, i5⟩ := v.im
  have h1 := v.hp
  have h2 := v.n8
  have h3 := v.f.len
  have hi : i < m.F.R.length := (List.getElem?_eq_some_iff.1 hx).1
  have hr := rightI (v.f.right i x hx)
  have s0 := v.f.ok.s0
  rcases Nat.eq_zero_or_pos i with rfl | hp
  · have hz := v.f.zero
    rw [hz] at hx
    injection hx with hx
    subst hx
    exact ⟨i1, i2, i3, i4, by show Z.I + Z.J ≤ 65536; omega, by show (0 : Int) ≤ 0; decide, by show (0 : Int) ≤ 16777215; decide, by omega⟩
  · rcases v.f.ext i x hx hp with ⟨e, _⟩ | ⟨_, e1, e2, e3, e4, e5⟩
    · omega
    · exact ⟨by omega, e3, by omega, e2, by omega, by omega, by omega, by omega⟩
theorem Iv.rt (v : Iv Z k m) : Rt m := fun o ho => by
  obtain ⟨h0, x, a, hx, ha, e1, e2, e3, e4, _⟩ := v.obj o ho
  obtain ⟨_, a1, a2, a3, a4⟩ := v.are _ x a hx ha
  have hs : x.s = 2 := by
    rcases Int.decEq x.s 2 with c | c
    · have := a4 c
      omega
    · exact c
  obtain ⟨l1, l2, l3, l4, l5, l6, l7, l8⟩ := v.live hx hs
  exact decide_eq_true (by omega)
/-- Handles are unlike. -/
theorem Iv.hne (v : Iv Z k m) : m.O.Pairwise fun o p => o.h ≠ p.h := by
  refine List.Pairwise.imp_of_mem ?_ v.ord
  intro o p ho hp h e
  have e1 := v.rt.un ho
  have e2 := v.rt.un hp
  rw [e, e2] at e1
  injection e1 with a b c d
  have := h a.symm
  omega
theorem Iv.area (v : Iv Z k m) {t : Nat} (ht : t < Z.nt) : ∃ (x : Cx) (a : Ar), 0 ≤ Chain.areaV (m.ents t) ∧ Chain.areaV (m.ents t) < (Z.n : Int) ∧ m.F.R[(Chain.areaV (m.ents t)).toNat]? = some x ∧ m.A[(Chain.areaV (m.ents t)).toNat]? = some a ∧ x.s = 2 := by
  have n1 := v.n1
  rcases Chain.fits_area (v.fit ht) with e | e
  · obtain ⟨x, a, hx, ha⟩ := v.scope (i := 0) (by omega)
    have hz := v.f.zero
    rw [hx] at hz
    injection hz with hz
    refine ⟨x, a, by omega, by omega, by rw [e]; exact hx, by rw [e]; exact ha, by rw [hz]⟩
  · obtain ⟨x, hx, hs, _⟩ := v.par _ (v.th_mem ht) _ e
    have hr := Chain.fits_range (v.fit ht) _ e
    have hl := (List.getElem?_eq_some_iff.1 hx).1
    have h3 := v.f.len
    obtain ⟨x', a, hx', ha⟩ := v.scope (i := (Chain.areaV (m.ents t)).toNat) (by omega)
    exact ⟨x, a, by omega, by omega, hx, ha, hs⟩
end
end Go.Proofs.Ytbpmnjmegffllaa.Mod

/-
  Contracts of package model: load, store, look, gate.
-/
namespace Go.Proofs.Ytbpmnjmegffllaa.Mod
open Go.ChangeShapes Go.WideShapes Go.ChangeAt Go.RowKit
open Slic Sco
set_option linter.unusedVariables false
set_option maxRecDepth 8000
set_option linter.unusedSimpArgs false
set_option maxRecDepth 8000
attribute [local go_sem ↓] Go.wp_at_zero Go.wp_at_succ
section
variable {w0 w w' : World} {Z : Fx} {m : Mo} {bx : Bx} {k : Nat}
theorem hold_obs {L : List Chain.E} {x b : Int} (h : holdX m L x b = 0) : ∃ o, m.obs x = some o ∧ 0 ≤ b ∧ b < (o.sl.length : Int) := by
  unfold holdX at h
  split at h
  · rename_i c
    exact absurd h c
  · cases ho : m.obs x with
    | none =>
      rw [ho] at h
      exact absurd h (by show ¬ (18 : Int) = 0; decide)
    | some o =>
      rw [ho] at h
      simp only at h
      split at h
      · rename_i c
        have := of_decide_eq_true c
        exact ⟨o, rfl, this.1, this.2⟩
      · exact absurd h (by decide)
theorem sr_empty {α : Type} {K : Kd α} {w w' : World} {v : Value} (h : Sr K w v []) : Sr K w' v [] := by
  obtain ⟨A, c, e, h1, h2, h3, _⟩ := h
  exact ⟨A, c, e, h1, h2, h3, fun hl => absurd hl (by simp)⟩
theorem slot_at {h b : Int} {o : Ob} (ho : m.obs h = some o) (hb : b.toNat < o.sl.length) : slotOf m h b = o.sl[b.toNat] := by
  unfold slotOf
  rw [ho]
  simp only
  rw [List.getD_eq_getElem?_getD, List.getElem?_eq_getElem hb]
  rfl
theorem blk_map {g : Ob → Ob} (hg : ∀ o, (g o).h = o.h) : ∀ (O : List Ob) (M : List (Nat × Tri)) (x : Int), blk (O.map g) M x = blk O M x
  | [], M, x => by cases M <;> rfl
  | o :: O, [], x => rfl
  | o :: O, p :: M, x => by
    rw [List.map_cons]
    unfold blk
    rw [hg, blk_map hg O M x]
theorem hs_map {g : Ob → Ob} (hg : ∀ o, (g o).h = o.h) (hs' : ∀ o, (g o).s = o.s) (s : Nat) : ∀ (O : List Ob), hs s (O.map g) = hs s O
  | [] => rfl
  | o :: O => by
    have ih := hs_map hg hs' s O
    unfold hs at *
    rw [List.map_cons, List.filter_cons, List.filter_cons, hs']
    by_cases c : decide (o.s = (s : Int)) = true
    · rw [if_pos c, if_pos c, List.map_cons, List.map_cons, hg, ih]
    · rw [if_neg c, if_neg c, ih]
theorem put_h (h : Int) (b : Nat) (v : Int) (o : Ob) : (putSlot h b v o).h = o.h := by
  unfold putSlot
  split <;> rfl
theorem put_s (h : Int) (b : Nat) (v : Int) (o : Ob) : (putSlot h b v o).s = o.s := by
  unfold putSlot
  split <;> rfl
theorem map_one {O : List Ob} (hd : O.Pairwise fun o p => o.h ≠ p.h) {i : Nat} {o : Ob} (ho : O[i]? = some o) {g : Ob → Ob} (hg : ∀ q, q.h ≠ o.h → g q = q) : O.map g = O.set i (g o) := by
  apply List.ext_getElem?
  intro j
  rw [List.getElem?_map, List.getElem?_set]
  have hi := (List.getElem?_eq_some_iff.1 ho).1
  split
  · rename_i e
    subst e
    rw [ho]
    rfl
  · rename_i e
    cases hj : O[j]? with
    | none => rfl
    | some q =>
      show some (g q) = some q
      rw [hg q (pair_get (fun h e => h e.symm) hd hj ho (fun q => e q.symm))]
theorem getD_of {L : List Int} {i : Nat} (h : i < L.length) : L[i]? = some (L.getD i 0) := by
  rw [List.getElem?_eq_getElem h, List.getD_eq_getElem?_getD, List.getElem?_eq_getElem h]
  rfl
/-- A word of a row of words. -/
theorem word_at {w : World} {x : Tri} {L : List Int} (h : Own Fina.kU w 0 (sl3 x) L) {i : Nat} (hi : i < L.length) : ∃ g c, sl3 x = .slice (some ⟨g, 0, none⟩) L.length c ∧ g < w.heap.size ∧ w.cell? ⟨g, i, none⟩ = some (.int .u64 L[i]) ∧ w.frozen? ⟨g, i, none⟩ = false := by
  obtain ⟨g, c, e, _, hg, _, _, hf, hc⟩ := h.form (by omega)
  refine ⟨g, c, e, hg, ?_, hf _⟩
  have := hc i 0 (.int .u64 L[i]) hi rfl
  rwa [show i * Fina.kU.m + 0 = i from by simp [Fina.kU]] at this
theorem reach_in {L : List Chain.E} {i : Int} (h : reachX m L i = 0) : 0 ≤ i ∧ i < (m.A.length : Int) := by
  unfold reachX at h
  split at h
  · exact absurd h (by decide)
  · rename_i c
    have c : scopeB m i = true := by simpa using c
    have := of_decide_eq_true c
    omega
end
end Go.Proofs.Ytbpmnjmegffllaa.Mod

/-
  Contracts of package model: room, alloc.
-/
namespace Go.Proofs.Ytbpmnjmegffllaa.Mod
open Go.ChangeShapes Go.WideShapes Go.ChangeAt Go.RowKit
open Slic Sco
set_option linter.unusedVariables false
set_option maxRecDepth 8000
set_option linter.unusedSimpArgs false
set_option maxRecDepth 8000
attribute [local go_sem ↓] Go.wp_at_zero Go.wp_at_succ
section
variable {w0 w w' : World} {Z : Fx} {m : Mo} {bx : Bx} {k : Nat}
theorem ar_of {i : Int} {a : Ar} (h : m.A[i.toNat]? = some a) : m.ar i = a := by
  unfold Mo.ar
  rw [List.getD_eq_getElem?_getD, h]
  rfl
theorem seeC_of {R : List Cx} {i : Int} {x : Cx} (h0 : 0 ≤ i) (h : R[i.toNat]? = some x) : seeC R i = ⟨x.s, x.c, x.p, x.e, 0⟩ := by
  unfold seeC
  rw [if_pos h0, h]
theorem seeX_of {R : List Cx} {i : Int} {x : Cx} (h0 : 0 ≤ i) (h : R[i.toNat]? = some x) : seeX R i = (x.a, x.z, 0) := by
  unfold seeX
  rw [if_pos h0, h]
/-- Where an object of so many bytes would stand: its Ref. -/
def roomR (m : Mo) (i z : Int) : Int × Int × Int := if roomX m i z = 0 then (i, (seeC m.F.R i).e, roomA m i) else (0, 0, 0)
theorem set_at {α : Type} {A : List α} {i : Nat} {a b : α} (h : A[i]? = some a) : (A.set i b)[i]? = some b := by
  rw [List.getElem?_set, if_pos rfl, if_pos (List.getElem?_eq_some_iff.1 h).1]
theorem blk_none : ∀ (O : List Ob) (M : List (Nat × Tri)) (x : Int), (∀ o ∈ O, o.h ≠ x) → blk O M x = none
  | [], M, x, _ => by cases M <;> rfl
  | o :: O, [], x, _ => rfl
  | o :: O, p :: M, x, h => by
    unfold blk
    rw [if_neg (h o (List.mem_cons_self ..)), blk_none O M x fun q hq => h q (List.mem_cons_of_mem _ hq)]
theorem flat_zero (n : Nat) : Fina.kU.flat (List.replicate n (0 : Int)) = List.replicate n (.int .u64 0) := by
  induction n with
  | zero => rfl
  | succ n ih =>
    rw [List.replicate_succ, List.replicate_succ, ← ih]
    rfl
/-- A row of words that is made. -/
theorem made_own (W : World) (n : Nat) (hn : n ≤ 1000) : Own Fina.kU (W.alloc (.cells (madeCells #[.int .u64 0] n) 33)) 0 (sl3 (some ⟨W.heap.size, 0, none⟩, n, n)) (List.replicate n 0) :=
  Own.lit W 0 (Nat.zero_le _) _ _ (by rw [toList_madeCells_one]; exact (flat_zero n).symm) (by rw [List.length_replicate]; unfold maxLen; omega) n (by rw [List.length_replicate])
theorem blk_app : ∀ (O : List Ob) (M : List (Nat × Tri)) (o : Ob) (p : Nat × Tri) (x : Int), M.length = O.length → (∀ q ∈ O, q.h ≠ o.h) → blk (O ++ [o]) (M ++ [p]) x = if x = o.h then some p.1 else blk O M x
  | [], [], o, p, x, _, _ => by
    show (if o.h = x then some p.1 else none) = if x = o.h then some p.1 else none
    by_cases e : o.h = x
    · rw [if_pos e, if_pos e.symm]
    · rw [if_neg e, if_neg (fun q => e q.symm)]
  | [], q :: M, o, p, x, h, _ => by simp at h
  | q :: O, [], o, p, x, h, _ => by simp at h
  | q :: O, r :: M, o, p, x, h, hd => by
    have ih := blk_app O M o p x (by simpa using h) (fun q hq => hd q (List.mem_cons_of_mem _ hq))
    show (if q.h = x then some r.1 else blk (O ++ [o]) (M ++ [p]) x) = if x = o.h then some p.1 else if q.h = x then some r.1 else blk O M x
    rw [ih]
    by_cases e : q.h = x
    · rw [if_pos e, if_pos e, if_neg (fun c => hd q (List.mem_cons_self ..) (e.trans c))]
    · rw [if_neg e, if_neg e]
theorem hs_app (s : Nat) (O : List Ob) (o : Ob) : hs s (O ++ [o]) = if o.s = (s : Int) then hs s O ++ [o.h] else hs s O := by
  unfold hs
  rw [List.filter_append, List.map_append]
  by_cases e : o.s = (s : Int)
  · rw [if_pos e]
    simp [e]
  · rw [if_neg e]
    simp [e]
/-- append, and which block its row has. -/
theorem wpList_app3 {α : Type} {K : Kd α} {w : World} {ops : Array Oper} {rest : List Oper} {o : Oper} {a : Act} {Q : Exit → Act → World → Prop} (hgd : o.guard = none) (s x : Operand)
    (ho : o.op = .call { callee := .builtin .append, args := #[s, x], argTypes := #[K.X, K.X] }) (hty : o.type = K.X) {v y : Value} {L M : List α} {base : Nat}
    (hs : a.eval s = v) (hx : a.eval x = y) (h : Own K w base v L) (hy : Sr K w y M) (hl : L.length + M.length ≤ 1000000) (hb : base ≤ w.heap.size)
    (hK : ∀ v' w', Own K w' base v' (L ++ M) → w.grownBy w' v.ownBlock → (v'.ownBlock = v.ownBlock ∨ v'.ownBlock = some w.heap.size) → wpList Try.prog ops Q rest (a.put o.dst v') w') : wpList Try.prog ops Q (o :: rest) a w := by
  obtain ⟨v', w', hrun, r1, r2, r3⟩ := app_own w h hy hl hb
  refine wpList_plain hgd fun J hJ => ?_
  unfold Oper.wp
  simp [execOp, ho, resolve, invoke, builtin, hs, hx, hty, hrun, Result.andThen]
  exact hJ _ _ (hK v' w' r1 r2 r3)
theorem gs_put {o : Ob} (h0 : 0 ≤ o.s) (z : Int) (om : List (Nat × Tri)) (p : Nat × Tri) (hl : om.length = m.O.length) (hd : ∀ q ∈ m.O, q.h ≠ o.h) :
    (putOb m o z).gs (om ++ [p]) = ⟨m.F, m.A.set o.s.toNat ⟨(m.ar o.s).g, (m.ar o.s).u + z⟩, m.T, m.O ++ [o], fun x => if x = o.h then some p.1 else blk m.O om x, fun i => if i = o.s.toNat then hs o.s.toNat m.O ++ [o.h] else hs i m.O, m.O.length + 1⟩ := by
  unfold Mo.gs putOb
  simp only [Gs.mk.injEq, true_and]
  refine ⟨?_, ?_, by simp⟩
  · funext x
    exact blk_app m.O om o p x hl hd
  · funext i
    rw [hs_app]
    by_cases e : i = o.s.toNat
    · subst e
      rw [if_pos rfl, if_pos (by omega)]
    · rw [if_neg e, if_neg (by omega)]
end
end Go.Proofs.Ytbpmnjmegffllaa.Mod

/-
  Contract of package model: alloc.
-/
namespace Go.Proofs.Ytbpmnjmegffllaa.Mod
open Go.ChangeShapes Go.WideShapes Go.ChangeAt Go.RowKit
open Slic Sco
set_option linter.unusedVariables false
set_option maxRecDepth 8000
set_option linter.unusedSimpArgs false
set_option maxRecDepth 8000
attribute [local go_sem ↓] Go.wp_at_zero Go.wp_at_succ
section
variable {w0 w w' : World} {Z : Fx} {m : Mo} {bx : Bx} {k : Nat}
end
end Go.Proofs.Ytbpmnjmegffllaa.Mod
