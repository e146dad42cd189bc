/-
  Layer 12 in plain mathematics: a model's state (the forest, objects, what each scope has beside it, threads); what each call tells, and leaves.
-/
import Derived.Test.YtneggppfffekdaaGreatSco
import Derived.Test.YtneggppfffekdaaGreatScoA
import Derived.Test.YtneggppfffekdaaGreatRefz
import Derived.Test.YtneggppfffekdaaGreatHeads
import Derived.Test.YtneggppfffekdaaGreatChai
import Derived.Test.YtneggppfffekdaaGreatFinp
namespace Go.Proofs.YtneggppfffekdaaGreat.Mod
open Sco
set_option linter.unusedVariables false

/-- An object: its scope, epoch and place; slots, tag, and whether it was finalized. -/
structure Ob where
  s : Int
  e : Int
  a : Int
  sl : List Int
  tag : Int
  d : Bool
def Ob.h (o : Ob) : Int := Refs.handle o.s o.e o.a
/-- What a scope has beside the forest: its portal, and how much is used. -/
structure Ar where
  g : Int
  u : Int
/-- A thread: registers, entries. -/
structure Th where
  r : Nat → Int
  c : List Chain.E
structure Mo where
  F : Fo
  O : List Ob
  A : List Ar
  T : List Th
/-- An answer. -/
structure An where
  c : Int
  n : Int
  said : List Int
/-- A call. -/
structure Ca where
  op : Int
  r : Int
  h : Int
  v : Int
  a : Int
  b : Int
  c : Int
abbrev Re2 := An × Mo

def no (c : Int) : An := ⟨c, 0, []⟩
def th0 : Th := ⟨fun _ => 0, []⟩
def Mo.th (m : Mo) (t : Nat) : Th := m.T.getD t th0
def Mo.ents (m : Mo) (t : Nat) : List Chain.E := (m.th t).c
def Mo.reg (m : Mo) (t : Nat) (i : Int) : Int := (m.th t).r i.toNat
def setR (r : Nat → Int) (i : Nat) (v : Int) : Nat → Int := fun j => if j = i then v else r j
def Mo.setReg (m : Mo) (t : Nat) (i : Int) (v : Int) : Mo := ⟨m.F, m.O, m.A, m.T.set t ⟨setR (m.th t).r i.toNat v, (m.th t).c⟩⟩
def Mo.setEnt (m : Mo) (t : Nat) (c : List Chain.E) : Mo := ⟨m.F, m.O, m.A, m.T.set t ⟨(m.th t).r, c⟩⟩
def ar0 : Ar := ⟨0, 0⟩
def Mo.ar (m : Mo) (s : Int) : Ar := m.A.getD s.toNat ar0
def Mo.obs (m : Mo) (h : Int) : Option Ob := m.O.find? (fun o => o.h == h)

/-- The check of a number, by a thread with these entries. -/
def Mo.chk (m : Mo) (L : List Chain.E) (h : Int) : Int :=
  if (Refs.unV h).err ≠ 0 then (Refs.unV h).err
  else if (seeC m.F.R (Refs.unV h).s).x ≠ 0 then 18
  else if Chain.reachV L (Refs.unV h).s = false then 20
  else if (Refs.unV h).e ≠ (seeC m.F.R (Refs.unV h).s).e then 19
  else if (m.obs h).isSome = false then 18 else 0
/-- What stands against a reference from a scope to a number. -/
def Mo.fits (m : Mo) (L : List Chain.E) (v f : Int) : Int :=
  if v = 0 then 0 else if m.chk L v ≠ 0 then m.chk L v else if Chain.aboveV L (Refs.unV v).s f = false then 22 else 0
def badR (r : Int) : Bool := decide (4 ≤ r)
def scopeB (m : Mo) (i : Int) : Bool := decide (1 ≤ i ∧ i < (m.A.length : Int))
/-- A number that is told, and is the register R. -/
def give (m : Mo) (t : Nat) (r : Int) (v : Int) : Re2 := (⟨0, IntKind.i64.wrap v, []⟩, m.setReg t r v)

def ops (FF : List (List Fina.O)) (o : Ob) : List Fina.O := Fina.ofV FF o.tag
/-- Whether an object is to be finalized. -/
def todo (FF : List (List Fina.O)) (s : Int) (o : Ob) : Bool := decide (o.s = s) && (!o.d && decide ((ops FF o).length ≠ 0))
def fin1 (FF : List (List Fina.O)) (s : Int) (o : Ob) : Ob := if todo FF s o = true then ⟨o.s, o.e, o.a, (Fina.walk (ops FF o) 0 o.sl).S, o.tag, true⟩ else o
def todoL (FF : List (List Fina.O)) (s : Int) (O : List Ob) : List Ob := (O.filter (todo FF s)).reverse
def finSaid (FF : List (List Fina.O)) (s : Int) (O : List Ob) : List Int := (todoL FF s O).flatMap fun o => (Fina.walk (ops FF o) 0 o.sl).said
def finHeld (FF : List (List Fina.O)) (s : Int) (O : List Ob) : Bool := (todoL FF s O).any fun o => (Fina.walk (ops FF o) 0 o.sl).held

def enterV (m : Mo) (t : Nat) (i : Int) : Re2 :=
  if scopeB m i = false then (no 11, m)
  else if Chain.pushE (m.ents t) ≠ 0 then (no (Chain.pushE (m.ents t)), m)
  else if (turnV m.F i (enF (Chain.areaV (m.ents t)))).x ≠ 0 then (no (turnV m.F i (enF (Chain.areaV (m.ents t)))).x, m)
  else (no 0, Mo.setEnt ⟨(turnV m.F i (enF (Chain.areaV (m.ents t)))).F, m.O, m.A, m.T⟩ t (m.ents t ++ [(i, true)]))
def inV (m : Mo) (t : Nat) (i : Int) : Re2 :=
  if decide (0 ≤ i ∧ i < (m.A.length : Int)) = false then (no 11, m)
  else if Chain.reachV (m.ents t) i = false then (no 20, m)
  else if Chain.pushE (m.ents t) ≠ 0 then (no (Chain.pushE (m.ents t)), m)
  else (no 0, m.setEnt t (m.ents t ++ [(i, false)]))
/-- The last one leaves: finalizers, and what they leave. -/
def lastV (FF : List (List Fina.O)) (m : Mo) (F1 : Fo) (t : Nat) (s : Int) : Re2 :=
  if finHeld FF s m.O = true then (⟨25, ((todoL FF s m.O).length : Int), finSaid FF s m.O⟩, ⟨(turnV F1 s hoF).F, m.O.map (fin1 FF s), m.A, m.T⟩)
  else (⟨0, ((todoL FF s m.O).length : Int), finSaid FF s m.O⟩, Mo.setEnt ⟨(turnV F1 s opF).F, m.O.filter (fun o => !decide (o.s = s)), m.A.set s.toNat ar0, m.T⟩ t (m.ents t).dropLast)
def exitV (FF : List (List Fina.O)) (m : Mo) (t : Nat) : Re2 :=
  if Chain.popE (m.ents t) ≠ 0 then (no (Chain.popE (m.ents t)), m)
  else if (Chain.lastV (m.ents t)).2 = false then (no 0, m.setEnt t (m.ents t).dropLast)
  else if (turnV m.F (Chain.lastV (m.ents t)).1 leF).x ≠ 0 then (no (turnV m.F (Chain.lastV (m.ents t)).1 leF).x, m)
  else if (turnV m.F (Chain.lastV (m.ents t)).1 leF).d = false then (no 0, Mo.setEnt ⟨(turnV m.F (Chain.lastV (m.ents t)).1 leF).F, m.O, m.A, m.T⟩ t (m.ents t).dropLast)
  else lastV FF m (turnV m.F (Chain.lastV (m.ents t)).1 leF).F t (Chain.lastV (m.ents t)).1
/-- Where an object of so many bytes would stand. -/
def roomX (m : Mo) (s bytes : Int) : Int := if (m.ar s).u + bytes > (seeX m.F.R s).2.1 then 17 else 0
def roomA (m : Mo) (s : Int) : Int := (seeX m.F.R s).1 + (m.ar s).u
def newOb (m : Mo) (s : Int) (c : Ca) : Ob := ⟨s, (seeC m.F.R s).e, roomA m s, List.replicate c.a.toNat 0, c.c, false⟩
def putOb (m : Mo) (o : Ob) (bytes : Int) : Mo := ⟨m.F, m.O ++ [o], m.A.set o.s.toNat ⟨(m.ar o.s).g, (m.ar o.s).u + bytes⟩, m.T⟩
def allocV (m : Mo) (t : Nat) (c : Ca) : Re2 :=
  if (Heads.wordsV c.a c.b).err ≠ 0 ∨ ¬ (0 ≤ c.c ∧ c.c ≤ 7) then (no 1, m)
  else if roomX m (Chain.areaV (m.ents t)) ((Heads.wordsV c.a c.b).n * 8) ≠ 0 then (no (roomX m (Chain.areaV (m.ents t)) ((Heads.wordsV c.a c.b).n * 8)), m)
  else give (putOb m (newOb m (Chain.areaV (m.ents t)) c) ((Heads.wordsV c.a c.b).n * 8)) t c.r (newOb m (Chain.areaV (m.ents t)) c).h
/-- What stands against the slot B of the object of a number. -/
def holdX (m : Mo) (L : List Chain.E) (h b : Int) : Int :=
  if m.chk L h ≠ 0 then m.chk L h else match m.obs h with
    | none => 18
    | some o => if decide (0 ≤ b ∧ b < (o.sl.length : Int)) = true then 0 else 21
def slotOf (m : Mo) (h b : Int) : Int := match m.obs h with | none => 0 | some o => o.sl.getD b.toNat 0
def loadV (m : Mo) (t : Nat) (c : Ca) : Re2 :=
  if holdX m (m.ents t) (m.reg t c.h) c.b ≠ 0 then (no (holdX m (m.ents t) (m.reg t c.h) c.b), m)
  else give m t c.r (slotOf m (m.reg t c.h) c.b)
def putSlot (h : Int) (b : Nat) (v : Int) (o : Ob) : Ob := if o.h = h then ⟨o.s, o.e, o.a, o.sl.set b v, o.tag, o.d⟩ else o
def storeV (m : Mo) (t : Nat) (c : Ca) : Re2 :=
  if holdX m (m.ents t) (m.reg t c.h) c.b ≠ 0 then (no (holdX m (m.ents t) (m.reg t c.h) c.b), m)
  else if m.fits (m.ents t) (m.reg t c.v) (Refs.unV (m.reg t c.h)).s ≠ 0 then (no (m.fits (m.ents t) (m.reg t c.v) (Refs.unV (m.reg t c.h)).s), m)
  else (no 0, ⟨m.F, m.O.map (putSlot (m.reg t c.h) c.b.toNat (m.reg t c.v)), m.A, m.T⟩)
/-- What stands against the portal of a scope. -/
def reachX (m : Mo) (L : List Chain.E) (i : Int) : Int := if scopeB m i = false then 11 else if Chain.reachV L i = false then 20 else 0
def lookV (m : Mo) (t : Nat) (c : Ca) : Re2 :=
  if reachX m (m.ents t) c.a ≠ 0 then (no (reachX m (m.ents t) c.a), m) else give m t c.r (m.ar c.a).g
def gateV (m : Mo) (t : Nat) (c : Ca) : Re2 :=
  if reachX m (m.ents t) c.a ≠ 0 then (no (reachX m (m.ents t) c.a), m)
  else if m.fits (m.ents t) (m.reg t c.v) c.a ≠ 0 then (no (m.fits (m.ents t) (m.reg t c.v) c.a), m)
  else (no 0, ⟨m.F, m.O, m.A.set c.a.toNat ⟨m.reg t c.v, (m.ar c.a).u⟩, m.T⟩)
/-- Whether a register that a call names is none. -/
def badC (c : Ca) : Bool :=
  if c.op = 1 ∨ c.op = 7 ∨ c.op = 10 then badR c.r
  else if c.op = 8 then badR c.r || badR c.h
  else if c.op = 9 then badR c.h || badR c.v
  else if c.op = 11 then badR c.v else false
def createM (m : Mo) (z : Int) : Re2 := (⟨(createV m.F z).x, (createV m.F z).v, []⟩, ⟨(createV m.F z).F, m.O, m.A, m.T⟩)
def destroyM (m : Mo) (i : Int) : Re2 := (no (destroyV m.F i).x, ⟨(destroyV m.F i).F, m.O, m.A, m.T⟩)
def doM (FF : List (List Fina.O)) (m : Mo) (t : Nat) (c : Ca) : Re2 :=
  if badC c = true then (no 1, m)
  else if c.op = 0 then (no 0, m)
  else if c.op = 1 then (no 0, m.setReg t c.r (IntKind.u64.wrap c.a))
  else if c.op = 2 then createM m c.a
  else if c.op = 3 then destroyM m c.a
  else if c.op = 4 then enterV m t c.a
  else if c.op = 5 then exitV FF m t
  else if c.op = 6 then inV m t c.a
  else if c.op = 7 then allocV m t c
  else if c.op = 8 then loadV m t c
  else if c.op = 9 then storeV m t c
  else if c.op = 10 then lookV m t c
  else if c.op = 11 then gateV m t c
  else (no 1, m)

/-- A model that is new. -/
def newM (n nt : Nat) (A S I J : Int) : Mo := ⟨Sco.start n A S I J, [], List.replicate n ar0, List.replicate nt th0⟩
end Go.Proofs.YtneggppfffekdaaGreat.Mod
