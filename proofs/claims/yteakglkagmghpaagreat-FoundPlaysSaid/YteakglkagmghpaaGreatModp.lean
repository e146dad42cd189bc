/-
  Layer 12 in plain mathematics: a model's state (the forest, objects, what each scope has beside it, threads); what each call tells, and leaves.
-/
import Derived.Test.YteakglkagmghpaaGreatScop
import Derived.Test.YteakglkagmghpaaGreatRefz
import Derived.Test.YteakglkagmghpaaGreatHeads
import Derived.Test.YteakglkagmghpaaGreatChai
import Derived.Test.YteakglkagmghpaaGreatFinp
import Derived.Maps.OwnSet
import Derived.Deep.DeepCutAuto
import Derived.Lib.SliceRun
namespace Go.Proofs.YteakglkagmghpaaGreat.Mod
open Sco
set_option linter.unusedVariables false
set_option maxRecDepth 8000

/-- An object: its scope, epoch and place; slots, tag, and whether it was finalized. -/
structure Ob where
  s : Int
  e : Int
  a : Int
  sl : List Int
  tag : Int
  d : Bool
def Ob.h (o : Ob) : Int := Refs.handle o.s o.e o.a
/-- What a scope has beside the forest: its portal, and how much is used. -/
structure Ar where
  g : Int
  u : Int
/-- A thread: registers, entries. -/
structure Th where
  r : Nat → Int
  c : List Chain.E
structure Mo where
  F : Fo
  O : List Ob
  A : List Ar
  T : List Th
/-- An answer. -/
structure An where
  c : Int
  n : Int
  said : List Int
/-- A call. -/
structure Ca where
  op : Int
  r : Int
  h : Int
  v : Int
  a : Int
  b : Int
  c : Int
abbrev Re2 := An × Mo

def no (c : Int) : An := ⟨c, 0, []⟩
def th0 : Th := ⟨fun _ => 0, []⟩
def Mo.th (m : Mo) (t : Nat) : Th := m.T.getD t th0
def Mo.ents (m : Mo) (t : Nat) : List Chain.E := (m.th t).c
def Mo.reg (m : Mo) (t : Nat) (i : Int) : Int := (m.th t).r i.toNat
def setR (r : Nat → Int) (i : Nat) (v : Int) : Nat → Int := fun j => if j = i then v else r j
def Mo.setReg (m : Mo) (t : Nat) (i : Int) (v : Int) : Mo := ⟨m.F, m.O, m.A, m.T.set t ⟨setR (m.th t).r i.toNat v, (m.th t).c⟩⟩
def Mo.setEnt (m : Mo) (t : Nat) (c : List Chain.E) : Mo := ⟨m.F, m.O, m.A, m.T.set t ⟨(m.th t).r, c⟩⟩
def ar0 : Ar := ⟨0, 0⟩
def Mo.ar (m : Mo) (s : Int) : Ar := m.A.getD s.toNat ar0
def Mo.obs (m : Mo) (h : Int) : Option Ob := m.O.find? (fun o => o.h == h)

/-- The check of a number, by a thread with these entries. -/
def Mo.chk (m : Mo) (L : List Chain.E) (h : Int) : Int :=
  if (Refs.unV h).err ≠ 0 then (Refs.unV h).err
  else if (seeC m.F.R (Refs.unV h).s).x ≠ 0 then 18
  else if Chain.reachV L (Refs.unV h).s = false then 20
  else if (Refs.unV h).e ≠ (seeC m.F.R (Refs.unV h).s).e then 19
  else if (m.obs h).isSome = false then 18 else 0
/-- What stands against a reference from a scope to a number. -/
def Mo.fits (m : Mo) (L : List Chain.E) (v f : Int) : Int :=
  if v = 0 then 0 else if m.chk L v ≠ 0 then m.chk L v else if Chain.aboveV L (Refs.unV v).s f = false then 22 else 0
def badR (r : Int) : Bool := decide (4 ≤ r)
def scopeB (m : Mo) (i : Int) : Bool := decide (1 ≤ i ∧ i < (m.A.length : Int))
/-- A number that is told, and is the register R. -/
def give (m : Mo) (t : Nat) (r : Int) (v : Int) : Re2 := (⟨0, IntKind.i64.wrap v, []⟩, m.setReg t r v)

def ops (FF : List (List Fina.O)) (o : Ob) : List Fina.O := Fina.ofV FF o.tag
/-- Whether an object is to be finalized. -/
def todo (FF : List (List Fina.O)) (s : Int) (o : Ob) : Bool := decide (o.s = s) && (!o.d && decide ((ops FF o).length ≠ 0))
def fin1 (FF : List (List Fina.O)) (s : Int) (o : Ob) : Ob := if todo FF s o = true then ⟨o.s, o.e, o.a, (Fina.walk (ops FF o) 0 o.sl).S, o.tag, true⟩ else o
def todoL (FF : List (List Fina.O)) (s : Int) (O : List Ob) : List Ob := (O.filter (todo FF s)).reverse
def finSaid (FF : List (List Fina.O)) (s : Int) (O : List Ob) : List Int := (todoL FF s O).flatMap fun o => (Fina.walk (ops FF o) 0 o.sl).said
def finHeld (FF : List (List Fina.O)) (s : Int) (O : List Ob) : Bool := (todoL FF s O).any fun o => (Fina.walk (ops FF o) 0 o.sl).held

def enterV (m : Mo) (t : Nat) (i : Int) : Re2 :=
  if scopeB m i = false then (no 11, m)
  else if Chain.pushE (m.ents t) ≠ 0 then (no (Chain.pushE (m.ents t)), m)
  else if (turnV m.F i (enF (Chain.areaV (m.ents t)))).x ≠ 0 then (no (turnV m.F i (enF (Chain.areaV (m.ents t)))).x, m)
  else (no 0, Mo.setEnt ⟨(turnV m.F i (enF (Chain.areaV (m.ents t)))).F, m.O, m.A, m.T⟩ t (m.ents t ++ [(i, true)]))
def inV (m : Mo) (t : Nat) (i : Int) : Re2 :=
  if decide (0 ≤ i ∧ i < (m.A.length : Int)) = false then (no 11, m)
  else if Chain.reachV (m.ents t) i = false then (no 20, m)
  else if Chain.pushE (m.ents t) ≠ 0 then (no (Chain.pushE (m.ents t)), m)
  else (no 0, m.setEnt t (m.ents t ++ [(i, false)]))
/-- The last one leaves: finalizers, and what they leave. -/
def lastV (FF : List (List Fina.O)) (m : Mo) (F1 : Fo) (t : Nat) (s : Int) : Re2 :=
  if finHeld FF s m.O = true then (⟨25, ((todoL FF s m.O).length : Int), finSaid FF s m.O⟩, ⟨(turnV F1 s hoF).F, m.O.map (fin1 FF s), m.A, m.T⟩)
  else (⟨0, ((todoL FF s m.O).length : Int), finSaid FF s m.O⟩, Mo.setEnt ⟨(turnV F1 s opF).F, m.O.filter (fun o => !decide (o.s = s)), m.A.set s.toNat ar0, m.T⟩ t (m.ents t).dropLast)
def exitV (FF : List (List Fina.O)) (m : Mo) (t : Nat) : Re2 :=
  if Chain.popE (m.ents t) ≠ 0 then (no (Chain.popE (m.ents t)), m)
  else if (Chain.lastV (m.ents t)).2 = false then (no 0, m.setEnt t (m.ents t).dropLast)
  else if (turnV m.F (Chain.lastV (m.ents t)).1 leF).x ≠ 0 then (no (turnV m.F (Chain.lastV (m.ents t)).1 leF).x, m)
  else if (turnV m.F (Chain.lastV (m.ents t)).1 leF).d = false then (no 0, Mo.setEnt ⟨(turnV m.F (Chain.lastV (m.ents t)).1 leF).F, m.O, m.A, m.T⟩ t (m.ents t).dropLast)
  else lastV FF m (turnV m.F (Chain.lastV (m.ents t)).1 leF).F t (Chain.lastV (m.ents t)).1
/-- Where an object of so many bytes would stand. -/
def roomX (m : Mo) (s bytes : Int) : Int := if (m.ar s).u + bytes > (seeX m.F.R s).2.1 then 17 else 0
def roomA (m : Mo) (s : Int) : Int := (seeX m.F.R s).1 + (m.ar s).u
def newOb (m : Mo) (s : Int) (c : Ca) : Ob := ⟨s, (seeC m.F.R s).e, roomA m s, List.replicate c.a.toNat 0, c.c, false⟩
def putOb (m : Mo) (o : Ob) (bytes : Int) : Mo := ⟨m.F, m.O ++ [o], m.A.set o.s.toNat ⟨(m.ar o.s).g, (m.ar o.s).u + bytes⟩, m.T⟩
def allocV (m : Mo) (t : Nat) (c : Ca) : Re2 :=
  if (Heads.wordsV c.a c.b).err ≠ 0 ∨ ¬ (0 ≤ c.c ∧ c.c ≤ 7) then (no 1, m)
  else if roomX m (Chain.areaV (m.ents t)) ((Heads.wordsV c.a c.b).n * 8) ≠ 0 then (no (roomX m (Chain.areaV (m.ents t)) ((Heads.wordsV c.a c.b).n * 8)), m)
  else give (putOb m (newOb m (Chain.areaV (m.ents t)) c) ((Heads.wordsV c.a c.b).n * 8)) t c.r (newOb m (Chain.areaV (m.ents t)) c).h
/-- What stands against the slot B of the object of a number. -/
def holdX (m : Mo) (L : List Chain.E) (h b : Int) : Int :=
  if m.chk L h ≠ 0 then m.chk L h else match m.obs h with
    | none => 18
    | some o => if decide (0 ≤ b ∧ b < (o.sl.length : Int)) = true then 0 else 21
def slotOf (m : Mo) (h b : Int) : Int := match m.obs h with | none => 0 | some o => o.sl.getD b.toNat 0
def loadV (m : Mo) (t : Nat) (c : Ca) : Re2 :=
  if holdX m (m.ents t) (m.reg t c.h) c.b ≠ 0 then (no (holdX m (m.ents t) (m.reg t c.h) c.b), m)
  else give m t c.r (slotOf m (m.reg t c.h) c.b)
def putSlot (h : Int) (b : Nat) (v : Int) (o : Ob) : Ob := if o.h = h then ⟨o.s, o.e, o.a, o.sl.set b v, o.tag, o.d⟩ else o
def storeV (m : Mo) (t : Nat) (c : Ca) : Re2 :=
  if holdX m (m.ents t) (m.reg t c.h) c.b ≠ 0 then (no (holdX m (m.ents t) (m.reg t c.h) c.b), m)
  else if m.fits (m.ents t) (m.reg t c.v) (Refs.unV (m.reg t c.h)).s ≠ 0 then (no (m.fits (m.ents t) (m.reg t c.v) (Refs.unV (m.reg t c.h)).s), m)
  else (no 0, ⟨m.F, m.O.map (putSlot (m.reg t c.h) c.b.toNat (m.reg t c.v)), m.A, m.T⟩)
/-- What stands against the portal of a scope. -/
def reachX (m : Mo) (L : List Chain.E) (i : Int) : Int := if scopeB m i = false then 11 else if Chain.reachV L i = false then 20 else 0
def lookV (m : Mo) (t : Nat) (c : Ca) : Re2 :=
  if reachX m (m.ents t) c.a ≠ 0 then (no (reachX m (m.ents t) c.a), m) else give m t c.r (m.ar c.a).g
def gateV (m : Mo) (t : Nat) (c : Ca) : Re2 :=
  if reachX m (m.ents t) c.a ≠ 0 then (no (reachX m (m.ents t) c.a), m)
  else if m.fits (m.ents t) (m.reg t c.v) c.a ≠ 0 then (no (m.fits (m.ents t) (m.reg t c.v) c.a), m)
  else (no 0, ⟨m.F, m.O, m.A.set c.a.toNat ⟨m.reg t c.v, (m.ar c.a).u⟩, m.T⟩)
/-- Whether a register that a call names is none. -/
def badC (c : Ca) : Bool :=
  if c.op = 1 ∨ c.op = 7 ∨ c.op = 10 then badR c.r
  else if c.op = 8 then badR c.r || badR c.h
  else if c.op = 9 then badR c.h || badR c.v
  else if c.op = 11 then badR c.v else false
def createM (m : Mo) (z : Int) : Re2 := (⟨(createV m.F z).x, (createV m.F z).v, []⟩, ⟨(createV m.F z).F, m.O, m.A, m.T⟩)
def destroyM (m : Mo) (i : Int) : Re2 := (no (destroyV m.F i).x, ⟨(destroyV m.F i).F, m.O, m.A, m.T⟩)
def doM (FF : List (List Fina.O)) (m : Mo) (t : Nat) (c : Ca) : Re2 :=
  if badC c = true then (no 1, m)
  else if c.op = 0 then (no 0, m)
  else if c.op = 1 then (no 0, m.setReg t c.r (IntKind.u64.wrap c.a))
  else if c.op = 2 then createM m c.a
  else if c.op = 3 then destroyM m c.a
  else if c.op = 4 then enterV m t c.a
  else if c.op = 5 then exitV FF m t
  else if c.op = 6 then inV m t c.a
  else if c.op = 7 then allocV m t c
  else if c.op = 8 then loadV m t c
  else if c.op = 9 then storeV m t c
  else if c.op = 10 then lookV m t c
  else if c.op = 11 then gateV m t c
  else (no 1, m)

/-- A model that is new. -/
def newM (n nt : Nat) (A S I J : Int) : Mo := ⟨Sco.start n A S I J, [], List.replicate n ar0, List.replicate nt th0⟩
end Go.Proofs.YteakglkagmghpaaGreat.Mod

/-
  A model in memory: kinds of its rows; its map of objects; where all stands (Md); what is kept by whatever is done elsewhere.
-/
namespace Go.Proofs.YteakglkagmghpaaGreat.Sco
open Go.ChangeShapes Go.WideShapes Go.ChangeAt Go.RowKit
/-- A block that does not hold elements of a type. -/
def noT (w : World) (b : Nat) (t : TypeId) : Prop := ∀ cs fz, w.heap[b]? ≠ some (.cells cs t fz)
theorem isT.of {w : World} {b : Nat} {cs : Array Value} {t : TypeId} (h : w.heap[b]? = some (.cells cs t (0, 0))) : isT w b t := ⟨cs, h⟩
theorem isT.lt {w : World} {b : Nat} {t : TypeId} (h : isT w b t) : b < w.heap.size := by
  obtain ⟨cs, h⟩ := h
  exact (Array.getElem?_eq_some_iff.1 h).1
theorem isT.no {w : World} {b : Nat} {t t' : TypeId} (h : isT w b t) (hn : (t == t') = false) : noT w b t' := by
  obtain ⟨c, h⟩ := h
  intro cs fz e
  rw [h] at e
  injection e with e
  injection e with _ e
  subst e
  simp at hn
theorem noT.ne {w : World} {b b' : Nat} {t : TypeId} (h : noT w b t) (h' : isT w b' t) : b ≠ b' := by
  rintro rfl
  obtain ⟨c, e⟩ := h'
  exact h _ _ e
end Go.Proofs.YteakglkagmghpaaGreat.Sco
namespace Go.Proofs.YteakglkagmghpaaGreat.Mod
open Go.ChangeShapes Go.WideShapes Go.ChangeAt Go.RowKit
open Slic Sco
set_option linter.unusedVariables false
set_option maxRecDepth 8000

abbrev Tri := Option Addr × Nat × Nat
abbrev sl3 (x : Tri) : Value := .slice x.1 x.2.1 x.2.2
abbrev ob (x : Tri) : Option Nat := (sl3 x).ownBlock
def kT : Kd (Th × Tri) := { X := 124, T := 133, m := 5, by_ := 56, z := .agg #[.int .u64 0, .int .u64 0, .int .u64 0, .int .u64 0, .slice none 0 0], enc := fun x => [.int .u64 (x.1.r 0), .int .u64 (x.1.r 1), .int .u64 (x.1.r 2), .int .u64 (x.1.r 3), sl3 x.2], len := fun _ => rfl, one := fun _ u h => by simp at h; rcases h with rfl | rfl | rfl | rfl | rfl <;> rfl, pos := by decide, small := by decide, zs := rfl, under := by kernel_rfl, info := by kernel_rfl, elem := by kernel_rfl }
def kA : Kd (Ar × Tri) := { X := 125, T := 150, m := 3, by_ := 40, z := .agg #[.int .u64 0, .int .i64 0, .slice none 0 0], enc := fun x => [.int .u64 x.1.g, .int .i64 x.1.u, sl3 x.2], len := fun _ => rfl, one := fun _ u h => by simp at h; rcases h with rfl | rfl | rfl <;> rfl, pos := by decide, small := by decide, zs := rfl, under := by kernel_rfl, info := by kernel_rfl, elem := by kernel_rfl }
def kE : Kd Chain.E := { X := 57, T := 143, m := 2, by_ := 16, z := .agg #[.int .i64 0, .bool false], enc := fun x => [.int .i64 x.1, .bool x.2], len := fun _ => rfl, one := fun _ u h => by simp at h; rcases h with rfl | rfl <;> rfl, pos := by decide, small := by decide, zs := rfl, under := by kernel_rfl, info := by kernel_rfl, elem := by kernel_rfl }
/-! The map of objects. -/
def enB : Option Nat → DataW Unit
  | none => .lit (.int .i64 (-1))
  | some b => .lit (.int .i64 (b : Int))
def ptrO : Option Nat → Value
  | none => .pointer none
  | some b => .pointer (some ⟨b, 0, none⟩)
def Rp : Value → Option (DataW Unit × List MemPlace)
  | .pointer none => some (enB none, [])
  | .pointer (some ⟨b, 0, none⟩) => some (enB (some b), [])
  | _ => none
theorem Rp_mk (r : Option Nat) : Rp (ptrO r) = some (enB r, []) := by cases r <;> rfl
theorem enB_inj {r s : Option Nat} (h : enB r = enB s) : r = s := by
  cases r <;> cases s <;> simp [enB] at h ⊢ <;> omega
theorem Rp_inv {v : Value} {r : Option Nat} {ps : List MemPlace} (h : Rp v = some (enB r, ps)) : v = ptrO r := by
  unfold Rp at h
  split at h
  · injection h with h
    injection h with h _
    have := enB_inj h
    subst this
    rfl
  · injection h with h
    injection h with h _
    have := enB_inj h
    subst this
    rfl
  · cases h
abbrev u64t : TypeId := 50
abbrev mapt : TypeId := 126
theorem key_u64 : Maps.Keyed Tryz.prog u64t := Maps.int_keyed (q := .u64) (by kernel_rfl)
theorem under_map : Tryz.prog.underlying mapt = some (.map u64t 151) := by kernel_rfl
theorem key_mk {k : Int} (h : (Lit.int .u64 k).wf = true) : keyOf Tryz.prog u64t (.int .u64 k) = some (.int .u64 k) := Maps.keyOf_int_mk (q := .u64) (by kernel_rfl) h
theorem zero_obj (w : World) : (zeroValue 151).run Tryz.prog w = .ok (ptrO none) w := by
  have : (Tryz.prog.info? 151).map (fun i => i.zero) = some (some (ptrO none)) := by kernel_rfl
  cases hq : Tryz.prog.info? 151 with
  | none => simp [hq] at this
  | some i =>
    have hi : i.zero = some (ptrO none) := by simpa [hq] using this
    simp [zeroValue, typeInfo, hq, hi]
def wf64 (k : Int) : Prop := 0 ≤ k ∧ k ≤ 18446744073709551615
theorem wf_lit {k : Int} (h : wf64 k) : (Lit.int .u64 k).wf = true := by
  obtain ⟨h1, h2⟩ := h
  simp [Lit.wf, IntKind.min, IntKind.max, IntKind.signed, IntKind.bits]
  omega
/-- A map of so many numbers to objects' blocks. -/
def Mp (w : World) (b n : Nat) (f : Int → Option Nat) : Prop :=
  ∃ D : DataW Unit, w.ownsMap Tryz.prog u64t Rp b n D ∧ Maps.size D = n ∧ ∀ k, wf64 k → Maps.has D (.int .u64 k) = (f k).isSome ∧ D.atKey (.int .u64 k) (enB none) = enB (f k)
section
variable {w w' : World} {b n : Nat} {f : Int → Option Nat}
theorem Mp.lt (h : Mp w b n f) : b < w.heap.size := by
  obtain ⟨D, h, _⟩ := h
  exact h.lt
theorem Mp.block (h : Mp w b n f) (k : w'.heap[b]? = w.heap[b]?) : Mp w' b n f := by
  obtain ⟨D, ⟨es, clock, hb, r⟩, h2⟩ := h
  exact ⟨D, ⟨es, clock, k.trans hb, r⟩, h2⟩
theorem Mp.noT (h : Mp w b n f) (t : TypeId) : noT w b t := by
  obtain ⟨D, ⟨es, clock, hb, r⟩, h2⟩ := h
  intro cs fz e
  rw [hb] at e
  cases e
theorem Mp.made (w : World) : Mp (w.alloc (.map #[] 0)) w.heap.size 0 (fun _ => none) :=
  ⟨.map [], World.ownsMap_made w _ _ _, rfl, fun k hk => ⟨rfl, rfl⟩⟩
theorem Mp.look (h : Mp w b n f) {k : Int} (hk : wf64 k) : (Instr.lookup mapt (.map (some b)) (.int .u64 k) true).run Tryz.prog w = .ok (.tuple #[ptrO (f k), .bool (f k).isSome]) w := by
  obtain ⟨D, h1, _, h2⟩ := h
  obtain ⟨v, ps, hr, hv⟩ := h1.look_ok key_u64 under_map (zero_obj w) (Rp_mk none) (key_mk (wf_lit hk))
  obtain ⟨e1, e2⟩ := h2 k hk
  rw [e2] at hv
  rw [hr, e1, Rp_inv hv]
theorem Mp.put (h : Mp w b n f) (hn : n < 1000000) {k : Int} (hk : wf64 k) (hf : f k = none) (q : Nat) :
    ∃ w', (Instr.mapUpdate mapt (.map (some b)) (.int .u64 k) (ptrO (some q))).run Tryz.prog w = .ok () w' ∧ Mp w' b (n + 1) (fun x => if x = k then some q else f x) ∧ w.grownBy w' (some b) := by
  obtain ⟨D, h1, hz, h2⟩ := h
  obtain ⟨w', hr, h3, h4⟩ := h1.update key_u64 under_map (by have : 1000000 ≤ maxLen := by decide
                                                             omega) (key_mk (wf_lit hk)) (Rp_mk (some q))
  have hK : WideAt.IsKeyLit (.int .u64 k) := trivial
  have hh : Maps.has D (.int .u64 k) = false := by rw [(h2 k hk).1, hf]; rfl
  have e1 : Maps.size (D.put (.int .u64 k) (enB (some q))) = n + 1 := by
    rw [Maps.size_put (h1.tidy key_u64), hh, hz]
    rfl
  refine ⟨w', hr, ⟨_, h3, e1, fun x hx => ?_⟩, h4⟩
  by_cases e : x = k
  · subst e
    simp only [if_true]
    exact ⟨by rw [Maps.has_put_same h1.isMap hK]; rfl, Maps.atKey_put_same h1.isMap hK _ _⟩
  · simp only [e, if_false]
    have hne : Lit.int .u64 x ≠ Lit.int .u64 k := fun q => by injection q with _ q; exact e q
    rw [Maps.has_put_other hne, Maps.atKey_put_other hne]
    exact h2 x hx
end

/-! Where all stands. -/
/-- What stays: where the struct, its row of records, its threads, areas and map are; how many there are; the heap's extent; finalizers. -/
structure Fx where
  B : Nat
  g : Nat
  bt : Nat
  ba : Nat
  bm : Nat
  n : Nat
  nt : Nat
  A : Int
  S : Int
  I : Int
  J : Int
  fv : Tri
  FF : List (List Fina.O)
def Fx.fr (Z : Fx) : Fr := ⟨128, 8, fun i => if i = 4 then sl3 Z.fv else if i = 5 then .slice (some ⟨Z.bt, 0, none⟩) Z.nt Z.nt else if i = 6 then .slice (some ⟨Z.ba, 0, none⟩) Z.n Z.n else .map (some Z.bm), by decide, by decide, by decide⟩
/-- What does not: entries' rows, handles' rows, objects' blocks and slots' rows. -/
structure Hp where
  tm : List Tri
  am : List Tri
  om : List (Nat × Tri)
def hs (s : Nat) (O : List Ob) : List Int := (O.filter (fun o => decide (o.s = (s : Int)))).map Ob.h
/-- The block of the object of a number. -/
def blk : List Ob → List (Nat × Tri) → Int → Option Nat
  | o :: O, p :: M, h => if o.h = h then some p.1 else blk O M h
  | _, _, _ => none
def obV (o : Ob) (x : Tri) : List Value := [.int .i64 o.s, .int .i64 o.e, .int .i64 o.a, sl3 x, .int .i64 o.tag, .bool o.d]
/-- Rows of programs. -/
def FRows (w : World) (v : Value) (LL : List (List Fina.O)) : Prop := ∃ Hs : List Tri, Own Fina.kR w 0 v Hs ∧ Hs.length = LL.length ∧ ∀ (i : Nat) (h : i < Hs.length) (h' : i < LL.length), Own Fina.kF w 0 (sl3 Hs[i]) LL[i]
/-- What is so of all rows and blocks, whatever objects a law of the model would have: the map tells f, handles' rows tell hh. -/
structure Gs where
  F : Fo
  A : List Ar
  T : List Th
  O : List Ob
  f : Int → Option Nat
  hh : Nat → List Int
  c : Nat
def Mo.gs (m : Mo) (om : List (Nat × Tri)) : Gs := ⟨m.F, m.A, m.T, m.O, blk m.O om, fun s => hs s m.O, m.O.length⟩
/-- Two objects share no block. -/
def apartO (p q : Nat × Tri) : Prop := p.1 ≠ q.1 ∧ ∀ b, ob p.2 = some b → ob q.2 ≠ some b
theorem apartO.symm {p q : Nat × Tri} (h : apartO p q) : apartO q p := ⟨fun e => h.1 e.symm, fun b h1 h2 => h.2 b h2 h1⟩
structure Mg (w : World) (Z : Fx) (H : Hp) (G : Gs) : Prop where
  sc : Sc w Z.fr Z.B Z.g Z.B Z.n Z.A Z.S G.F
  fins : FRows w (sl3 Z.fv) Z.FF
  nA : G.A.length = Z.n
  nT : G.T.length = Z.nt
  tml : H.tm.length = Z.nt
  aml : H.am.length = Z.n
  oml : H.om.length = G.O.length
  thr : Own kT w 0 (.slice (some ⟨Z.bt, 0, none⟩) Z.nt Z.nt) (G.T.zip H.tm)
  ent : ∀ (i : Nat) t x, G.T[i]? = some t → H.tm[i]? = some x → Own kE w 0 (sl3 x) t.c
  ars : Own kA w 0 (.slice (some ⟨Z.ba, 0, none⟩) Z.n Z.n) (G.A.zip H.am)
  hnd : ∀ (i : Nat) x, H.am[i]? = some x → Own Fina.kU w 0 (sl3 x) (G.hh i)
  obj : ∀ (i : Nat) o p, G.O[i]? = some o → H.om[i]? = some p → w.heap[p.1]? = some (.cells (obV o p.2).toArray 156 (0, 0))
  slo : ∀ (i : Nat) o p, G.O[i]? = some o → H.om[i]? = some p → Own Fina.kU w 0 (sl3 p.2) o.sl
  map : Mp w Z.bm G.c G.f
  dAA : ∀ (i j : Nat) x y b, H.am[i]? = some x → H.am[j]? = some y → ob x = some b → ob y = some b → i = j
  dO : H.om.Pairwise apartO
  dAO : ∀ x ∈ H.am, ∀ p ∈ H.om, ∀ b, ob x = some b → ob p.2 ≠ some b
/-- Where a call may write. -/
def wr (Z : Fx) (H : Hp) (b : Nat) : Prop := b = Z.B ∨ b = Z.g ∨ b = Z.bt ∨ b = Z.ba ∨ b = Z.bm ∨ (∃ x ∈ H.am, ob x = some b) ∨ (∃ p ∈ H.om, p.1 = b ∨ ob p.2 = some b)

theorem own_isT {α : Type} {K : Kd α} {w : World} {base b : Nat} {v : Value} {L : List α} (h : Own K w base v L) (e : v.ownBlock = some b) : isT w b K.T := by
  rcases h.2 with ⟨e', _⟩ | ⟨g', cap, cur, e', _, hg, _⟩
  · rw [e'] at e
    cases e
  · rw [e'] at e
    injection e with e
    subst e
    exact ⟨cur, hg⟩
theorem own_lt {α : Type} {K : Kd α} {w : World} {base b : Nat} {v : Value} {L : List α} (h : Own K w base v L) (e : v.ownBlock = some b) : b < w.heap.size := (World.ownsRow.lt h b e).2
/-- A row of one's own stands while its block does. -/
theorem own_keep {α : Type} {K : Kd α} {w w' : World} {base : Nat} {v : Value} {L : List α} (h : Own K w base v L) (k : ∀ b, v.ownBlock = some b → w'.heap[b]? = w.heap[b]?) : Own K w' base v L := by
  refine ⟨h.1, ?_⟩
  rcases h.2 with hn | ⟨g', cap, cur, e, hb, hgg, rest⟩
  · exact .inl hn
  · exact .inr ⟨g', cap, cur, e, hb, (k g' (by rw [e]; rfl)).trans hgg, rest⟩
theorem own_off {α : Type} {K : Kd α} {w w' : World} {base : Nat} {v : Value} {L : List α} {X : List Nat} (h : Own K w base v L) (k : Only X w w') (hX : ∀ x ∈ X, v.ownBlock ≠ some x) : Own K w' base v L :=
  own_keep h fun b e => k.block b (own_lt h e) fun hx => hX b hx e
/-- .. what is done to blocks of other types. -/
theorem own_types {α : Type} {K : Kd α} {w w' : World} {base : Nat} {v : Value} {L : List α} {X : List Nat} (h : Own K w base v L) (k : Only X w w') (hX : ∀ x ∈ X, noT w x K.T) : Own K w' base v L :=
  own_off h k fun x hx e => (hX x hx).ne (own_isT h e) rfl
theorem FRows.types {w w' : World} {v : Value} {LL : List (List Fina.O)} {X : List Nat} (h : FRows w v LL) (k : Only X w w') (h1 : ∀ x ∈ X, noT w x Fina.kR.T) (h2 : ∀ x ∈ X, noT w x Fina.kF.T) : FRows w' v LL := by
  obtain ⟨Hs, a, b, c⟩ := h
  exact ⟨Hs, own_types a k h1, b, fun i h h' => own_types (c i h h') k h2⟩
theorem FRows.rows {w : World} {v : Value} {LL : List (List Fina.O)} (h : FRows w v LL) : Fina.Rows w v LL := by
  obtain ⟨Hs, a, b, c⟩ := h
  exact ⟨Hs, a.sr, b, fun i h h' => (c i h h').sr⟩
theorem sc_types {w w' : World} {Y : Fr} {B g K n : Nat} {A S : Int} {F : Fo} {X : List Nat} (h : Sc w Y B g K n A S F) (k : Only X w w') (hB : B ∉ X) (hg : g ∉ X) (hX : ∀ x ∈ X, noT w x 119) : Sc w' Y B g K n A S F := by
  refine ⟨h.len, ?_, own_block h.row (k.block g h.ltg hg)⟩
  obtain ⟨v, a, b, c, d, t⟩ := h.gr
  have hv : ∀ q, v.ownBlock = some q → q ∉ X := fun q hq hqX => by
    obtain ⟨cs, fz, e⟩ := t q hq
    exact hX q hqX cs fz e
  exact ⟨v, a.of_block (k.block B a.lt hB), b.keep k.size fun q hq => k.block q (b.lt hq) (hv q hq), c, d, t.keep fun q hq => k.block q (b.lt hq) (hv q hq)⟩

/-- Types of rows that nobody writes into. -/
def rdT : List TypeId := [119, 109, 111, 143]
section
variable {w w' : World} {Z : Fx} {H : Hp} {G : Gs} {X : List Nat}
theorem Mg.tB (h : Mg w Z H G) : isT w Z.B 128 := h.sc.tB
theorem Mg.tg (h : Mg w Z H G) : isT w Z.g 197 := h.sc.tg
theorem Mg.tt (h : Mg w Z H G) : isT w Z.bt 133 := own_isT h.thr rfl
theorem Mg.ta (h : Mg w Z H G) : isT w Z.ba 150 := own_isT h.ars rfl
theorem get_zip {α β : Type} {A : List α} {B : List β} {i : Nat} {a : α} (h : A[i]? = some a) (hl : B.length = A.length) : ∃ b, B[i]? = some b := by
  have := (List.getElem?_eq_some_iff.1 h).1
  exact ⟨B[i], List.getElem?_eq_getElem (by omega)⟩
theorem Mg.objAt (h : Mg w Z H G) {p : Nat × Tri} (hp : p ∈ H.om) : isT w p.1 156 ∧ (∀ b, ob p.2 = some b → isT w b 50) := by
  obtain ⟨i, hi⟩ := List.mem_iff_getElem?.1 hp
  obtain ⟨o, ho⟩ := get_zip hi h.oml.symm
  exact ⟨⟨_, h.obj i o p ho hi⟩, fun b e => own_isT (h.slo i o p ho hi) e⟩
theorem Mg.areAt (h : Mg w Z H G) {x : Tri} (hx : x ∈ H.am) {b : Nat} (e : ob x = some b) : isT w b 50 := by
  obtain ⟨i, hi⟩ := List.mem_iff_getElem?.1 hx
  exact own_isT (h.hnd i x hi) e
/-- Where a call may write stand blocks of these types, or the map. -/
theorem Mg.wrT (h : Mg w Z H G) {b : Nat} (hb : wr Z H b) : b = Z.bm ∨ ∃ t ∈ [128, 197, 133, 150, 50, 156], isT w b t := by
  rcases hb with rfl | rfl | rfl | rfl | rfl | ⟨x, hx, e⟩ | ⟨p, hp, rfl | e⟩
  · exact .inr ⟨_, by simp, h.tB⟩
  · exact .inr ⟨_, by simp, h.tg⟩
  · exact .inr ⟨_, by simp, h.tt⟩
  · exact .inr ⟨_, by simp, h.ta⟩
  · exact .inl rfl
  · exact .inr ⟨_, by simp, h.areAt hx e⟩
  · exact .inr ⟨_, by simp, (h.objAt hp).1⟩
  · exact .inr ⟨_, by simp, (h.objAt hp).2 _ e⟩
theorem Mg.wr_lt (h : Mg w Z H G) {b : Nat} (hb : wr Z H b) : b < w.heap.size := by
  rcases h.wrT hb with rfl | ⟨t, _, ht⟩
  · exact h.map.lt
  · exact ht.lt
theorem Mg.wr_no (h : Mg w Z H G) {b : Nat} (hb : wr Z H b) {t : TypeId} (ht : t ∈ rdT) : noT w b t := by
  rcases h.wrT hb with rfl | ⟨t', h', hi⟩
  · exact h.map.noT t
  · refine hi.no ?_
    simp [rdT] at ht h'
    rcases ht with rfl | rfl | rfl | rfl <;> rcases h' with rfl | rfl | rfl | rfl | rfl | rfl <;> decide

/-- Each part, kept by whatever is done elsewhere. -/
theorem Mg.k_sc (h : Mg w Z H G) (k : Only X w w') (hB : Z.B ∉ X) (hg : Z.g ∉ X) (hX : ∀ x ∈ X, ∀ t ∈ rdT, noT w x t) : Sc w' Z.fr Z.B Z.g Z.B Z.n Z.A Z.S G.F := sc_types h.sc k hB hg fun x hx => hX x hx _ (by simp [rdT])
theorem Mg.k_fins (h : Mg w Z H G) (k : Only X w w') (hX : ∀ x ∈ X, ∀ t ∈ rdT, noT w x t) : FRows w' (sl3 Z.fv) Z.FF := h.fins.types k (fun x hx => hX x hx _ (by simp [rdT, Fina.kR])) (fun x hx => hX x hx _ (by simp [rdT, Fina.kF]))
theorem Mg.k_ent (h : Mg w Z H G) (k : Only X w w') (hX : ∀ x ∈ X, ∀ t ∈ rdT, noT w x t) : ∀ (i : Nat) t x, G.T[i]? = some t → H.tm[i]? = some x → Own kE w' 0 (sl3 x) t.c := fun i t x h1 h2 => own_types (h.ent i t x h1 h2) k fun x hx => hX x hx _ (by simp [rdT, kE])
theorem Mg.k_thr (h : Mg w Z H G) (k : Only X w w') (hX : Z.bt ∉ X) : Own kT w' 0 (.slice (some ⟨Z.bt, 0, none⟩) Z.nt Z.nt) (G.T.zip H.tm) := own_off h.thr k fun x hx e => by simp only [Value.ownBlock, Option.some.injEq] at e; exact hX (e ▸ hx)
theorem Mg.k_ars (h : Mg w Z H G) (k : Only X w w') (hX : Z.ba ∉ X) : Own kA w' 0 (.slice (some ⟨Z.ba, 0, none⟩) Z.n Z.n) (G.A.zip H.am) := own_off h.ars k fun x hx e => by simp only [Value.ownBlock, Option.some.injEq] at e; exact hX (e ▸ hx)
theorem Mg.k_hnd (h : Mg w Z H G) (k : Only X w w') (i : Nat) (x : Tri) (hi : H.am[i]? = some x) (hX : ∀ b ∈ X, ob x ≠ some b) : Own Fina.kU w' 0 (sl3 x) (G.hh i) := own_off (h.hnd i x hi) k hX
theorem Mg.k_obj (h : Mg w Z H G) (k : Only X w w') (i : Nat) (o : Ob) (p : Nat × Tri) (ho : G.O[i]? = some o) (hp : H.om[i]? = some p) (hX : p.1 ∉ X) : w'.heap[p.1]? = some (.cells (obV o p.2).toArray 156 (0, 0)) := (k.block p.1 (isT.of (h.obj i o p ho hp)).lt hX).trans (h.obj i o p ho hp)
theorem Mg.k_slo (h : Mg w Z H G) (k : Only X w w') (i : Nat) (o : Ob) (p : Nat × Tri) (ho : G.O[i]? = some o) (hp : H.om[i]? = some p) (hX : ∀ b ∈ X, ob p.2 ≠ some b) : Own Fina.kU w' 0 (sl3 p.2) o.sl := own_off (h.slo i o p ho hp) k hX
theorem Mg.k_map (h : Mg w Z H G) (k : Only X w w') (hX : Z.bm ∉ X) : Mp w' Z.bm G.c G.f := h.map.block (k.block _ h.map.lt hX)
theorem wr_am {x : Tri} {i : Nat} (h : H.am[i]? = some x) {b : Nat} (e : ob x = some b) : wr Z H b := .inr (.inr (.inr (.inr (.inr (.inl ⟨x, List.mem_of_getElem? h, e⟩)))))
theorem wr_om {p : Nat × Tri} {i : Nat} (h : H.om[i]? = some p) : wr Z H p.1 := .inr (.inr (.inr (.inr (.inr (.inr ⟨p, List.mem_of_getElem? h, .inl rfl⟩)))))
theorem wr_sl {p : Nat × Tri} {i : Nat} (h : H.om[i]? = some p) {b : Nat} (e : ob p.2 = some b) : wr Z H b := .inr (.inr (.inr (.inr (.inr (.inr ⟨p, List.mem_of_getElem? h, .inr e⟩)))))
/-- What is done elsewhere. -/
theorem Mg.off (h : Mg w Z H G) (k : Only X w w') (hw : ∀ x ∈ X, ¬ wr Z H x) (hX : ∀ x ∈ X, ∀ t ∈ rdT, noT w x t) : Mg w' Z H G where
  sc := h.k_sc k (fun e => hw _ e (.inl rfl)) (fun e => hw _ e (.inr (.inl rfl))) hX
  fins := h.k_fins k hX
  nA := h.nA
  nT := h.nT
  tml := h.tml
  aml := h.aml
  oml := h.oml
  thr := h.k_thr k fun e => hw _ e (.inr (.inr (.inl rfl)))
  ent := h.k_ent k hX
  ars := h.k_ars k fun e => hw _ e (.inr (.inr (.inr (.inl rfl))))
  hnd := fun i x hi => h.k_hnd k i x hi fun b hb e => hw b hb (wr_am hi e)
  obj := fun i o p ho hp => h.k_obj k i o p ho hp fun e => hw _ e (wr_om hp)
  slo := fun i o p ho hp => h.k_slo k i o p ho hp fun b hb e => hw b hb (wr_sl hp e)
  map := h.k_map k fun e => hw _ e (.inr (.inr (.inr (.inr (.inl rfl)))))
  dAA := h.dAA
  dO := h.dO
  dAO := h.dAO
theorem Mg.below (h : Mg w Z H G) (k : Below w.heap.size w w') : Mg w' Z H G := h.off (X := []) (Only.below k) (fun x hx => absurd hx List.not_mem_nil) (fun x hx => absurd hx List.not_mem_nil)
/-- One block that is not the forest's. -/
theorem Mg.nots (h : Mg w Z H G) {b : Nat} {t : TypeId} (hb : isT w b t) (h1 : (t == 128) = false) (h2 : (t == 197) = false) : Z.B ∉ [b] ∧ Z.g ∉ [b] ∧ Z.bm ∉ [b] := by
  simp
  exact ⟨fun e => (hb.no h1).ne h.tB e.symm, fun e => (hb.no h2).ne h.tg e.symm, fun e => by
    obtain ⟨cs, hb⟩ := hb
    rw [← e] at hb
    exact h.map.noT _ cs _ hb⟩
theorem one_no {b : Nat} (h : Mg w Z H G) (hb : wr Z H b) : ∀ x ∈ [b], ∀ t ∈ rdT, noT w x t := fun x hx t ht => by
  rw [List.mem_singleton.1 hx]
  exact h.wr_no hb ht
/-- The threads' row alone. -/
theorem Mg.threads (h : Mg w Z H G) (k : Only [Z.bt] w w') {T : List Th} {tm : List Tri} (hT : T.length = Z.nt) (htm : tm.length = Z.nt) (s : Own kT w' 0 (.slice (some ⟨Z.bt, 0, none⟩) Z.nt Z.nt) (T.zip tm))
    (he : ∀ (i : Nat) t x, T[i]? = some t → tm[i]? = some x → Own kE w 0 (sl3 x) t.c) : Mg w' Z ⟨tm, H.am, H.om⟩ ⟨G.F, G.A, T, G.O, G.f, G.hh, G.c⟩ := by
  obtain ⟨n1, n2, n3⟩ := h.nots h.tt (by decide) (by decide)
  have hX := one_no h (show wr Z H Z.bt from .inr (.inr (.inl rfl)))
  have ne : ∀ {b : Nat} {t : TypeId}, isT w b t → (133 == t) = false → b ∉ [Z.bt] := fun {b t} hb h1 hx => by
    rw [List.mem_singleton.1 hx] at hb
    exact (h.tt.no h1).ne hb rfl
  exact {
    sc := h.k_sc k n1 n2 hX
    fins := h.k_fins k hX
    nA := h.nA
    nT := hT
    tml := htm
    aml := h.aml
    oml := h.oml
    thr := s
    ent := fun i t x h1 h2 => own_types (he i t x h1 h2) k fun x hx => hX x hx _ (by simp [rdT, kE])
    ars := h.k_ars k (ne h.ta (by decide))
    hnd := fun i x hi => h.k_hnd k i x hi fun b hb e => ne (h.areAt (List.mem_of_getElem? hi) e) (by decide) hb
    obj := fun i o p ho hp => h.k_obj k i o p ho hp (ne (h.objAt (List.mem_of_getElem? hp)).1 (by decide))
    slo := fun i o p ho hp => h.k_slo k i o p ho hp fun b hb e => ne ((h.objAt (List.mem_of_getElem? hp)).2 b e) (by decide) hb
    map := h.k_map k n3
    dAA := h.dAA
    dO := h.dO
    dAO := h.dAO }
/-- The areas' row alone: how much is used, portals; handles' rows that are others. -/
theorem Mg.areas (h : Mg w Z H G) (k : Only [Z.ba] w w') {A : List Ar} {am : List Tri} {hh : Nat → List Int} (hA : A.length = Z.n) (ham : am.length = Z.n) (s : Own kA w' 0 (.slice (some ⟨Z.ba, 0, none⟩) Z.n Z.n) (A.zip am))
    (hn : ∀ (i : Nat) x, am[i]? = some x → Own Fina.kU w 0 (sl3 x) (hh i))
    (dAA : ∀ (i j : Nat) x y b, am[i]? = some x → am[j]? = some y → ob x = some b → ob y = some b → i = j)
    (dAO : ∀ x ∈ am, ∀ p ∈ H.om, ∀ b, ob x = some b → ob p.2 ≠ some b) : Mg w' Z ⟨H.tm, am, H.om⟩ ⟨G.F, A, G.T, G.O, G.f, hh, G.c⟩ := by
  obtain ⟨n1, n2, n3⟩ := h.nots h.ta (by decide) (by decide)
  have hX := one_no h (show wr Z H Z.ba from .inr (.inr (.inr (.inl rfl))))
  have ne : ∀ {b : Nat} {t : TypeId}, isT w b t → (150 == t) = false → b ∉ [Z.ba] := fun {b t} hb h1 hx => by
    rw [List.mem_singleton.1 hx] at hb
    exact (h.ta.no h1).ne hb rfl
  exact {
    sc := h.k_sc k n1 n2 hX
    fins := h.k_fins k hX
    nA := hA
    nT := h.nT
    tml := h.tml
    aml := ham
    oml := h.oml
    thr := h.k_thr k (ne h.tt (by decide))
    ent := h.k_ent k hX
    ars := s
    hnd := fun i x hi => own_off (hn i x hi) k fun b hb e => ne (own_isT (hn i x hi) e) (by decide) hb
    obj := fun i o p ho hp => h.k_obj k i o p ho hp (ne (h.objAt (List.mem_of_getElem? hp)).1 (by decide))
    slo := fun i o p ho hp => h.k_slo k i o p ho hp fun b hb e => ne ((h.objAt (List.mem_of_getElem? hp)).2 b e) (by decide) hb
    map := h.k_map k n3
    dAA := dAA
    dO := h.dO
    dAO := dAO }
end
end Go.Proofs.YteakglkagmghpaaGreat.Mod

/-
  A model in memory: each store, and what it leaves; what a walk carries (Mh: where all stands, and local blocks beside it; Mw: the same of a model's state).
-/
namespace Go.Proofs.YteakglkagmghpaaGreat.Mod
open Go.ChangeShapes Go.WideShapes Go.ChangeAt Go.RowKit
open Slic Sco
set_option linter.unusedVariables false
set_option maxRecDepth 8000

theorem zip_set {α β : Type} : ∀ (A : List α) (B : List β) (i : Nat) (a : α) (b : β), (A.zip B).set i (a, b) = (A.set i a).zip (B.set i b)
  | [], B, i, a, b => by simp
  | x :: A, [], i, a, b => by cases i <;> simp
  | x :: A, y :: B, 0, a, b => by simp
  | x :: A, y :: B, i + 1, a, b => by simp [zip_set A B i a b]
theorem set_same {α : Type} {A : List α} {i : Nat} {a : α} (h : A[i]? = some a) : A.set i a = A := by
  apply List.ext_getElem?
  intro j
  rw [List.getElem?_set]
  split
  · rename_i e
    subst e
    split
    · exact h.symm
    · rename_i c
      rw [List.getElem?_eq_none (by omega)]
  · rfl
theorem get_setL {α : Type} {A : List α} {k i : Nat} {y x : α} (h : (A.set k y)[i]? = some x) : (i = k ∧ x = y ∧ k < A.length) ∨ (i ≠ k ∧ A[i]? = some x) := by
  rw [List.getElem?_set] at h
  split at h
  · rename_i e
    split at h
    · injection h with h
      exact .inl ⟨e.symm, h.symm, by assumption⟩
    · cases h
  · rename_i e
    exact .inr ⟨fun q => e q.symm, h⟩
theorem zip_get {α β : Type} {A : List α} {B : List β} {i : Nat} {a : α} {b : β} (ha : A[i]? = some a) (hb : B[i]? = some b) : (A.zip B)[i]? = some (a, b) := by
  rw [List.getElem?_zip_eq_some]
  exact ⟨ha, hb⟩
/-- One cell of a row of one's own is stored. -/
theorem own_put {α : Type} {K : Kd α} {w : World} {base g n c : Nat} {L : List α} (h : Own K w base (.slice (some ⟨g, 0, none⟩) n c) L) (i j : Nat) {y : α} (hy : L[i]? = some y) (hj : j < K.m) (x : α) (v : Value) (hx : K.enc x = (K.enc y).set j v) :
    Own K (w.setCell ⟨g, i * K.m + j, none⟩ v) base (.slice (some ⟨g, 0, none⟩) n c) (L.set i x) := by
  obtain ⟨hi, hy⟩ := List.getElem?_eq_some_iff.1 hy
  have hn : L.length = n := by
    obtain ⟨A, c', e, _⟩ := h.sr
    injection e with _ e _
    exact e.symm
  subst hn
  subst hy
  exact (h.put i j hi hj x v hx).1
/-- The cells of an element of a row of one's own. -/
theorem own_at {α : Type} {K : Kd α} {w : World} {base g n c : Nat} {L : List α} (h : Own K w base (.slice (some ⟨g, 0, none⟩) n c) L) (i : Nat) {y : α} (hy : L[i]? = some y) :
    (∀ j u, (K.enc y)[j]? = some u → w.cell? ⟨g, i * K.m + j, none⟩ = some u) ∧ ∀ o, w.frozen? ⟨g, o, none⟩ = false := by
  obtain ⟨hi, hy⟩ := List.getElem?_eq_some_iff.1 hy
  have hn : L.length = n := by
    obtain ⟨A, c', e, _⟩ := h.sr
    injection e with _ e _
    exact e.symm
  subst hn
  subst hy
  obtain ⟨g', c', e, _, _, _, _, hf, hc⟩ := h.form (by omega)
  injection e with e
  injection e with e
  injection e with e
  subst e
  exact ⟨fun j u hu => hc i j u hi hu, hf⟩
section
variable {w w' : World} {Z : Fx} {H : Hp} {G : Gs}
theorem Mg.thAt (h : Mg w Z H G) {t : Nat} (ht : t < Z.nt) : ∃ th x, G.T[t]? = some th ∧ H.tm[t]? = some x := by
  have h1 := h.nT
  have h2 := h.tml
  exact ⟨G.T[t], H.tm[t], List.getElem?_eq_getElem (by omega), List.getElem?_eq_getElem (by omega)⟩
/-- A register is stored. -/
theorem Mg.reg (h : Mg w Z H G) (t : Nat) {th : Th} (ht : G.T[t]? = some th) (j : Nat) (hj : j < 4) (v : Int) :
    Mg (w.setCell ⟨Z.bt, t * 5 + j, none⟩ (.int .u64 v)) Z H ⟨G.F, G.A, G.T.set t ⟨setR th.r j v, th.c⟩, G.O, G.f, G.hh, G.c⟩ := by
  obtain ⟨x, hx⟩ := get_zip ht (by rw [h.tml, h.nT])
  have e : kT.enc (⟨setR th.r j v, th.c⟩, x) = (kT.enc (th, x)).set j (.int .u64 v) := by
    have : j = 0 ∨ j = 1 ∨ j = 2 ∨ j = 3 := by omega
    rcases this with rfl | rfl | rfl | rfl <;> rfl
  have s := own_put h.thr t j (zip_get ht hx) (show j < 5 by omega) (⟨setR th.r j v, th.c⟩, x) (.int .u64 v) e
  rw [zip_set, set_same hx] at s
  refine h.threads (Only.put w _ _ _ (by simp)) (by rw [List.length_set]; exact h.nT) h.tml s fun i t' x' h1 h2 => ?_
  rcases get_setL h1 with ⟨rfl, rfl, _⟩ | ⟨_, h1⟩
  · exact h.ent _ th x' ht h2
  · exact h.ent i t' x' h1 h2
/-- Entries are stored. -/
theorem Mg.ents (h : Mg w Z H G) (t : Nat) {th : Th} (ht : G.T[t]? = some th) (x : Tri) {L : List Chain.E} (hL : Own kE w 0 (sl3 x) L) :
    Mg (w.setCell ⟨Z.bt, t * 5 + 4, none⟩ (sl3 x)) Z ⟨H.tm.set t x, H.am, H.om⟩ ⟨G.F, G.A, G.T.set t ⟨th.r, L⟩, G.O, G.f, G.hh, G.c⟩ := by
  obtain ⟨y, hy⟩ := get_zip ht (by rw [h.tml, h.nT])
  have s := own_put h.thr t 4 (zip_get ht hy) (show 4 < 5 by omega) (⟨th.r, L⟩, x) (sl3 x) rfl
  rw [zip_set] at s
  refine h.threads (Only.put w _ _ _ (by simp)) (by rw [List.length_set]; exact h.nT) (by rw [List.length_set]; exact h.tml) s fun i t' x' h1 h2 => ?_
  rcases get_setL h1 with ⟨rfl, rfl, _⟩ | ⟨hne, h1⟩
  · rcases get_setL h2 with ⟨_, rfl, _⟩ | ⟨hne, _⟩
    · exact hL
    · exact absurd rfl hne
  · rcases get_setL h2 with ⟨e, _, _⟩ | ⟨_, h2⟩
    · exact absurd e hne
    · exact h.ent i t' x' h1 h2
/-- A portal, or how much is used, is stored. -/
theorem Mg.are (h : Mg w Z H G) (s : Nat) {a : Ar} (ha : G.A[s]? = some a) (j : Nat) (hj : j < 2) (b : Ar) (v : Value) (hv : ∀ x : Tri, kA.enc (b, x) = (kA.enc (a, x)).set j v) :
    Mg (w.setCell ⟨Z.ba, s * 3 + j, none⟩ v) Z H ⟨G.F, G.A.set s b, G.T, G.O, G.f, G.hh, G.c⟩ := by
  obtain ⟨x, hx⟩ := get_zip ha (by rw [h.aml, h.nA])
  have p := own_put h.ars s j (zip_get ha hx) (show j < 3 by omega) (b, x) v (hv x)
  rw [zip_set, set_same hx] at p
  exact h.areas (Only.put w _ _ _ (by simp)) (by rw [List.length_set]; exact h.nA) h.aml p h.hnd h.dAA h.dAO
/-- A row of handles that has grown is stored. -/
theorem Mg.hand (h : Mg w Z H G) (s : Nat) {a : Ar} (ha : G.A[s]? = some a) {y x : Tri} (hy : H.am[s]? = some y) {w1 : World} {L : List Int} (k : w.grownBy w1 (ob y)) (hL : Own Fina.kU w1 0 (sl3 x) L) (hx : ob x = ob y ∨ ob x = some w.heap.size) :
    Mg (w1.setCell ⟨Z.ba, s * 3 + 2, none⟩ (sl3 x)) Z ⟨H.tm, H.am.set s x, H.om⟩ ⟨G.F, G.A, G.T, G.O, G.f, fun i => if i = s then L else G.hh i, G.c⟩ := by
  have tk : ∀ b, ob y = some b → isT w b 50 := fun b e => own_isT (h.hnd s y hy) e
  have hwr : ∀ b, ob y = some b → wr Z H b := fun b e => wr_am hy e
  -- what has changed since
  have O1 : Only (ob y).toList w w1 := ⟨k.os, k.tape, k.output, k.size, fun i hi hx => k.block i hi fun e => hx (by simp [← e])⟩
  have O2 : Only (Z.ba :: (ob y).toList) w (w1.setCell ⟨Z.ba, s * 3 + 2, none⟩ (sl3 x)) := (O1.mono fun _ h => List.mem_cons_of_mem _ h).trans (Only.put w1 _ _ _ (by simp))
  have mem : ∀ b ∈ Z.ba :: (ob y).toList, b = Z.ba ∨ ob y = some b := fun b hb => by simpa using hb
  have hX : ∀ b ∈ Z.ba :: (ob y).toList, ∀ t ∈ rdT, noT w b t := fun b hb t ht => by
    refine h.wr_no ?_ ht
    rcases mem b hb with rfl | e
    · exact .inr (.inr (.inr (.inl rfl)))
    · exact hwr b e
  have ne : ∀ {b : Nat} {t : TypeId}, isT w b t → (150 == t) = false → (50 == t) = false → b ∉ Z.ba :: (ob y).toList := fun {b t} hb h1 h2 hx => by
    rcases mem b hx with rfl | e
    · exact (h.ta.no h1).ne hb rfl
    · exact ((tk b e).no h2).ne hb rfl
  -- the areas' row
  have ar1 : Own kA w1 0 (.slice (some ⟨Z.ba, 0, none⟩) Z.n Z.n) (G.A.zip H.am) := h.k_ars O1 fun hb => by
    have hb : ob y = some Z.ba := by simpa using hb
    exact (h.ta.no (show (150 == 50) = false by decide)).ne (tk _ hb) rfl
  have p := own_put ar1 s 2 (zip_get ha hy) (show 2 < 3 by omega) (a, x) (sl3 x) rfl
  rw [zip_set, set_same ha] at p
  have hba : ∀ b, ob x = some b → b ≠ Z.ba := fun b e => by
    rintro rfl
    rcases hx with q | q
    · exact (h.ta.no (show (150 == 50) = false by decide)).ne (tk _ (q ▸ e)) rfl
    · rw [q] at e
      have := h.ta.lt
      injection e with e
      omega
  have hold : ∀ b, wr Z H b → ob x = some b → ob y = some b := fun b hb e => by
    rcases hx with q | q
    · exact q ▸ e
    · rw [q] at e
      have := h.wr_lt hb
      injection e with e
      omega
  exact {
    sc := h.k_sc O2 (ne h.tB (by decide) (by decide)) (ne h.tg (by decide) (by decide)) hX
    fins := h.k_fins O2 hX
    nA := h.nA
    nT := h.nT
    tml := h.tml
    aml := by show (H.am.set s x).length = Z.n; rw [List.length_set]; exact h.aml
    oml := h.oml
    thr := h.k_thr O2 (ne h.tt (by decide) (by decide))
    ent := h.k_ent O2 hX
    ars := p
    hnd := fun i z hi => by
      show Own _ _ _ _ (if i = s then L else G.hh i)
      rcases get_setL hi with ⟨rfl, rfl, _⟩ | ⟨hne, hi⟩
      · rw [if_pos rfl]
        exact own_off hL (Only.put (X := [Z.ba]) w1 _ _ _ (by simp)) fun b hb e => hba b e (List.mem_singleton.1 hb)
      · rw [if_neg hne]
        refine h.k_hnd O2 i z hi fun b hb e => ?_
        rcases mem b hb with rfl | e'
        · exact (h.ta.no (show (150 == 50) = false by decide)).ne (h.areAt (List.mem_of_getElem? hi) e) rfl
        · exact hne (h.dAA i s z y b hi hy e e')
    obj := fun i o q ho hq => h.k_obj O2 i o q ho hq (ne (h.objAt (List.mem_of_getElem? hq)).1 (by decide) (by decide))
    slo := fun i o q ho hq => h.k_slo O2 i o q ho hq fun b hb e => by
      rcases mem b hb with rfl | e'
      · exact (h.ta.no (show (150 == 50) = false by decide)).ne ((h.objAt (List.mem_of_getElem? hq)).2 _ e) rfl
      · exact h.dAO y (List.mem_of_getElem? hy) q (List.mem_of_getElem? hq) b e' e
    map := h.k_map O2 fun hb => by
      rcases mem _ hb with e | e
      · obtain ⟨cs, e'⟩ := h.ta
        rw [← e] at e'
        exact h.map.noT _ _ _ e'
      · obtain ⟨cs, e'⟩ := tk _ e
        exact h.map.noT _ _ _ e'
    dAA := fun i j u v b hi hj e1 e2 => by
      rcases get_setL hi with ⟨rfl, rfl, _⟩ | ⟨hni, hi'⟩
      · rcases get_setL hj with ⟨rfl, _, _⟩ | ⟨hnj, hj'⟩
        · rfl
        · exact h.dAA i j y v b hy hj' (hold b (wr_am (H := H) hj' e2) e1) e2
      · rcases get_setL hj with ⟨rfl, rfl, _⟩ | ⟨hnj, hj'⟩
        · exact h.dAA i j u y b hi' hy e1 (hold b (wr_am (H := H) hi' e1) e2)
        · exact h.dAA i j u v b hi' hj' e1 e2
    dO := h.dO
    dAO := fun u hu q hq b e1 e2 => by
      obtain ⟨i, hi⟩ := List.mem_iff_getElem?.1 hu
      obtain ⟨j, hj⟩ := List.mem_iff_getElem?.1 hq
      rcases get_setL hi with ⟨rfl, rfl, _⟩ | ⟨_, hi⟩
      · exact h.dAO y (List.mem_of_getElem? hy) q hq b (hold b (wr_sl (H := H) hj e2) e1) e2
      · exact h.dAO u (List.mem_of_getElem? hi) q hq b e1 e2 }
/-- A scope's area is new. -/
theorem Mg.fresh (h : Mg w Z H G) (s : Nat) {a : Ar} (ha : G.A[s]? = some a) :
    Mg (((w.setCell ⟨Z.ba, s * 3, none⟩ (.int .u64 0)).setCell ⟨Z.ba, s * 3 + 1, none⟩ (.int .i64 0)).setCell ⟨Z.ba, s * 3 + 2, none⟩ (.slice none 0 0)) Z ⟨H.tm, H.am.set s (none, 0, 0), H.om⟩ ⟨G.F, G.A.set s ar0, G.T, G.O, G.f, fun i => if i = s then [] else G.hh i, G.c⟩ := by
  obtain ⟨x, hx⟩ := get_zip ha (by rw [h.aml, h.nA])
  have p1 := own_put h.ars s 0 (zip_get ha hx) (show 0 < 3 by omega) (⟨0, a.u⟩, x) (.int .u64 0) rfl
  have hl : s < (G.A.zip H.am).length := (List.getElem?_eq_some_iff.1 (zip_get ha hx)).1
  have g1 : ∀ y : Ar × Tri, ((G.A.zip H.am).set s y)[s]? = some y := fun y => by rw [List.getElem?_set, if_pos rfl, if_pos hl]
  have p2 := own_put p1 s 1 (g1 _) (show 1 < 3 by omega) (⟨0, 0⟩, x) (.int .i64 0) rfl
  rw [List.set_set] at p2
  have p3 := own_put p2 s 2 (g1 _) (show 2 < 3 by omega) (⟨0, 0⟩, (none, 0, 0)) (.slice none 0 0) rfl
  rw [List.set_set, zip_set] at p3
  refine h.areas (((Only.put w _ _ _ (by simp)).trans (Only.put _ _ _ _ (by simp))).trans (Only.put _ _ _ _ (by simp))) (by rw [List.length_set]; exact h.nA) (by rw [List.length_set]; exact h.aml) p3 (fun i z hi => ?_) (fun i j u v b hi hj e1 e2 => ?_) fun u hu q hq b e1 e2 => ?_
  · rcases get_setL hi with ⟨rfl, rfl, _⟩ | ⟨hne, hi⟩
    · simp only [if_true]
      exact Own.nil _ _
    · simp only [hne, if_false]
      exact h.hnd i z hi
  · rcases get_setL hi with ⟨rfl, rfl, _⟩ | ⟨_, hi⟩
    · cases e1
    · rcases get_setL hj with ⟨rfl, rfl, _⟩ | ⟨_, hj⟩
      · cases e2
      · exact h.dAA i j u v b hi hj e1 e2
  · obtain ⟨i, hi⟩ := List.mem_iff_getElem?.1 hu
    rcases get_setL hi with ⟨rfl, rfl, _⟩ | ⟨_, hi⟩
    · cases e1
    · exact h.dAO u (List.mem_of_getElem? hi) q hq b e1 e2
end
end Go.Proofs.YteakglkagmghpaaGreat.Mod

/-
  What a walk carries: where all of a model stands, and local blocks beside it (Mh); the same of a model's state (Mw).
-/
namespace Go.Proofs.YteakglkagmghpaaGreat.Mod
open Go.ChangeShapes Go.WideShapes Go.ChangeAt Go.RowKit
open Slic Sco
set_option linter.unusedVariables false
set_option maxRecDepth 8000

abbrev Bx := List (Nat × Obj)
structure Mh (w0 w : World) (Z : Fx) (H : Hp) (G : Gs) (bx : Bx) : Prop where
  md : Mg w Z H G
  below : Below w0.heap.size w0 w
  own : ∀ b, wr Z H b → w0.heap.size ≤ b
  box : ∀ x ∈ bx, w.heap[x.1]? = some x.2 ∧ ¬ wr Z H x.1 ∧ w0.heap.size ≤ x.1
  nd : (bx.map (·.1)).Nodup
section
variable {w0 w w' : World} {Z : Fx} {H H' : Hp} {G G' : Gs} {bx : Bx}
theorem Mh.ltb (h : Mh w0 w Z H G bx) {x : Nat × Obj} (hx : x ∈ bx) : x.1 < w.heap.size := (Array.getElem?_eq_some_iff.1 (h.box x hx).1).1
/-- What is done where a call may write. -/
theorem Mh.step {X : List Nat} (h : Mh w0 w Z H G bx) (k : Only X w w') (hX : ∀ x ∈ X, wr Z H x) (d : Mg w' Z H' G') (hn : ∀ b, wr Z H' b → wr Z H b ∨ w.heap.size ≤ b) : Mh w0 w' Z H' G' bx where
  md := d
  below := k.below_of h.below h.below.size fun x hx => h.own x (hX x hx)
  own := fun b hb => by
    rcases hn b hb with e | e
    · exact h.own b e
    · exact Nat.le_trans h.below.size e
  box := fun x hx => by
    obtain ⟨b1, b2, b3⟩ := h.box x hx
    refine ⟨(k.block x.1 (h.ltb hx) fun e => b2 (hX _ e)).trans b1, fun e => ?_, b3⟩
    rcases hn _ e with e | e
    · exact b2 e
    · have := h.ltb hx
      omega
  nd := h.nd
theorem Mh.call (h : Mh w0 w Z H G bx) (k : Below w.heap.size w w') : Mh w0 w' Z H G bx :=
  h.step (X := []) (Only.below k) (fun x hx => absurd hx List.not_mem_nil) (h.md.below k) fun b hb => .inl hb
theorem Mh.alloc (h : Mh w0 w Z H G bx) (o : Obj) : Mh w0 (w.alloc o) Z H G bx := h.call (below_one w o)
theorem Mh.drew (h : Mh w0 w Z H G bx) : Mh w0 w.drew Z H G bx := h.call (Below.refl _ _).drew
/-- A block that is known beside the model. -/
theorem Mh.note (h : Mh w0 w Z H G bx) {b : Nat} {o : Obj} (e : w.heap[b]? = some o) (h1 : ¬ wr Z H b) (h2 : w0.heap.size ≤ b) (h3 : ∀ x ∈ bx, x.1 ≠ b) : Mh w0 w Z H G ((b, o) :: bx) where
  md := h.md
  below := h.below
  own := h.own
  box := fun x hx => by
    rcases List.mem_cons.1 hx with rfl | hx
    · exact ⟨e, h1, h2⟩
    · exact h.box x hx
  nd := by
    rw [List.map_cons, List.nodup_cons]
    refine ⟨fun q => ?_, h.nd⟩
    obtain ⟨x, hx, e⟩ := List.mem_map.1 q
    exact h3 x hx e
/-- A block that is new behind a call. -/
theorem Mh.fresh (h : Mh w0 w Z H G bx) (k : Below w.heap.size w w') {b : Nat} {o : Obj} (e : w'.heap[b]? = some o) (hb : w.heap.size ≤ b) : Mh w0 w' Z H G ((b, o) :: bx) :=
  (h.call k).note e (fun q => by have := h.md.wr_lt q; omega) (Nat.le_trans h.below.size hb) fun x hx e => by have := h.ltb hx; omega
theorem Mh.new (h : Mh w0 w Z H G bx) (cs : Array Value) (t : TypeId) : Mh w0 (w.alloc (.cells cs t)) Z H G ((w.heap.size, .cells cs t (0, 0)) :: bx) := h.fresh (below_one w _) (heap_alloc_new w _) (Nat.le_refl _)
theorem Mh.at (h : Mh w0 w Z H G bx) (i : Nat) {b : Nat} {o : Obj} (e : bx[i]? = some (b, o)) : w.heap[b]? = some o := (h.box _ (List.mem_of_getElem? e)).1
theorem Mh.drop (h : Mh w0 w Z H G bx) (k : Nat) : Mh w0 w Z H G (bx.drop k) := ⟨h.md, h.below, h.own, fun x hx => h.box x (List.mem_of_mem_drop hx), by rw [List.map_drop]; exact h.nd.sublist (List.drop_sublist _ _)⟩
theorem cell_of {w : World} {b : Nat} {vs : Array Value} {t : TypeId} {fz : Nat × Nat} (h : w.heap[b]? = some (.cells vs t fz)) (k : Nat) (v : Value) (e : vs[k]? = some v) : w.cell? ⟨b, k, none⟩ = some v := by simp [World.cell?, h, e]
theorem fz_of {w : World} {b : Nat} {vs : Array Value} {t : TypeId} (h : w.heap[b]? = some (.cells vs t (0, 0))) (o : Nat) : w.frozen? ⟨b, o, none⟩ = false := by simp [World.frozen?, h]
/-- A store into a local block. -/
theorem Mh.put (h : Mh w0 w Z H G bx) (i : Nat) {b : Nat} {vs : Array Value} {t : TypeId} (e : bx[i]? = some (b, .cells vs t (0, 0))) (ht : rdT.contains t = false) (k : Nat) (v : Value) :
    Mh w0 (w.setCell ⟨b, k, none⟩ v) Z H G (bx.set i (b, .cells (vs.setIfInBounds k v) t (0, 0))) := by
  obtain ⟨b1, b2, b3⟩ := h.box _ (List.mem_of_getElem? e)
  have o : Only [b] w (w.setCell ⟨b, k, none⟩ v) := Only.put w b k v (by simp)
  have nt : ∀ x ∈ [b], ∀ t' ∈ rdT, noT w x t' := fun x hx t' ht' => by
    rw [List.mem_singleton.1 hx]
    refine (isT.of b1).no ?_
    rw [beq_eq_false_iff_ne]
    rintro rfl
    rw [List.contains_iff_mem.2 ht'] at ht
    cases ht
  have hi : i < bx.length := (List.getElem?_eq_some_iff.1 e).1
  have hb : (bx.map (·.1))[i]? = some b := by rw [List.getElem?_map, e]; rfl
  refine ⟨h.md.off o (fun x hx => by rw [List.mem_singleton.1 hx]; exact b2) nt, o.below_of h.below h.below.size (fun x hx => by rw [List.mem_singleton.1 hx]; exact b3), h.own, fun x hx => ?_, ?_⟩
  · obtain ⟨j, hj⟩ := List.mem_iff_getElem?.1 hx
    rcases get_setL hj with ⟨rfl, rfl, _⟩ | ⟨hne, hj⟩
    · exact ⟨heap_setCell_same w b k vs t v b1, b2, b3⟩
    · obtain ⟨c1, c2, c3⟩ := h.box x (List.mem_of_getElem? hj)
      refine ⟨(o.block x.1 (h.ltb (List.mem_of_getElem? hj)) fun q => ?_).trans c1, c2, c3⟩
      have hj' : (bx.map (·.1))[j]? = some x.1 := by rw [List.getElem?_map, hj]; rfl
      rw [List.mem_singleton.1 q] at hj'
      exact hne ((List.getElem?_inj (i := j) (j := i) (by have := (List.getElem?_eq_some_iff.1 hj).1; simpa using this) h.nd).1 (hj'.trans hb.symm))
  · have : (bx.set i (b, Obj.cells (vs.setIfInBounds k v) t (0, 0))).map (·.1) = bx.map (·.1) := by
      rw [List.map_set, set_same hb]
    rw [this]
    exact h.nd
end
/-- A model's state, in memory, with local blocks beside it. -/
def Mw (w0 w : World) (Z : Fx) (m : Mo) (bx : Bx) : Prop := ∃ H, Mh w0 w Z H (m.gs H.om) bx
section
variable {w0 w w' : World} {Z : Fx} {m m' : Mo} {bx : Bx}
theorem Mw.call (h : Mw w0 w Z m bx) (k : Below w.heap.size w w') : Mw w0 w' Z m bx := let ⟨H, h⟩ := h; ⟨H, h.call k⟩
theorem Mw.alloc (h : Mw w0 w Z m bx) (o : Obj) : Mw w0 (w.alloc o) Z m bx := h.call (below_one w o)
theorem Mw.drew (h : Mw w0 w Z m bx) : Mw w0 w.drew Z m bx := h.call (Below.refl _ _).drew
theorem Mw.new (h : Mw w0 w Z m bx) (cs : Array Value) (t : TypeId) : Mw w0 (w.alloc (.cells cs t)) Z m ((w.heap.size, .cells cs t (0, 0)) :: bx) := let ⟨H, h⟩ := h; ⟨H, h.new cs t⟩
theorem Mw.fresh (h : Mw w0 w Z m bx) (k : Below w.heap.size w w') {b : Nat} {o : Obj} (e : w'.heap[b]? = some o) (hb : w.heap.size ≤ b) : Mw w0 w' Z m ((b, o) :: bx) := let ⟨H, h⟩ := h; ⟨H, h.fresh k e hb⟩
theorem Mw.at (h : Mw w0 w Z m bx) (i : Nat) {b : Nat} {o : Obj} (e : bx[i]? = some (b, o)) : w.heap[b]? = some o := let ⟨_, h⟩ := h; h.at i e
theorem Mw.drop (h : Mw w0 w Z m bx) (k : Nat) : Mw w0 w Z m (bx.drop k) := let ⟨H, h⟩ := h; ⟨H, h.drop k⟩
theorem Mw.below (h : Mw w0 w Z m bx) : Below w0.heap.size w0 w := let ⟨_, h⟩ := h; h.below
theorem Mw.put (h : Mw w0 w Z m bx) (i : Nat) {b : Nat} {vs : Array Value} {t : TypeId} (e : bx[i]? = some (b, .cells vs t (0, 0))) (ht : rdT.contains t = false) (k : Nat) (v : Value) :
    Mw w0 (w.setCell ⟨b, k, none⟩ v) Z m (bx.set i (b, .cells (vs.setIfInBounds k v) t (0, 0))) := let ⟨H, h⟩ := h; ⟨H, h.put i e ht k v⟩
/-- The cells of a local block, and that it may be stored into. -/
theorem Mw.cell (h : Mw w0 w Z m bx) (i : Nat) {b : Nat} {vs : Array Value} {t : TypeId} (e : bx[i]? = some (b, .cells vs t (0, 0))) : (∀ k v, vs[k]? = some v → w.cell? ⟨b, k, none⟩ = some v) ∧ ∀ o, w.frozen? ⟨b, o, none⟩ = false :=
  ⟨fun k v hv => cell_of (h.at i e) k v hv, fz_of (h.at i e)⟩
/-- The struct's cells. -/
theorem Mg.cells {H : Hp} {G : Gs} (h : Mg w Z H G) : w.cell? ⟨Z.B, 4, none⟩ = some (sl3 Z.fv) ∧ w.cell? ⟨Z.B, 5, none⟩ = some (.slice (some ⟨Z.bt, 0, none⟩) Z.nt Z.nt) ∧ w.cell? ⟨Z.B, 6, none⟩ = some (.slice (some ⟨Z.ba, 0, none⟩) Z.n Z.n) ∧ w.cell? ⟨Z.B, 7, none⟩ = some (.map (some Z.bm)) := by
  obtain ⟨v, hr, _⟩ := h.sc.gr
  have g : ∀ i, 4 ≤ i → i < 8 → w.cell? ⟨Z.B, i, none⟩ = some (Z.fr.f i) := fun i h1 h2 => by
    have := hr.cell (i := i) h2
    rw [Gr.Ly.hdf _ _ _ _ (.inr (show 1 + 3 ≤ i from h1))] at this
    refine this.trans ?_
    show some (if i = 0 then _ else Z.fr.f i) = _
    rw [if_neg (by omega)]
  exact ⟨g 4 (by omega) (by omega), g 5 (by omega) (by omega), g 6 (by omega) (by omega), g 7 (by omega) (by omega)⟩
end
end Go.Proofs.YteakglkagmghpaaGreat.Mod

/-
  Contracts of package model: what only looks (threads, scopes, words, portals, how much is used), answers that are refused, registers.
-/
namespace Go.Proofs.YteakglkagmghpaaGreat.Mod
open Go.ChangeShapes Go.WideShapes Go.ChangeAt Go.RowKit
open Slic Sco
set_option linter.unusedVariables false
set_option maxRecDepth 8000
set_option linter.unusedSimpArgs false
set_option maxRecDepth 8000
attribute [local go_sem ↓] Go.wp_at_zero Go.wp_at_succ

abbrev doA (Z : Fx) (t : Nat) (c : Ca) : Array Value := #[.pointer (some ⟨Z.B, 0, none⟩), .pointer (some ⟨Z.bt, t * 5, none⟩), .int .u8 c.op, .int .u8 c.r, .int .u8 c.h, .int .u8 c.v, .int .i64 c.a, .int .i64 c.b, .int .i64 c.c]
abbrev doV (Z : Fx) (t : Nat) (c : Ca) : Value := .agg (doA Z t c)
abbrev doT : TypeId := 135
abbrev anT : TypeId := 42
/-- An answer as a value: its code, number, and what was said. -/
abbrev anV (c n : Int) (v : Value) : Value := .agg #[.int .i64 c, .int .i64 n, v]
abbrev nil0 : Value := .slice none 0 0

section
variable {w0 w w' : World} {Z : Fx} {m : Mo} {bx : Bx}
theorem Mw.sc (h : Mw w0 w Z m bx) : Sc w Z.fr Z.B Z.g Z.B Z.n Z.A Z.S m.F := let ⟨_, h⟩ := h; h.md.sc
theorem Mw.nA (h : Mw w0 w Z m bx) : m.A.length = Z.n := let ⟨_, h⟩ := h; h.md.nA
theorem Mw.nT (h : Mw w0 w Z m bx) : m.T.length = Z.nt := let ⟨_, h⟩ := h; h.md.nT
theorem Mw.cells (h : Mw w0 w Z m bx) : w.cell? ⟨Z.B, 4, none⟩ = some (sl3 Z.fv) ∧ w.cell? ⟨Z.B, 5, none⟩ = some (.slice (some ⟨Z.bt, 0, none⟩) Z.nt Z.nt) ∧ w.cell? ⟨Z.B, 6, none⟩ = some (.slice (some ⟨Z.ba, 0, none⟩) Z.n Z.n) ∧ w.cell? ⟨Z.B, 7, none⟩ = some (.map (some Z.bm)) := let ⟨_, h⟩ := h; h.md.cells
/-- A thread's registers and entries. -/
theorem Mw.thr (h : Mw w0 w Z m bx) {t : Nat} (ht : t < Z.nt) : ∃ x : Tri, (w.cell? ⟨Z.bt, t * 5, none⟩ = some (.int .u64 ((m.th t).r 0)) ∧ w.cell? ⟨Z.bt, t * 5 + 1, none⟩ = some (.int .u64 ((m.th t).r 1)) ∧ w.cell? ⟨Z.bt, t * 5 + 2, none⟩ = some (.int .u64 ((m.th t).r 2)) ∧ w.cell? ⟨Z.bt, t * 5 + 3, none⟩ = some (.int .u64 ((m.th t).r 3)) ∧ w.cell? ⟨Z.bt, t * 5 + 4, none⟩ = some (sl3 x)) ∧ (∀ o, w.frozen? ⟨Z.bt, o, none⟩ = false) ∧ Chain.Own w 0 (sl3 x) (m.ents t) ∧ m.T[t]? = some (m.th t) := by
  obtain ⟨H, h⟩ := h
  obtain ⟨th, x, h1, h2⟩ := h.md.thAt ht
  have e : m.th t = th := by
    have h1' : m.T[t]? = some th := h1
    simp [Mo.th, h1']
  obtain ⟨c, f⟩ := own_at h.md.thr t (zip_get h1 h2)
  rw [e]
  refine ⟨x, ⟨c 0 _ rfl, c 1 _ rfl, c 2 _ rfl, c 3 _ rfl, c 4 _ rfl⟩, f, ?_, h1⟩
  show Chain.Own w 0 (sl3 x) (m.th t).c
  rw [e]
  exact h.md.ent t th x h1 h2
/-- What a scope has beside the forest. -/
theorem Mw.are (h : Mw w0 w Z m bx) {i : Int} (h0 : 0 ≤ i) (hi : i < (Z.n : Int)) : (w.cell? ⟨Z.ba, i.toNat * 3, none⟩ = some (.int .u64 (m.ar i).g) ∧ w.cell? ⟨Z.ba, i.toNat * 3 + 1, none⟩ = some (.int .i64 (m.ar i).u)) ∧ (∀ o, w.frozen? ⟨Z.ba, o, none⟩ = false) ∧ m.A[i.toNat]? = some (m.ar i) := by
  have hA := h.nA
  obtain ⟨H, h⟩ := h
  have h1 : m.A[i.toNat]? = some (m.ar i) := by
    have : i.toNat < m.A.length := by omega
    simp [Mo.ar, List.getElem?_eq_getElem this]
  obtain ⟨x, hx⟩ := get_zip (show (m.gs H.om).A[i.toNat]? = some _ from h1) (by rw [h.md.aml, h.md.nA])
  obtain ⟨c, f⟩ := own_at h.md.ars i.toNat (zip_get (show (m.gs H.om).A[i.toNat]? = some _ from h1) hx)
  exact ⟨⟨c 0 _ rfl, c 1 _ rfl⟩, f, h1⟩
theorem do_cells (h : Mw w0 w Z m bx) {t : Nat} {c : Ca} {b : Nat} (i : Nat) (e : bx[i]? = some (b, .cells (doA Z t c) doT (0, 0))) :
    w.cell? ⟨b, 0, none⟩ = some (.pointer (some ⟨Z.B, 0, none⟩)) ∧ w.cell? ⟨b, 1, none⟩ = some (.pointer (some ⟨Z.bt, t * 5, none⟩)) ∧ w.cell? ⟨b, 2, none⟩ = some (.int .u8 c.op) ∧ w.cell? ⟨b, 3, none⟩ = some (.int .u8 c.r) ∧ w.cell? ⟨b, 4, none⟩ = some (.int .u8 c.h) ∧
    w.cell? ⟨b, 5, none⟩ = some (.int .u8 c.v) ∧ w.cell? ⟨b, 6, none⟩ = some (.int .i64 c.a) ∧ w.cell? ⟨b, 7, none⟩ = some (.int .i64 c.b) ∧ w.cell? ⟨b, 8, none⟩ = some (.int .i64 c.c) := by
  obtain ⟨cc, _⟩ := h.cell i e
  exact ⟨cc 0 _ rfl, cc 1 _ rfl, cc 2 _ rfl, cc 3 _ rfl, cc 4 _ rfl, cc 5 _ rfl, cc 6 _ rfl, cc 7 _ rfl, cc 8 _ rfl⟩
end
end Go.Proofs.YteakglkagmghpaaGreat.Mod

/-
  Contracts of package model: registers and entries told; a number that is given; calls that do nothing, set, make and unmake.
-/
namespace Go.Proofs.YteakglkagmghpaaGreat.Mod
open Go.ChangeShapes Go.WideShapes Go.ChangeAt Go.RowKit
open Slic Sco
set_option linter.unusedVariables false
set_option maxRecDepth 8000
set_option linter.unusedSimpArgs false
set_option maxRecDepth 8000
attribute [local go_sem ↓] Go.wp_at_zero Go.wp_at_succ

set_option maxHeartbeats 1000000 in
theorem cloneE_any (w : World) (v : Value) {S : List _} (h : Sr kE w v S) (hS : S.length ≤ 100000) : Calls Tryz.prog 60 #[v] w fun e w' => ∃ v', e = .returned v' ∧ Own kE w' w.heap.size v' S ∧ Below w.heap.size w w' := by
  have h' := h
  obtain ⟨A, c, rfl, h1, h2, h3, h4⟩ := h
  clear h4
  have q : ∀ (W : World) (a : Option Addr) (n c : Nat), (binOp .eql 57 (.slice a n c) (.slice none 0 0)).run Tryz.prog W = .ok (.bool a.isNone) W := fun W a n c => Lib.run_eql_slice_nil W _ _ a n c 0 0 kE.under
  rcases A with _ | x
  · have hc := h3 rfl
    subst hc
    have e : S = [] := List.eq_nil_of_length_eq_zero (by omega)
    subst e
    clear h' h1 h2 h3
    go_enter Tryz.func60, Tryz.ntmps60
    go_wp2
    go_ret
    exact ⟨_, rfl, Own.nil _ _, Below.refl _ _⟩
  · clear h3
    go_enter Tryz.func60, Tryz.ntmps60
    go_wp2_with (
      refine wpList_app (K := kE) rfl (.tmp 5) (.tmp 6) rfl rfl rfl rfl (Own.empty w w.heap.size (Nat.le_refl _)) (h'.alloc _) (by simp; omega) (by simp) ?_
      intro v' w' O' g' G')
    go_ret
    exact ⟨_, rfl, O', G'.below _ _ (Nat.le_refl _) (below_one _ _)⟩
section
variable {w0 w w' : World} {Z : Fx} {m : Mo} {bx : Bx}
/-- A register, as a walk loads and stores it. -/
theorem Mw.regAt (h : Mw w0 w Z m bx) {t : Nat} (ht : t < Z.nt) {i : Int} (h0 : 0 ≤ i) (h4 : i < 4) : w.cell? ⟨Z.bt, t * 5 + i.toNat, none⟩ = some (.int .u64 (m.reg t i)) ∧ w.frozen? ⟨Z.bt, t * 5 + i.toNat, none⟩ = false := by
  obtain ⟨x, ⟨r0, r1, r2, r3, _⟩, f, _, _⟩ := h.thr ht
  have : i = 0 ∨ i = 1 ∨ i = 2 ∨ i = 3 := by omega
  rcases this with rfl | rfl | rfl | rfl
  · exact ⟨r0, f _⟩
  · exact ⟨r1, f _⟩
  · exact ⟨r2, f _⟩
  · exact ⟨r3, f _⟩
theorem Mw.putReg (h : Mw w0 w Z m bx) {t : Nat} (ht : t < Z.nt) {i : Int} (h0 : 0 ≤ i) (h4 : i < 4) (v : Int) : Mw w0 (w.setCell ⟨Z.bt, t * 5 + i.toNat, none⟩ (.int .u64 v)) Z (m.setReg t i v) bx := by
  obtain ⟨x, _, _, _, e⟩ := h.thr ht
  obtain ⟨H, h⟩ := h
  have d := h.md.reg t (show (m.gs H.om).T[t]? = some _ from e) i.toNat (by omega) v
  exact ⟨H, h.step (Only.put w Z.bt _ _ (List.mem_singleton.2 rfl)) (fun x hx => .inr (.inr (.inl (List.mem_singleton.1 hx)))) d fun b hb => .inl hb⟩
/-- What a call of the model tells. -/
def Did (w0 : World) (Z : Fx) (bx : Bx) (r : Re2) (e : Ending) (w' : World) : Prop := ∃ v, e = .returned (anV r.1.c r.1.n v) ∧ Sr Fina.kI w' v r.1.said ∧ Mw w0 w' Z r.2 bx
theorem Did.plain {w0 w' : World} {Z : Fx} {bx : Bx} {c n : Int} {m : Mo} {e : Ending} (he : e = .returned (anV c n nil0)) (h : Mw w0 w' Z m bx) : Did w0 Z bx (⟨c, n, []⟩, m) e w' := ⟨nil0, he, Sr.nil _, h⟩
theorem ans_cells (h : Mw w0 w Z m bx) {b : Nat} {x y z : Value} (i : Nat) (e : bx[i]? = some (b, .cells #[x, y, z] anT (0, 0))) :
    w.cell? ⟨b, 0, none⟩ = some x ∧ w.cell? ⟨b, 1, none⟩ = some y ∧ w.cell? ⟨b, 2, none⟩ = some z ∧ w.frozen? ⟨b, 0, none⟩ = false ∧ w.frozen? ⟨b, 1, none⟩ = false ∧ w.frozen? ⟨b, 2, none⟩ = false := by
  obtain ⟨cc, ff⟩ := h.cell i e
  exact ⟨cc 0 _ rfl, cc 1 _ rfl, cc 2 _ rfl, ff 0, ff 1, ff 2⟩
set_option maxHeartbeats 1000000 in
theorem set_any (h : Mw w0 w Z m bx) {t : Nat} (ht : t < Z.nt) (c : Ca) (r0 : 0 ≤ c.r) (r4 : c.r < 4) : Calls Tryz.prog 142 #[doV Z t c] w (Did w0 Z bx (no 0, m.setReg t c.r (IntKind.u64.wrap c.a))) := by
  have h1 := h.new (doA Z t c) doT
  have h2 := h1.new #[.int .i64 0, .int .i64 0, nil0] anT
  obtain ⟨_, c1, _, c3, _, _, c6, _, _⟩ := do_cells h2 1 rfl
  obtain ⟨q1, q2⟩ := h2.regAt ht r0 r4
  obtain ⟨cc, ff⟩ := h2.cell 0 rfl
  go_enter Tryz.func142, Tryz.ntmps142
  go_wp2_with fail
  go_region
  have h3 := (h2.putReg ht r0 r4 (IntKind.u64.wrap c.a)).drew
  simp only [World.size_alloc] at h3
  generalize (((w.alloc (.cells (doA Z t c) 135)).alloc (.cells #[.int .i64 0, .int .i64 0, .slice none 0 0] 42)).setCell ⟨Z.bt, t * 5 + c.r.toNat, none⟩ (.int .u64 (IntKind.u64.wrap c.a))).drew = W at h3 ⊢
  obtain ⟨k0, k1, k2, f0, f1, f2⟩ := ans_cells h3 0 rfl
  go_wp2
  refine bodyPost_ret (v := anV 0 0 nil0) (by simp [results, Tryz.results142, go_sem, k0, k1, k2]) rfl (Did.plain rfl ?_)
  exact (((h3.put 0 rfl rfl 0 _).put 0 rfl rfl 1 _).put 0 rfl rfl 2 _).drop 2
set_option maxHeartbeats 1000000 in
theorem give_any (h : Mw w0 w Z m bx) {t : Nat} (ht : t < Z.nt) (c : Ca) (r0 : 0 ≤ c.r) (r4 : c.r < 4) (v : Int) : Calls Tryz.prog 196 #[doV Z t c, .int .u64 v] w (Did w0 Z bx (give m t c.r v)) := by
  have h1 := h.new (doA Z t c) doT
  have h2 := h1.new #[.int .i64 0, .int .i64 0, nil0] anT
  obtain ⟨_, c1, _, c3, _, _, _, _, _⟩ := do_cells h2 1 rfl
  obtain ⟨q1, q2⟩ := h2.regAt ht r0 r4
  go_enter Tryz.func196, Tryz.ntmps196
  go_wp2_with fail
  go_region
  have h3 := (h2.putReg ht r0 r4 v).drew
  simp only [World.size_alloc] at h3
  generalize (((w.alloc (.cells (doA Z t c) 135)).alloc (.cells #[.int .i64 0, .int .i64 0, .slice none 0 0] 42)).setCell ⟨Z.bt, t * 5 + c.r.toNat, none⟩ (.int .u64 v)).drew = W at h3 ⊢
  obtain ⟨k0, k1, k2, f0, f1, f2⟩ := ans_cells h3 0 rfl
  go_wp2
  refine bodyPost_ret (v := anV 0 (IntKind.i64.wrap v) nil0) (by simp [results, Tryz.results196, go_sem, k0, k1, k2]; exact (IntWalk.i64_left v).symm) rfl (Did.plain rfl ?_)
  exact (((h3.put 0 rfl rfl 0 _).put 0 rfl rfl 1 _).put 0 rfl rfl 2 _).drop 2
end
end Go.Proofs.YteakglkagmghpaaGreat.Mod

/-
  Contracts of package model: enter, in.
-/
namespace Go.Proofs.YteakglkagmghpaaGreat.Mod
open Go.ChangeShapes Go.WideShapes Go.ChangeAt Go.RowKit
open Slic Sco
set_option linter.unusedVariables false
set_option maxRecDepth 8000
set_option linter.unusedSimpArgs false
set_option maxRecDepth 8000
attribute [local go_sem ↓] Go.wp_at_zero Go.wp_at_succ
section
variable {w0 w w' : World} {Z : Fx} {m : Mo} {bx : Bx}
end
end Go.Proofs.YteakglkagmghpaaGreat.Mod

/-
  Contracts of package model: check, holder, fits, reached.
-/
namespace Go.Proofs.YteakglkagmghpaaGreat.Mod
open Go.ChangeShapes Go.WideShapes Go.ChangeAt Go.RowKit
open Slic Sco
set_option linter.unusedVariables false
set_option maxRecDepth 8000
set_option linter.unusedSimpArgs false
set_option maxRecDepth 8000
attribute [local go_sem ↓] Go.wp_at_zero Go.wp_at_succ
section
variable {w0 w w' : World} {Z : Fx} {m : Mo} {bx : Bx}
theorem blk_at : ∀ (O : List Ob) (M : List (Nat × Tri)) (x : Int), M.length = O.length → ∀ o, O.find? (fun o => o.h == x) = some o → ∃ (i : Nat) (p : Nat × Tri), O[i]? = some o ∧ M[i]? = some p ∧ o.h = x ∧ blk O M x = some p.1
  | [], M, x, _, o, h => by simp at h
  | o :: O, [], x, h, _, _ => by simp at h
  | o :: O, p :: M, x, h, q, hq => by
    rw [List.find?_cons] at hq
    unfold blk
    by_cases e : o.h = x
    · rw [show (o.h == x) = true from beq_iff_eq.2 e] at hq
      injection hq with hq
      subst hq
      exact ⟨0, p, rfl, rfl, e, if_pos e⟩
    · rw [show (o.h == x) = false from beq_eq_false_iff_ne.2 e] at hq
      obtain ⟨i, p', a, b, c, d⟩ := blk_at O M x (by simpa using h) q hq
      exact ⟨i + 1, p', a, b, c, by rw [if_neg e]; exact d⟩
/-- The words of all handles say what they were made of. -/
def Rt (m : Mo) : Prop := ∀ o ∈ m.O, Refs.rightB o.s o.e o.a = true
theorem un_handle {s e a : Int} (h : Refs.rightB s e a = true) : Refs.unV (Refs.handle s e a) = ⟨s, e, a, 0⟩ := by
  obtain ⟨b1, b2, b3, b4, b5, b6, b7⟩ := Refs.rbounds h
  have e1 : Refs.handle s e a / 16777216 % 256 = s := by unfold Refs.handle; omega
  have e2 : Refs.handle s e a / 4294967296 = e := by unfold Refs.handle; omega
  have e3 : 8 * (Refs.handle s e a % 16777216) = a := by unfold Refs.handle; omega
  unfold Refs.unV Refs.unB
  rw [e1, e2, e3, if_pos h]
theorem Rt.un {m : Mo} (R : Rt m) {o : Ob} (ho : o ∈ m.O) : Refs.unV o.h = ⟨o.s, o.e, o.a, 0⟩ := un_handle (R o ho)
section
variable {H : Hp}
theorem Mh.map (h : Mh w0 w Z H (m.gs H.om) bx) : Mp w Z.bm m.O.length (blk m.O H.om) := h.md.map
theorem Mh.oml (h : Mh w0 w Z H (m.gs H.om) bx) : H.om.length = m.O.length := h.md.oml
/-- An object, as a walk loads it. -/
theorem Mh.objAt (h : Mh w0 w Z H (m.gs H.om) bx) {x : Int} {o : Ob} (ho : m.obs x = some o) : ∃ (i : Nat) (p : Nat × Tri), m.O[i]? = some o ∧ H.om[i]? = some p ∧ o.h = x ∧ blk m.O H.om x = some p.1 ∧
    w.heap[p.1]? = some (.cells (obV o p.2).toArray 156 (0, 0)) ∧ Own Fina.kU w 0 (sl3 p.2) o.sl := by
  obtain ⟨i, p, a, b, c, d⟩ := blk_at m.O H.om x h.oml o ho
  exact ⟨i, p, a, b, c, d, h.md.obj i o p a b, h.md.slo i o p a b⟩
end
end
end Go.Proofs.YteakglkagmghpaaGreat.Mod

/-
  What is so of every state of a model.
-/
namespace Go.Proofs.YteakglkagmghpaaGreat.Mod
open Sco
set_option linter.unusedVariables false
set_option maxRecDepth 8000

/-- How often a scope is entered, counted. -/
def cou (T : List Th) (i : Int) : Nat := (T.map fun t => t.c.countP (Chain.hit i)).sum
structure Iv (Z : Fx) (k : Nat) (m : Mo) : Prop where
  f : Inv Z.n Z.A Z.S Z.I Z.J m.F
  nA : m.A.length = Z.n
  nT : m.T.length = Z.nt
  nt : 1 ≤ Z.nt ∧ Z.nt ≤ 4
  im : 8 ≤ Z.I ∧ Z.I % 8 = 0 ∧ 0 ≤ Z.J ∧ Z.J % 8 = 0 ∧ Z.I + Z.J = Z.A
  hp : Z.A + Z.S ≤ 65536
  cnt : m.O.length ≤ k
  reg : ∀ t ∈ m.T, ∀ i, wf64 (t.r i)
  ent : ∀ t ∈ m.T, t.c.length ≤ 6 ∧ Chain.Fits t.c ∧ ∀ e ∈ t.c, 0 ≤ e.1 ∧ e.1 < (Z.n : Int)
  par : ∀ t ∈ m.T, ∀ i : Int, Chain.inP t.c i → ∃ x : Cx, m.F.R[i.toNat]? = some x ∧ x.s = 2 ∧ x.p = Chain.parV t.c i
  cou : ∀ (i : Nat) (x : Cx), 1 ≤ i → m.F.R[i]? = some x → x.s ≠ 3 ∧ x.c = (cou m.T i : Int)
  are : ∀ (i : Nat) (x : Cx) (a : Ar), m.F.R[i]? = some x → m.A[i]? = some a → wf64 a.g ∧ 0 ≤ a.u ∧ a.u % 8 = 0 ∧ a.u ≤ x.z ∧ (x.s ≠ 2 → a.u = 0 ∧ a.g = 0)
  obj : ∀ o ∈ m.O, 0 ≤ o.s ∧ ∃ (x : Cx) (a : Ar), m.F.R[o.s.toNat]? = some x ∧ m.A[o.s.toNat]? = some a ∧ o.e = x.e ∧ x.a ≤ o.a ∧ o.a % 8 = 0 ∧ o.a + 16 ≤ x.a + a.u ∧ o.sl.length ≤ 6 ∧ (∀ v ∈ o.sl, wf64 v) ∧ 0 ≤ o.tag ∧ o.tag ≤ 7
  ord : m.O.Pairwise fun o p => o.s = p.s → o.a + 16 ≤ p.a
section
variable {Z : Fx} {k : Nat} {m : Mo}
theorem Iv.n8 (v : Iv Z k m) : Z.n ≤ 8 := v.f.n8
theorem Iv.n1 (v : Iv Z k m) : 1 ≤ Z.n := v.f.n1
theorem Iv.th_mem (v : Iv Z k m) {t : Nat} (ht : t < Z.nt) : m.th t ∈ m.T := by
  have : t < m.T.length := by rw [v.nT]; exact ht
  unfold Mo.th
  rw [List.getD_eq_getElem?_getD, List.getElem?_eq_getElem this]
  exact List.getElem_mem this
theorem Iv.wreg (v : Iv Z k m) {t : Nat} (ht : t < Z.nt) (i : Int) : wf64 (m.reg t i) := v.reg _ (v.th_mem ht) _
theorem Iv.l6 (v : Iv Z k m) {t : Nat} (ht : t < Z.nt) : (m.ents t).length ≤ 6 := (v.ent _ (v.th_mem ht)).1
theorem Iv.fit (v : Iv Z k m) {t : Nat} (ht : t < Z.nt) : Chain.Fits (m.ents t) := (v.ent _ (v.th_mem ht)).2.1
theorem Iv.sl (v : Iv Z k m) : ∀ o ∈ m.O, o.sl.length ≤ 1000000 := fun o ho => by
  obtain ⟨_, x, a, _, _, _, _, _, _, h, _⟩ := v.obj o ho
  omega
theorem Iv.scope (v : Iv Z k m) {i : Nat} (hi : i < Z.n) : ∃ (x : Cx) (a : Ar), m.F.R[i]? = some x ∧ m.A[i]? = some a := by
  have h1 := v.f.len
  have h2 := v.nA
  exact ⟨m.F.R[i], m.A[i], List.getElem?_eq_getElem (by omega), List.getElem?_eq_getElem (by omega)⟩
/-- A live scope's extent. -/
theorem Iv.live (v : Iv Z k m) {i : Nat} {x : Cx} (hx : m.F.R[i]? = some x) (hs : x.s = 2) : 8 ≤ x.a ∧ x.a % 8 = 0 ∧ 0 ≤ x.z ∧ x.z % 8 = 0 ∧ x.a + x.z ≤ 65536 ∧ 0 ≤ x.e ∧ x.e ≤ 16777215 ∧ i ≤ 7 := by
  obtain ⟨i1, i2, i3, i4, i5⟩ := v.im
  have h1 := v.hp
  have h2 := v.n8
  have h3 := v.f.len
  have hi : i < m.F.R.length := (List.getElem?_eq_some_iff.1 hx).1
  have hr := rightI (v.f.right i x hx)
  have s0 := v.f.ok.s0
  rcases Nat.eq_zero_or_pos i with rfl | hp
  · have hz := v.f.zero
    rw [hz] at hx
    injection hx with hx
    subst hx
    exact ⟨i1, i2, i3, i4, by show Z.I + Z.J ≤ 65536; omega, by show (0 : Int) ≤ 0; decide, by show (0 : Int) ≤ 16777215; decide, by omega⟩
  · rcases v.f.ext i x hx hp with ⟨e, _⟩ | ⟨_, e1, e2, e3, e4, e5⟩
    · omega
    · exact ⟨by omega, e3, by omega, e2, by omega, by omega, by omega, by omega⟩
theorem Iv.rt (v : Iv Z k m) : Rt m := fun o ho => by
  obtain ⟨h0, x, a, hx, ha, e1, e2, e3, e4, _⟩ := v.obj o ho
  obtain ⟨_, a1, a2, a3, a4⟩ := v.are _ x a hx ha
  have hs : x.s = 2 := by
    rcases Int.decEq x.s 2 with c | c
    · have := a4 c
      omega
    · exact c
  obtain ⟨l1, l2, l3, l4, l5, l6, l7, l8⟩ := v.live hx hs
  exact decide_eq_true (by omega)
/-- Handles are unlike. -/
theorem Iv.hne (v : Iv Z k m) : m.O.Pairwise fun o p => o.h ≠ p.h := by
  refine List.Pairwise.imp_of_mem ?_ v.ord
  intro o p ho hp h e
  have e1 := v.rt.un ho
  have e2 := v.rt.un hp
  rw [e, e2] at e1
  injection e1 with a b c d
  have := h a.symm
  omega
theorem Iv.area (v : Iv Z k m) {t : Nat} (ht : t < Z.nt) : ∃ (x : Cx) (a : Ar), 0 ≤ Chain.areaV (m.ents t) ∧ Chain.areaV (m.ents t) < (Z.n : Int) ∧ m.F.R[(Chain.areaV (m.ents t)).toNat]? = some x ∧ m.A[(Chain.areaV (m.ents t)).toNat]? = some a ∧ x.s = 2 := by
  have n1 := v.n1
  rcases Chain.fits_area (v.fit ht) with e | e
  · obtain ⟨x, a, hx, ha⟩ := v.scope (i := 0) (by omega)
    have hz := v.f.zero
    rw [hx] at hz
    injection hz with hz
    refine ⟨x, a, by omega, by omega, by rw [e]; exact hx, by rw [e]; exact ha, by rw [hz]⟩
  · obtain ⟨x, hx, hs, _⟩ := v.par _ (v.th_mem ht) _ e
    have hr := Chain.fits_range (v.fit ht) _ e
    have hl := (List.getElem?_eq_some_iff.1 hx).1
    have h3 := v.f.len
    obtain ⟨x', a, hx', ha⟩ := v.scope (i := (Chain.areaV (m.ents t)).toNat) (by omega)
    exact ⟨x, a, by omega, by omega, hx, ha, hs⟩
end
end Go.Proofs.YteakglkagmghpaaGreat.Mod

/-
  Contracts of package model: load, store, look, gate.
-/
namespace Go.Proofs.YteakglkagmghpaaGreat.Mod
open Go.ChangeShapes Go.WideShapes Go.ChangeAt Go.RowKit
open Slic Sco
set_option linter.unusedVariables false
set_option maxRecDepth 8000
set_option linter.unusedSimpArgs false
set_option maxRecDepth 8000
attribute [local go_sem ↓] Go.wp_at_zero Go.wp_at_succ
section
variable {w0 w w' : World} {Z : Fx} {m : Mo} {bx : Bx} {k : Nat}
theorem sr_empty {α : Type} {K : Kd α} {w w' : World} {v : Value} (h : Sr K w v []) : Sr K w' v [] := by
  obtain ⟨A, c, e, h1, h2, h3, _⟩ := h
  exact ⟨A, c, e, h1, h2, h3, fun hl => absurd hl (by simp)⟩
end
end Go.Proofs.YteakglkagmghpaaGreat.Mod

/-
  Contracts of package model: room, alloc.
-/
namespace Go.Proofs.YteakglkagmghpaaGreat.Mod
open Go.ChangeShapes Go.WideShapes Go.ChangeAt Go.RowKit
open Slic Sco
set_option linter.unusedVariables false
set_option maxRecDepth 8000
set_option linter.unusedSimpArgs false
set_option maxRecDepth 8000
attribute [local go_sem ↓] Go.wp_at_zero Go.wp_at_succ
section
variable {w0 w w' : World} {Z : Fx} {m : Mo} {bx : Bx} {k : Nat}
theorem flat_zero (n : Nat) : Fina.kU.flat (List.replicate n (0 : Int)) = List.replicate n (.int .u64 0) := by
  induction n with
  | zero => rfl
  | succ n ih =>
    rw [List.replicate_succ, List.replicate_succ, ← ih]
    rfl
theorem Mh.are {H : Hp} {G : Gs} (h : Mh w0 w Z H G bx) (s : Nat) {a : Ar} (ha : G.A[s]? = some a) (j : Nat) (hj : j < 2) (b : Ar) (v : Value) (hv : ∀ x : Tri, kA.enc (b, x) = (kA.enc (a, x)).set j v) : Mh w0 (w.setCell ⟨Z.ba, s * 3 + j, none⟩ v) Z H ⟨G.F, G.A.set s b, G.T, G.O, G.f, G.hh, G.c⟩ bx :=
  h.step (Only.put w Z.ba _ _ (List.mem_singleton.2 rfl)) (fun x hx => .inr (.inr (.inr (.inl (List.mem_singleton.1 hx))))) (h.md.are s ha j hj b v hv) fun b hb => .inl hb
theorem Mh.hand {H : Hp} {G : Gs} (h : Mh w0 w Z H G bx) (s : Nat) {a : Ar} (ha : G.A[s]? = some a) {y x : Tri} (hy : H.am[s]? = some y) {w1 : World} {L : List Int} (k : w.grownBy w1 (ob y)) (hL : Own Fina.kU w1 0 (sl3 x) L) (hx : ob x = ob y ∨ ob x = some w.heap.size) :
    Mh w0 (w1.setCell ⟨Z.ba, s * 3 + 2, none⟩ (sl3 x)) Z ⟨H.tm, H.am.set s x, H.om⟩ ⟨G.F, G.A, G.T, G.O, G.f, fun i => if i = s then L else G.hh i, G.c⟩ bx := by
  have O1 : Only (ob y).toList w w1 := ⟨k.os, k.tape, k.output, k.size, fun i hi hx => k.block i hi fun e => hx (by simp [← e])⟩
  have O2 : Only (Z.ba :: (ob y).toList) w (w1.setCell ⟨Z.ba, s * 3 + 2, none⟩ (sl3 x)) := (O1.mono fun _ h => List.mem_cons_of_mem _ h).trans (Only.put w1 _ _ _ (by simp))
  refine h.step O2 (fun b hb => ?_) (h.md.hand s ha hy k hL hx) fun b hb => ?_
  · rcases List.mem_cons.1 hb with rfl | hb
    · exact .inr (.inr (.inr (.inl rfl)))
    · exact wr_am hy (by simpa using hb)
  · rcases hb with e | e | e | e | e | ⟨u, hu, e⟩ | e
    · exact .inl (.inl e)
    · exact .inl (.inr (.inl e))
    · exact .inl (.inr (.inr (.inl e)))
    · exact .inl (.inr (.inr (.inr (.inl e))))
    · exact .inl (.inr (.inr (.inr (.inr (.inl e)))))
    · obtain ⟨i, hi⟩ := List.mem_iff_getElem?.1 hu
      rcases get_setL hi with ⟨rfl, rfl, _⟩ | ⟨_, hi⟩
      · rcases hx with q | q
        · exact .inl (wr_am hy (q ▸ e))
        · rw [q] at e
          injection e with e
          exact .inr (by omega)
      · exact .inl (wr_am (H := H) hi e)
    · exact .inl (.inr (.inr (.inr (.inr (.inr (.inr e))))))
end
end Go.Proofs.YteakglkagmghpaaGreat.Mod

/-
  Contract of package model: alloc.
-/
namespace Go.Proofs.YteakglkagmghpaaGreat.Mod
open Go.ChangeShapes Go.WideShapes Go.ChangeAt Go.RowKit
open Slic Sco
set_option linter.unusedVariables false
set_option maxRecDepth 8000
set_option linter.unusedSimpArgs false
set_option maxRecDepth 8000
attribute [local go_sem ↓] Go.wp_at_zero Go.wp_at_succ
section
variable {w0 w w' : World} {Z : Fx} {m : Mo} {bx : Bx} {k : Nat}
end
end Go.Proofs.YteakglkagmghpaaGreat.Mod
