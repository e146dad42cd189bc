/-
  Layer 13 in plain mathematics: what stands against a call that begins, and where it goes on; what a row of closures tells.
-/
import Derived.Test.YteakglkagmghpaaGreatModp
import Derived.Test.YteakglkagmghpaaGreatHeads
import Derived.StillTailTactics
import Derived.Deep.RegionHeld3
import Derived.Deep.DeepCutAuto
namespace Go.Proofs.YteakglkagmghpaaGreat.Beg
open Go.ChangeShapes Go.WideShapes Go.ChangeAt Go.RowKit
open Go.Proofs.YteakglkagmghpaaGreat.Mod Slic
set_option linter.unusedVariables false
set_option linter.unusedSimpArgs false
set_option maxRecDepth 8000

/-- What Check tells. -/
def ckV (n : Int) (L : List Chain.E) (h : Int) : Int :=
  if (Refs.unV h).err ≠ 0 then (Refs.unV h).err else if n ≤ (Refs.unV h).s then 18 else if Chain.reachV L (Refs.unV h).s = false then 20 else 0
structure Rf3 where
  s : Int
  e : Int
  a : Int
def ckR (n : Int) (L : List Chain.E) (h : Int) : Rf3 := if ckV n L h = 0 then ⟨(Refs.unV h).s, (Refs.unV h).e, (Refs.unV h).a⟩ else ⟨0, 0, 0⟩
/-- What stands against a number outside of bounds. -/
def wiE (a lo hi c : Int) : Int := if Heads.withinB a lo hi = true then 0 else c
def reE (L : List Chain.E) (s : Int) : Int := if Chain.reachV L s = true then 0 else 20
def rgE (R : List Int) : Int := if R.any badR = true then 1 else 0
/-- The first one that is not 0. -/
def firE : List Int → Int
  | [] => 0
  | c :: r => if c = 0 then firE r else c
/-- Where a call goes on, and what is asked of it. -/
structure Wa where
  pc : Int
  cs : List Int
def outP (L : List Chain.E) : Int := if (Chain.lastV L).2 = true then 15 else 0
def wayV (n : Int) (L : List Chain.E) (c : Ca) (h v : Int) : Wa :=
  if c.op = 0 then ⟨0, []⟩
  else if c.op = 1 then ⟨0, [rgE [c.r]]⟩
  else if c.op = 2 then ⟨1, [wiE c.a 1 8192 1]⟩
  else if c.op = 3 then ⟨1, [wiE c.a 1 (n - 1) 11]⟩
  else if c.op = 4 then ⟨13, [wiE c.a 1 (n - 1) 11, Chain.pushE L]⟩
  else if c.op = 5 then ⟨outP L, [Chain.popE L]⟩
  else if c.op = 6 then ⟨0, [wiE c.a 0 (n - 1) 11, reE L c.a, Chain.pushE L]⟩
  else if c.op = 7 then ⟨5, [rgE [c.r], (Heads.wordsV c.a c.b).err, wiE c.c 0 7 1]⟩
  else if c.op = 8 then ⟨5, [rgE [c.r, c.h], ckV n L h]⟩
  else if c.op = 9 then ⟨5, [rgE [c.h, c.v], ckV n L h]⟩
  else if c.op = 10 then ⟨11, [rgE [c.r], wiE c.a 1 (n - 1) 11, reE L c.a]⟩
  else if c.op = 11 then (if v = 0 then ⟨12, [rgE [c.v], wiE c.a 1 (n - 1) 11, reE L c.a]⟩ else ⟨7, [rgE [c.v], wiE c.a 1 (n - 1) 11, reE L c.a, ckV n L v]⟩)
  else ⟨0, [1]⟩
/-- The code and the Pc of a call that begins. -/
structure Be where
  code : Int
  pc : Int
def begV (n : Int) (L : List Chain.E) (c : Ca) (h v : Int) : Be := ⟨firE (wayV n L c h v).cs, if firE (wayV n L c h v).cs = 0 then (wayV n L c h v).pc else 0⟩

/-! A closure that tells a code, whatever is made meanwhile. -/
abbrev Fv := FuncId × Array Value
abbrev fnV (f : Fv) : Value := .func (.func f.1) #[] f.2
structure Ask (w : World) (f : Fv) (c : Int) : Prop where
  en : ∀ (a : Array Value) (W : World), (callFunc f.1 a).run Tryz.prog W = .ok (.enter f.1 a) W
  does : ∀ w', Below w.heap.size w w' → Calls Tryz.prog f.1 f.2 w' fun e w'' => e = .returned (.int .i64 c) ∧ Below w'.heap.size w' w''
theorem Ask.below {w w' : World} {f : Fv} {c : Int} (h : Ask w f c) (k : Below w.heap.size w w') : Ask w' f c := ⟨h.en, fun w'' k' => h.does w'' (k.trans (k'.mono k.size))⟩
end Go.Proofs.YteakglkagmghpaaGreat.Beg
