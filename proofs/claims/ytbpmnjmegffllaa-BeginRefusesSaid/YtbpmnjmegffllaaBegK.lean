/-
  BegK
-/
import Derived.Test.YtbpmnjmegffllaaBegE
import Derived.Test.YtbpmnjmegffllaaChF
import Derived.Test.YtbpmnjmegffllaaArgn
namespace Go.Proofs.Ytbpmnjmegffllaa.Beg
open Go.ChangeShapes Go.WideShapes Go.ChangeAt Go.RowKit
open Go.Deep
open Go.Proofs.Ytbpmnjmegffllaa.Mod Slic
set_option linter.unusedVariables false
set_option linter.unusedSimpArgs false
set_option maxRecDepth 100000
attribute [local go_sem ↓] Go.wp_at_zero Go.wp_at_succ

/-- A Case that came in. -/
structure Cs where
  ch : Value
  L : List Chain.E
  c : Ca
  code : Int
  n : Int
structure CameC (w : World) (v : Value) (x : Cs) : Prop where
  v : v = .agg #[x.ch, .int .u8 x.c.op, .int .u8 x.c.r, .int .u8 x.c.h, .int .u8 x.c.v, .int .i64 x.c.a, .int .i64 x.c.b, .int .i64 x.c.c, .int .i64 x.code, .int .i64 x.n]
  l : Chain.Sr w x.ch x.L
  h : 0 ≤ x.c.h ∧ x.c.h ≤ 255
  y : 0 ≤ x.c.v ∧ x.c.v ≤ 255
section
variable {H : Type} {enc : TypeId × Value → H} {w : World} {base : Nat} {spare : Nat → Bool} {held : Bool}
end
end Go.Proofs.Ytbpmnjmegffllaa.Beg
