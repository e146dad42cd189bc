/-
  Contract of package begin: way, Op by Op (written by wip/beg13.py).
-/
import Derived.Test.YteakglkagmghpaaGreatBegC
import Derived.Deep.CutBlock
import Derived.Deep.RegionLawGrows
namespace Go.Proofs.YteakglkagmghpaaGreat.Beg
open Go.ChangeShapes Go.WideShapes Go.ChangeAt Go.RowKit
open Go.Proofs.YteakglkagmghpaaGreat.Mod Slic
set_option linter.unusedVariables false
set_option linter.unusedSimpArgs false
set_option maxRecDepth 100000
attribute [local go_sem ↓] Go.wp_at_zero Go.wp_at_succ

/-- A call on its way. -/
structure Ru where
  c : Ca
  pc : Int
  area : Int
  hand : Int
  val : Int
  ch : Value
  word : Int
  next : Int
  at_ : Int
  top : Int
  li : Value
  op : Int
  said : Value
  n : Int
  held : Bool
  done : Bool
  point : Bool
  code : Int
  an : Int
  as_ : Value
def Ru.cells (R : Ru) : List Value := [.int .u8 R.c.op, .int .u8 R.c.r, .int .u8 R.c.h, .int .u8 R.c.v, .int .i64 R.c.a, .int .i64 R.c.b, .int .i64 R.c.c, .int .i64 R.pc, .int .i64 R.area, .int .u64 R.hand, .int .u64 R.val, R.ch, .int .u64 R.word, .int .u64 R.next, .int .i64 R.at_, .int .i64 R.top, R.li, .int .i64 R.op, R.said, .int .i64 R.n, .bool R.held, .bool R.done, .bool R.point, .int .i64 R.code, .int .i64 R.an, R.as_]
abbrev callV (c : Ca) : Value := .agg #[.int .u8 c.op, .int .u8 c.r, .int .u8 c.h, .int .u8 c.v, .int .i64 c.a, .int .i64 c.b, .int .i64 c.c]
abbrev runV (R : Ru) : Value := .agg #[.int .u8 R.c.op, .int .u8 R.c.r, .int .u8 R.c.h, .int .u8 R.c.v, .int .i64 R.c.a, .int .i64 R.c.b, .int .i64 R.c.c, .int .i64 R.pc, .int .i64 R.area, .int .u64 R.hand, .int .u64 R.val, R.ch, .int .u64 R.word, .int .u64 R.next, .int .i64 R.at_, .int .i64 R.top, R.li, .int .i64 R.op, R.said, .int .i64 R.n, .bool R.held, .bool R.done, .bool R.point, .int .i64 R.code, .int .i64 R.an, R.as_]
theorem way_e {n : Int} {L : List Chain.E} {c : Ca} {h v : Int} (h0 : c.op < 0 ∨ 11 < c.op) : wayV n L c h v = ⟨0, [1]⟩ := by
  unfold wayV
  rw [if_neg (by omega), if_neg (by omega), if_neg (by omega), if_neg (by omega), if_neg (by omega), if_neg (by omega), if_neg (by omega), if_neg (by omega), if_neg (by omega), if_neg (by omega), if_neg (by omega), if_neg (by omega)]
end Go.Proofs.YteakglkagmghpaaGreat.Beg
