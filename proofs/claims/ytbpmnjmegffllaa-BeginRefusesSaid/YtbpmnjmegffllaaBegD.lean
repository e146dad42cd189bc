/-
  Contract of package begin: way, Op by Op (written by wip/beg13.py).
-/
import Derived.Test.YtbpmnjmegffllaaBegC
import Derived.Deep.CutBlock
import Derived.Deep.RegionLawGrows
namespace Go.Proofs.Ytbpmnjmegffllaa.Beg
open Go.ChangeShapes Go.WideShapes Go.ChangeAt Go.RowKit
open Go.Proofs.Ytbpmnjmegffllaa.Mod Slic
set_option linter.unusedVariables false
set_option linter.unusedSimpArgs false
set_option maxRecDepth 100000
attribute [local go_sem ↓] Go.wp_at_zero Go.wp_at_succ

/-- A call on its way. -/
structure Ru where
  c : Ca
  pc : Int
  area : Int
  hand : Int
  val : Int
  ch : Value
  word : Int
  next : Int
  at_ : Int
  top : Int
  li : Value
  op : Int
  said : Value
  n : Int
  held : Bool
  done : Bool
  point : Bool
  code : Int
  an : Int
  as_ : Value
def Ru.cells (R : Ru) : List Value := [.int .u8 R.c.op, .int .u8 R.c.r, .int .u8 R.c.h, .int .u8 R.c.v, .int .i64 R.c.a, .int .i64 R.c.b, .int .i64 R.c.c, .int .i64 R.pc, .int .i64 R.area, .int .u64 R.hand, .int .u64 R.val, R.ch, .int .u64 R.word, .int .u64 R.next, .int .i64 R.at_, .int .i64 R.top, R.li, .int .i64 R.op, R.said, .int .i64 R.n, .bool R.held, .bool R.done, .bool R.point, .int .i64 R.code, .int .i64 R.an, R.as_]
abbrev callV (c : Ca) : Value := .agg #[.int .u8 c.op, .int .u8 c.r, .int .u8 c.h, .int .u8 c.v, .int .i64 c.a, .int .i64 c.b, .int .i64 c.c]
abbrev runV (R : Ru) : Value := .agg #[.int .u8 R.c.op, .int .u8 R.c.r, .int .u8 R.c.h, .int .u8 R.c.v, .int .i64 R.c.a, .int .i64 R.c.b, .int .i64 R.c.c, .int .i64 R.pc, .int .i64 R.area, .int .u64 R.hand, .int .u64 R.val, R.ch, .int .u64 R.word, .int .u64 R.next, .int .i64 R.at_, .int .i64 R.top, R.li, .int .i64 R.op, R.said, .int .i64 R.n, .bool R.held, .bool R.done, .bool R.point, .int .i64 R.code, .int .i64 R.an, R.as_]
theorem Bs.c1456 {w0 W : World} {q : Nat} {op r h v a b c : Int} {M : List (Nat × List Value)} {A : List (Fv × Int)} (S : Bs w0 W ((q, [.int .u8 op, .int .u8 r, .int .u8 h, .int .u8 v, .int .i64 a, .int .i64 b, .int .i64 c]) :: M) A) :
    W.cell? ⟨q, 1, none⟩ = some (.int .u8 r) ∧ W.cell? ⟨q, 4, none⟩ = some (.int .i64 a) ∧ W.cell? ⟨q, 5, none⟩ = some (.int .i64 b) ∧ W.cell? ⟨q, 6, none⟩ = some (.int .i64 c) :=
  ⟨(S.st.get 0 rfl).cell 1 _ rfl, (S.st.get 0 rfl).cell 4 _ rfl, (S.st.get 0 rfl).cell 5 _ rfl, (S.st.get 0 rfl).cell 6 _ rfl⟩
theorem Bs.two {w0 W : World} {q u s : Nat} {op r h v a b c n t i j x0 x1 x2 x3 x4 x5 x6 pc area hand val : Int} {ch : Value} {rest : List Value} {M : List (Nat × List Value)} {A : List (Fv × Int)} (S : Bs w0 W ((q, [.int .u8 op, .int .u8 r, .int .u8 h, .int .u8 v, .int .i64 a, .int .i64 b, .int .i64 c]) :: (u, .int .u8 x0 :: .int .u8 x1 :: .int .u8 x2 :: .int .u8 x3 :: .int .i64 x4 :: .int .i64 x5 :: .int .i64 x6 :: .int .i64 pc :: .int .i64 area :: .int .u64 hand :: .int .u64 val :: ch :: rest) :: (s, [.int .i64 n, .int .i64 t, .int .i64 i, .int .i64 j]) :: M) A) (x y : Fin 7) :
    W.cell? ⟨q, x, none⟩ = some ([.int .u8 op, .int .u8 r, .int .u8 h, .int .u8 v, .int .i64 a, .int .i64 b, .int .i64 c].get x) ∧ W.cell? ⟨q, y, none⟩ = some ([.int .u8 op, .int .u8 r, .int .u8 h, .int .u8 v, .int .i64 a, .int .i64 b, .int .i64 c].get y) ∧ W.cell? ⟨u, 9, none⟩ = some (.int .u64 hand) ∧ W.cell? ⟨u, 11, none⟩ = some ch ∧ W.cell? ⟨s, 0, none⟩ = some (.int .i64 n) ∧ W.cell? ⟨s, 1, none⟩ = some (.int .i64 t) ∧ W.cell? ⟨s, 2, none⟩ = some (.int .i64 i) ∧ W.cell? ⟨s, 3, none⟩ = some (.int .i64 j) :=
  ⟨(S.st.get 0 rfl).cell x _ (List.getElem?_eq_getElem x.2), (S.st.get 0 rfl).cell y _ (List.getElem?_eq_getElem y.2), (S.st.get 1 rfl).cell 9 _ rfl, (S.st.get 1 rfl).cell 11 _ rfl, (S.st.get 2 rfl).cell 0 _ rfl, (S.st.get 2 rfl).cell 1 _ rfl, (S.st.get 2 rfl).cell 2 _ rfl, (S.st.get 2 rfl).cell 3 _ rfl⟩
/-- The walk to the switch: three closures, and the blocks. -/
def wayB (n t i j op r h v a b c pc area hand val : Int) (ch : Value) (word next at_ top : Int) (li : Value) (o : Int) (said : Value) (m : Int) (he d p : Bool) (code an : Int) (as_ : Value) (q : Nat) : List (Nat × List Value) :=
  [(q + 2, [.int .u8 op, .int .u8 r, .int .u8 h, .int .u8 v, .int .i64 a, .int .i64 b, .int .i64 c]),
   (q + 1, [.int .u8 op, .int .u8 r, .int .u8 h, .int .u8 v, .int .i64 a, .int .i64 b, .int .i64 c, .int .i64 pc, .int .i64 area, .int .u64 hand, .int .u64 val, ch, .int .u64 word, .int .u64 next, .int .i64 at_, .int .i64 top, li, .int .i64 o, said, .int .i64 m, .bool he, .bool d, .bool p, .int .i64 code, .int .i64 an, as_]),
   (q, [.int .i64 n, .int .i64 t, .int .i64 i, .int .i64 j])]
set_option maxHeartbeats 4000000 in
theorem way_0 (n t i j : Int) (n1 : 1 ≤ n) (n8 : n ≤ 8) (r h v a b c pc area hand val : Int) (ch : Value) (word next at_ top : Int) (li : Value) (o : Int) (said : Value) (m : Int) (he d p : Bool) (code an : Int) (as_ : Value) (L : List Chain.E) (w : World) (hL : Chain.Sr w ch L) (hl : L.length ≤ 1000000) (h1 : wf64 hand) (h2 : wf64 val) :
    Calls Try.prog 39 #[planV n t i j, runV ⟨⟨0, r, h, v, a, b, c⟩, pc, area, hand, val, ch, word, next, at_, top, li, o, said, m, he, d, p, code, an, as_⟩] w (Wayed w (wayV n L ⟨0, r, h, v, a, b, c⟩ hand val)) := by
  have S0 := ((Bs.start w).new [.int .i64 n, .int .i64 t, .int .i64 i, .int .i64 j] 23).new [.int .u8 0, .int .u8 r, .int .u8 h, .int .u8 v, .int .i64 a, .int .i64 b, .int .i64 c, .int .i64 pc, .int .i64 area, .int .u64 hand, .int .u64 val, ch, .int .u64 word, .int .u64 next, .int .i64 at_, .int .i64 top, li, .int .i64 o, said, .int .i64 m, .bool he, .bool d, .bool p, .int .i64 code, .int .i64 an, as_] 53
  have S1 := S0.new [.int .u8 0, .int .u8 r, .int .u8 h, .int .u8 v, .int .i64 a, .int .i64 b, .int .i64 c] 47
  simp only [World.size_alloc] at S0 S1
  have r0 := (S0.st.get 0 rfl).cell 0 _ rfl
  have r1 := (S0.st.get 0 rfl).cell 1 _ rfl
  have r2 := (S0.st.get 0 rfl).cell 2 _ rfl
  have r3 := (S0.st.get 0 rfl).cell 3 _ rfl
  have r4 := (S0.st.get 0 rfl).cell 4 _ rfl
  have r5 := (S0.st.get 0 rfl).cell 5 _ rfl
  have r6 := (S0.st.get 0 rfl).cell 6 _ rfl
  have hL1 := hL.below S1.below
  have c0 := (S1.st.get 0 rfl).cell 0 _ rfl
  have c4 := (S1.st.get 0 rfl).cell 4 _ rfl
  have x11 := (S1.st.get 1 rfl).cell 11 _ rfl
  have p0 := (S1.st.get 2 rfl).cell 0 _ rfl
  clear S0
  go_enter Try.func39, Try.ntmps39
  go_wp2_with fail
  refine (wi_any _ _ _ _ _).mono ?_
  rintro z w1 ⟨f1, rfl, a1, k1⟩
  have hL2 := hL1.below k1
  have S2 := S1.asked a1 k1
  have c4 := (S2.st.get 0 rfl).cell 4 _ rfl
  have x11 := (S2.st.get 1 rfl).cell 11 _ rfl
  clear S1 a1 k1
  go_wp2_with fail
  refine (re_any _ L a _ hL2).mono ?_
  rintro z w2 ⟨f2, rfl, a2, k2⟩
  have hL3 := hL2.below k2
  have S3 := S2.asked a2 k2
  have x11 := (S3.st.get 1 rfl).cell 11 _ rfl
  clear S2 a2 k2
  go_wp2_with fail
  refine (ro_any _ L _ hL3).mono ?_
  rintro z w3 ⟨f3, rfl, a3, k3⟩
  have hL4 := hL3.below k3
  have S := S3.asked a3 k3
  have c0 := (S.st.get 0 rfl).cell 0 _ rfl
  have c1 := (S.st.get 0 rfl).cell 1 _ rfl
  have c2 := (S.st.get 0 rfl).cell 2 _ rfl
  have c3 := (S.st.get 0 rfl).cell 3 _ rfl
  have c4 := (S.st.get 0 rfl).cell 4 _ rfl
  have c5 := (S.st.get 0 rfl).cell 5 _ rfl
  have c6 := (S.st.get 0 rfl).cell 6 _ rfl
  have x9 := (S.st.get 1 rfl).cell 9 _ rfl
  have x10 := (S.st.get 1 rfl).cell 10 _ rfl
  have x11 := (S.st.get 1 rfl).cell 11 _ rfl
  have p0 := (S.st.get 2 rfl).cell 0 _ rfl
  have p1 := (S.st.get 2 rfl).cell 1 _ rfl
  have p2 := (S.st.get 2 rfl).cell 2 _ rfl
  have p3 := (S.st.get 2 rfl).cell 3 _ rfl
  clear S3 a3 k3
  go_wp2
  go_ret2
  exact ⟨_, rfl, Asks.nil _, S.below⟩
set_option maxHeartbeats 4000000 in
theorem way_1 (n t i j : Int) (n1 : 1 ≤ n) (n8 : n ≤ 8) (r h v a b c pc area hand val : Int) (ch : Value) (word next at_ top : Int) (li : Value) (o : Int) (said : Value) (m : Int) (he d p : Bool) (code an : Int) (as_ : Value) (L : List Chain.E) (w : World) (hL : Chain.Sr w ch L) (hl : L.length ≤ 1000000) (h1 : wf64 hand) (h2 : wf64 val) :
    Calls Try.prog 39 #[planV n t i j, runV ⟨⟨1, r, h, v, a, b, c⟩, pc, area, hand, val, ch, word, next, at_, top, li, o, said, m, he, d, p, code, an, as_⟩] w (Wayed w (wayV n L ⟨1, r, h, v, a, b, c⟩ hand val)) := by
  have S0 := ((Bs.start w).new [.int .i64 n, .int .i64 t, .int .i64 i, .int .i64 j] 23).new [.int .u8 1, .int .u8 r, .int .u8 h, .int .u8 v, .int .i64 a, .int .i64 b, .int .i64 c, .int .i64 pc, .int .i64 area, .int .u64 hand, .int .u64 val, ch, .int .u64 word, .int .u64 next, .int .i64 at_, .int .i64 top, li, .int .i64 o, said, .int .i64 m, .bool he, .bool d, .bool p, .int .i64 code, .int .i64 an, as_] 53
  have S1 := S0.new [.int .u8 1, .int .u8 r, .int .u8 h, .int .u8 v, .int .i64 a, .int .i64 b, .int .i64 c] 47
  simp only [World.size_alloc] at S0 S1
  have r0 := (S0.st.get 0 rfl).cell 0 _ rfl
  have r1 := (S0.st.get 0 rfl).cell 1 _ rfl
  have r2 := (S0.st.get 0 rfl).cell 2 _ rfl
  have r3 := (S0.st.get 0 rfl).cell 3 _ rfl
  have r4 := (S0.st.get 0 rfl).cell 4 _ rfl
  have r5 := (S0.st.get 0 rfl).cell 5 _ rfl
  have r6 := (S0.st.get 0 rfl).cell 6 _ rfl
  have hL1 := hL.below S1.below
  have c0 := (S1.st.get 0 rfl).cell 0 _ rfl
  have c4 := (S1.st.get 0 rfl).cell 4 _ rfl
  have x11 := (S1.st.get 1 rfl).cell 11 _ rfl
  have p0 := (S1.st.get 2 rfl).cell 0 _ rfl
  clear S0
  go_enter Try.func39, Try.ntmps39
  go_wp2_with fail
  refine (wi_any _ _ _ _ _).mono ?_
  rintro z w1 ⟨f1, rfl, a1, k1⟩
  have hL2 := hL1.below k1
  have S2 := S1.asked a1 k1
  have c4 := (S2.st.get 0 rfl).cell 4 _ rfl
  have x11 := (S2.st.get 1 rfl).cell 11 _ rfl
  clear S1 a1 k1
  go_wp2_with fail
  refine (re_any _ L a _ hL2).mono ?_
  rintro z w2 ⟨f2, rfl, a2, k2⟩
  have hL3 := hL2.below k2
  have S3 := S2.asked a2 k2
  have x11 := (S3.st.get 1 rfl).cell 11 _ rfl
  clear S2 a2 k2
  go_wp2_with fail
  refine (ro_any _ L _ hL3).mono ?_
  rintro z w3 ⟨f3, rfl, a3, k3⟩
  have hL4 := hL3.below k3
  have S := S3.asked a3 k3
  have c0 := (S.st.get 0 rfl).cell 0 _ rfl
  have c1 := (S.st.get 0 rfl).cell 1 _ rfl
  have c2 := (S.st.get 0 rfl).cell 2 _ rfl
  have c3 := (S.st.get 0 rfl).cell 3 _ rfl
  have c4 := (S.st.get 0 rfl).cell 4 _ rfl
  have c5 := (S.st.get 0 rfl).cell 5 _ rfl
  have c6 := (S.st.get 0 rfl).cell 6 _ rfl
  have x9 := (S.st.get 1 rfl).cell 9 _ rfl
  have x10 := (S.st.get 1 rfl).cell 10 _ rfl
  have x11 := (S.st.get 1 rfl).cell 11 _ rfl
  have p0 := (S.st.get 2 rfl).cell 0 _ rfl
  have p1 := (S.st.get 2 rfl).cell 1 _ rfl
  have p2 := (S.st.get 2 rfl).cell 2 _ rfl
  have p3 := (S.st.get 2 rfl).cell 3 _ rfl
  clear S3 a3 k3
  go_wp2_with fail
  refine (rg_any _ [r] _ (litR _ _) (by simp)).mono ?_
  rintro z w4 ⟨f4, rfl, a4, k4⟩
  have S4 := (S.alloc _).asked a4 k4
  go_wp2
  go_ret2
  exact ⟨_, rfl, asks1 (S4.ask f4 _ (by simp)), (S4.alloc _).below⟩
set_option maxHeartbeats 4000000 in
theorem way_2 (n t i j : Int) (n1 : 1 ≤ n) (n8 : n ≤ 8) (r h v a b c pc area hand val : Int) (ch : Value) (word next at_ top : Int) (li : Value) (o : Int) (said : Value) (m : Int) (he d p : Bool) (code an : Int) (as_ : Value) (L : List Chain.E) (w : World) (hL : Chain.Sr w ch L) (hl : L.length ≤ 1000000) (h1 : wf64 hand) (h2 : wf64 val) :
    Calls Try.prog 39 #[planV n t i j, runV ⟨⟨2, r, h, v, a, b, c⟩, pc, area, hand, val, ch, word, next, at_, top, li, o, said, m, he, d, p, code, an, as_⟩] w (Wayed w (wayV n L ⟨2, r, h, v, a, b, c⟩ hand val)) := by
  have S0 := ((Bs.start w).new [.int .i64 n, .int .i64 t, .int .i64 i, .int .i64 j] 23).new [.int .u8 2, .int .u8 r, .int .u8 h, .int .u8 v, .int .i64 a, .int .i64 b, .int .i64 c, .int .i64 pc, .int .i64 area, .int .u64 hand, .int .u64 val, ch, .int .u64 word, .int .u64 next, .int .i64 at_, .int .i64 top, li, .int .i64 o, said, .int .i64 m, .bool he, .bool d, .bool p, .int .i64 code, .int .i64 an, as_] 53
  have S1 := S0.new [.int .u8 2, .int .u8 r, .int .u8 h, .int .u8 v, .int .i64 a, .int .i64 b, .int .i64 c] 47
  simp only [World.size_alloc] at S0 S1
  have r0 := (S0.st.get 0 rfl).cell 0 _ rfl
  have r1 := (S0.st.get 0 rfl).cell 1 _ rfl
  have r2 := (S0.st.get 0 rfl).cell 2 _ rfl
  have r3 := (S0.st.get 0 rfl).cell 3 _ rfl
  have r4 := (S0.st.get 0 rfl).cell 4 _ rfl
  have r5 := (S0.st.get 0 rfl).cell 5 _ rfl
  have r6 := (S0.st.get 0 rfl).cell 6 _ rfl
  have hL1 := hL.below S1.below
  have c0 := (S1.st.get 0 rfl).cell 0 _ rfl
  have c4 := (S1.st.get 0 rfl).cell 4 _ rfl
  have x11 := (S1.st.get 1 rfl).cell 11 _ rfl
  have p0 := (S1.st.get 2 rfl).cell 0 _ rfl
  clear S0
  go_enter Try.func39, Try.ntmps39
  go_wp2_with fail
  refine (wi_any _ _ _ _ _).mono ?_
  rintro z w1 ⟨f1, rfl, a1, k1⟩
  have hL2 := hL1.below k1
  have S2 := S1.asked a1 k1
  have c4 := (S2.st.get 0 rfl).cell 4 _ rfl
  have x11 := (S2.st.get 1 rfl).cell 11 _ rfl
  clear S1 a1 k1
  go_wp2_with fail
  refine (re_any _ L a _ hL2).mono ?_
  rintro z w2 ⟨f2, rfl, a2, k2⟩
  have hL3 := hL2.below k2
  have S3 := S2.asked a2 k2
  have x11 := (S3.st.get 1 rfl).cell 11 _ rfl
  clear S2 a2 k2
  go_wp2_with fail
  refine (ro_any _ L _ hL3).mono ?_
  rintro z w3 ⟨f3, rfl, a3, k3⟩
  have hL4 := hL3.below k3
  have S := S3.asked a3 k3
  have c0 := (S.st.get 0 rfl).cell 0 _ rfl
  have c1 := (S.st.get 0 rfl).cell 1 _ rfl
  have c2 := (S.st.get 0 rfl).cell 2 _ rfl
  have c3 := (S.st.get 0 rfl).cell 3 _ rfl
  have c4 := (S.st.get 0 rfl).cell 4 _ rfl
  have c5 := (S.st.get 0 rfl).cell 5 _ rfl
  have c6 := (S.st.get 0 rfl).cell 6 _ rfl
  have x9 := (S.st.get 1 rfl).cell 9 _ rfl
  have x10 := (S.st.get 1 rfl).cell 10 _ rfl
  have x11 := (S.st.get 1 rfl).cell 11 _ rfl
  have p0 := (S.st.get 2 rfl).cell 0 _ rfl
  have p1 := (S.st.get 2 rfl).cell 1 _ rfl
  have p2 := (S.st.get 2 rfl).cell 2 _ rfl
  have p3 := (S.st.get 2 rfl).cell 3 _ rfl
  clear S3 a3 k3
  go_wp2_with fail
  refine (wi_any _ _ _ _ _).mono ?_
  rintro z w4 ⟨f4, rfl, a4, k4⟩
  have S4 := S.asked a4 k4
  go_wp2
  go_ret2
  exact ⟨_, rfl, asks1 (S4.ask f4 _ (by simp)), (S4.alloc _).below⟩
set_option maxHeartbeats 4000000 in
theorem way_3 (n t i j : Int) (n1 : 1 ≤ n) (n8 : n ≤ 8) (r h v a b c pc area hand val : Int) (ch : Value) (word next at_ top : Int) (li : Value) (o : Int) (said : Value) (m : Int) (he d p : Bool) (code an : Int) (as_ : Value) (L : List Chain.E) (w : World) (hL : Chain.Sr w ch L) (hl : L.length ≤ 1000000) (h1 : wf64 hand) (h2 : wf64 val) :
    Calls Try.prog 39 #[planV n t i j, runV ⟨⟨3, r, h, v, a, b, c⟩, pc, area, hand, val, ch, word, next, at_, top, li, o, said, m, he, d, p, code, an, as_⟩] w (Wayed w (wayV n L ⟨3, r, h, v, a, b, c⟩ hand val)) := by
  have S0 := ((Bs.start w).new [.int .i64 n, .int .i64 t, .int .i64 i, .int .i64 j] 23).new [.int .u8 3, .int .u8 r, .int .u8 h, .int .u8 v, .int .i64 a, .int .i64 b, .int .i64 c, .int .i64 pc, .int .i64 area, .int .u64 hand, .int .u64 val, ch, .int .u64 word, .int .u64 next, .int .i64 at_, .int .i64 top, li, .int .i64 o, said, .int .i64 m, .bool he, .bool d, .bool p, .int .i64 code, .int .i64 an, as_] 53
  have S1 := S0.new [.int .u8 3, .int .u8 r, .int .u8 h, .int .u8 v, .int .i64 a, .int .i64 b, .int .i64 c] 47
  simp only [World.size_alloc] at S0 S1
  have r0 := (S0.st.get 0 rfl).cell 0 _ rfl
  have r1 := (S0.st.get 0 rfl).cell 1 _ rfl
  have r2 := (S0.st.get 0 rfl).cell 2 _ rfl
  have r3 := (S0.st.get 0 rfl).cell 3 _ rfl
  have r4 := (S0.st.get 0 rfl).cell 4 _ rfl
  have r5 := (S0.st.get 0 rfl).cell 5 _ rfl
  have r6 := (S0.st.get 0 rfl).cell 6 _ rfl
  have hL1 := hL.below S1.below
  have c0 := (S1.st.get 0 rfl).cell 0 _ rfl
  have c4 := (S1.st.get 0 rfl).cell 4 _ rfl
  have x11 := (S1.st.get 1 rfl).cell 11 _ rfl
  have p0 := (S1.st.get 2 rfl).cell 0 _ rfl
  clear S0
  go_enter Try.func39, Try.ntmps39
  go_wp2_with fail
  refine (wi_any _ _ _ _ _).mono ?_
  rintro z w1 ⟨f1, rfl, a1, k1⟩
  have hL2 := hL1.below k1
  have S2 := S1.asked a1 k1
  have c4 := (S2.st.get 0 rfl).cell 4 _ rfl
  have x11 := (S2.st.get 1 rfl).cell 11 _ rfl
  clear S1 a1 k1
  go_wp2_with fail
  refine (re_any _ L a _ hL2).mono ?_
  rintro z w2 ⟨f2, rfl, a2, k2⟩
  have hL3 := hL2.below k2
  have S3 := S2.asked a2 k2
  have x11 := (S3.st.get 1 rfl).cell 11 _ rfl
  clear S2 a2 k2
  go_wp2_with fail
  refine (ro_any _ L _ hL3).mono ?_
  rintro z w3 ⟨f3, rfl, a3, k3⟩
  have hL4 := hL3.below k3
  have S := S3.asked a3 k3
  have c0 := (S.st.get 0 rfl).cell 0 _ rfl
  have c1 := (S.st.get 0 rfl).cell 1 _ rfl
  have c2 := (S.st.get 0 rfl).cell 2 _ rfl
  have c3 := (S.st.get 0 rfl).cell 3 _ rfl
  have c4 := (S.st.get 0 rfl).cell 4 _ rfl
  have c5 := (S.st.get 0 rfl).cell 5 _ rfl
  have c6 := (S.st.get 0 rfl).cell 6 _ rfl
  have x9 := (S.st.get 1 rfl).cell 9 _ rfl
  have x10 := (S.st.get 1 rfl).cell 10 _ rfl
  have x11 := (S.st.get 1 rfl).cell 11 _ rfl
  have p0 := (S.st.get 2 rfl).cell 0 _ rfl
  have p1 := (S.st.get 2 rfl).cell 1 _ rfl
  have p2 := (S.st.get 2 rfl).cell 2 _ rfl
  have p3 := (S.st.get 2 rfl).cell 3 _ rfl
  clear S3 a3 k3
  go_wp2
  go_ret2
  exact ⟨_, rfl, asks1 (S.ask f1 _ (by simp)), (S.alloc _).below⟩
set_option maxHeartbeats 4000000 in
theorem way_4 (n t i j : Int) (n1 : 1 ≤ n) (n8 : n ≤ 8) (r h v a b c pc area hand val : Int) (ch : Value) (word next at_ top : Int) (li : Value) (o : Int) (said : Value) (m : Int) (he d p : Bool) (code an : Int) (as_ : Value) (L : List Chain.E) (w : World) (hL : Chain.Sr w ch L) (hl : L.length ≤ 1000000) (h1 : wf64 hand) (h2 : wf64 val) :
    Calls Try.prog 39 #[planV n t i j, runV ⟨⟨4, r, h, v, a, b, c⟩, pc, area, hand, val, ch, word, next, at_, top, li, o, said, m, he, d, p, code, an, as_⟩] w (Wayed w (wayV n L ⟨4, r, h, v, a, b, c⟩ hand val)) := by
  have S0 := ((Bs.start w).new [.int .i64 n, .int .i64 t, .int .i64 i, .int .i64 j] 23).new [.int .u8 4, .int .u8 r, .int .u8 h, .int .u8 v, .int .i64 a, .int .i64 b, .int .i64 c, .int .i64 pc, .int .i64 area, .int .u64 hand, .int .u64 val, ch, .int .u64 word, .int .u64 next, .int .i64 at_, .int .i64 top, li, .int .i64 o, said, .int .i64 m, .bool he, .bool d, .bool p, .int .i64 code, .int .i64 an, as_] 53
  have S1 := S0.new [.int .u8 4, .int .u8 r, .int .u8 h, .int .u8 v, .int .i64 a, .int .i64 b, .int .i64 c] 47
  simp only [World.size_alloc] at S0 S1
  have r0 := (S0.st.get 0 rfl).cell 0 _ rfl
  have r1 := (S0.st.get 0 rfl).cell 1 _ rfl
  have r2 := (S0.st.get 0 rfl).cell 2 _ rfl
  have r3 := (S0.st.get 0 rfl).cell 3 _ rfl
  have r4 := (S0.st.get 0 rfl).cell 4 _ rfl
  have r5 := (S0.st.get 0 rfl).cell 5 _ rfl
  have r6 := (S0.st.get 0 rfl).cell 6 _ rfl
  have hL1 := hL.below S1.below
  have c0 := (S1.st.get 0 rfl).cell 0 _ rfl
  have c4 := (S1.st.get 0 rfl).cell 4 _ rfl
  have x11 := (S1.st.get 1 rfl).cell 11 _ rfl
  have p0 := (S1.st.get 2 rfl).cell 0 _ rfl
  clear S0
  go_enter Try.func39, Try.ntmps39
  go_wp2_with fail
  refine (wi_any _ _ _ _ _).mono ?_
  rintro z w1 ⟨f1, rfl, a1, k1⟩
  have hL2 := hL1.below k1
  have S2 := S1.asked a1 k1
  have c4 := (S2.st.get 0 rfl).cell 4 _ rfl
  have x11 := (S2.st.get 1 rfl).cell 11 _ rfl
  clear S1 a1 k1
  go_wp2_with fail
  refine (re_any _ L a _ hL2).mono ?_
  rintro z w2 ⟨f2, rfl, a2, k2⟩
  have hL3 := hL2.below k2
  have S3 := S2.asked a2 k2
  have x11 := (S3.st.get 1 rfl).cell 11 _ rfl
  clear S2 a2 k2
  go_wp2_with fail
  refine (ro_any _ L _ hL3).mono ?_
  rintro z w3 ⟨f3, rfl, a3, k3⟩
  have hL4 := hL3.below k3
  have S := S3.asked a3 k3
  have c0 := (S.st.get 0 rfl).cell 0 _ rfl
  have c1 := (S.st.get 0 rfl).cell 1 _ rfl
  have c2 := (S.st.get 0 rfl).cell 2 _ rfl
  have c3 := (S.st.get 0 rfl).cell 3 _ rfl
  have c4 := (S.st.get 0 rfl).cell 4 _ rfl
  have c5 := (S.st.get 0 rfl).cell 5 _ rfl
  have c6 := (S.st.get 0 rfl).cell 6 _ rfl
  have x9 := (S.st.get 1 rfl).cell 9 _ rfl
  have x10 := (S.st.get 1 rfl).cell 10 _ rfl
  have x11 := (S.st.get 1 rfl).cell 11 _ rfl
  have p0 := (S.st.get 2 rfl).cell 0 _ rfl
  have p1 := (S.st.get 2 rfl).cell 1 _ rfl
  have p2 := (S.st.get 2 rfl).cell 2 _ rfl
  have p3 := (S.st.get 2 rfl).cell 3 _ rfl
  clear S3 a3 k3
  go_wp2
  go_ret2
  exact ⟨_, rfl, asks2 (S.ask f1 _ (by simp)) (S.ask f3 _ (by simp)), (S.alloc _).below⟩
set_option maxHeartbeats 4000000 in
theorem way_5 (n t i j : Int) (n1 : 1 ≤ n) (n8 : n ≤ 8) (r h v a b c pc area hand val : Int) (ch : Value) (word next at_ top : Int) (li : Value) (o : Int) (said : Value) (m : Int) (he d p : Bool) (code an : Int) (as_ : Value) (L : List Chain.E) (w : World) (hL : Chain.Sr w ch L) (hl : L.length ≤ 1000000) (h1 : wf64 hand) (h2 : wf64 val) :
    Calls Try.prog 39 #[planV n t i j, runV ⟨⟨5, r, h, v, a, b, c⟩, pc, area, hand, val, ch, word, next, at_, top, li, o, said, m, he, d, p, code, an, as_⟩] w (Wayed w (wayV n L ⟨5, r, h, v, a, b, c⟩ hand val)) := by
  have S0 := ((Bs.start w).new [.int .i64 n, .int .i64 t, .int .i64 i, .int .i64 j] 23).new [.int .u8 5, .int .u8 r, .int .u8 h, .int .u8 v, .int .i64 a, .int .i64 b, .int .i64 c, .int .i64 pc, .int .i64 area, .int .u64 hand, .int .u64 val, ch, .int .u64 word, .int .u64 next, .int .i64 at_, .int .i64 top, li, .int .i64 o, said, .int .i64 m, .bool he, .bool d, .bool p, .int .i64 code, .int .i64 an, as_] 53
  have S1 := S0.new [.int .u8 5, .int .u8 r, .int .u8 h, .int .u8 v, .int .i64 a, .int .i64 b, .int .i64 c] 47
  simp only [World.size_alloc] at S0 S1
  have r0 := (S0.st.get 0 rfl).cell 0 _ rfl
  have r1 := (S0.st.get 0 rfl).cell 1 _ rfl
  have r2 := (S0.st.get 0 rfl).cell 2 _ rfl
  have r3 := (S0.st.get 0 rfl).cell 3 _ rfl
  have r4 := (S0.st.get 0 rfl).cell 4 _ rfl
  have r5 := (S0.st.get 0 rfl).cell 5 _ rfl
  have r6 := (S0.st.get 0 rfl).cell 6 _ rfl
  have hL1 := hL.below S1.below
  have c0 := (S1.st.get 0 rfl).cell 0 _ rfl
  have c4 := (S1.st.get 0 rfl).cell 4 _ rfl
  have x11 := (S1.st.get 1 rfl).cell 11 _ rfl
  have p0 := (S1.st.get 2 rfl).cell 0 _ rfl
  clear S0
  go_enter Try.func39, Try.ntmps39
  go_wp2_with fail
  refine (wi_any _ _ _ _ _).mono ?_
  rintro z w1 ⟨f1, rfl, a1, k1⟩
  have hL2 := hL1.below k1
  have S2 := S1.asked a1 k1
  have c4 := (S2.st.get 0 rfl).cell 4 _ rfl
  have x11 := (S2.st.get 1 rfl).cell 11 _ rfl
  clear S1 a1 k1
  go_wp2_with fail
  refine (re_any _ L a _ hL2).mono ?_
  rintro z w2 ⟨f2, rfl, a2, k2⟩
  have hL3 := hL2.below k2
  have S3 := S2.asked a2 k2
  have x11 := (S3.st.get 1 rfl).cell 11 _ rfl
  clear S2 a2 k2
  go_wp2_with fail
  refine (ro_any _ L _ hL3).mono ?_
  rintro z w3 ⟨f3, rfl, a3, k3⟩
  have hL4 := hL3.below k3
  have S := S3.asked a3 k3
  have c0 := (S.st.get 0 rfl).cell 0 _ rfl
  have c1 := (S.st.get 0 rfl).cell 1 _ rfl
  have c2 := (S.st.get 0 rfl).cell 2 _ rfl
  have c3 := (S.st.get 0 rfl).cell 3 _ rfl
  have c4 := (S.st.get 0 rfl).cell 4 _ rfl
  have c5 := (S.st.get 0 rfl).cell 5 _ rfl
  have c6 := (S.st.get 0 rfl).cell 6 _ rfl
  have x9 := (S.st.get 1 rfl).cell 9 _ rfl
  have x10 := (S.st.get 1 rfl).cell 10 _ rfl
  have x11 := (S.st.get 1 rfl).cell 11 _ rfl
  have p0 := (S.st.get 2 rfl).cell 0 _ rfl
  have p1 := (S.st.get 2 rfl).cell 1 _ rfl
  have p2 := (S.st.get 2 rfl).cell 2 _ rfl
  have p3 := (S.st.get 2 rfl).cell 3 _ rfl
  clear S3 a3 k3
  go_wp2_with fail
  refine (wayout_any _ L _ hL4 hl).mono ?_
  rintro z w4 ⟨u, rfl, a4, k4⟩
  have B := (S.call k4).below
  go_wp2
  go_ret2
  exact ⟨_, rfl, a4, B⟩
set_option maxHeartbeats 4000000 in
theorem way_6 (n t i j : Int) (n1 : 1 ≤ n) (n8 : n ≤ 8) (r h v a b c pc area hand val : Int) (ch : Value) (word next at_ top : Int) (li : Value) (o : Int) (said : Value) (m : Int) (he d p : Bool) (code an : Int) (as_ : Value) (L : List Chain.E) (w : World) (hL : Chain.Sr w ch L) (hl : L.length ≤ 1000000) (h1 : wf64 hand) (h2 : wf64 val) :
    Calls Try.prog 39 #[planV n t i j, runV ⟨⟨6, r, h, v, a, b, c⟩, pc, area, hand, val, ch, word, next, at_, top, li, o, said, m, he, d, p, code, an, as_⟩] w (Wayed w (wayV n L ⟨6, r, h, v, a, b, c⟩ hand val)) := by
  have S0 := ((Bs.start w).new [.int .i64 n, .int .i64 t, .int .i64 i, .int .i64 j] 23).new [.int .u8 6, .int .u8 r, .int .u8 h, .int .u8 v, .int .i64 a, .int .i64 b, .int .i64 c, .int .i64 pc, .int .i64 area, .int .u64 hand, .int .u64 val, ch, .int .u64 word, .int .u64 next, .int .i64 at_, .int .i64 top, li, .int .i64 o, said, .int .i64 m, .bool he, .bool d, .bool p, .int .i64 code, .int .i64 an, as_] 53
  have S1 := S0.new [.int .u8 6, .int .u8 r, .int .u8 h, .int .u8 v, .int .i64 a, .int .i64 b, .int .i64 c] 47
  simp only [World.size_alloc] at S0 S1
  have r0 := (S0.st.get 0 rfl).cell 0 _ rfl
  have r1 := (S0.st.get 0 rfl).cell 1 _ rfl
  have r2 := (S0.st.get 0 rfl).cell 2 _ rfl
  have r3 := (S0.st.get 0 rfl).cell 3 _ rfl
  have r4 := (S0.st.get 0 rfl).cell 4 _ rfl
  have r5 := (S0.st.get 0 rfl).cell 5 _ rfl
  have r6 := (S0.st.get 0 rfl).cell 6 _ rfl
  have hL1 := hL.below S1.below
  have c0 := (S1.st.get 0 rfl).cell 0 _ rfl
  have c4 := (S1.st.get 0 rfl).cell 4 _ rfl
  have x11 := (S1.st.get 1 rfl).cell 11 _ rfl
  have p0 := (S1.st.get 2 rfl).cell 0 _ rfl
  clear S0
  go_enter Try.func39, Try.ntmps39
  go_wp2_with fail
  refine (wi_any _ _ _ _ _).mono ?_
  rintro z w1 ⟨f1, rfl, a1, k1⟩
  have hL2 := hL1.below k1
  have S2 := S1.asked a1 k1
  have c4 := (S2.st.get 0 rfl).cell 4 _ rfl
  have x11 := (S2.st.get 1 rfl).cell 11 _ rfl
  clear S1 a1 k1
  go_wp2_with fail
  refine (re_any _ L a _ hL2).mono ?_
  rintro z w2 ⟨f2, rfl, a2, k2⟩
  have hL3 := hL2.below k2
  have S3 := S2.asked a2 k2
  have x11 := (S3.st.get 1 rfl).cell 11 _ rfl
  clear S2 a2 k2
  go_wp2_with fail
  refine (ro_any _ L _ hL3).mono ?_
  rintro z w3 ⟨f3, rfl, a3, k3⟩
  have hL4 := hL3.below k3
  have S := S3.asked a3 k3
  have c0 := (S.st.get 0 rfl).cell 0 _ rfl
  have c1 := (S.st.get 0 rfl).cell 1 _ rfl
  have c2 := (S.st.get 0 rfl).cell 2 _ rfl
  have c3 := (S.st.get 0 rfl).cell 3 _ rfl
  have c4 := (S.st.get 0 rfl).cell 4 _ rfl
  have c5 := (S.st.get 0 rfl).cell 5 _ rfl
  have c6 := (S.st.get 0 rfl).cell 6 _ rfl
  have x9 := (S.st.get 1 rfl).cell 9 _ rfl
  have x10 := (S.st.get 1 rfl).cell 10 _ rfl
  have x11 := (S.st.get 1 rfl).cell 11 _ rfl
  have p0 := (S.st.get 2 rfl).cell 0 _ rfl
  have p1 := (S.st.get 2 rfl).cell 1 _ rfl
  have p2 := (S.st.get 2 rfl).cell 2 _ rfl
  have p3 := (S.st.get 2 rfl).cell 3 _ rfl
  clear S3 a3 k3
  go_wp2_with fail
  refine (wi_any _ _ _ _ _).mono ?_
  rintro z w4 ⟨f4, rfl, a4, k4⟩
  have S4 := S.asked a4 k4
  go_wp2
  go_ret2
  exact ⟨_, rfl, asks3 (S4.ask f4 _ (by simp)) (S4.ask f2 _ (by simp)) (S4.ask f3 _ (by simp)), (S4.alloc _).below⟩
set_option maxHeartbeats 4000000 in
theorem way_7 (n t i j : Int) (n1 : 1 ≤ n) (n8 : n ≤ 8) (r h v a b c pc area hand val : Int) (ch : Value) (word next at_ top : Int) (li : Value) (o : Int) (said : Value) (m : Int) (he d p : Bool) (code an : Int) (as_ : Value) (L : List Chain.E) (w : World) (hL : Chain.Sr w ch L) (hl : L.length ≤ 1000000) (h1 : wf64 hand) (h2 : wf64 val) :
    Calls Try.prog 39 #[planV n t i j, runV ⟨⟨7, r, h, v, a, b, c⟩, pc, area, hand, val, ch, word, next, at_, top, li, o, said, m, he, d, p, code, an, as_⟩] w (Wayed w (wayV n L ⟨7, r, h, v, a, b, c⟩ hand val)) := by
  have S0 := ((Bs.start w).new [.int .i64 n, .int .i64 t, .int .i64 i, .int .i64 j] 23).new [.int .u8 7, .int .u8 r, .int .u8 h, .int .u8 v, .int .i64 a, .int .i64 b, .int .i64 c, .int .i64 pc, .int .i64 area, .int .u64 hand, .int .u64 val, ch, .int .u64 word, .int .u64 next, .int .i64 at_, .int .i64 top, li, .int .i64 o, said, .int .i64 m, .bool he, .bool d, .bool p, .int .i64 code, .int .i64 an, as_] 53
  have S1 := S0.new [.int .u8 7, .int .u8 r, .int .u8 h, .int .u8 v, .int .i64 a, .int .i64 b, .int .i64 c] 47
  simp only [World.size_alloc] at S0 S1
  have r0 := (S0.st.get 0 rfl).cell 0 _ rfl
  have r1 := (S0.st.get 0 rfl).cell 1 _ rfl
  have r2 := (S0.st.get 0 rfl).cell 2 _ rfl
  have r3 := (S0.st.get 0 rfl).cell 3 _ rfl
  have r4 := (S0.st.get 0 rfl).cell 4 _ rfl
  have r5 := (S0.st.get 0 rfl).cell 5 _ rfl
  have r6 := (S0.st.get 0 rfl).cell 6 _ rfl
  have hL1 := hL.below S1.below
  have c0 := (S1.st.get 0 rfl).cell 0 _ rfl
  have c4 := (S1.st.get 0 rfl).cell 4 _ rfl
  have x11 := (S1.st.get 1 rfl).cell 11 _ rfl
  have p0 := (S1.st.get 2 rfl).cell 0 _ rfl
  clear S0
  go_enter Try.func39, Try.ntmps39
  go_wp2_with fail
  refine (wi_any _ _ _ _ _).mono ?_
  rintro z w1 ⟨f1, rfl, a1, k1⟩
  have hL2 := hL1.below k1
  have S2 := S1.asked a1 k1
  have c4 := (S2.st.get 0 rfl).cell 4 _ rfl
  have x11 := (S2.st.get 1 rfl).cell 11 _ rfl
  clear S1 a1 k1
  go_wp2_with fail
  refine (re_any _ L a _ hL2).mono ?_
  rintro z w2 ⟨f2, rfl, a2, k2⟩
  have hL3 := hL2.below k2
  have S3 := S2.asked a2 k2
  have x11 := (S3.st.get 1 rfl).cell 11 _ rfl
  clear S2 a2 k2
  go_wp2_with fail
  refine (ro_any _ L _ hL3).mono ?_
  rintro z w3 ⟨f3, rfl, a3, k3⟩
  have hL4 := hL3.below k3
  have S := S3.asked a3 k3
  have c0 := (S.st.get 0 rfl).cell 0 _ rfl
  have c1 := (S.st.get 0 rfl).cell 1 _ rfl
  have c2 := (S.st.get 0 rfl).cell 2 _ rfl
  have c3 := (S.st.get 0 rfl).cell 3 _ rfl
  have c4 := (S.st.get 0 rfl).cell 4 _ rfl
  have c5 := (S.st.get 0 rfl).cell 5 _ rfl
  have c6 := (S.st.get 0 rfl).cell 6 _ rfl
  have x9 := (S.st.get 1 rfl).cell 9 _ rfl
  have x10 := (S.st.get 1 rfl).cell 10 _ rfl
  have x11 := (S.st.get 1 rfl).cell 11 _ rfl
  have p0 := (S.st.get 2 rfl).cell 0 _ rfl
  have p1 := (S.st.get 2 rfl).cell 1 _ rfl
  have p2 := (S.st.get 2 rfl).cell 2 _ rfl
  have p3 := (S.st.get 2 rfl).cell 3 _ rfl
  clear S3 a3 k3
  go_wp2_with fail
  clear c0 c2 c3 x9 x10 x11 p0 p1 p2 p3
  go_region_held3 (fun W' => W'.cell? ⟨w.heap.size + 2, 1, none⟩ = some (.int .u8 r) ∧ W'.cell? ⟨w.heap.size + 2, 4, none⟩ = some (.int .i64 a) ∧ W'.cell? ⟨w.heap.size + 2, 5, none⟩ = some (.int .i64 b) ∧ W'.cell? ⟨w.heap.size + 2, 6, none⟩ = some (.int .i64 c))
    (first | exact ⟨c1, c4, c5, c6⟩ | exact S.c1456 | exact S.drew.c1456 | exact (S.alloc _).c1456 | exact (S.alloc _).drew.c1456)
    (first
      | ((go_at_call 70; refine (rg_any _ [r] _ (by first | exact litR _ _ | exact (litR _ _).drew) (by simp)).mono ?_; rintro e wq ⟨f4, rfl, a4, k4⟩; first | replace S := (S.alloc _).asked a4 k4 | replace S := (S.alloc _).drew.asked a4 k4))
      | ((go_at_call 72; refine (si_any a b _).mono ?_; rintro e wq ⟨f5, rfl, a5, k5⟩; first | replace S := S.asked a5 k5 | replace S := S.drew.asked a5 k5))
      | ((go_at_call 67; refine (wi_any _ _ _ _ _).mono ?_; rintro e wq ⟨f6, rfl, a6, k6⟩; first | replace S := S.asked a6 k6 | replace S := S.drew.asked a6 k6)))
  go_wp2
  go_ret2
  first
    | exact ⟨_, rfl, asks3 (S.ask f4 _ (by simp)) (S.ask f5 _ (by simp)) (S.ask f6 _ (by simp)), (S.alloc _).below⟩
    | exact ⟨_, rfl, (asks3 (S.ask f4 _ (by simp)) (S.ask f5 _ (by simp)) (S.ask f6 _ (by simp))).below (Below.refl _ _).drew, (S.alloc _).drew.below⟩
set_option maxHeartbeats 4000000 in
theorem way_8 (n t i j : Int) (n1 : 1 ≤ n) (n8 : n ≤ 8) (r h v a b c pc area hand val : Int) (ch : Value) (word next at_ top : Int) (li : Value) (o : Int) (said : Value) (m : Int) (he d p : Bool) (code an : Int) (as_ : Value) (L : List Chain.E) (w : World) (hL : Chain.Sr w ch L) (hl : L.length ≤ 1000000) (h1 : wf64 hand) (h2 : wf64 val) :
    Calls Try.prog 39 #[planV n t i j, runV ⟨⟨8, r, h, v, a, b, c⟩, pc, area, hand, val, ch, word, next, at_, top, li, o, said, m, he, d, p, code, an, as_⟩] w (Wayed w (wayV n L ⟨8, r, h, v, a, b, c⟩ hand val)) := by
  have S0 := ((Bs.start w).new [.int .i64 n, .int .i64 t, .int .i64 i, .int .i64 j] 23).new [.int .u8 8, .int .u8 r, .int .u8 h, .int .u8 v, .int .i64 a, .int .i64 b, .int .i64 c, .int .i64 pc, .int .i64 area, .int .u64 hand, .int .u64 val, ch, .int .u64 word, .int .u64 next, .int .i64 at_, .int .i64 top, li, .int .i64 o, said, .int .i64 m, .bool he, .bool d, .bool p, .int .i64 code, .int .i64 an, as_] 53
  have S1 := S0.new [.int .u8 8, .int .u8 r, .int .u8 h, .int .u8 v, .int .i64 a, .int .i64 b, .int .i64 c] 47
  simp only [World.size_alloc] at S0 S1
  have r0 := (S0.st.get 0 rfl).cell 0 _ rfl
  have r1 := (S0.st.get 0 rfl).cell 1 _ rfl
  have r2 := (S0.st.get 0 rfl).cell 2 _ rfl
  have r3 := (S0.st.get 0 rfl).cell 3 _ rfl
  have r4 := (S0.st.get 0 rfl).cell 4 _ rfl
  have r5 := (S0.st.get 0 rfl).cell 5 _ rfl
  have r6 := (S0.st.get 0 rfl).cell 6 _ rfl
  have hL1 := hL.below S1.below
  have c0 := (S1.st.get 0 rfl).cell 0 _ rfl
  have c4 := (S1.st.get 0 rfl).cell 4 _ rfl
  have x11 := (S1.st.get 1 rfl).cell 11 _ rfl
  have p0 := (S1.st.get 2 rfl).cell 0 _ rfl
  clear S0
  go_enter Try.func39, Try.ntmps39
  go_wp2_with fail
  refine (wi_any _ _ _ _ _).mono ?_
  rintro z w1 ⟨f1, rfl, a1, k1⟩
  have hL2 := hL1.below k1
  have S2 := S1.asked a1 k1
  have c4 := (S2.st.get 0 rfl).cell 4 _ rfl
  have x11 := (S2.st.get 1 rfl).cell 11 _ rfl
  clear S1 a1 k1
  go_wp2_with fail
  refine (re_any _ L a _ hL2).mono ?_
  rintro z w2 ⟨f2, rfl, a2, k2⟩
  have hL3 := hL2.below k2
  have S3 := S2.asked a2 k2
  have x11 := (S3.st.get 1 rfl).cell 11 _ rfl
  clear S2 a2 k2
  go_wp2_with fail
  refine (ro_any _ L _ hL3).mono ?_
  rintro z w3 ⟨f3, rfl, a3, k3⟩
  have hL4 := hL3.below k3
  have S := S3.asked a3 k3
  have c0 := (S.st.get 0 rfl).cell 0 _ rfl
  have c1 := (S.st.get 0 rfl).cell 1 _ rfl
  have c2 := (S.st.get 0 rfl).cell 2 _ rfl
  have c3 := (S.st.get 0 rfl).cell 3 _ rfl
  have c4 := (S.st.get 0 rfl).cell 4 _ rfl
  have c5 := (S.st.get 0 rfl).cell 5 _ rfl
  have c6 := (S.st.get 0 rfl).cell 6 _ rfl
  have x9 := (S.st.get 1 rfl).cell 9 _ rfl
  have x10 := (S.st.get 1 rfl).cell 10 _ rfl
  have x11 := (S.st.get 1 rfl).cell 11 _ rfl
  have p0 := (S.st.get 2 rfl).cell 0 _ rfl
  have p1 := (S.st.get 2 rfl).cell 1 _ rfl
  have p2 := (S.st.get 2 rfl).cell 2 _ rfl
  have p3 := (S.st.get 2 rfl).cell 3 _ rfl
  clear S3 a3 k3
  go_wp2_with fail
  clear c0 c4 c5 c6 x10
  go_region_held3 (fun W' => W'.cell? ⟨w.heap.size + 2, 1, none⟩ = some (.int .u8 r) ∧ W'.cell? ⟨w.heap.size + 2, 2, none⟩ = some (.int .u8 h) ∧ W'.cell? ⟨w.heap.size + 1, 9, none⟩ = some (.int .u64 hand) ∧ W'.cell? ⟨w.heap.size + 1, 11, none⟩ = some ch ∧ W'.cell? ⟨w.heap.size, 0, none⟩ = some (.int .i64 n) ∧ W'.cell? ⟨w.heap.size, 1, none⟩ = some (.int .i64 t) ∧ W'.cell? ⟨w.heap.size, 2, none⟩ = some (.int .i64 i) ∧ W'.cell? ⟨w.heap.size, 3, none⟩ = some (.int .i64 j))
    (first | exact ⟨c1, c2, x9, x11, p0, p1, p2, p3⟩ | exact S.two ⟨1, by decide⟩ ⟨2, by decide⟩ | exact S.drew.two ⟨1, by decide⟩ ⟨2, by decide⟩ | exact (S.alloc _).two ⟨1, by decide⟩ ⟨2, by decide⟩ | exact (S.alloc _).drew.two ⟨1, by decide⟩ ⟨2, by decide⟩)
    (first
      | ((go_at_call 70; refine (rg_any _ [r, h] _ (by first | exact litR2 _ _ _ | exact (litR2 _ _ _).drew) (by simp)).mono ?_; rintro e wq ⟨f4, rfl, a4, k4⟩; first | replace S := (S.alloc _).asked a4 k4 | replace S := (S.alloc _).drew.asked a4 k4))
      | ((go_at_call 73; refine (ob_any _ L n t i j hand _ (by first | exact hL.below S.below | exact hL.below S.drew.below) h1.1 h1.2).mono ?_; rintro e wq ⟨f5, rfl, a5, k5⟩; first | replace S := S.asked a5 k5 | replace S := S.drew.asked a5 k5)))
  go_wp2
  go_ret2
  first
    | exact ⟨_, rfl, asks2 (S.ask f4 _ (by simp)) (S.ask f5 _ (by simp)), (S.alloc _).below⟩
    | exact ⟨_, rfl, (asks2 (S.ask f4 _ (by simp)) (S.ask f5 _ (by simp))).below (Below.refl _ _).drew, (S.alloc _).drew.below⟩
set_option maxHeartbeats 4000000 in
theorem way_9 (n t i j : Int) (n1 : 1 ≤ n) (n8 : n ≤ 8) (r h v a b c pc area hand val : Int) (ch : Value) (word next at_ top : Int) (li : Value) (o : Int) (said : Value) (m : Int) (he d p : Bool) (code an : Int) (as_ : Value) (L : List Chain.E) (w : World) (hL : Chain.Sr w ch L) (hl : L.length ≤ 1000000) (h1 : wf64 hand) (h2 : wf64 val) :
    Calls Try.prog 39 #[planV n t i j, runV ⟨⟨9, r, h, v, a, b, c⟩, pc, area, hand, val, ch, word, next, at_, top, li, o, said, m, he, d, p, code, an, as_⟩] w (Wayed w (wayV n L ⟨9, r, h, v, a, b, c⟩ hand val)) := by
  have S0 := ((Bs.start w).new [.int .i64 n, .int .i64 t, .int .i64 i, .int .i64 j] 23).new [.int .u8 9, .int .u8 r, .int .u8 h, .int .u8 v, .int .i64 a, .int .i64 b, .int .i64 c, .int .i64 pc, .int .i64 area, .int .u64 hand, .int .u64 val, ch, .int .u64 word, .int .u64 next, .int .i64 at_, .int .i64 top, li, .int .i64 o, said, .int .i64 m, .bool he, .bool d, .bool p, .int .i64 code, .int .i64 an, as_] 53
  have S1 := S0.new [.int .u8 9, .int .u8 r, .int .u8 h, .int .u8 v, .int .i64 a, .int .i64 b, .int .i64 c] 47
  simp only [World.size_alloc] at S0 S1
  have r0 := (S0.st.get 0 rfl).cell 0 _ rfl
  have r1 := (S0.st.get 0 rfl).cell 1 _ rfl
  have r2 := (S0.st.get 0 rfl).cell 2 _ rfl
  have r3 := (S0.st.get 0 rfl).cell 3 _ rfl
  have r4 := (S0.st.get 0 rfl).cell 4 _ rfl
  have r5 := (S0.st.get 0 rfl).cell 5 _ rfl
  have r6 := (S0.st.get 0 rfl).cell 6 _ rfl
  have hL1 := hL.below S1.below
  have c0 := (S1.st.get 0 rfl).cell 0 _ rfl
  have c4 := (S1.st.get 0 rfl).cell 4 _ rfl
  have x11 := (S1.st.get 1 rfl).cell 11 _ rfl
  have p0 := (S1.st.get 2 rfl).cell 0 _ rfl
  clear S0
  go_enter Try.func39, Try.ntmps39
  go_wp2_with fail
  refine (wi_any _ _ _ _ _).mono ?_
  rintro z w1 ⟨f1, rfl, a1, k1⟩
  have hL2 := hL1.below k1
  have S2 := S1.asked a1 k1
  have c4 := (S2.st.get 0 rfl).cell 4 _ rfl
  have x11 := (S2.st.get 1 rfl).cell 11 _ rfl
  clear S1 a1 k1
  go_wp2_with fail
  refine (re_any _ L a _ hL2).mono ?_
  rintro z w2 ⟨f2, rfl, a2, k2⟩
  have hL3 := hL2.below k2
  have S3 := S2.asked a2 k2
  have x11 := (S3.st.get 1 rfl).cell 11 _ rfl
  clear S2 a2 k2
  go_wp2_with fail
  refine (ro_any _ L _ hL3).mono ?_
  rintro z w3 ⟨f3, rfl, a3, k3⟩
  have hL4 := hL3.below k3
  have S := S3.asked a3 k3
  have c0 := (S.st.get 0 rfl).cell 0 _ rfl
  have c1 := (S.st.get 0 rfl).cell 1 _ rfl
  have c2 := (S.st.get 0 rfl).cell 2 _ rfl
  have c3 := (S.st.get 0 rfl).cell 3 _ rfl
  have c4 := (S.st.get 0 rfl).cell 4 _ rfl
  have c5 := (S.st.get 0 rfl).cell 5 _ rfl
  have c6 := (S.st.get 0 rfl).cell 6 _ rfl
  have x9 := (S.st.get 1 rfl).cell 9 _ rfl
  have x10 := (S.st.get 1 rfl).cell 10 _ rfl
  have x11 := (S.st.get 1 rfl).cell 11 _ rfl
  have p0 := (S.st.get 2 rfl).cell 0 _ rfl
  have p1 := (S.st.get 2 rfl).cell 1 _ rfl
  have p2 := (S.st.get 2 rfl).cell 2 _ rfl
  have p3 := (S.st.get 2 rfl).cell 3 _ rfl
  clear S3 a3 k3
  go_wp2_with fail
  clear c0 c4 c5 c6 x10
  go_region_held3 (fun W' => W'.cell? ⟨w.heap.size + 2, 2, none⟩ = some (.int .u8 h) ∧ W'.cell? ⟨w.heap.size + 2, 3, none⟩ = some (.int .u8 v) ∧ W'.cell? ⟨w.heap.size + 1, 9, none⟩ = some (.int .u64 hand) ∧ W'.cell? ⟨w.heap.size + 1, 11, none⟩ = some ch ∧ W'.cell? ⟨w.heap.size, 0, none⟩ = some (.int .i64 n) ∧ W'.cell? ⟨w.heap.size, 1, none⟩ = some (.int .i64 t) ∧ W'.cell? ⟨w.heap.size, 2, none⟩ = some (.int .i64 i) ∧ W'.cell? ⟨w.heap.size, 3, none⟩ = some (.int .i64 j))
    (first | exact ⟨c2, c3, x9, x11, p0, p1, p2, p3⟩ | exact S.two ⟨2, by decide⟩ ⟨3, by decide⟩ | exact S.drew.two ⟨2, by decide⟩ ⟨3, by decide⟩ | exact (S.alloc _).two ⟨2, by decide⟩ ⟨3, by decide⟩ | exact (S.alloc _).drew.two ⟨2, by decide⟩ ⟨3, by decide⟩)
    (first
      | ((go_at_call 70; refine (rg_any _ [h, v] _ (by first | exact litR2 _ _ _ | exact (litR2 _ _ _).drew) (by simp)).mono ?_; rintro e wq ⟨f4, rfl, a4, k4⟩; first | replace S := (S.alloc _).asked a4 k4 | replace S := (S.alloc _).drew.asked a4 k4))
      | ((go_at_call 73; refine (ob_any _ L n t i j hand _ (by first | exact hL.below S.below | exact hL.below S.drew.below) h1.1 h1.2).mono ?_; rintro e wq ⟨f5, rfl, a5, k5⟩; first | replace S := S.asked a5 k5 | replace S := S.drew.asked a5 k5)))
  go_wp2
  go_ret2
  first
    | exact ⟨_, rfl, asks2 (S.ask f4 _ (by simp)) (S.ask f5 _ (by simp)), (S.alloc _).below⟩
    | exact ⟨_, rfl, (asks2 (S.ask f4 _ (by simp)) (S.ask f5 _ (by simp))).below (Below.refl _ _).drew, (S.alloc _).drew.below⟩
set_option maxHeartbeats 4000000 in
theorem way_10 (n t i j : Int) (n1 : 1 ≤ n) (n8 : n ≤ 8) (r h v a b c pc area hand val : Int) (ch : Value) (word next at_ top : Int) (li : Value) (o : Int) (said : Value) (m : Int) (he d p : Bool) (code an : Int) (as_ : Value) (L : List Chain.E) (w : World) (hL : Chain.Sr w ch L) (hl : L.length ≤ 1000000) (h1 : wf64 hand) (h2 : wf64 val) :
    Calls Try.prog 39 #[planV n t i j, runV ⟨⟨10, r, h, v, a, b, c⟩, pc, area, hand, val, ch, word, next, at_, top, li, o, said, m, he, d, p, code, an, as_⟩] w (Wayed w (wayV n L ⟨10, r, h, v, a, b, c⟩ hand val)) := by
  have S0 := ((Bs.start w).new [.int .i64 n, .int .i64 t, .int .i64 i, .int .i64 j] 23).new [.int .u8 10, .int .u8 r, .int .u8 h, .int .u8 v, .int .i64 a, .int .i64 b, .int .i64 c, .int .i64 pc, .int .i64 area, .int .u64 hand, .int .u64 val, ch, .int .u64 word, .int .u64 next, .int .i64 at_, .int .i64 top, li, .int .i64 o, said, .int .i64 m, .bool he, .bool d, .bool p, .int .i64 code, .int .i64 an, as_] 53
  have S1 := S0.new [.int .u8 10, .int .u8 r, .int .u8 h, .int .u8 v, .int .i64 a, .int .i64 b, .int .i64 c] 47
  simp only [World.size_alloc] at S0 S1
  have r0 := (S0.st.get 0 rfl).cell 0 _ rfl
  have r1 := (S0.st.get 0 rfl).cell 1 _ rfl
  have r2 := (S0.st.get 0 rfl).cell 2 _ rfl
  have r3 := (S0.st.get 0 rfl).cell 3 _ rfl
  have r4 := (S0.st.get 0 rfl).cell 4 _ rfl
  have r5 := (S0.st.get 0 rfl).cell 5 _ rfl
  have r6 := (S0.st.get 0 rfl).cell 6 _ rfl
  have hL1 := hL.below S1.below
  have c0 := (S1.st.get 0 rfl).cell 0 _ rfl
  have c4 := (S1.st.get 0 rfl).cell 4 _ rfl
  have x11 := (S1.st.get 1 rfl).cell 11 _ rfl
  have p0 := (S1.st.get 2 rfl).cell 0 _ rfl
  clear S0
  go_enter Try.func39, Try.ntmps39
  go_wp2_with fail
  refine (wi_any _ _ _ _ _).mono ?_
  rintro z w1 ⟨f1, rfl, a1, k1⟩
  have hL2 := hL1.below k1
  have S2 := S1.asked a1 k1
  have c4 := (S2.st.get 0 rfl).cell 4 _ rfl
  have x11 := (S2.st.get 1 rfl).cell 11 _ rfl
  clear S1 a1 k1
  go_wp2_with fail
  refine (re_any _ L a _ hL2).mono ?_
  rintro z w2 ⟨f2, rfl, a2, k2⟩
  have hL3 := hL2.below k2
  have S3 := S2.asked a2 k2
  have x11 := (S3.st.get 1 rfl).cell 11 _ rfl
  clear S2 a2 k2
  go_wp2_with fail
  refine (ro_any _ L _ hL3).mono ?_
  rintro z w3 ⟨f3, rfl, a3, k3⟩
  have hL4 := hL3.below k3
  have S := S3.asked a3 k3
  have c0 := (S.st.get 0 rfl).cell 0 _ rfl
  have c1 := (S.st.get 0 rfl).cell 1 _ rfl
  have c2 := (S.st.get 0 rfl).cell 2 _ rfl
  have c3 := (S.st.get 0 rfl).cell 3 _ rfl
  have c4 := (S.st.get 0 rfl).cell 4 _ rfl
  have c5 := (S.st.get 0 rfl).cell 5 _ rfl
  have c6 := (S.st.get 0 rfl).cell 6 _ rfl
  have x9 := (S.st.get 1 rfl).cell 9 _ rfl
  have x10 := (S.st.get 1 rfl).cell 10 _ rfl
  have x11 := (S.st.get 1 rfl).cell 11 _ rfl
  have p0 := (S.st.get 2 rfl).cell 0 _ rfl
  have p1 := (S.st.get 2 rfl).cell 1 _ rfl
  have p2 := (S.st.get 2 rfl).cell 2 _ rfl
  have p3 := (S.st.get 2 rfl).cell 3 _ rfl
  clear S3 a3 k3
  go_wp2_with fail
  refine (rg_any _ [r] _ (litR _ _) (by simp)).mono ?_
  rintro z w4 ⟨f4, rfl, a4, k4⟩
  have S4 := (S.alloc _).asked a4 k4
  go_wp2
  go_ret2
  exact ⟨_, rfl, asks3 (S4.ask f4 _ (by simp)) (S4.ask f1 _ (by simp)) (S4.ask f2 _ (by simp)), (S4.alloc _).below⟩
set_option maxHeartbeats 4000000 in
theorem way_11 (n t i j : Int) (n1 : 1 ≤ n) (n8 : n ≤ 8) (r h v a b c pc area hand val : Int) (ch : Value) (word next at_ top : Int) (li : Value) (o : Int) (said : Value) (m : Int) (he d p : Bool) (code an : Int) (as_ : Value) (L : List Chain.E) (w : World) (hL : Chain.Sr w ch L) (hl : L.length ≤ 1000000) (h1 : wf64 hand) (h2 : wf64 val) :
    Calls Try.prog 39 #[planV n t i j, runV ⟨⟨11, r, h, v, a, b, c⟩, pc, area, hand, val, ch, word, next, at_, top, li, o, said, m, he, d, p, code, an, as_⟩] w (Wayed w (wayV n L ⟨11, r, h, v, a, b, c⟩ hand val)) := by
  have S0 := ((Bs.start w).new [.int .i64 n, .int .i64 t, .int .i64 i, .int .i64 j] 23).new [.int .u8 11, .int .u8 r, .int .u8 h, .int .u8 v, .int .i64 a, .int .i64 b, .int .i64 c, .int .i64 pc, .int .i64 area, .int .u64 hand, .int .u64 val, ch, .int .u64 word, .int .u64 next, .int .i64 at_, .int .i64 top, li, .int .i64 o, said, .int .i64 m, .bool he, .bool d, .bool p, .int .i64 code, .int .i64 an, as_] 53
  have S1 := S0.new [.int .u8 11, .int .u8 r, .int .u8 h, .int .u8 v, .int .i64 a, .int .i64 b, .int .i64 c] 47
  simp only [World.size_alloc] at S0 S1
  have r0 := (S0.st.get 0 rfl).cell 0 _ rfl
  have r1 := (S0.st.get 0 rfl).cell 1 _ rfl
  have r2 := (S0.st.get 0 rfl).cell 2 _ rfl
  have r3 := (S0.st.get 0 rfl).cell 3 _ rfl
  have r4 := (S0.st.get 0 rfl).cell 4 _ rfl
  have r5 := (S0.st.get 0 rfl).cell 5 _ rfl
  have r6 := (S0.st.get 0 rfl).cell 6 _ rfl
  have hL1 := hL.below S1.below
  have c0 := (S1.st.get 0 rfl).cell 0 _ rfl
  have c4 := (S1.st.get 0 rfl).cell 4 _ rfl
  have x11 := (S1.st.get 1 rfl).cell 11 _ rfl
  have p0 := (S1.st.get 2 rfl).cell 0 _ rfl
  clear S0
  go_enter Try.func39, Try.ntmps39
  go_wp2_with fail
  refine (wi_any _ _ _ _ _).mono ?_
  rintro z w1 ⟨f1, rfl, a1, k1⟩
  have hL2 := hL1.below k1
  have S2 := S1.asked a1 k1
  have c4 := (S2.st.get 0 rfl).cell 4 _ rfl
  have x11 := (S2.st.get 1 rfl).cell 11 _ rfl
  clear S1 a1 k1
  go_wp2_with fail
  refine (re_any _ L a _ hL2).mono ?_
  rintro z w2 ⟨f2, rfl, a2, k2⟩
  have hL3 := hL2.below k2
  have S3 := S2.asked a2 k2
  have x11 := (S3.st.get 1 rfl).cell 11 _ rfl
  clear S2 a2 k2
  go_wp2_with fail
  refine (ro_any _ L _ hL3).mono ?_
  rintro z w3 ⟨f3, rfl, a3, k3⟩
  have hL4 := hL3.below k3
  have S := S3.asked a3 k3
  have c0 := (S.st.get 0 rfl).cell 0 _ rfl
  have c1 := (S.st.get 0 rfl).cell 1 _ rfl
  have c2 := (S.st.get 0 rfl).cell 2 _ rfl
  have c3 := (S.st.get 0 rfl).cell 3 _ rfl
  have c4 := (S.st.get 0 rfl).cell 4 _ rfl
  have c5 := (S.st.get 0 rfl).cell 5 _ rfl
  have c6 := (S.st.get 0 rfl).cell 6 _ rfl
  have x9 := (S.st.get 1 rfl).cell 9 _ rfl
  have x10 := (S.st.get 1 rfl).cell 10 _ rfl
  have x11 := (S.st.get 1 rfl).cell 11 _ rfl
  have p0 := (S.st.get 2 rfl).cell 0 _ rfl
  have p1 := (S.st.get 2 rfl).cell 1 _ rfl
  have p2 := (S.st.get 2 rfl).cell 2 _ rfl
  have p3 := (S.st.get 2 rfl).cell 3 _ rfl
  clear S3 a3 k3
  obtain ⟨Ac, cc, rfl, lc1, lc2, _⟩ := id hL
  go_wp2_with fail
  refine (rg_any _ [v] _ (litR _ _) (by simp)).mono ?_
  rintro z w4 ⟨f4, rfl, a4, k4⟩
  have S4 := (S.alloc _).asked a4 k4
  have hL5 := (hL4.alloc _).below k4
  clear c0 c1 c2 c3 c4 c5 c6 x9 x10 x11 p0 p1 p2 p3 a4 k4
  have S5 := S4.new [fnV f4, fnV f1, fnV f2] 138
  have O5 : Slic.Own kQ (w4.alloc (.cells #[fnV f4, fnV f1, fnV f2] 138)) w4.heap.size (.slice (some ⟨w4.heap.size, 0, none⟩) 3 3) [f4, f1, f2] := Slic.Own.lit (K := kQ) w4 w4.heap.size (Nat.le_refl _) [f4, f1, f2] #[fnV f4, fnV f1, fnV f2] rfl (by show 3 ≤ maxLen; decide) 3 rfl
  have hL6 := hL5.alloc (.cells #[fnV f4, fnV f1, fnV f2] 138)
  have p0 := (S5.st.get 3 rfl).cell 0 _ rfl
  have p1 := (S5.st.get 3 rfl).cell 1 _ rfl
  have p2 := (S5.st.get 3 rfl).cell 2 _ rfl
  have p3 := (S5.st.get 3 rfl).cell 3 _ rfl
  have x10 := (S5.st.get 2 rfl).cell 10 _ rfl
  have x11 := (S5.st.get 2 rfl).cell 11 _ rfl
  by_cases hv : val = 0
  · have E := Lib.hid (show wayV n L ⟨11, r, h, v, a, b, c⟩ hand val = ⟨12, [rgE [v], wiE a 1 (n - 1) 11, reE L a]⟩ by
      show (if val = 0 then _ else _) = _
      rw [if_pos hv])
    have z1 : (val == 0) = true := by simpa using hv
    clear hv
    as_aux_lemma =>
      go_wp2
      go_ret2
      rw [E.out]
      exact ⟨_, rfl, asks3 (S4.ask f4 _ (by simp)) (S4.ask f1 _ (by simp)) (S4.ask f2 _ (by simp)), S5.below⟩
  · have E := Lib.hid (show wayV n L ⟨11, r, h, v, a, b, c⟩ hand val = ⟨7, [rgE [v], wiE a 1 (n - 1) 11, reE L a, ckV n L val]⟩ by
      show (if val = 0 then _ else _) = _
      rw [if_neg hv])
    have z1 : (val == 0) = false := by simpa using hv
    clear hv
    as_aux_lemma =>
      have lW := World.size_alloc w4 (.cells #[fnV f4, fnV f1, fnV f2] 138)
      have LW := Lib.hid lW
      clear lW
      go_wp2_with fail
      refine (ob_mk _ L n t i j val _ hL6).mono ?_
      rintro z w6 ⟨rfl, e6⟩
      have S6 := ((S5.new [.int .i64 n, .int .i64 t, .int .i64 i, .int .i64 j] 23).new [.slice Ac L.length cc] 48).new [.int .u64 val] 33
      have hL7 := ((hL6.alloc (.cells #[.int .i64 n, .int .i64 t, .int .i64 i, .int .i64 j] 23)).alloc (.cells #[.slice Ac L.length cc] 48)).alloc (.cells #[.int .u64 val] 33)
      have O7 := O5.below (((Below.refl _ _).alloc (Nat.le_refl _) (.cells #[.int .i64 n, .int .i64 t, .int .i64 i, .int .i64 j] 23)).alloc (by simp) (.cells #[.slice Ac L.length cc] 48) |>.alloc (by simp) (.cells #[.int .u64 val] 33))
      simp only [World.size_alloc] at S6
      rw [e6] at S6 hL7 O7
      have l6 : w4.heap.size ≤ w6.heap.size := by rw [← e6]; simp only [World.size_alloc]; omega
      have B46 : Below w4.heap.size w4 w6 := by
        rw [← e6]
        exact ((((Below.refl _ _).alloc (Nat.le_refl _) _).alloc (by simp) _).alloc (by simp; omega) _).alloc (by simp; omega) _
      clear e6
      obtain ⟨f5, hf5⟩ : ∃ f5 : Fv, f5 = (114, #[ptr (w4.heap.size + 1), ptr (w4.heap.size + 1 + 1), ptr (w4.heap.size + 1 + 1 + 1)]) := ⟨_, rfl⟩
      have lit5 := (Slic.Own.lit (K := kQ) w6 0 (Nat.zero_le _) [f5] #[fnV f5] rfl (by show 1 ≤ maxLen; decide) 1 rfl).sr
      rw [hf5] at lit5
      go_wp2_with (
        refine wpList_app (K := kQ) rfl (.tmp 138) (.tmp 145) rfl rfl rfl rfl (O7.below (below_one _ _)) lit5 (by simp) (by simp; omega) ?_
        intro v' w' O' g' G')
      have S7 := S6.alloc (.cells #[fnV (114, #[ptr (w4.heap.size + 1), ptr (w4.heap.size + 1 + 1), ptr (w4.heap.size + 1 + 1 + 1)])] 138)
      have BW := G'.below w.heap.size w S4.below.size S7.below
      have B4 := G'.below w4.heap.size w4 (Nat.le_refl _) (B46.alloc l6 _)
      have g' : World.grownBy _ w' (some w4.heap.size) := g'
      have A2 := S7.st.get 2 rfl
      have A1 := S7.st.get 1 rfl
      have A0 := S7.st.get 0 rfl
      have A5 := ob_ask (t := t) (i := i) (j := j) (n := n) (L := L) (h := val) ((cell_only g' A2.lt (by simp) 0).trans (A2.cell 0 _ rfl)) ((cell_only g' A2.lt (by simp) 1).trans (A2.cell 1 _ rfl)) ((cell_only g' A2.lt (by simp) 2).trans (A2.cell 2 _ rfl)) ((cell_only g' A2.lt (by simp) 3).trans (A2.cell 3 _ rfl))
        ((cell_only g' A1.lt (by simp; omega) 0).trans (A1.cell 0 _ rfl)) ((cell_only g' A0.lt (by simp; omega) 0).trans (A0.cell 0 _ rfl)) (hL.below BW) h2.1 h2.2
      have q4 := (S4.ask f4 (rgE [v]) (by simp)).below B4
      have q1 := (S4.ask f1 (wiE a 1 (n - 1) 11) (by simp)).below B4
      have q2 := (S4.ask f2 (reE L a) (by simp)).below B4
      go_ret2
      rw [E.out]
      refine ⟨v', rfl, ⟨⟨_, O'.sr, rfl, fun x f d e1 e2 => ?_⟩⟩, BW⟩
      rcases x with _ | _ | _ | _ | x
      · simp at e1 e2
        subst e1 e2
        exact q4
      · simp at e1 e2
        subst e1 e2
        exact q1
      · simp at e1 e2
        subst e1 e2
        exact q2
      · simp at e1 e2
        subst e1 e2
        exact A5
      · simp at e1
theorem way_e {n : Int} {L : List Chain.E} {c : Ca} {h v : Int} (h0 : c.op < 0 ∨ 11 < c.op) : wayV n L c h v = ⟨0, [1]⟩ := by
  unfold wayV
  rw [if_neg (by omega), if_neg (by omega), if_neg (by omega), if_neg (by omega), if_neg (by omega), if_neg (by omega), if_neg (by omega), if_neg (by omega), if_neg (by omega), if_neg (by omega), if_neg (by omega), if_neg (by omega)]
set_option maxHeartbeats 4000000 in
theorem way_12 (op : Int) (ho : op < 0 ∨ 11 < op) (n t i j : Int) (n1 : 1 ≤ n) (n8 : n ≤ 8) (r h v a b c pc area hand val : Int) (ch : Value) (word next at_ top : Int) (li : Value) (o : Int) (said : Value) (m : Int) (he d p : Bool) (code an : Int) (as_ : Value) (L : List Chain.E) (w : World) (hL : Chain.Sr w ch L) (hl : L.length ≤ 1000000) (h1 : wf64 hand) (h2 : wf64 val) :
    Calls Try.prog 39 #[planV n t i j, runV ⟨⟨op, r, h, v, a, b, c⟩, pc, area, hand, val, ch, word, next, at_, top, li, o, said, m, he, d, p, code, an, as_⟩] w (Wayed w (wayV n L ⟨op, r, h, v, a, b, c⟩ hand val)) := by
  rw [way_e (c := ⟨op, r, h, v, a, b, c⟩) ho]
  have z0 : (op == 0) = false := by
    have : op ≠ 0 := by omega
    simpa using this
  have z1 : (op == 1) = false := by
    have : op ≠ 1 := by omega
    simpa using this
  have z2 : (op == 2) = false := by
    have : op ≠ 2 := by omega
    simpa using this
  have z3 : (op == 3) = false := by
    have : op ≠ 3 := by omega
    simpa using this
  have z4 : (op == 4) = false := by
    have : op ≠ 4 := by omega
    simpa using this
  have z5 : (op == 5) = false := by
    have : op ≠ 5 := by omega
    simpa using this
  have z6 : (op == 6) = false := by
    have : op ≠ 6 := by omega
    simpa using this
  have z7 : (op == 7) = false := by
    have : op ≠ 7 := by omega
    simpa using this
  have z8 : (op == 8) = false := by
    have : op ≠ 8 := by omega
    simpa using this
  have z9 : (op == 9) = false := by
    have : op ≠ 9 := by omega
    simpa using this
  have z10 : (op == 10) = false := by
    have : op ≠ 10 := by omega
    simpa using this
  have z11 : (op == 11) = false := by
    have : op ≠ 11 := by omega
    simpa using this
  clear ho
  have S0 := ((Bs.start w).new [.int .i64 n, .int .i64 t, .int .i64 i, .int .i64 j] 23).new [.int .u8 op, .int .u8 r, .int .u8 h, .int .u8 v, .int .i64 a, .int .i64 b, .int .i64 c, .int .i64 pc, .int .i64 area, .int .u64 hand, .int .u64 val, ch, .int .u64 word, .int .u64 next, .int .i64 at_, .int .i64 top, li, .int .i64 o, said, .int .i64 m, .bool he, .bool d, .bool p, .int .i64 code, .int .i64 an, as_] 53
  have S1 := S0.new [.int .u8 op, .int .u8 r, .int .u8 h, .int .u8 v, .int .i64 a, .int .i64 b, .int .i64 c] 47
  simp only [World.size_alloc] at S0 S1
  have r0 := (S0.st.get 0 rfl).cell 0 _ rfl
  have r1 := (S0.st.get 0 rfl).cell 1 _ rfl
  have r2 := (S0.st.get 0 rfl).cell 2 _ rfl
  have r3 := (S0.st.get 0 rfl).cell 3 _ rfl
  have r4 := (S0.st.get 0 rfl).cell 4 _ rfl
  have r5 := (S0.st.get 0 rfl).cell 5 _ rfl
  have r6 := (S0.st.get 0 rfl).cell 6 _ rfl
  have hL1 := hL.below S1.below
  have c0 := (S1.st.get 0 rfl).cell 0 _ rfl
  have c4 := (S1.st.get 0 rfl).cell 4 _ rfl
  have x11 := (S1.st.get 1 rfl).cell 11 _ rfl
  have p0 := (S1.st.get 2 rfl).cell 0 _ rfl
  clear S0
  go_enter Try.func39, Try.ntmps39
  go_wp2_with fail
  refine (wi_any _ _ _ _ _).mono ?_
  rintro z w1 ⟨f1, rfl, a1, k1⟩
  have hL2 := hL1.below k1
  have S2 := S1.asked a1 k1
  have c4 := (S2.st.get 0 rfl).cell 4 _ rfl
  have x11 := (S2.st.get 1 rfl).cell 11 _ rfl
  clear S1 a1 k1
  go_wp2_with fail
  refine (re_any _ L a _ hL2).mono ?_
  rintro z w2 ⟨f2, rfl, a2, k2⟩
  have hL3 := hL2.below k2
  have S3 := S2.asked a2 k2
  have x11 := (S3.st.get 1 rfl).cell 11 _ rfl
  clear S2 a2 k2
  go_wp2_with fail
  refine (ro_any _ L _ hL3).mono ?_
  rintro z w3 ⟨f3, rfl, a3, k3⟩
  have hL4 := hL3.below k3
  have S := S3.asked a3 k3
  have c0 := (S.st.get 0 rfl).cell 0 _ rfl
  have c1 := (S.st.get 0 rfl).cell 1 _ rfl
  have c2 := (S.st.get 0 rfl).cell 2 _ rfl
  have c3 := (S.st.get 0 rfl).cell 3 _ rfl
  have c4 := (S.st.get 0 rfl).cell 4 _ rfl
  have c5 := (S.st.get 0 rfl).cell 5 _ rfl
  have c6 := (S.st.get 0 rfl).cell 6 _ rfl
  have x9 := (S.st.get 1 rfl).cell 9 _ rfl
  have x10 := (S.st.get 1 rfl).cell 10 _ rfl
  have x11 := (S.st.get 1 rfl).cell 11 _ rfl
  have p0 := (S.st.get 2 rfl).cell 0 _ rfl
  have p1 := (S.st.get 2 rfl).cell 1 _ rfl
  have p2 := (S.st.get 2 rfl).cell 2 _ rfl
  have p3 := (S.st.get 2 rfl).cell 3 _ rfl
  clear S3 a3 k3
  go_wp2_with fail
  refine (al_any _ _).mono ?_
  rintro z w4 ⟨f4, rfl, a4, k4⟩
  have S4 := S.asked a4 k4
  go_wp2
  go_ret2
  exact ⟨_, rfl, asks1 (S4.ask f4 _ (by simp)), (S4.alloc _).below⟩
theorem way_any (n t i j : Int) (n1 : 1 ≤ n) (n8 : n ≤ 8) (R : Ru) (L : List Chain.E) (w : World) (hL : Chain.Sr w R.ch L) (hl : L.length ≤ 1000000) (h1 : wf64 R.hand) (h2 : wf64 R.val) :
    Calls Try.prog 39 #[planV n t i j, runV R] w (Wayed w (wayV n L R.c R.hand R.val)) := by
  obtain ⟨⟨op, r, h, v, a, b, c⟩, pc, area, hand, val, ch, word, next, at_, top, li, o, said, m, he, d, p, code, an, as_⟩ := R
  by_cases ho : op < 0 ∨ 11 < op
  · exact way_12 op ho n t i j n1 n8 r h v a b c pc area hand val ch word next at_ top li o said m he d p code an as_ L w hL hl h1 h2
  have : op = 0 ∨ op = 1 ∨ op = 2 ∨ op = 3 ∨ op = 4 ∨ op = 5 ∨ op = 6 ∨ op = 7 ∨ op = 8 ∨ op = 9 ∨ op = 10 ∨ op = 11 := by omega
  rcases this with rfl | rfl | rfl | rfl | rfl | rfl | rfl | rfl | rfl | rfl | rfl | rfl
  · exact way_0 n t i j n1 n8 r h v a b c pc area hand val ch word next at_ top li o said m he d p code an as_ L w hL hl h1 h2
  · exact way_1 n t i j n1 n8 r h v a b c pc area hand val ch word next at_ top li o said m he d p code an as_ L w hL hl h1 h2
  · exact way_2 n t i j n1 n8 r h v a b c pc area hand val ch word next at_ top li o said m he d p code an as_ L w hL hl h1 h2
  · exact way_3 n t i j n1 n8 r h v a b c pc area hand val ch word next at_ top li o said m he d p code an as_ L w hL hl h1 h2
  · exact way_4 n t i j n1 n8 r h v a b c pc area hand val ch word next at_ top li o said m he d p code an as_ L w hL hl h1 h2
  · exact way_5 n t i j n1 n8 r h v a b c pc area hand val ch word next at_ top li o said m he d p code an as_ L w hL hl h1 h2
  · exact way_6 n t i j n1 n8 r h v a b c pc area hand val ch word next at_ top li o said m he d p code an as_ L w hL hl h1 h2
  · exact way_7 n t i j n1 n8 r h v a b c pc area hand val ch word next at_ top li o said m he d p code an as_ L w hL hl h1 h2
  · exact way_8 n t i j n1 n8 r h v a b c pc area hand val ch word next at_ top li o said m he d p code an as_ L w hL hl h1 h2
  · exact way_9 n t i j n1 n8 r h v a b c pc area hand val ch word next at_ top li o said m he d p code an as_ L w hL hl h1 h2
  · exact way_10 n t i j n1 n8 r h v a b c pc area hand val ch word next at_ top li o said m he d p code an as_ L w hL hl h1 h2
  · exact way_11 n t i j n1 n8 r h v a b c pc area hand val ch word next at_ top li o said m he d p code an as_ L w hL hl h1 h2
end Go.Proofs.Ytbpmnjmegffllaa.Beg
