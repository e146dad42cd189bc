/-
  BegK
-/
import Derived.Test.YtkghpdmliffkdaaBegE
import Derived.Test.YtkghpdmliffkdaaChF
import Derived.Test.YtkghpdmliffkdaaArgn
namespace Go.Proofs.Ytkghpdmliffkdaa.Beg
open Go.ChangeShapes Go.WideShapes Go.ChangeAt Go.RowKit
open Go.Deep
open Go.Proofs.Ytkghpdmliffkdaa.Mod Slic
set_option linter.unusedVariables false
set_option linter.unusedSimpArgs false
set_option maxRecDepth 100000
attribute [local go_sem ↓] Go.wp_at_zero Go.wp_at_succ

/-- A Case that came in. -/
structure Cs where
  ch : Value
  L : List Chain.E
  c : Ca
  code : Int
  n : Int
structure CameC (w : World) (v : Value) (x : Cs) : Prop where
  v : v = .agg #[x.ch, .int .u8 x.c.op, .int .u8 x.c.r, .int .u8 x.c.h, .int .u8 x.c.v, .int .i64 x.c.a, .int .i64 x.c.b, .int .i64 x.c.c, .int .i64 x.code, .int .i64 x.n]
  l : Chain.Sr w x.ch x.L
  h : 0 ≤ x.c.h ∧ x.c.h ≤ 255
  y : 0 ≤ x.c.v ∧ x.c.v ≤ 255
section
variable {H : Type} {enc : TypeId × Value → H} {w : World} {base : Nat} {spare : Nat → Bool} {held : Bool}
theorem came_case {ps : List MemPlace} {v : Value} {d : DataW H} {r : Reach} {b0 : Nat} (hv : Value.okWide Try.prog w r b0 31 v) (h : DataW.Trod enc Try.prog w base spare held 31 v d ps) : ∃ x, CameC w v x := by
  obtain ⟨cs, rfl, hsz⟩ := okWide_struct Try.underlying31 hv
  obtain ⟨fuel, hf⟩ := h
  obtain ⟨xs, q, _, _, hl, hxl, hx⟩ := DataW.trod_struct Try.underlying31 hf
  have hxl : xs.length = 4 := hxl
  have g0 := hx 0 _ rfl
  have g1 := hx 1 _ rfl
  have g2 := hx 2 _ rfl
  have g3 := hx 3 _ rfl
  have e0 : xs[0]? = some (xs[0]'(by omega)) := List.getElem?_eq_getElem _
  have e1 : xs[1]? = some (xs[1]'(by omega)) := List.getElem?_eq_getElem _
  have e2 : xs[2]? = some (xs[2]'(by omega)) := List.getElem?_eq_getElem _
  have e3 : xs[3]? = some (xs[3]'(by omega)) := List.getElem?_eq_getElem _
  rw [e0] at g0
  rw [e1] at g1
  rw [e2] at g2
  rw [e3] at g3
  have c0 : Try.prog.cellsOf 26 = 1 := by kernel_rfl
  have c1 : Try.prog.cellsOf 28 = 7 := by kernel_rfl
  have c2 : Try.prog.cellsOf 29 = 1 := by kernel_rfl
  have c3 : Try.prog.cellsOf 3 = 1 := by kernel_rfl
  have cT : Try.prog.cellsOf 31 = 10 := by kernel_rfl
  generalize hCL : (Value.agg cs).cells.toList = CL at *
  change DataW.trod enc Try.prog w base spare held q 26 (List.take (Try.prog.cellsOf 26) (List.drop 0 CL)) = _ at g0
  change DataW.trod enc Try.prog w base spare held q 28 (List.take (Try.prog.cellsOf 28) (List.drop 1 CL)) = _ at g1
  change DataW.trod enc Try.prog w base spare held q 29 (List.take (Try.prog.cellsOf 29) (List.drop 8 CL)) = _ at g2
  change DataW.trod enc Try.prog w base spare held q 3 (List.take (Try.prog.cellsOf 3) (List.drop 9 CL)) = _ at g3
  rw [c0, List.drop_zero] at g0
  rw [c1] at g1
  rw [c2] at g2
  rw [c3] at g3
  obtain ⟨A, n, c, z, q0, hz, hc⟩ := Args.precs_of (ks := [some .i64, none]) Chain.under_ents Try.underlying66 (by kernel_rfl) (by kernel_rfl) (by decide) g0
  have ic := Args.int_cells (ks := [.u8, .u8, .u8, .u8, .i64, .i64, .i64]) Try.underlying28 (by kernel_rfl) (by kernel_rfl) g1
  obtain ⟨k2, q2, _, _⟩ := DataW.trod_int (k := .i64) (by kernel_rfl) g2
  obtain ⟨k3, q3, _, _⟩ := DataW.trod_int (k := .i64) (by kernel_rfl) g3
  obtain ⟨m0, i0, w0⟩ := ic 0 (by decide)
  obtain ⟨m1, i1, w1⟩ := ic 1 (by decide)
  obtain ⟨m2, i2, w2⟩ := ic 2 (by decide)
  obtain ⟨m3, i3, w3⟩ := ic 3 (by decide)
  obtain ⟨m4, i4, w4⟩ := ic 4 (by decide)
  obtain ⟨m5, i5, w5⟩ := ic 5 (by decide)
  obtain ⟨m6, i6, w6⟩ := ic 6 (by decide)
  refine ⟨⟨.slice A n c, Chain.listOf n z, ⟨m0, m1, m2, m3, m4, m5, m6⟩, k2, k3⟩, ?_, Chain.came_in hz hc, Held.bounds_u8 w2, Held.bounds_u8 w3⟩
  have hCs : cs = CL.toArray := by
    rw [← hCL]
    simp [Value.cells]
  rw [hCs]
  have hlen : CL.length = 10 := by
    have : cs.size = 10 := by first | exact hsz | (rw [cT] at hsz; exact hsz) | simpa [cT] using hsz
    rw [← hCL]
    simpa [Value.cells] using this
  congr 2
  match CL, hlen with
  | [x0, x1, x2, x3, x4, x5, x6, x7, x8, x9], _ =>
    simp at q0 i0 i1 i2 i3 i4 i5 i6 q2 q3
    simp_all
end
end Go.Proofs.Ytkghpdmliffkdaa.Beg
