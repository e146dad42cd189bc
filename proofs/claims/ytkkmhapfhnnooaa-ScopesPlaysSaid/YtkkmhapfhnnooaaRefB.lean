/-
  Contracts of the document's own answers for layer 4, second part: Extents, set.
-/
import Derived.Test.YtkkmhapfhnnooaaRef
namespace Go.Proofs.Ytkkmhapfhnnooaa.Ref
open Go.ChangeShapes Go.WideShapes Go.ChangeAt Go.RowKit Gm Gr
set_option linter.unusedVariables false
set_option linter.unusedSimpArgs false

abbrev Own (w : World) (base : Nat) (v : Value) (L : List E) : Prop := w.ownsRow base 46 2 v L.length (flat L)
theorem own_below {w w' : World} {base : Nat} {v : Value} {L : List E} (h : Own w base v L) (k : w.grownBy w' none) : Own w' base v L := h.kept k (by cases v.ownBlock <;> simp)

set_option maxRecDepth 8000 in
set_option maxHeartbeats 4000000 in
theorem extents_any (w : World) (C g n : Nat) (A : Int) (F : Nat → Bool) (h : Rf w C g A n F) (a0 : 0 ≤ A) (a1 : A ≤ 65536) (hn : n ≤ 8192) :
    Calls Try.prog 32 #[.pointer (some ⟨C, 0, none⟩)] w (Gr.Told w.heap.size (runs A F n) w) := by
  have O0 : Own (w.alloc (.cells #[] 46)) w.heap.size (.slice (some ⟨w.heap.size, 0, none⟩) 0 0) (runs A F 0) := World.ownsRow_lit w #[] 0 (Nat.le_refl _) (by decide) rfl
  have B0 : Below w.heap.size w (w.alloc (.cells #[] 46)) := (Below.refl _ _).alloc (Nat.le_refl _) _
  go_enter Try.func32, Try.ntmps32
  go_wp2_with fail
  generalize w.alloc (.cells #[] 46) = W0 at *
  go_loopw [3, 4] (fun v t wr => ∃ i : Nat, i ≤ n ∧ t = .int .i64 i ∧ Own wr w.heap.size v (runs A F i) ∧ Below w.heap.size w wr) (fun _ t _ => n - (intOf t).toNat)
  case atStart => exact ⟨0, by omega, rfl, O0, B0⟩
  case round =>
    obtain ⟨i, hi, rfl, hO, hB⟩ := hrel
    have hR := h.below hB
    have x0 := hR.c0
    have x1 := hR.c1
    have hlen := (runs_ok A F i).len
    by_cases hlt : i < n
    · have y := hR.body.cell hlt
      cases hf : F i with
      | false =>
        rw [hf] at y
        have HR := Lib.hid (runs_no (A := A) hf)
        clear hf
        go_wp2_with fail
        go_roundw
        case rel => exact ⟨i + 1, by omega, by go_num, by rw [HR.out]; exact hO, hB⟩
        case measure => simp [intOf]; omega
      | true =>
        rw [hf] at y
        by_cases hk : i = 0 ∨ F (i - 1) = false
        · have HR := Lib.hid (runs_new (A := A) hf hk)
          have hO1 := hO.alloc (.cells #[.int .i64 (A + 8 * (i : Int)), .int .i64 0] 46)
          have zB := hB.size
          obtain ⟨v1, w1, r1, o1, g1, at1⟩ := app_own _ hO1 (one_row wr (A + 8 * (i : Int)) 0).sr (by simp; omega) (by simp; omega)
          rw [List.length_append] at o1
          obtain ⟨g', cap, rfl, b1, b2⟩ := o1.form (by simp)
          have lc := last_cell o1
          have lf := o1.frozenAt ((runs A F i).length * 2 + 1)
          have B1 : Below w.heap.size w w1 := (hB.alloc zB _).grown g1 (by simp; omega) (fun k e => (hO1.lt k e).1)
          have HG := Lib.hid (grown_last (t := 8) o1)
          clear o1 at1 hf
          generalize hm : (runs A F i).length = m at *
          have HM := Lib.hid hm
          clear hm
          by_cases hi0 : i = 0
          · have q0 : ((i : Int) == 0) = true := by simpa using hi0
            have HI0 := Lib.hid hi0
            clear hk hi0
            go_wp2_with (first | (at_builtin; refine wpList_run rfl (.tmp 36) (.tmp 45) _ rfl _ _ rfl rfl r1 ?_))
            go_roundw
            case rel =>
              refine ⟨i + 1, by omega, by go_num, ?_, bset B1 _ _ b1 _⟩
              show World.ownsRow _ _ _ _ _ (runs A F (i + 1)).length _
              rw [HR.out, List.length_append, HM.out]
              exact HG.out
            case measure => simp [intOf]; omega
          · have hk' : F (i - 1) = false := hk.resolve_left hi0
            have y2 := hR.body.cell (i := i - 1) (by omega)
            rw [hk'] at y2
            have hi1 : 1 ≤ i := by omega
            clear hk hk'
            go_wp2_with (first | (at_builtin; refine wpList_run rfl (.tmp 36) (.tmp 45) _ rfl _ _ rfl rfl r1 ?_))
            go_roundw
            case rel =>
              refine ⟨i + 1, by omega, by go_num, ?_, bset B1 _ _ b1 _⟩
              show World.ownsRow _ _ _ _ _ (runs A F (i + 1)).length _
              rw [HR.out, List.length_append, HM.out]
              exact HG.out
            case measure => simp [intOf]; omega
        · obtain ⟨M, x, s, e1, e2⟩ := runs_more (A := A) hf hk
          have hi1 : 1 ≤ i := by omega
          have hfi : F (i - 1) = true := by
            cases hx : F (i - 1) with
            | true => rfl
            | false => exact absurd (.inr hx) hk
          have y2 := hR.body.cell (i := i - 1) (by omega)
          rw [hfi] at y2
          have hi0 : ¬ i = 0 := by omega
          have hsx : 0 < s ∧ s ≤ 1000000 := by
            have k1 := (runs_ok A F i).norm.pos (x, s) (by rw [e1]; simp)
            have k2 := hi_of (A := A) (S := 8 * (i : Int)) (runs_ok A F i).norm (fun p m => (((runs_ok A F i).mem p).1 m).2.1) (x, s) (by rw [e1]; simp)
            have k3 : A ≤ x := k1.1
            have k4 : 0 < s := k1.2
            have k5 : x + s ≤ A + 8 * (i : Int) := k2
            omega
          obtain ⟨s1, s2⟩ := hsx
          have hO2 : wr.ownsRow w.heap.size 46 2 u3 (M.length + 1) (flat (M ++ [(x, s)])) := by
            have this : World.ownsRow wr w.heap.size 46 2 u3 (runs A F i).length (flat (runs A F i)) := hO
            rw [e1] at this
            have h2 : (M ++ [(x, s)]).length = M.length + 1 := by simp
            rw [h2] at this
            exact this
          obtain ⟨g', cap, rfl, b1, b2⟩ := hO2.form (by omega)
          have lc := last_cell hO2
          have lf := hO2.frozenAt (M.length * 2 + 1)
          have HG := Lib.hid (grown_last (t := s + 8) hO2)
          have E2 := Lib.hid e2
          have hml : M.length ≤ 8192 := by rw [e1] at hlen; simp at hlen; omega
          clear hO hO2 e1 e2 hfi hk hf hlen
          generalize hm : M.length = m at *
          have HM := Lib.hid hm
          clear hm
          go_wp2_with fail
          go_roundw
          case rel =>
            refine ⟨i + 1, by omega, by go_num, ?_, bset hB _ _ b1 _⟩
            show World.ownsRow _ _ _ _ _ (runs A F (i + 1)).length _
            rw [E2.out, List.length_append, HM.out]
            exact HG.out
          case measure => simp [intOf]; omega
    · obtain rfl : i = n := by omega
      go_wp2_with fail
      go_ret
      exact .of (Ex.own hO) (fun k hk => (hO.lt k hk).1) hB
end Go.Proofs.Ytkkmhapfhnnooaa.Ref
