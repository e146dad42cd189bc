/-
  Contracts of the document's own answers for layer 4 (penfoldref04), over the invariant Rf (words, free or not, in one row): New, Extents, set.
-/
import Derived.Test.YteakglkagmghpaaGreatGrou
import Derived.Laws.MakeOwn
import Derived.Laws.Entries
import Derived.Deep.AppendLies
namespace Go.Proofs.YteakglkagmghpaaGreat.Ref
open Go.ChangeShapes Go.WideShapes Go.ChangeAt Go.RowKit Gm Gr
set_option linter.unusedVariables false
set_option linter.unusedSimpArgs false

def rh (A : Int) (g n : Nat) : Nat → Value := fun i => if i = 0 then .int .i64 A else .slice (some ⟨g, 0, none⟩) n n
structure Rf (w : World) (C g : Nat) (A : Int) (n : Nat) (F : Nat → Bool) : Prop where
  head : w.rowIs C 182 2 (rh A g n)
  body : w.rowIs g 4 n (fun i => .bool (F i))
theorem rows_ne {w : World} {a b : Nat} {s t : TypeId} {m n : Nat} {f g : Nat → Value} (h : w.rowIs a s m f) (k : w.rowIs b t n g) (hne : s ≠ t) : a ≠ b := by
  rintro rfl
  obtain ⟨c, hc, _⟩ := h
  obtain ⟨d, hd, _⟩ := k
  rw [hc] at hd
  injection hd with hd
  injection hd with _ ht
  exact hne ht
section
variable {w w' : World} {C g n : Nat} {A : Int} {F : Nat → Bool}
theorem Rf.ne (h : Rf w C g A n F) : C ≠ g := rows_ne h.head h.body (by decide)
theorem Rf.c0 (h : Rf w C g A n F) : w.cell? ⟨C, 0, none⟩ = some (.int .i64 A) := h.head.cell (i := 0) (by omega)
theorem Rf.c1 (h : Rf w C g A n F) : w.cell? ⟨C, 1, none⟩ = some (.slice (some ⟨g, 0, none⟩) n n) := h.head.cell (i := 1) (by omega)
theorem Rf.below (h : Rf w C g A n F) (k : Below w.heap.size w w') : Rf w' C g A n F := ⟨h.head.of_block (k.block C h.head.lt), h.body.of_block (k.block g h.body.lt)⟩
theorem Rf.kept {row : Option Nat} (h : Rf w C g A n F) (k : w.grownBy w' row) (h1 : row ≠ some C) (h2 : row ≠ some g) : Rf w' C g A n F :=
  ⟨h.head.of_block (k.block C h.head.lt (fun e => h1 e.symm)), h.body.of_block (k.block g h.body.lt (fun e => h2 e.symm))⟩
theorem Rf.drew (h : Rf w C g A n F) : Rf w.drew C g A n F := ⟨h.head.drew, h.body.drew⟩
theorem Rf.alloc (h : Rf w C g A n F) (o : Obj) : Rf (w.alloc o) C g A n F := ⟨h.head.alloc o, h.body.alloc o⟩
theorem Rf.set (h : Rf w C g A n F) (i : Nat) (x : Bool) : Rf (w.setCell ⟨g, i, none⟩ (.bool x)) C g A n (fun j => if j = i then x else F j) := by
  refine ⟨h.head.setOther h.ne _, (h.body.set i _).congr fun j _ => ?_⟩
  by_cases e : j = i
  · simp [e]
  · simp [e]
theorem Rf.congr {G : Nat → Bool} (h : Rf w C g A n F) (e : ∀ i, i < n → F i = G i) : Rf w C g A n G := ⟨h.head, h.body.congr fun i hi => by rw [e i hi]⟩
end

theorem info_bool : (Tryz.prog.info? 4).map (fun i => (i.zero, i.size, i.bytes)) = some (some (.bool false), 1, 1) := by kernel_rfl
theorem under_bools : Tryz.prog.underlying 180 = some (.slice 4) := by kernel_rfl
theorem make_bools (k : Nat) (hk : k ≤ 8192) (W : World) : (Instr.makeSlice 180 (.int .i64 (k : Int)) (.int .i64 (k : Int))).run Tryz.prog W =
    .ok (.slice (some ⟨W.heap.size, 0, none⟩) k k) (W.alloc (.cells (madeCells #[.bool false] k) 4)) := by
  obtain ⟨i0, hi, hz0, hz1, hz2⟩ := info_parts info_bool
  have h := run_make (P := Tryz.prog) W 180 4 i0 (.bool false) under_bools hi hz0 .i64 .i64 (k : Int) (k : Int) (by omega) (by omega) (by rw [hz2]; omega) (by omega)
  rw [hz1, Nat.mul_one, show (k : Int).toNat = k by omega] at h
  exact h
theorem new_end (w : World) (A : Int) (k : Nat) :
    Rf ((w.alloc (.cells (madeCells #[.bool false] k) 4)).alloc (.cells #[.int .i64 A, .slice (some ⟨w.heap.size, 0, none⟩) k k] 182)) (w.heap.size + 1) w.heap.size A k (setW (fun _ => false) 0 0 true) := by
  have e : (w.alloc (.cells (madeCells #[.bool false] k) 4)).heap.size = w.heap.size + 1 := by simp
  refine ⟨?_, ((World.rowIs_made w (.bool false) k 4).alloc _).congr fun i _ => by rw [setW_zero]⟩
  have := World.rowIs_alloc (w.alloc (.cells (madeCells #[.bool false] k) 4)) #[.int .i64 A, .slice (some ⟨w.heap.size, 0, none⟩) k k] 182 (rh A w.heap.size k)
    (fun i hi => by
      have hi' : i < 2 := hi
      have : i = 0 ∨ i = 1 := by omega
      rcases this with rfl | rfl <;> rfl)
  rw [e] at this
  exact this

set_option maxHeartbeats 1000000 in
theorem new_any (w : World) (A : Int) (n : Nat) (hn : n ≤ 8192) :
    Calls Tryz.prog 72 #[.int .i64 A, .int .i64 (8 * (n : Int))] w fun e w' => e = .returned (.pointer (some ⟨w.heap.size + 1, 0, none⟩)) ∧ Rf w' (w.heap.size + 1) w.heap.size A n (fun _ => true) ∧ Below w.heap.size w w' ∧ w.heap.size + 2 ≤ w'.heap.size := by
  have hmk := make_bools n hn
  have hd : 8 * (n : Int) / 8 = (n : Int) := by omega
  have R0 := new_end w A n
  have B0 : Below w.heap.size w ((w.alloc (.cells (madeCells #[.bool false] n) 4)).alloc (.cells #[.int .i64 A, .slice (some ⟨w.heap.size, 0, none⟩) n n] 182)) := ((Below.refl _ _).alloc (Nat.le_refl _) _).alloc (by simp) _
  have z0 : w.heap.size + 2 ≤ ((w.alloc (.cells (madeCells #[.bool false] n) 4)).alloc (.cells #[.int .i64 A, .slice (some ⟨w.heap.size, 0, none⟩) n n] 182)).heap.size := by simp
  go_enter Tryz.func72, Tryz.ntmps72
  go_wp2_with fail
  generalize (w.alloc (.cells (madeCells #[.bool false] n) 4)).alloc (.cells #[.int .i64 A, .slice (some ⟨w.heap.size, 0, none⟩) n n] 182) = W0 at *
  go_loopw [6] (fun t wr => ∃ k : Nat, k ≤ n ∧ t = .int .i64 k ∧ Rf wr (w.heap.size + 1) w.heap.size A n (setW (fun _ => false) 0 k true) ∧ Below w.heap.size w wr ∧ w.heap.size + 2 ≤ wr.heap.size) (fun t _ => n - (intOf t).toNat)
  case atStart => exact ⟨0, by omega, rfl, R0, B0, z0⟩
  case round =>
    obtain ⟨k, hk, rfl, hR, hB, hz⟩ := hrel
    have x1 := hR.c1
    by_cases hlt : k < n
    · have y := hR.body.cell hlt
      have f := hR.body.frozen k
      go_wp2
      go_roundw
      case rel => exact ⟨k + 1, by omega, by go_num, (hR.set k true).congr fun i _ => by have := setW_step (fun _ => false) 0 k i true; rw [Nat.zero_add] at this; exact this, bset hB _ _ (Nat.le_refl _) _, by simpa [World.setCell] using hz⟩
      case measure => simp [intOf]; omega
    · obtain rfl : k = n := by omega
      go_wp2
      go_ret
      exact ⟨rfl, hR.congr fun i hi => by unfold setW; rw [if_pos (by omega)], hB, hz⟩

theorem flat_set (M : List E) (x s t : Int) : (flat (M ++ [(x, s)])).set (M.length * 2 + 1) (.int .i64 t) = flat (M ++ [(x, t)]) := by
  rw [flat_append, flat_append, List.set_append_right _ _ (by rw [flat_len]; omega), flat_len]
  rw [show M.length * 2 + 1 - M.length * 2 = 1 by omega]
  rfl
/-- The last one of a row of one's own is made greater. -/
theorem grown_last {w : World} {base g cap : Nat} {M : List E} {x s t : Int} (h : w.ownsRow base 119 2 (.slice (some ⟨g, 0, none⟩) (M.length + 1) cap) (M.length + 1) (flat (M ++ [(x, s)]))) :
    (w.setCell ⟨g, M.length * 2 + 1, none⟩ (.int .i64 t)).ownsRow base 119 2 (.slice (some ⟨g, 0, none⟩) (M.length + 1) cap) (M.length + 1) (flat (M ++ [(x, t)])) := by
  have := (h.stored (M.length * 2 + 1) (.int .i64 t)).1
  rw [flat_set] at this
  exact this
theorem last_cell {w : World} {base g cap : Nat} {M : List E} {x s : Int} (h : w.ownsRow base 119 2 (.slice (some ⟨g, 0, none⟩) (M.length + 1) cap) (M.length + 1) (flat (M ++ [(x, s)]))) :
    w.cell? ⟨g, M.length * 2 + 1, none⟩ = some (.int .i64 s) := by
  rw [h.cellAt _ (by omega)]
  have := (flat_get (M ++ [(x, s)]) M.length (by simp)).2
  rw [this]
  simp

theorem runs_no {A : Int} {F : Nat → Bool} {i : Nat} (h : F i = false) : runs A F (i + 1) = runs A F i := by simp [runs, h]
theorem runs_new {A : Int} {F : Nat → Bool} {i : Nat} (h : F i = true) (k : i = 0 ∨ F (i - 1) = false) : runs A F (i + 1) = runs A F i ++ [(A + 8 * (i : Int), 8)] := by simp only [runs, h, if_true, k]
theorem runs_more {A : Int} {F : Nat → Bool} {i : Nat} (h : F i = true) (k : ¬ (i = 0 ∨ F (i - 1) = false)) : ∃ M x s, runs A F i = M ++ [(x, s)] ∧ runs A F (i + 1) = M ++ [(x, s + 8)] := by
  have hf : F (i - 1) = true := by
    cases hx : F (i - 1) with
    | true => rfl
    | false => exact absurd (.inr hx) k
  obtain ⟨M, e, h1, _⟩ := (runs_ok A F i).last (by omega) hf
  refine ⟨M, e.1, e.2, h1, ?_⟩
  have : runs A F (i + 1) = grow (runs A F i) := by simp only [runs, h, if_true, k, if_false]
  rw [this, h1, grow_snoc]
end Go.Proofs.YteakglkagmghpaaGreat.Ref

/-
  Contracts of the document's own answers for layer 4, second part: Extents, set.
-/
namespace Go.Proofs.YteakglkagmghpaaGreat.Ref
open Go.ChangeShapes Go.WideShapes Go.ChangeAt Go.RowKit Gm Gr
set_option linter.unusedVariables false
set_option linter.unusedSimpArgs false

abbrev Own (w : World) (base : Nat) (v : Value) (L : List E) : Prop := w.ownsRow base 119 2 v L.length (flat L)
set_option maxRecDepth 8000 in
set_option maxHeartbeats 4000000 in
theorem extents_any (w : World) (C g n : Nat) (A : Int) (F : Nat → Bool) (h : Rf w C g A n F) (a0 : 0 ≤ A) (a1 : A ≤ 65536) (hn : n ≤ 8192) :
    Calls Tryz.prog 36 #[.pointer (some ⟨C, 0, none⟩)] w (Gr.Told w.heap.size (runs A F n) w) := by
  have O0 : Own (w.alloc (.cells #[] 119)) w.heap.size (.slice (some ⟨w.heap.size, 0, none⟩) 0 0) (runs A F 0) := World.ownsRow_lit w #[] 0 (Nat.le_refl _) (by decide) rfl
  have B0 : Below w.heap.size w (w.alloc (.cells #[] 119)) := (Below.refl _ _).alloc (Nat.le_refl _) _
  go_enter Tryz.func36, Tryz.ntmps36
  go_wp2_with fail
  generalize w.alloc (.cells #[] 119) = W0 at *
  go_loopw [3, 4] (fun v t wr => ∃ i : Nat, i ≤ n ∧ t = .int .i64 i ∧ Own wr w.heap.size v (runs A F i) ∧ Below w.heap.size w wr) (fun _ t _ => n - (intOf t).toNat)
  case atStart => exact ⟨0, by omega, rfl, O0, B0⟩
  case round =>
    obtain ⟨i, hi, rfl, hO, hB⟩ := hrel
    have hR := h.below hB
    have x0 := hR.c0
    have x1 := hR.c1
    have hlen := (runs_ok A F i).len
    by_cases hlt : i < n
    · have y := hR.body.cell hlt
      cases hf : F i with
      | false =>
        rw [hf] at y
        have HR := Lib.hid (runs_no (A := A) hf)
        clear hf
        go_wp2_with fail
        go_roundw
        case rel => exact ⟨i + 1, by omega, by go_num, by rw [HR.out]; exact hO, hB⟩
        case measure => simp [intOf]; omega
      | true =>
        rw [hf] at y
        by_cases hk : i = 0 ∨ F (i - 1) = false
        · have HR := Lib.hid (runs_new (A := A) hf hk)
          have hO1 := hO.alloc (.cells #[.int .i64 (A + 8 * (i : Int)), .int .i64 0] 119)
          have zB := hB.size
          obtain ⟨v1, w1, r1, o1, g1, at1⟩ := app_own _ hO1 (one_row wr (A + 8 * (i : Int)) 0).sr (by simp; omega) (by simp; omega)
          rw [List.length_append] at o1
          obtain ⟨g', cap, rfl, b1, b2⟩ := o1.form (by simp)
          have lc := last_cell o1
          have lf := o1.frozenAt ((runs A F i).length * 2 + 1)
          have B1 : Below w.heap.size w w1 := (hB.alloc zB _).grown g1 (by simp; omega) (fun k e => (hO1.lt k e).1)
          have HG := Lib.hid (grown_last (t := 8) o1)
          clear o1 at1 hf
          generalize hm : (runs A F i).length = m at *
          have HM := Lib.hid hm
          clear hm
          by_cases hi0 : i = 0
          · have q0 : ((i : Int) == 0) = true := by simpa using hi0
            have HI0 := Lib.hid hi0
            clear hk hi0
            go_wp2_with (first | (at_builtin; refine wpList_run rfl (.tmp 36) (.tmp 45) _ rfl _ _ rfl rfl r1 ?_))
            go_roundw
            case rel =>
              refine ⟨i + 1, by omega, by go_num, ?_, bset B1 _ _ b1 _⟩
              show World.ownsRow _ _ _ _ _ (runs A F (i + 1)).length _
              rw [HR.out, List.length_append, HM.out]
              exact HG.out
            case measure => simp [intOf]; omega
          · have hk' : F (i - 1) = false := hk.resolve_left hi0
            have y2 := hR.body.cell (i := i - 1) (by omega)
            rw [hk'] at y2
            have hi1 : 1 ≤ i := by omega
            clear hk hk'
            go_wp2_with (first | (at_builtin; refine wpList_run rfl (.tmp 36) (.tmp 45) _ rfl _ _ rfl rfl r1 ?_))
            go_roundw
            case rel =>
              refine ⟨i + 1, by omega, by go_num, ?_, bset B1 _ _ b1 _⟩
              show World.ownsRow _ _ _ _ _ (runs A F (i + 1)).length _
              rw [HR.out, List.length_append, HM.out]
              exact HG.out
            case measure => simp [intOf]; omega
        · obtain ⟨M, x, s, e1, e2⟩ := runs_more (A := A) hf hk
          have hi1 : 1 ≤ i := by omega
          have hfi : F (i - 1) = true := by
            cases hx : F (i - 1) with
            | true => rfl
            | false => exact absurd (.inr hx) hk
          have y2 := hR.body.cell (i := i - 1) (by omega)
          rw [hfi] at y2
          have hi0 : ¬ i = 0 := by omega
          have hsx : 0 < s ∧ s ≤ 1000000 := by
            have k1 := (runs_ok A F i).norm.pos (x, s) (by rw [e1]; simp)
            have k2 := hi_of (A := A) (S := 8 * (i : Int)) (runs_ok A F i).norm (fun p m => (((runs_ok A F i).mem p).1 m).2.1) (x, s) (by rw [e1]; simp)
            have k3 : A ≤ x := k1.1
            have k4 : 0 < s := k1.2
            have k5 : x + s ≤ A + 8 * (i : Int) := k2
            omega
          obtain ⟨s1, s2⟩ := hsx
          have hO2 : wr.ownsRow w.heap.size 119 2 u3 (M.length + 1) (flat (M ++ [(x, s)])) := by
            have this : World.ownsRow wr w.heap.size 119 2 u3 (runs A F i).length (flat (runs A F i)) := hO
            rw [e1] at this
            have h2 : (M ++ [(x, s)]).length = M.length + 1 := by simp
            rw [h2] at this
            exact this
          obtain ⟨g', cap, rfl, b1, b2⟩ := hO2.form (by omega)
          have lc := last_cell hO2
          have lf := hO2.frozenAt (M.length * 2 + 1)
          have HG := Lib.hid (grown_last (t := s + 8) hO2)
          have E2 := Lib.hid e2
          have hml : M.length ≤ 8192 := by rw [e1] at hlen; simp at hlen; omega
          clear hO hO2 e1 e2 hfi hk hf hlen
          generalize hm : M.length = m at *
          have HM := Lib.hid hm
          clear hm
          go_wp2_with fail
          go_roundw
          case rel =>
            refine ⟨i + 1, by omega, by go_num, ?_, bset hB _ _ b1 _⟩
            show World.ownsRow _ _ _ _ _ (runs A F (i + 1)).length _
            rw [E2.out, List.length_append, HM.out]
            exact HG.out
          case measure => simp [intOf]; omega
    · obtain rfl : i = n := by omega
      go_wp2_with fail
      go_ret
      exact .of (Ex.own hO) (fun k hk => (hO.lt k hk).1) hB
end Go.Proofs.YteakglkagmghpaaGreat.Ref

/-
  Contracts of the document's own answers for layer 4, third part: set, Carve, Give.
-/
namespace Go.Proofs.YteakglkagmghpaaGreat.Ref
open Go.ChangeShapes Go.WideShapes Go.ChangeAt Go.RowKit Gm Gr
set_option linter.unusedVariables false
set_option linter.unusedSimpArgs false

theorem tdiv8 {x : Int} {u : Nat} (h : x = 8 * (u : Int)) : x.tdiv 8 = (u : Int) := by
  subst h
  rw [Int.mul_comm]
  exact Int.mul_tdiv_cancel _ (by decide)

set_option maxRecDepth 8000 in
set_option maxHeartbeats 2000000 in
theorem set_any (w : World) (C g n : Nat) (A : Int) (F : Nat → Bool) (a z : Int) (u m : Nat) (x : Bool) (h : Rf w C g A n F) (a0 : 0 ≤ A) (a1 : A ≤ 65536) (hn : n ≤ 8192) (ha : a = A + 8 * (u : Int)) (hz : z = 8 * (m : Int)) (hm : u + m ≤ n) :
    Calls Tryz.prog 154 #[.pointer (some ⟨C, 0, none⟩), .int .i64 a, .int .i64 z, .bool x] w fun e w' => e = .returned (.tuple #[]) ∧ Rf w' C g A n (setW F u m x) ∧ w.grownBy w' (some g) := by
  have z1 : 0 ≤ z := by omega
  have z2 : z ≤ 65536 := by omega
  have zq : z / 8 = (m : Int) := by omega
  have d1 : 0 ≤ a - A := by omega
  have d2 : a - A ≤ 65536 := by omega
  have d3 : (a - A) / 8 = (u : Int) := by omega
  have d4 : (a - A).tdiv 8 = (u : Int) := tdiv8 (by omega)
  have d5 : IntKind.i64.wrap (a - A) = a - A := IntWalk.i64_in _ (by omega)
  have d6 : 0 ≤ a := by omega
  have d7 : a ≤ 131072 := by omega
  clear ha hz
  go_enter Tryz.func154, Tryz.ntmps154
  go_wp2_with fail
  go_loopw [8] (fun t wr => ∃ k : Nat, k ≤ m ∧ t = .int .i64 k ∧ Rf wr C g A n (setW F u k x) ∧ w.grownBy wr (some g)) (fun t _ => m - (intOf t).toNat)
  case atStart => exact ⟨0, by omega, rfl, by rw [setW_zero]; exact h, World.grownBy.refl _ _⟩
  case round =>
    obtain ⟨k, hk, rfl, hR, hG⟩ := hrel
    by_cases hlt : k < m
    · have x0 := hR.c0
      have x1 := hR.c1
      have y := hR.body.cell (i := u + k) (by omega)
      have f := hR.body.frozen (u + k)
      have e1 : IntKind.i64.wrap ((u : Int) + (k : Int)) = (u : Int) + (k : Int) := IntWalk.i64_in _ (by omega)
      have e2 : (0 : Int) ≤ (u : Int) + (k : Int) := by omega
      have e3 : (u : Int) + (k : Int) < (n : Int) := by omega
      have e4 : ((u : Int) + (k : Int)).toNat = u + k := by omega
      go_wp2_with fail
      go_region
      all_goals
        clear e1 e2 e3 e4
        go_wp2_with fail
        go_roundw
        case rel => exact ⟨k + 1, by omega, by go_num, ((hR.set (u + k) x).congr fun i _ => setW_step F u k i x).drew, only_drew (only_setCell hG _ _)⟩
        case measure => simp [intOf]; omega
    · obtain rfl : k = m := by omega
      go_wp2_with fail
      go_end0
      exact ⟨rfl, hR, hG⟩
end Go.Proofs.YteakglkagmghpaaGreat.Ref

/-
  Contracts of the document's own answers for layer 4, fourth part: Carve.
-/
namespace Go.Proofs.YteakglkagmghpaaGreat.Ref
open Go.ChangeShapes Go.WideShapes Go.ChangeAt Go.RowKit Gm Gr
set_option linter.unusedVariables false
set_option linter.unusedSimpArgs false

/-- Which words are free behind Carve. -/
def carveW (A z : Int) (n : Nat) (F : Nat → Bool) : Nat → Bool := if carveB z (runs A F n) = true then setW F ((carveA z (runs A F n) - A) / 8).toNat (z / 8).toNat false else F
theorem carve_runs {A z : Int} {n : Nat} (F : Nat → Bool) (a0 : 0 ≤ A) (a1 : A ≤ 65536) (a8 : A % 8 = 0) (hn : n ≤ 8192) : carveF z (runs A F n) = runs A (carveW A z n F) n := by
  unfold carveF carveW
  by_cases h : carveB z (runs A F n) = true
  · rw [if_pos h, if_pos h]
    have h' := h
    unfold carveB at h'
    rw [Bool.and_eq_true] at h'
    obtain ⟨hs, hf⟩ := h'
    have ⟨hz, h8⟩ : 0 < z ∧ z % 8 = 0 := of_decide_eq_true hs
    obtain ⟨e, he, k1, k2⟩ := carve_in hf
    have ok := Ok.runs (n := n) F a0 a1 a8 hn
    have := ok.mem he
    exact runs_carve (by omega) (by omega) hf (by omega)
  · rw [if_neg h, if_neg h]
theorem carveI_of {z : Int} {L : List E} {k : Nat} (h : ∀ i (hi : i < L.length), i < k → decide (z ≤ (L[i]).2) = false) (hk : k < L.length) (hp : decide (z ≤ (L[k]).2) = true) : carveI z L = k := findIdx_at (P := fun e => decide (z ≤ e.2)) h hk hp
theorem carveI_no {z : Int} {L : List E} (h : ∀ i (hi : i < L.length), i < L.length → decide (z ≤ (L[i]).2) = false) : carveI z L = L.length := findIdx_none (P := fun e => decide (z ≤ e.2)) h

set_option maxRecDepth 8000 in
set_option maxHeartbeats 2000000 in
theorem carve_any (w : World) (C g n : Nat) (A : Int) (F : Nat → Bool) (z : Int) (h : Rf w C g A n F) (a0 : 0 ≤ A) (a1 : A ≤ 65536) (a8 : A % 8 = 0) (hn : n ≤ 8192) (z1 : -9223372036854775808 ≤ z) (z2 : z ≤ 9223372036854775807) :
    Calls Tryz.prog 102 #[.pointer (some ⟨C, 0, none⟩), .int .i64 z] w fun e w' => e = .returned (.tuple #[.int .i64 (carveV z (runs A F n)), .bool (carveB z (runs A F n))]) ∧ Rf w' C g A n (carveW A z n F) ∧ w.grownBy w' (some g) := by
  by_cases hz : z < 1
  · have hs : sizeB z = false := decide_eq_false (by omega)
    have hB := Lib.hid (show carveB z (runs A F n) = false by unfold carveB; rw [hs]; rfl)
    clear hs
    go_enter Tryz.func102, Tryz.ntmps102
    go_wp2
    go_ret2
    exact ⟨ret_ib (by unfold carveV; rw [if_neg (by rw [hB.out]; decide)]) hB.out.symm, by unfold carveW; rw [if_neg (by rw [hB.out]; decide)]; exact h, World.grownBy.refl _ _⟩
  · by_cases h8 : z % 8 = 0
    · have hs : sizeB z = true := decide_eq_true ⟨by omega, h8⟩
      have q8 : (z % 8 != 0) = false := by simpa using h8
      have ok := Ok.runs (n := n) F a0 a1 a8 hn
      have hl := ok.len
      have H8 := Lib.hid h8
      have HS := Lib.hid hs
      clear h8 hs
      go_enter Tryz.func102, Tryz.ntmps102
      go_wp2_with fail
      refine (extents_any w C g n A F h a0 a1 hn).mono ?_
      rintro e w1 ⟨V, c, rfl, hE, hn1, k1⟩
      have hR := h.below k1
      have hW := Lib.hid (rfl : carveW A z n F = carveW A z n F)
      generalize hL : runs A F n = L at *
      have HL := Lib.hid hL
      clear hL hW
      go_wp2_with fail
      go_loop [7] (fun t => ∃ k : Nat, k ≤ L.length ∧ t = .int .i64 k ∧ Hid (∀ i (hi : i < L.length), i < k → decide (z ≤ (L[i]).2) = false)) (fun t => L.length - (intOf t).toNat)
      case atStart => exact ⟨0, by omega, rfl, Lib.hid (fun i _ h => by omega)⟩
      case round =>
        obtain ⟨k, hk, rfl, hno⟩ := hrel
        by_cases hlt : k < L.length
        · obtain ⟨q, rfl, ql, x0, x1⟩ := hE.cell hlt
          obtain ⟨b1, b2, b3, b4, b5, b6, b7, b8⟩ := ok.at_ hlt
          cases hp : decide (z ≤ (L[k]).2) with
          | true =>
            have hI := carveI_of hno.out hlt hp
            obtain ⟨k1', k2, k3, k4⟩ := carve_some (z := z) (L := L) (by rw [hI]; exact hlt)
            have k2' : carveA z L = (L[k]).1 := by rw [k2]; congr 2
            have hp2 : z ≤ (L[k]).2 := of_decide_eq_true hp
            have hB := Lib.hid (show carveB z L = true by unfold carveB; rw [HS.out, k1']; rfl)
            have K2 := Lib.hid k2'
            obtain ⟨u, hu⟩ : ∃ u : Nat, (L[k]).1 = A + 8 * (u : Int) := ⟨(((L[k]).1 - A) / 8).toNat, by omega⟩
            obtain ⟨m, hm⟩ : ∃ m : Nat, z = 8 * (m : Int) := ⟨(z / 8).toNat, by have := H8.out; omega⟩
            have hum : u + m ≤ n := by omega
            have HU := Lib.hid hu
            have HM := Lib.hid hm
            have E1 := Lib.hid (show (((L[k]).1 - A) / 8).toNat = u by omega)
            have E2 := Lib.hid (show (z / 8).toNat = m by omega)
            clear k2 k2' k4 k1' k3 hI hu hm
            go_wp2_with fail
            refine (set_any w1 C g n A F _ _ u m false hR a0 a1 hn HU.out HM.out hum).mono ?_
            rintro e w2 ⟨rfl, hR2, g2⟩
            have y0 : w2.cell? ⟨q, k * 2, none⟩ = some (.int .i64 (L[k]).1) := by
              have hq : w.heap.size ≤ q := hn1 q rfl
              have hg := h.body.lt
              exact (World.cell?_of_block (w := w1) (w' := w2) (a := ⟨q, k * 2, none⟩) (g2.block q ql (fun e => by injection e with e; omega))).trans x0
            go_wp2_with fail
            go_ret2
            exact ⟨ret_ib (by unfold carveV; rw [HL.out, if_pos hB.out, K2.out]) (by rw [HL.out]; exact hB.out.symm), by unfold carveW; rw [HL.out, if_pos hB.out, K2.out, E1.out, E2.out]; exact hR2, only_trans (only_below k1) g2⟩
          | false =>
            have HP := Lib.hid hp
            go_wp2_with fail
            go_round
            case rel =>
              refine ⟨k + 1, by omega, by go_num, Lib.hid (fun i hi h => ?_)⟩
              by_cases e : i = k
              · subst e; exact HP.out
              · exact hno.out i hi (by omega)
            case measure => simp [intOf]; omega
        · obtain rfl : k = L.length := by omega
          have hI := carveI_no hno.out
          have hB := Lib.hid (show carveB z L = false by unfold carveB; rw [(carve_none hI).1, Bool.and_false])
          clear hI
          go_wp2_with fail
          go_ret2
          exact ⟨ret_ib (by unfold carveV; rw [HL.out, if_neg (by rw [hB.out]; decide)]) (by rw [HL.out]; exact hB.out.symm), by unfold carveW; rw [HL.out, if_neg (by rw [hB.out]; decide)]; exact hR, only_below k1⟩
    · have hs : sizeB z = false := decide_eq_false (by omega)
      have q8 : (z % 8 != 0) = true := by simpa using h8
      have hB := Lib.hid (show carveB z (runs A F n) = false by unfold carveB; rw [hs]; rfl)
      clear hs h8
      go_enter Tryz.func102, Tryz.ntmps102
      go_wp2
      go_ret2
      exact ⟨ret_ib (by unfold carveV; rw [if_neg (by rw [hB.out]; decide)]) hB.out.symm, by unfold carveW; rw [if_neg (by rw [hB.out]; decide)]; exact h, World.grownBy.refl _ _⟩
end Go.Proofs.YteakglkagmghpaaGreat.Ref

/-
  Contracts of the document's own answers for layer 4, fifth part: Give.
-/
namespace Go.Proofs.YteakglkagmghpaaGreat.Ref
open Go.ChangeShapes Go.WideShapes Go.ChangeAt Go.RowKit Gm Gr
set_option linter.unusedVariables false
set_option linter.unusedSimpArgs false

theorem Rf.drewN {w : World} {C g n : Nat} {A : Int} {F : Nat → Bool} (h : Rf w C g A n F) (k : Nat) : Rf (w.drewN k) C g A n F := ⟨h.head, h.body⟩
theorem below_drewN {N : Nat} {a w : World} (h : Below N a w) (k : Nat) : Below N a (w.drewN k) := ⟨h.os, h.tape, h.output, h.size, h.block⟩

/-- Which words are free behind Give. -/
def giveW (A : Int) (n : Nat) (F : Nat → Bool) (a z : Int) : Nat → Bool := if giveB A (8 * (n : Int)) (runs A F n) a z = true then setW F ((a - A) / 8).toNat (z / 8).toNat true else F
theorem giveB_parts {A S : Int} {L : List E} {a z : Int} (h : giveB A S L a z = true) : 0 < z ∧ z % 8 = 0 ∧ a % 8 = 0 ∧ A ≤ a ∧ z ≤ A + S - a ∧ bad a (a + z) L = false := by
  unfold giveB at h
  simp only [Bool.and_eq_true, decide_eq_true_eq, Bool.not_eq_true'] at h
  obtain ⟨h1, h2, h3, h4⟩ := h
  have ⟨s1, s2⟩ : 0 < z ∧ z % 8 = 0 := of_decide_eq_true h1
  have ⟨t1, t2, t3⟩ : A ≤ a ∧ a ≤ A + S ∧ z ≤ A + S - a := of_decide_eq_true h3
  exact ⟨s1, s2, h2, t1, t3, h4⟩
theorem giveB_mk {A S : Int} {L : List E} {a z : Int} (h1 : 0 < z) (h2 : z % 8 = 0) (h3 : a % 8 = 0) (h4 : A ≤ a) (h5 : z ≤ A + S - a) : giveB A S L a z = !bad a (a + z) L := by
  unfold giveB
  rw [show sizeB z = true from decide_eq_true ⟨h1, h2⟩, decide_eq_true h3, show hasB A S a z = true from decide_eq_true ⟨h4, by omega, h5⟩]
  rfl
theorem giveB_not {A S : Int} {L : List E} {a z : Int} (h : ¬ (0 < z ∧ z % 8 = 0 ∧ a % 8 = 0 ∧ A ≤ a ∧ z ≤ A + S - a)) : giveB A S L a z = false := by
  cases hb : giveB A S L a z with
  | false => rfl
  | true =>
    have := giveB_parts hb
    exact absurd ⟨this.1, this.2.1, this.2.2.1, this.2.2.2.1, this.2.2.2.2.1⟩ h
theorem give_runs {A : Int} {n : Nat} (F : Nat → Bool) (a z : Int) (a8 : A % 8 = 0) : giveF A (8 * (n : Int)) (runs A F n) a z = runs A (giveW A n F a z) n := by
  unfold giveF giveW
  by_cases h : giveB A (8 * (n : Int)) (runs A F n) a z = true
  · rw [if_pos h, if_pos h]
    obtain ⟨h1, h2, h3, h4, h5, h6⟩ := giveB_parts h
    exact runs_give (by omega) (by omega) (by omega) (by omega) h6
  · rw [if_neg h, if_neg h]

set_option maxRecDepth 8000 in
set_option maxHeartbeats 4000000 in
theorem give_any (w : World) (C g n : Nat) (A : Int) (F : Nat → Bool) (a z : Int) (h : Rf w C g A n F) (a0 : 0 ≤ A) (a1 : A ≤ 65536) (a8 : A % 8 = 0) (hn : n ≤ 8192) (b1 : -9223372036854775808 ≤ a) (b2 : a ≤ 9223372036854775807) (z1 : -9223372036854775808 ≤ z) (z2 : z ≤ 9223372036854775807) :
    Calls Tryz.prog 104 #[.pointer (some ⟨C, 0, none⟩), .int .i64 a, .int .i64 z] w fun e w' => e = .returned (.int .i64 (giveE A (8 * (n : Int)) (runs A F n) a z)) ∧ Rf w' C g A n (giveW A n F a z) ∧ w.grownBy w' (some g) := by
  have x0 := h.c0
  have x1 := h.c1
  have e8 := tmod8 a
  have no : (¬ (0 < z ∧ z % 8 = 0 ∧ a % 8 = 0 ∧ A ≤ a ∧ z ≤ A + 8 * (n : Int) - a)) → Hid (giveE A (8 * (n : Int)) (runs A F n) a z = 1 ∧ giveW A n F a z = F) := by
    intro hh
    have hb := giveB_not (L := runs A F n) hh
    unfold giveE giveW
    rw [if_neg (by rw [hb]; decide), if_neg (by rw [hb]; decide)]
    exact Lib.hid ⟨rfl, rfl⟩
  by_cases h0 : z < 1
  · have q0 : decide (z < 1) = true := decide_eq_true h0
    have N := no (by omega)
    clear no e8
    go_enter Tryz.func104, Tryz.ntmps104
    go_wp2
    go_quiet (fail)
    go_wp2
    go_ret
    exact ⟨ret_int N.out.1.symm, by rw [N.out.2]; exact h.drewN _, only_drewN (World.grownBy.refl _ _) _⟩
  have q0 : decide (z < 1) = false := decide_eq_false h0
  by_cases h1 : z % 8 = 0
  rotate_left
  · have q1 : (z % 8 != 0) = true := by simpa using h1
    have N := no (by omega)
    clear no e8 h1
    go_enter Tryz.func104, Tryz.ntmps104
    go_wp2
    go_quiet (fail)
    go_wp2
    go_ret
    exact ⟨ret_int N.out.1.symm, by rw [N.out.2]; exact h.drewN _, only_drewN (World.grownBy.refl _ _) _⟩
  have q1 : (z % 8 != 0) = false := by simpa using h1
  by_cases h2 : a % 8 = 0
  rotate_left
  · have q2 : (a % 8 != 0) = true := by simpa using h2
    have q2t : (a.tmod 8 != 0) = true := by simp; exact fun e => h2 (e8.1 e)
    have N := no (by omega)
    clear no e8 h2
    go_enter Tryz.func104, Tryz.ntmps104
    go_wp2
    go_quiet (fail)
    go_wp2
    go_ret
    exact ⟨ret_int N.out.1.symm, by rw [N.out.2]; exact h.drewN _, only_drewN (World.grownBy.refl _ _) _⟩
  have q2 : (a % 8 != 0) = false := by simpa using h2
  have q2t : (a.tmod 8 != 0) = false := by simp; exact e8.2 h2
  by_cases h3 : a < A
  · have q3 : decide (a < A) = true := decide_eq_true h3
    have N := no (by omega)
    clear no e8
    go_enter Tryz.func104, Tryz.ntmps104
    go_wp2
    go_quiet (fail)
    go_wp2
    go_ret
    exact ⟨ret_int N.out.1.symm, by rw [N.out.2]; exact h.drewN _, only_drewN (World.grownBy.refl _ _) _⟩
  have q3 : decide (a < A) = false := decide_eq_false h3
  by_cases h4 : A + 8 * (n : Int) ≤ a
  · have q4 : decide (A + 8 * (n : Int) ≤ a) = true := decide_eq_true h4
    have N := no (by omega)
    clear no e8
    go_enter Tryz.func104, Tryz.ntmps104
    go_wp2
    go_quiet (fail)
    go_wp2
    go_ret
    exact ⟨ret_int N.out.1.symm, by rw [N.out.2]; exact h.drewN _, only_drewN (World.grownBy.refl _ _) _⟩
  have q4 : decide (A + 8 * (n : Int) ≤ a) = false := decide_eq_false h4
  by_cases h5 : A + 8 * (n : Int) - a < z
  · have q5 : decide (A + 8 * (n : Int) - a < z) = true := decide_eq_true h5
    have N := no (by omega)
    clear no e8
    go_enter Tryz.func104, Tryz.ntmps104
    go_wp2
    go_quiet (fail)
    go_wp2
    go_ret
    exact ⟨ret_int N.out.1.symm, by rw [N.out.2]; exact h.drewN _, only_drewN (World.grownBy.refl _ _) _⟩
  have q5 : decide (A + 8 * (n : Int) - a < z) = false := decide_eq_false h5
  clear no e8
  obtain ⟨u, hu⟩ : ∃ u : Nat, a = A + 8 * (u : Int) := ⟨((a - A) / 8).toNat, by omega⟩
  obtain ⟨m, hm⟩ : ∃ m : Nat, z = 8 * (m : Int) := ⟨(z / 8).toNat, by omega⟩
  have hum : u + m ≤ n := by omega
  have hm0 : 0 < m := by omega
  have HB := Lib.hid (giveB_mk (L := runs A F n) (by omega) h1 h2 (by omega) (show z ≤ A + 8 * (n : Int) - a by omega))
  have HD := Lib.hid (runs_bad (F := F) hu (show a + z = a + 8 * (m : Int) by omega) hm0 hum)
  have E1 := Lib.hid (show ((a - A) / 8).toNat = u by omega)
  have E2 := Lib.hid (show (z / 8).toNat = m by omega)
  have HU := Lib.hid hu
  have HM := Lib.hid hm
  have zq : z / 8 = (m : Int) := by omega
  have d1 : 0 ≤ a - A := by omega
  have d2 : a - A ≤ 65536 := by omega
  have d3 : (a - A) / 8 = (u : Int) := by omega
  have d4 : (a - A).tdiv 8 = (u : Int) := tdiv8 (by omega)
  have d5 : IntKind.i64.wrap (a - A) = a - A := IntWalk.i64_in _ (by omega)
  have d6 : 0 ≤ a := by omega
  have d7 : a ≤ 131072 := by omega
  have d8 : 0 ≤ z := by omega
  have d9 : z ≤ 65536 := by omega
  clear hu hm h1 h2
  go_enter Tryz.func104, Tryz.ntmps104
  go_wp2
  go_quiet (fail)
  go_wp2_with fail
  go_loopw [8] (fun t wr => ∃ k : Nat, k ≤ m ∧ t = .int .i64 k ∧ Rf wr C g A n F ∧ Below w.heap.size w wr ∧ Hid (∀ i, i < k → F (u + i) = false)) (fun t _ => m - (intOf t).toNat)
  case atStart => exact ⟨0, by omega, rfl, h.drewN _, below_drewN (Below.refl _ _) _, Lib.hid (fun i h => by omega)⟩
  case round =>
    obtain ⟨k, hk, rfl, hR, hBl, hno⟩ := hrel
    have y0 := hR.c0
    have y1 := hR.c1
    clear x0 x1
    by_cases hlt : k < m
    · have y := hR.body.cell (i := u + k) (by omega)
      have e1 : IntKind.i64.wrap ((u : Int) + (k : Int)) = (u : Int) + (k : Int) := IntWalk.i64_in _ (by omega)
      have e2 : (0 : Int) ≤ (u : Int) + (k : Int) := by omega
      have e3 : (u : Int) + (k : Int) < (n : Int) := by omega
      have e4 : ((u : Int) + (k : Int)).toNat = u + k := by omega
      cases hf : F (u + k) with
      | true =>
        rw [hf] at y
        have hb : bad a (a + z) (runs A F n) = true := HD.out.2 ⟨k, hlt, hf⟩
        have N := Lib.hid (show giveE A (8 * (n : Int)) (runs A F n) a z = 1 ∧ giveW A n F a z = F by
          have hx : giveB A (8 * (n : Int)) (runs A F n) a z = false := by rw [HB.out, hb]; rfl
          unfold giveE giveW
          rw [if_neg (by rw [hx]; decide), if_neg (by rw [hx]; decide)]
          exact ⟨rfl, rfl⟩)
        clear hf hb
        go_wp2_with fail
        go_region
        all_goals
          clear e1 e2 e3 e4
          go_wp2_with fail
          go_ret
          exact ⟨ret_int N.out.1.symm, by rw [N.out.2]; exact hR.drew, only_drew (only_below hBl)⟩
      | false =>
        rw [hf] at y
        have HF := Lib.hid hf
        clear hf
        go_wp2_with fail
        go_region
        all_goals
          clear e1 e2 e3 e4
          go_wp2_with fail
          go_roundw
          case rel =>
            refine ⟨k + 1, by omega, by go_num, hR.drew, hBl.drew, Lib.hid (fun i h => ?_)⟩
            by_cases e : i = k
            · subst e; exact HF.out
            · exact hno.out i (by omega)
          case measure => simp [intOf]; omega
    · obtain rfl : k = m := by omega
      have hb : bad a (a + z) (runs A F n) = false := by
        cases hx : bad a (a + z) (runs A F n) with
        | false => rfl
        | true =>
          obtain ⟨i, i1, i2⟩ := HD.out.1 hx
          rw [hno.out i i1] at i2
          cases i2
      have hx : giveB A (8 * (n : Int)) (runs A F n) a z = true := by rw [HB.out, hb]; rfl
      have HX := Lib.hid hx
      clear hb hx
      go_wp2_with fail
      refine (set_any wr C g n A F a z u k true hR a0 a1 hn HU.out HM.out hum).mono ?_
      rintro e w2 ⟨rfl, hR2, g2⟩
      go_wp2_with fail
      go_ret
      exact ⟨ret_int (by unfold giveE; rw [if_pos HX.out]), by unfold giveW; rw [if_pos HX.out, E1.out, E2.out]; exact hR2, only_trans (only_below hBl) g2⟩
end Go.Proofs.YteakglkagmghpaaGreat.Ref
