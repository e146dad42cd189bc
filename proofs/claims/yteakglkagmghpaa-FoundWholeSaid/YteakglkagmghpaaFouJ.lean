/-
  The laws' calls of layer 14: steps.
-/
import Derived.Test.YteakglkagmghpaaFouI
namespace Go.Proofs.Yteakglkagmghpaa.Fou
open Go.ChangeShapes Go.WideShapes Go.ChangeAt Go.RowKit
open Go.Proofs.Yteakglkagmghpaa.Mod Sco Amem Beg
set_option linter.unusedVariables false
set_option linter.unusedSimpArgs false
set_option maxRecDepth 100000
attribute [local go_sem ↓] Go.wp_at_zero Go.wp_at_succ
variable {P : Pn} {f : Nat → Int} {F : Fo} {G : Nat} {w w' : World}
/-- What a law's call makes of the forest, tells, and puts. -/
def opR (F : Fo) (mk : Bool) (k : Int) : Re := if mk = true then createV F (opA mk k) else destroyV F (opA mk k)
def opW (f : Nat → Int) (F : Fo) (mk : Bool) (k : Int) : Nat → Int := if mk = true then createW f F (opA mk k) else destroyW f F (opA mk k)
theorem destroy_v (F : Fo) (i : Int) : (destroyV F i).v = 0 := by
  unfold destroyV
  cases Sco.look F.R i with
  | none => rfl
  | some x => dsimp only; split <;> (try split) <;> rfl
/-- Step, of a law's call that goes on. -/
theorem step_op (w : World) (R : Pr P) (h : Fd w P G f F) (mk : Bool) (k : Int) (ch : Value) (hC : Slic.Sr kE w ch []) (own : ∀ b, ch.ownBlock = some b → b ∉ [P.g, G]) :
    Calls Try.prog 42 #[P.plan, .pointer (some ⟨P.B, 0, none⟩), .pointer (some ⟨G, 0, none⟩), runV (ofR (opC mk k) ⟨0, 1⟩ 0 0 0 ch)] w
      (StepD w P G (opW f F mk k) (opR F mk k).F (opC mk k) ⟨0, 1⟩ 0 0 0 (opR F mk k).x (opR F mk k).v []) := by
  cases mk with
  | true => exact step_create w R h 0 0 0 (1 + k % 512) 0 0 0 0 0 0 ch (by omega) (by omega) hC own
  | false =>
    obtain ⟨s, hs⟩ := Int.eq_ofNat_of_zero_le (show 0 ≤ 1 + k % 8 by omega)
    have := step_destroy w R h 0 0 0 0 0 0 0 0 0 s ch (by omega) hC own
    have e1 : opC false k = ⟨3, 0, 0, 0, (s : Int), 0, 0⟩ := by unfold opC opA; simp [hs]
    have e2 : opR F false k = destroyV F s := by unfold opR opA; simp [hs]
    have e3 : opW f F false k = destroyW f F s := by unfold opW opA; simp [hs]
    rw [e1, e2, e3, destroy_v]
    exact this
/-- What steps tells, and leaves. -/
def StepsD (w : World) (P : Pn) (G : Nat) (f : Nat → Int) (F : Fo) (mk : Bool) (k : Int) (e : Ending) (w' : World) : Prop :=
  (opB P.n mk k = true ∧ ∃ a b c d, e = .returned (.tuple #[runV (ofT (opC mk k) ⟨0, 1⟩ 0 0 0 (opR F mk k).x (opR F mk k).v a b c d), .bool true]) ∧ Fd w' P G (opW f F mk k) (opR F mk k).F ∧ Only [P.g, G] w w' ∧ a.oneCell' = true ∧ b.oneCell' = true ∧ c.oneCell' = true ∧ d.oneCell' = true) ∨
  (opB P.n mk k = false ∧ ∃ a, e = .returned (.tuple #[runV (ofR (opC mk k) ⟨11, 0⟩ 0 0 0 a), .bool false]) ∧ Fd w' P G f F ∧ Only [P.g, G] w w' ∧ a.oneCell' = true)
theorem Lx.front {X : List Nat} {w0 W : World} {a b c : Nat × List Value} {M : List (Nat × List Value)} (S : Lx X w0 W (a :: b :: c :: M)) : Lx X w0 W (c :: a :: b :: M) := by
  refine ⟨S.only, S.old, fun z hz => S.at_ z ?_, ?_⟩
  · simp only [List.mem_cons] at hz ⊢
    rcases hz with h | h | h | h
    · exact .inr (.inr (.inl h))
    · exact .inl h
    · exact .inr (.inl h)
    · exact .inr (.inr (.inr h))
  · have := S.nd
    simp only [List.map_cons, List.nodup_cons, List.mem_cons, not_or] at this ⊢
    exact ⟨⟨fun h => this.1.2.1 h.symm, fun h => this.2.1.1 h.symm, this.2.2.1⟩, ⟨this.1.1, this.1.2.2⟩, this.2.1.2, this.2.2.2⟩
set_option maxHeartbeats 4000000 in
theorem steps_any (w : World) (R : Pr P) (h : Fd w P G f F) (mk : Bool) (k : Int) (k1 : -9223372036854775808 ≤ k) (k2 : k ≤ 9223372036854775807) :
    Calls Try.prog 22 #[P.plan, .pointer (some ⟨P.B, 0, none⟩), .pointer (some ⟨G, 0, none⟩), .agg #[.bool mk, .int .i64 k]] w (StepsD w P G f F mk k) := by
  have S0 := (((Lx.start w [P.g, G] (fd_lt h)).new [.int .i64 (P.n : Int), .int .i64 P.t, .int .i64 P.i, .int .i64 P.j] 25).new [.bool mk, .int .i64 k] 73).new zR 37
  simp only [World.size_alloc] at S0
  have h0 := h.keep (((Below.refl _ _ |>.alloc (Nat.le_refl _) (.cells [.int .i64 (P.n : Int), .int .i64 P.t, .int .i64 P.i, .int .i64 P.j].toArray 25)) |>.alloc (by simp) (.cells [.bool mk, .int .i64 k].toArray 73)) |>.alloc (by simp; omega) (.cells zR.toArray 37))
  obtain ⟨b1, b2, _⟩ := R.b
  go_enter Try.func22, Try.ntmps22
  obtain ⟨W, hW⟩ : ∃ W : World, W = ((w.alloc (.cells [.int .i64 (P.n : Int), .int .i64 P.t, .int .i64 P.i, .int .i64 P.j].toArray 25)).alloc (.cells [.bool mk, .int .i64 k].toArray 73)).alloc (.cells [.int .u8 0, .int .u8 0, .int .u8 0, .int .u8 0, .int .i64 0, .int .i64 0, .int .i64 0, .int .i64 0, .int .i64 0, .int .u64 0, .int .u64 0, .slice none 0 0, .int .u64 0, .int .u64 0, .int .i64 0, .int .i64 0, .slice none 0 0, .int .i64 0, .slice none 0 0, .int .i64 0, .bool false, .bool false, .bool false, .int .i64 0, .int .i64 0, .slice none 0 0].toArray 37) := ⟨_, rfl⟩
  have T0 := typ_new ((w.alloc (.cells [.int .i64 (P.n : Int), .int .i64 P.t, .int .i64 P.i, .int .i64 P.j].toArray 25)).alloc (.cells [.bool mk, .int .i64 k].toArray 73)) [.int .u8 0, .int .u8 0, .int .u8 0, .int .u8 0, .int .i64 0, .int .i64 0, .int .i64 0, .int .i64 0, .int .i64 0, .int .u64 0, .int .u64 0, .slice none 0 0, .int .u64 0, .int .u64 0, .int .i64 0, .int .i64 0, .slice none 0 0, .int .i64 0, .slice none 0 0, .int .i64 0, .bool false, .bool false, .bool false, .int .i64 0, .int .i64 0, .slice none 0 0].toArray 37
  rw [show ((w.alloc (.cells [.int .i64 (P.n : Int), .int .i64 P.t, .int .i64 P.i, .int .i64 P.j].toArray 25)).alloc (.cells [.bool mk, .int .i64 k].toArray 73)).heap.size = w.heap.size + 1 + 1 by simp] at T0
  rw [← hW] at S0 h0 T0
  go_upto_region 1 with (fail)
  rw [show ((w.alloc (.cells [.int .i64 (P.n : Int), .int .i64 P.t, .int .i64 P.i, .int .i64 P.j].toArray 25)).alloc (.cells [.bool mk, .int .i64 k].toArray 73)).alloc (.cells [.int .u8 0, .int .u8 0, .int .u8 0, .int .u8 0, .int .i64 0, .int .i64 0, .int .i64 0, .int .i64 0, .int .i64 0, .int .u64 0, .int .u64 0, .slice none 0 0, .int .u64 0, .int .u64 0, .int .i64 0, .int .i64 0, .slice none 0 0, .int .i64 0, .slice none 0 0, .int .i64 0, .bool false, .bool false, .bool false, .int .i64 0, .int .i64 0, .slice none 0 0].toArray 37) = W from hW.symm]
  clear hW
  have P0 := S0.get 2 rfl
  have p0 := P0.cell 0 _ rfl
  have p1 := P0.cell 1 _ rfl
  have p2 := P0.cell 2 _ rfl
  have p3 := P0.cell 3 _ rfl
  have o0 := (S0.get 1 rfl).cell 0 _ rfl
  have o1 := (S0.get 1 rfl).cell 1 _ rfl
  clear P0
  go_wp2_with fail
  refine (begun_any _ P.n P.t P.i P.j mk k b1 b2).mono ?_
  rintro e w1 ⟨A1, c1, rfl, O1, OB1, k1'⟩
  have S1 := S0.call k1'
  have h1 := h0.keep k1'
  have T1 := typ_go (X := []) T0 (Only.below k1') (by simp)
  have hg : ∀ b, (Value.slice A1 0 c1).ownBlock = some b → b ∉ [P.g, G] := fun b e hm => by
    have h5 := OB1 b e
    have h6 := S0.old b hm
    have h7 := S0.only.size
    omega
  clear p0 p1 p2 p3 o0 o1
  cases hb : opB P.n mk k with
  | true =>
    rw [if_pos rfl]
    obtain ⟨CS1, hCS1⟩ : ∃ CS : List Value, (ofR (opC mk k) ⟨0, 1⟩ 0 0 0 (.slice A1 0 c1)).cells = CS := ⟨_, rfl⟩
    have CE1 : runV (ofR (opC mk k) ⟨0, 1⟩ 0 0 0 (.slice A1 0 c1)) = .agg CS1.toArray := by rw [← hCS1]; rfl
    have ON1 : ∀ u ∈ CS1, u.oneCell' = true := by rw [← hCS1]; exact cells_one rfl rfl rfl rfl
    have LN1 : CS1.length = 26 := by rw [← hCS1]; rfl
    have D1 : CS1[7]? = some (.int .i64 1) := by rw [← hCS1]; rfl
    rw [CE1]
    have TT1 : World.there (w1.alloc (.cells zR.toArray 37)) (w1.heap.size) 0 CS1.toArray.size := by rw [show CS1.toArray.size = 26 from LN1]; exact at_there ((S1.new zR 37).get 0 rfl)
    have IR1 : (Try.prog.info? 37).map (·.size) = some CS1.toArray.size := by rw [show CS1.toArray.size = 26 from LN1]; exact info_run
    have bl1 : Below w1.heap.size w1 ((w1.alloc (.cells zR.toArray 37)).setCells w1.heap.size 0 CS1) := (fill_only _ _ _).below_of ((Below.refl _ _).alloc (Nat.le_refl _) _) (by simp) (fun x hx => by rw [List.mem_singleton.1 hx]; exact Nat.le_refl _)
    have SM1 := (S1.new zR 37).fill CS1 LN1
    have hM1 := h1.keep bl1
    have TM1 := typ_go (X := []) T1 (Only.below bl1) (by simp)
    have hC1 := O1.below bl1
    go_upto_region 2 with (refine wpList_store_mid rfl _ _ _ rfl (w1.heap.size) 0 CS1.toArray rfl rfl TT1 IR1 (all_oneCell_toArray ON1) ?_)
    obtain ⟨W1, hW1⟩ : ∃ W : World, W = (w1.alloc (.cells [.int .u8 0, .int .u8 0, .int .u8 0, .int .u8 0, .int .i64 0, .int .i64 0, .int .i64 0, .int .i64 0, .int .i64 0, .int .u64 0, .int .u64 0, .slice none 0 0, .int .u64 0, .int .u64 0, .int .i64 0, .int .i64 0, .slice none 0 0, .int .i64 0, .slice none 0 0, .int .i64 0, .bool false, .bool false, .bool false, .int .i64 0, .int .i64 0, .slice none 0 0].toArray 37)).setCells w1.heap.size 0 CS1 := ⟨_, rfl⟩
    rw [← hW1] at SM1 hM1 TM1 bl1 hC1
    rw [show (w1.alloc (.cells [.int .u8 0, .int .u8 0, .int .u8 0, .int .u8 0, .int .i64 0, .int .i64 0, .int .i64 0, .int .i64 0, .int .i64 0, .int .u64 0, .int .u64 0, .slice none 0 0, .int .u64 0, .int .u64 0, .int .i64 0, .int .i64 0, .slice none 0 0, .int .i64 0, .slice none 0 0, .int .i64 0, .bool false, .bool false, .bool false, .int .i64 0, .int .i64 0, .slice none 0 0].toArray 37)).setCells w1.heap.size 0 CS1.toArray.toList = W1 from hW1.symm]
    clear hW1 TT1 IR1
    have x7 := (SM1.get 0 rfl).cell 7 _ D1
    have P1 := SM1.get 3 rfl
    have p0 := P1.cell 0 _ rfl
    have p1 := P1.cell 1 _ rfl
    have p2 := P1.cell 2 _ rfl
    have p3 := P1.cell 3 _ rfl
    have RR := at_range (SM1.get 0 rfl)
    clear P1
    go_upto_region 4 with (fail)
    go_wp2_with (refine wpList_load_mid rfl _ _ rfl w1.heap.size 0 rfl CS1 _ RR Try.underlying37 rfl (by rw [LN1]; exact info_run) ?_)
    rw [← CE1]
    refine (step_op _ R hM1 mk k _ hC1 hg).mono ?_
    rintro e w3 ⟨ch3, li3, sa3, as3, rfl, O3, I3, T3, V3, h3, k3⟩
    obtain ⟨aA, an, rfl, _, _⟩ := O3.form
    obtain ⟨bA, bn, rfl, _, _⟩ := I3.form
    obtain ⟨cA, cn, rfl, _, _⟩ := T3.form
    obtain ⟨dA, dn, rfl, _, _⟩ := V3.form
    dsimp only [List.length_nil] at *
    have S3 := SM1.go k3
    have T3' := typ_go TM1 k3 (ar_at (SM1.get 1 rfl) SM1.old)
    clear x7 p0 p1 p2 p3 RR hCS1
    obtain ⟨CS3, hCS3⟩ : ∃ CS : List Value, (ofT (opC mk k) ⟨0, 1⟩ 0 0 0 (opR F mk k).x (opR F mk k).v (.slice aA 0 an) (.slice bA 0 bn) (.slice cA 0 cn) (.slice dA 0 dn)).cells = CS := ⟨_, rfl⟩
    have CE3 : runV (ofT (opC mk k) ⟨0, 1⟩ 0 0 0 (opR F mk k).x (opR F mk k).v (.slice aA 0 an) (.slice bA 0 bn) (.slice cA 0 cn) (.slice dA 0 dn)) = .agg CS3.toArray := by rw [← hCS3]; rfl
    have ON3 : ∀ u ∈ CS3, u.oneCell' = true := by rw [← hCS3]; exact cells_one rfl rfl rfl rfl
    have LN3 : CS3.length = 26 := by rw [← hCS3]; rfl
    have D3 : CS3[21]? = some (.bool true) := by rw [← hCS3]; rfl
    rw [CE3]
    have CE3' := Lib.hid CE3
    clear CE3 hCS3
    have TT3 : World.there (w3.alloc (.cells zR.toArray 37)) (w3.heap.size) 0 CS3.toArray.size := by rw [show CS3.toArray.size = 26 from LN3]; exact at_there ((S3.new zR 37).get 0 rfl)
    have IR3 : (Try.prog.info? 37).map (·.size) = some CS3.toArray.size := by rw [show CS3.toArray.size = 26 from LN3]; exact info_run
    have bl3 : Below w3.heap.size w3 ((w3.alloc (.cells zR.toArray 37)).setCells w3.heap.size 0 CS3) := (fill_only _ _ _).below_of ((Below.refl _ _).alloc (Nat.le_refl _) _) (by simp) (fun x hx => by rw [List.mem_singleton.1 hx]; exact Nat.le_refl _)
    have SM3 := (S3.new zR 37).fill CS3 LN3
    have hM3 := h3.keep bl3
    have TM3 := typ_go (X := []) T3' (Only.below bl3) (by simp)
    go_upto_region 5 with (refine wpList_store_mid rfl _ _ _ rfl (w3.heap.size) 0 CS3.toArray rfl rfl TT3 IR3 (all_oneCell_toArray ON3) ?_)
    obtain ⟨W3, hW3⟩ : ∃ W : World, W = (w3.alloc (.cells [.int .u8 0, .int .u8 0, .int .u8 0, .int .u8 0, .int .i64 0, .int .i64 0, .int .i64 0, .int .i64 0, .int .i64 0, .int .u64 0, .int .u64 0, .slice none 0 0, .int .u64 0, .int .u64 0, .int .i64 0, .int .i64 0, .slice none 0 0, .int .i64 0, .slice none 0 0, .int .i64 0, .bool false, .bool false, .bool false, .int .i64 0, .int .i64 0, .slice none 0 0].toArray 37)).setCells w3.heap.size 0 CS3 := ⟨_, rfl⟩
    rw [← hW3] at SM3 hM3 TM3 bl3
    rw [show (w3.alloc (.cells [.int .u8 0, .int .u8 0, .int .u8 0, .int .u8 0, .int .i64 0, .int .i64 0, .int .i64 0, .int .i64 0, .int .i64 0, .int .u64 0, .int .u64 0, .slice none 0 0, .int .u64 0, .int .u64 0, .int .i64 0, .int .i64 0, .slice none 0 0, .int .i64 0, .slice none 0 0, .int .i64 0, .bool false, .bool false, .bool false, .int .i64 0, .int .i64 0, .slice none 0 0].toArray 37)).setCells w3.heap.size 0 CS3.toArray.toList = W3 from hW3.symm]
    clear hW3 TT3 IR3
    have SD3 := SM3.drew
    refine wp_region_held_drew (S := fun W' => W'.rangeAt w3.heap.size 0 CS3) (by kernel_rfl) ?_ (fun hHeld => ?_)
    · exact at_range (SD3.get 0 rfl)
    refine wpAnyH_take (i := 0) (oi := ⟨some 31, _, _, _, _, _⟩) (v := .agg CS3.toArray) rfl (by kernel_rfl) (by kernel_rfl) (by kernel_rfl) (fun _ _ _ h => h) (yieldsIf_load_mid (by kernel_rfl) _ _ rfl (w3.heap.size) 0 rfl CS3 _ (fun _ h => h) Try.underlying37 rfl (by rw [LN3]; exact info_run)) (by assumption) ?_
    simp only [Act.put, List.setIfInBounds_toArray, List.set_cons_zero, List.set_cons_succ]
    refine wpAnyH_take (i := 1) (oi := ⟨some 32, _, _, _, _, _⟩) (v := ?_) rfl (by kernel_rfl) (by kernel_rfl) (by kernel_rfl) (fun _ _ _ h => h) (Or.inl ⟨by kernel_rfl, ?_⟩) (by assumption) ?_
    rotate_left
    · intro w hSw
      try dsimp only at hSw
      first | (go_simp; done) | (go_simp; with_reducible rfl) | with_reducible rfl
    simp only [Act.put, List.setIfInBounds_toArray, List.set_cons_zero, List.set_cons_succ]
    refine wpAnyH_take (i := 2) (oi := ⟨some 33, _, _, _, _, _⟩) (v := ?_) rfl (by kernel_rfl) (by kernel_rfl) (by kernel_rfl) (fun _ _ _ h => h) (Or.inl ⟨by kernel_rfl, ?_⟩) (by assumption) ?_
    rotate_left
    · intro w hSw
      try dsimp only at hSw
      first | (go_simp; done) | (go_simp; with_reducible rfl) | with_reducible rfl
    simp only [Act.put, List.setIfInBounds_toArray, List.set_cons_zero, List.set_cons_succ]
    refine wpAnyH_take (i := 3) (oi := ⟨some 34, _, _, _, _, _⟩) (v := ?_) rfl (by kernel_rfl) (by kernel_rfl) (by kernel_rfl) (fun _ _ _ h => h) (Or.inl ⟨by kernel_rfl, ?_⟩) (by assumption) ?_
    rotate_left
    · intro w hSw
      try dsimp only at hSw
      first | (go_simp; done) | (go_simp; with_reducible rfl) | with_reducible rfl
    simp only [Act.put, List.setIfInBounds_toArray, List.set_cons_zero, List.set_cons_succ]
    refine wpAnyH_take (i := 4) (oi := ⟨some 35, _, _, _, _, _⟩) (v := ?_) rfl (by kernel_rfl) (by kernel_rfl) (by kernel_rfl) (fun _ _ _ h => h) (Or.inl ⟨by kernel_rfl, ?_⟩) (by assumption) ?_
    rotate_left
    · intro w hSw
      try dsimp only at hSw
      first | (go_simp; done) | (go_simp; with_reducible rfl) | with_reducible rfl
    simp only [Act.put, List.setIfInBounds_toArray, List.set_cons_zero, List.set_cons_succ]
    refine wpAnyH_take (i := 5) (oi := ⟨some 36, _, _, _, _, _⟩) (v := ?_) rfl (by kernel_rfl) (by kernel_rfl) (by kernel_rfl) (fun _ _ _ h => h) (Or.inl ⟨by kernel_rfl, ?_⟩) (by assumption) ?_
    rotate_left
    · intro w hSw
      try dsimp only at hSw
      have hS21 : w.cell? ⟨w3.heap.size, 21, none⟩ = some (.bool true) := by have := hSw 21 _ D3; rwa [Nat.zero_add] at this
      first | (go_simp; done) | (go_simp; with_reducible rfl) | with_reducible rfl
    simp only [Act.put, List.setIfInBounds_toArray, List.set_cons_zero, List.set_cons_succ]
    refine wpAnyH_take (i := 6) (oi := ⟨some 37, _, _, _, _, _⟩) (v := ?_) rfl (by kernel_rfl) (by kernel_rfl) (by kernel_rfl) (fun _ _ _ h => h) (Or.inl ⟨by kernel_rfl, ?_⟩) (by assumption) ?_
    rotate_left
    · intro w hSw
      try dsimp only at hSw
      first | (go_simp; done) | (go_simp; with_reducible rfl) | with_reducible rfl
    simp only [Act.put, List.setIfInBounds_toArray, List.set_cons_zero, List.set_cons_succ]
    refine wpAnyH_ready (rs := [7]) (by kernel_rfl) (by simp) ?_
    refine AllReadyH.cons (o := ⟨none, _, _, _, _, _⟩) rfl (fun K hK => ?_) AllReadyH.nil
    have SF := (SD3.front.fill CS3 LN3)
    have TTF : World.there W3.drew (w.heap.size + 1 + 1) 0 CS3.toArray.size := by rw [show CS3.toArray.size = 26 from LN3]; exact at_there (SD3.get 2 rfl)
    have IRF : (Try.prog.info? 37).map (·.size) = some CS3.toArray.size := by rw [show CS3.toArray.size = 26 from LN3]; exact info_run
    have qF := fill_only W3.drew (w.heap.size + 1 + 1) CS3
    have RF := at_range (SF.get 0 rfl)
    rw [if_pos (by rfl)]
    refine wp_store_mid _ _ _ rfl _ 0 CS3.toArray rfl rfl TTF IRF (all_oneCell_toArray ON3) ?_
    simp only [Act.put]
    refine hK.out _ _ ?_ (fun hHeld => ?_)
    · exact at_range (SF.get 1 rfl)
    clear hK K
    refine wpAnyH_ready (rs := [8]) (by kernel_rfl) (by simp) ?_
    refine AllReadyH.cons (o := ⟨some 9, _, _, _, _, _⟩) rfl (fun K hK => ?_) AllReadyH.nil
    go_simp
    refine hK.out _ _ ?_ (fun hHeld => ?_)
    · exact at_range (SF.get 1 rfl)
    clear hK K
    refine wpAnyH_done (by kernel_rfl) ?_ _
    go_wp2_with fail
    refine bodyPost_ret (v := .tuple #[.agg CS3.toArray, .bool true]) (results_mid2 rfl _ _ (w.heap.size + 1 + 1) CS3 _ _ rfl rfl RF Try.underlying37 rfl (by rw [LN3]; exact info_run)) rfl ?_
    exact .inl ⟨hb, _, _, _, _, by rw [CE3'.out], fd_local (hM3.keep (Below.refl _ _).drew) (typ_go (X := []) TM3 (Only.below (Below.refl _ _).drew) (by simp)) (by decide) (by decide) (by decide) (by decide) qF, SF.only, rfl, rfl, rfl, rfl⟩
  | false =>
    rw [if_neg (by decide)]
    obtain ⟨CS1, hCS1⟩ : ∃ CS : List Value, (ofR (opC mk k) ⟨11, 0⟩ 0 0 0 (.slice A1 0 c1)).cells = CS := ⟨_, rfl⟩
    have CE1 : runV (ofR (opC mk k) ⟨11, 0⟩ 0 0 0 (.slice A1 0 c1)) = .agg CS1.toArray := by rw [← hCS1]; rfl
    have ON1 : ∀ u ∈ CS1, u.oneCell' = true := by rw [← hCS1]; exact cells_one rfl rfl rfl rfl
    have LN1 : CS1.length = 26 := by rw [← hCS1]; rfl
    have D1 : CS1[7]? = some (.int .i64 0) := by rw [← hCS1]; rfl
    rw [CE1]
    have CE1' := Lib.hid CE1
    clear CE1 hCS1
    have TT1 : World.there (w1.alloc (.cells zR.toArray 37)) (w1.heap.size) 0 CS1.toArray.size := by rw [show CS1.toArray.size = 26 from LN1]; exact at_there ((S1.new zR 37).get 0 rfl)
    have IR1 : (Try.prog.info? 37).map (·.size) = some CS1.toArray.size := by rw [show CS1.toArray.size = 26 from LN1]; exact info_run
    have bl1 : Below w1.heap.size w1 ((w1.alloc (.cells zR.toArray 37)).setCells w1.heap.size 0 CS1) := (fill_only _ _ _).below_of ((Below.refl _ _).alloc (Nat.le_refl _) _) (by simp) (fun x hx => by rw [List.mem_singleton.1 hx]; exact Nat.le_refl _)
    have SM1 := (S1.new zR 37).fill CS1 LN1
    have hM1 := h1.keep bl1
    have TM1 := typ_go (X := []) T1 (Only.below bl1) (by simp)
    go_upto_region 2 with (refine wpList_store_mid rfl _ _ _ rfl (w1.heap.size) 0 CS1.toArray rfl rfl TT1 IR1 (all_oneCell_toArray ON1) ?_)
    obtain ⟨W1, hW1⟩ : ∃ W : World, W = (w1.alloc (.cells [.int .u8 0, .int .u8 0, .int .u8 0, .int .u8 0, .int .i64 0, .int .i64 0, .int .i64 0, .int .i64 0, .int .i64 0, .int .u64 0, .int .u64 0, .slice none 0 0, .int .u64 0, .int .u64 0, .int .i64 0, .int .i64 0, .slice none 0 0, .int .i64 0, .slice none 0 0, .int .i64 0, .bool false, .bool false, .bool false, .int .i64 0, .int .i64 0, .slice none 0 0].toArray 37)).setCells w1.heap.size 0 CS1 := ⟨_, rfl⟩
    rw [← hW1] at SM1 hM1 TM1 bl1
    rw [show (w1.alloc (.cells [.int .u8 0, .int .u8 0, .int .u8 0, .int .u8 0, .int .i64 0, .int .i64 0, .int .i64 0, .int .i64 0, .int .i64 0, .int .u64 0, .int .u64 0, .slice none 0 0, .int .u64 0, .int .u64 0, .int .i64 0, .int .i64 0, .slice none 0 0, .int .i64 0, .slice none 0 0, .int .i64 0, .bool false, .bool false, .bool false, .int .i64 0, .int .i64 0, .slice none 0 0].toArray 37)).setCells w1.heap.size 0 CS1.toArray.toList = W1 from hW1.symm]
    clear hW1 TT1 IR1
    have x7 := (SM1.get 0 rfl).cell 7 _ D1
    have RR := at_range (SM1.get 0 rfl)
    have SF := (SM1.swap.fill CS1 LN1)
    have TTF : World.there W1 (w.heap.size + 1 + 1) 0 CS1.toArray.size := by rw [show CS1.toArray.size = 26 from LN1]; exact at_there (SM1.get 1 rfl)
    have IRF : (Try.prog.info? 37).map (·.size) = some CS1.toArray.size := by rw [show CS1.toArray.size = 26 from LN1]; exact info_run
    have qF := fill_only W1 (w.heap.size + 1 + 1) CS1
    have RF := at_range (SF.get 0 rfl)
    go_upto_region 3 with (fail)
    go_wp2_with (first
      | refine wpList_load_mid rfl _ _ rfl w1.heap.size 0 rfl CS1 _ RR Try.underlying37 rfl (by rw [LN1]; exact info_run) ?_
      | refine wpList_store_mid rfl _ _ _ rfl (w.heap.size + 1 + 1) 0 CS1.toArray rfl rfl TTF IRF (all_oneCell_toArray ON1) ?_)
    refine bodyPost_ret (v := .tuple #[.agg CS1.toArray, .bool false]) (results_mid2 rfl _ _ (w.heap.size + 1 + 1) CS1 _ _ rfl rfl RF Try.underlying37 rfl (by rw [LN1]; exact info_run)) rfl ?_
    exact .inr ⟨hb, _, by rw [CE1'.out], fd_local hM1 TM1 (by decide) (by decide) (by decide) (by decide) qF, SF.only, rfl⟩
end Go.Proofs.Yteakglkagmghpaa.Fou
