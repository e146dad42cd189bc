/-
  Contracts of slices.Clone of words, of fin's Step and Run.
-/
import Derived.Test.YtapbhcpcechccaaFinaE
import Derived.Lib.SliceRun
namespace Go.Proofs.Ytapbhcpcechccaa.Fina
open Go.ChangeShapes Go.WideShapes Go.ChangeAt Go.RowKit
open Slic
set_option linter.unusedVariables false

def Cloned (w : World) (S : List Int) (e : Ending) (w' : World) : Prop := ∃ v, e = .returned v ∧ Own kU w' w.heap.size v S ∧ Below w.heap.size w w'
set_option maxHeartbeats 1000000 in
theorem clone_any (w : World) (v : Value) (S : List Int) (h : Sr kU w v S) (hS : S.length ≤ 100000) : Calls Try.prog 25 #[v] w (Cloned w S) := by
  have h' := h
  obtain ⟨A, c, rfl, h1, h2, h3, h4⟩ := h
  clear h4
  have q : ∀ (W : World) (a : Option Addr) (n c : Nat), (binOp .eql 24 (.slice a n c) (.slice none 0 0)).run Try.prog W = .ok (.bool a.isNone) W := fun W a n c => Lib.run_eql_slice_nil W _ _ a n c 0 0 kU.under
  rcases A with _ | x
  · have hc := h3 rfl
    subst hc
    have e : S = [] := List.eq_nil_of_length_eq_zero (by omega)
    subst e
    clear h' h1 h2 h3
    go_enter Try.func25, Try.ntmps25
    go_wp2
    go_ret
    exact ⟨_, rfl, Own.nil _ _, Below.refl _ _⟩
  · clear h3
    go_enter Try.func25, Try.ntmps25
    go_wp2_with (
      refine wpList_app (K := kU) rfl (.tmp 5) (.tmp 6) rfl rfl rfl rfl (Own.empty w w.heap.size (Nat.le_refl _)) (h'.alloc _) (by simp; omega) (by simp) ?_
      intro v' w' O' g' G')
    go_ret
    exact ⟨_, rfl, O', G'.below _ _ (Nat.le_refl _) (below_one _ _)⟩

theorem Fs.start {w0 w : World} {A : Option Addr} {c : Nat} {S : List Int} (h : Own kU w w0.heap.size (.slice A S.length c) S) (hB : Below w0.heap.size w0 w) (a : Int) :
    Fs w0 (w.alloc (.cells #[.int .i64 a, .slice A S.length c, .slice none 0 0, .bool false] 50)) w.heap.size a S [] false (.slice A S.length c) (.slice none 0 0) :=
  ⟨hB.alloc hB.size _, hB.size, by simp, by simp [go_sem], by simp [go_sem], by simp [go_sem], by simp [go_sem], fun o => by simp, h.below (below_one _ _), fun g e => (h.lt g e).2, Own.nil _ _⟩

/-- What Step tells. -/
def StepTold (w : World) (a : Int) (S D : List Int) (h : Bool) (e : Ending) (w' : World) : Prop :=
  ∃ vs vd, e = .returned (.tuple #[.int .i64 a, vs, vd, .bool h]) ∧ Own kU w' w.heap.size vs S ∧ Own kI w' w.heap.size vd D ∧ Below w.heap.size w w'
theorem Fs.told {w0 w : World} {p : Nat} {a : Int} {S D : List Int} {h : Bool} {vs vd : Value} (F : Fs w0 w p a S D h vs vd) : StepTold w0 a S D h (.returned (.tuple #[.int .i64 a, vs, vd, .bool h])) w :=
  ⟨vs, vd, rfl, F.slots, F.said.zero (by have := F.own; omega), F.below⟩
set_option maxRecDepth 100000 in
set_option maxHeartbeats 2000000 in
theorem stepf_no (w : World) (v u : Value) (L : List O) (S : List Int) (a : Int) (hL : Sr kF w v L) (hl : L.length ≤ 100000) (hs : Sr kU w u S) (hS : S.length ≤ 100000) (hn : inB a L.length = false) :
    Calls Try.prog 15 #[v, .int .i64 a, u] w (StepTold w a S [] false) := by
  go_enter Try.func15, Try.ntmps15
  go_wp2_with fail
  refine (clone_any _ _ S hs hS).mono ?_
  rintro e w1 ⟨x, rfl, O1, k1⟩
  obtain ⟨A, c, rfl, c1, c2⟩ := O1.sr.form
  have F0 := Fs.start O1 k1 a
  go_wp2_with fail
  refine (step_no F0 hL hl hn).mono ?_
  rintro e w2 ⟨rfl, F1⟩
  have z0 := F1.c0
  have z1 := F1.c1
  have z2 := F1.c2
  have z3 := F1.c3
  have T := (F1.call (below_drew _)).told
  clear F0 O1 k1 F1
  go_wp2
  go_region
  go_wp2
  exact bodyPost_ret (v := .tuple #[.int .i64 a, .slice A S.length c, .slice none 0 0, .bool false]) (by simp [results, Try.results15, go_sem]) rfl T
set_option maxRecDepth 100000 in
set_option maxHeartbeats 2000000 in
theorem stepf_yes (w : World) (v u : Value) (L : List O) (S : List Int) (i : Nat) (hL : Sr kF w v L) (hl : L.length ≤ 100000) (hs : Sr kU w u S) (hS : S.length ≤ 100000) (hi : i < L.length) (hb : okO L) (hk : okL L) :
    Calls Try.prog 15 #[v, .int .i64 i, u] w (StepTold w (i + 1 + leftV S L[i]) (slotsV S L[i]) (sayV L[i]) (holdV L[i])) := by
  generalize ha : (i : Int) + 1 + leftV S L[i] = a'
  generalize hs' : slotsV S L[i] = S'
  generalize hd : sayV L[i] = D'
  generalize hh : holdV L[i] = h'
  have HA := Lib.hid (And.intro ha (And.intro hs' (And.intro hd hh)))
  clear ha hs' hd hh
  go_enter Try.func15, Try.ntmps15
  go_wp2_with fail
  refine (clone_any _ _ S hs hS).mono ?_
  rintro e w1 ⟨x, rfl, O1, k1⟩
  obtain ⟨A, c, rfl, c1, c2⟩ := O1.sr.form
  have F0 := Fs.start O1 k1 (i : Int)
  go_wp2_with fail
  refine (step_yes F0 hL hl hi hb hk hS (by simp)).mono ?_
  rintro e w2 ⟨rfl, vd, F1⟩
  rw [List.nil_append, Bool.false_or] at F1
  rw [HA.out.1, HA.out.2.1, HA.out.2.2.1, HA.out.2.2.2] at F1
  have z0 := F1.c0
  have z1 := F1.c1
  have z2 := F1.c2
  have z3 := F1.c3
  have T := (F1.call (below_drew _)).told
  clear F0 O1 k1 F1
  go_wp2
  go_region
  go_wp2
  exact bodyPost_ret (v := .tuple #[.int .i64 a', .slice A S.length c, vd, .bool h']) (by simp [results, Try.results15, go_sem]) rfl T

/-- What Run tells. -/
def RunTold (w : World) (r : R) (e : Ending) (w' : World) : Prop :=
  ∃ vs vd, e = .returned (.tuple #[vs, vd, .bool r.held, .int .i64 r.n]) ∧ Own kU w' w.heap.size vs r.S ∧ Own kI w' w.heap.size vd r.said ∧ Below w.heap.size w w'
theorem Fs.ran {w0 w : World} {p : Nat} {a : Int} {S D : List Int} {h : Bool} {vs vd : Value} (F : Fs w0 w p a S D h vs vd) (n : Nat) (r : R) (hr : r = ⟨S, D, h, n⟩) : RunTold w0 r (.returned (.tuple #[vs, vd, .bool h, .int .i64 n])) w := by
  subst hr
  exact ⟨vs, vd, rfl, F.slots, F.said.zero (by have := F.own; omega), F.below⟩
/-- A run from its beginning is what was done, and what is done from here on. -/
def Runs (L : List O) (S0 : List Int) (i : Nat) (S D : List Int) (h : Bool) (n : Nat) : Prop := walk L 0 S0 = ⟨(goes L i S).S, D ++ (goes L i S).said, h || (goes L i S).held, n + (goes L i S).n⟩
theorem Runs.start (L : List O) (S : List Int) : Runs L S 0 S [] false 0 := by
  unfold Runs goes
  simp
theorem Runs.step {L : List O} {S0 : List Int} {i : Nat} {S D : List Int} {h : Bool} {n : Nat} (r : Runs L S0 i S D h n) (hi : i < L.length) : Runs L S0 (i + 1 + (leftV S L[i]).toNat) (slotsV S L[i]) (D ++ sayV L[i]) (h || holdV L[i]) (n + 1) := by
  unfold Runs at *
  rw [r, goes_step hi]
  simp [List.append_assoc, Bool.or_assoc]
  omega
theorem Runs.done {L : List O} {S0 : List Int} {i : Nat} {S D : List Int} {h : Bool} {n : Nat} (r : Runs L S0 i S D h n) (hi : L.length ≤ i) : walk L 0 S0 = ⟨S, D, h, n⟩ := by
  unfold Runs at r
  rw [r, goes_end hi]
  simp
set_option maxRecDepth 100000 in
set_option maxHeartbeats 4000000 in
theorem run_any (w : World) (v u : Value) (L : List O) (S : List Int) (hL : Sr kF w v L) (hl : L.length ≤ 100000) (hs : Sr kU w u S) (hS : S.length ≤ 100000) (hb : okO L) (hk : okL L) :
    Calls Try.prog 19 #[v, u] w (RunTold w (walk L 0 S)) := by
  have hL' := hL
  obtain ⟨A2, cl, rfl, l1, l2⟩ := hL.form
  clear hL
  go_enter Try.func19, Try.ntmps19
  go_wp2_with fail
  refine (clone_any _ _ S hs hS).mono ?_
  rintro e w1 ⟨x, rfl, O1, k1⟩
  obtain ⟨A, c, rfl, c1, c2⟩ := O1.sr.form
  have F0 := Fs.start O1 k1 0
  have hp : w1.heap.size = w1.heap.size := rfl
  go_wp2
  go_loopw [9] (fun t wr => ∃ (n i : Nat) (S' D : List Int) (h : Bool) (vd : Value), n ≤ L.length ∧ t = .int .i64 n ∧ n ≤ i ∧ Fs w wr w1.heap.size i S' D h (.slice A S.length c) vd ∧ S'.length = S.length ∧ D.length ≤ n ∧ Hid (Runs L S i S' D h n)) (fun t _ => L.length - (intOf t).toNat)
  case atStart => exact ⟨0, 0, S, [], false, _, by omega, rfl, by omega, F0, rfl, by simp, Lib.hid (Runs.start L S)⟩
  case round =>
    obtain ⟨n, i, S', D, h, vd, hn, rfl, hni, F, hS', hD, hR⟩ := hrel
    by_cases hlt : n < L.length
    · have z1 : decide ((n : Int) < (L.length : Int)) = true := decide_eq_true (by omega)
      by_cases hi : i < L.length
      · go_wp2_with fail
        refine (step_yes F hL' hl hi hb hk (by omega) (by omega)).mono ?_
        rintro e w2 ⟨rfl, vd2, F1⟩
        have b := left_bd hk (List.getElem_mem hi) S'
        have e1 : (i : Int) + 1 + leftV S' L[i] = ((i + 1 + (leftV S' L[i]).toNat : Nat) : Int) := by omega
        rw [e1] at F1
        clear e1
        have Y := Lib.hid (hR.out.step hi)
        have hl2 := slots_len S' L[i]
        have hs2 : (D ++ sayV L[i]).length ≤ n + 1 := by
          have : (sayV L[i]).length ≤ 1 := by unfold sayV; split <;> simp
          rw [List.length_append]; omega
        go_wp2
        go_roundw
        case rel => exact ⟨n + 1, _, _, _, _, _, by omega, by go_num, by omega, F1, by omega, hs2, Y⟩
        case measure => simp [intOf]; omega
      · go_wp2_with fail
        refine (step_no F hL' hl (decide_eq_false (by omega))).mono ?_
        rintro e w2 ⟨rfl, F1⟩
        have Y := hR.out.done (by omega)
        have z2 := F1.c1
        have z3 := F1.c2
        have z4 := F1.c3
        have T := (F1.call (below_drew _)).ran n _ Y
        clear F F1 Y
        go_wp2
        go_region
        go_wp2
        exact bodyPost_ret (v := .tuple #[.slice A S.length c, vd, .bool h, .int .i64 n]) (by simp [results, Try.results19, go_sem]) rfl T
    · have z1 : decide ((n : Int) < (L.length : Int)) = false := decide_eq_false (by omega)
      have Y := hR.out.done (by omega)
      have z2 := F.c1
      have z3 := F.c2
      have z4 := F.c3
      have T := (F.call (below_drew _)).ran n _ Y
      clear F Y
      go_wp2
      go_region
      go_wp2
      exact bodyPost_ret (v := .tuple #[.slice A S.length c, vd, .bool h, .int .i64 n]) (by simp [results, Try.results19, go_sem]) rfl T
end Go.Proofs.Ytapbhcpcechccaa.Fina
