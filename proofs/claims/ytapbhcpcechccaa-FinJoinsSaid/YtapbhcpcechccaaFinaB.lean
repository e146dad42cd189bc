/-
  Contracts of what fin's ops do, of step, Step and Run.
-/
import Derived.Test.YtapbhcpcechccaaFinaA
import Derived.Deep.RegionLaw
namespace Go.Proofs.Ytapbhcpcechccaa.Fina
open Go.ChangeShapes Go.WideShapes Go.ChangeAt Go.RowKit
open Slic
set_option linter.unusedVariables false

section
variable {w0 w : World} {p : Nat} {a : Int} {S D : List Int} {h : Bool} {vs vd : Value}
set_option maxHeartbeats 1000000 in
theorem hold_any (F : Fs w0 w p a S D h vs vd) (o a' b' : Int) : Calls Try.prog 36 #[.pointer (some ⟨p, 0, none⟩), .agg #[.int .u8 o, .int .i64 a', .int .i64 b']] w fun e w' => e = .returned (.tuple #[]) ∧ Fs w0 w' p a S D true vs vd := by
  have F1 := F.hold.call (below_one _ (.cells #[.int .u8 o, .int .i64 a', .int .i64 b'] 32))
  obtain ⟨b, own, lt, c0, c1, c2, c3, fz, sl, far, sd⟩ := F
  go_enter Try.func36, Try.ntmps36
  go_wp2
  go_end0
  exact ⟨rfl, F1⟩
theorem one_num (W : World) (x : Int) (n : Nat) (hn : n = W.heap.size) : Sr kI (W.alloc (.cells #[.int .i64 x] 3)) (.slice (some ⟨n, 0, none⟩) 1 1) [x] := by
  subst hn
  have h : Own kI (W.alloc (.cells #[.int .i64 x] 3)) 0 (.slice (some ⟨W.heap.size, 0, none⟩) 1 1) [x] := Own.lit W 0 (Nat.zero_le _) [x] #[.int .i64 x] rfl (by simp [maxLen]) 1 rfl
  exact h.sr
theorem add_same (a b : Int) (w : World) (a1 : 0 ≤ a) (a2 : a ≤ 1000000) (b1 : 0 ≤ b) (b2 : b ≤ 1000000) : Calls Try.prog 37 #[.int .i64 a, .int .i64 b] w fun e w' => e = .returned (.tuple #[.int .i64 (a + b), .int .i64 0]) ∧ w' = w := (add_ok a b w a1 a2 b1 b2).mono fun _ _ ⟨q, r⟩ => ⟨q, r.symm⟩
theorem below_drew (w : World) : Below w.heap.size w w.drew := (Below.refl _ _).drew
def Says (w0 : World) (p : Nat) (a : Int) (S D : List Int) (h : Bool) (vs : Value) (e : Ending) (w' : World) : Prop := e = .returned (.tuple #[]) ∧ ∃ vd, Fs w0 w' p a S D h vs vd
set_option maxHeartbeats 2000000 in
theorem say_any (F : Fs w0 w p a S D h vs vd) (o a' b' : Int) (hD : D.length ≤ 900000) : Calls Try.prog 32 #[.pointer (some ⟨p, 0, none⟩), .agg #[.int .u8 o, .int .i64 a', .int .i64 b']] w (Says w0 p a S (D ++ [a']) h vs) := by
  have hlt := F.lt
  have c2 := F.c2
  have hf := F.fz 2
  have hvd : some w.heap.size ≠ vd.ownBlock := fun e => by have := (F.said.lt _ e.symm).2; omega
  have hvp : some p ≠ vd.ownBlock := fun e => by have := (F.said.lt _ e.symm).1; omega
  go_enter Try.func32, Try.ntmps32
  go_wp2_with fail
  go_region_law
    ((refine step_own (K := kI) (by rfl) (.tmp 8) (.tmp 11) (by rfl) (by rfl) (by rfl) (by rfl) (((F.call (below_one _ _)).call (below_one _ _)).call (below_drew _)).said (one_num _ a' (w.heap.size + 1) (by simp)).drew (by simp; omega) (by simp; omega) ?_; intro v' w' hown hgrow hG; obtain ⟨A', c', rfl, hc1, hc2⟩ := hown.sr.form; have hcl : w'.cell? ⟨p, 2, none⟩ = some vd := (cell_only hgrow (by simp; omega) hvp _).trans ((((F.call (below_one _ _)).call (below_one _ _)).call (below_drew _)).c2); have hfr : w'.frozen? ⟨p, 2, none⟩ = false := (frozen_only hgrow (by simp; omega) hvp _).trans ((((F.call (below_one _ _)).call (below_one _ _)).call (below_drew _)).fz 2)))
  all_goals
    go_end0
    have M := (((F.call (below_one _ _)).call (below_one _ _)).call (below_drew _)).more hown hgrow
    have e : (D ++ [a']).length = D.length + 1 := by simp
    rw [e] at M
    exact ⟨rfl, _, M⟩
set_option maxHeartbeats 1000000 in
theorem clear_any (F : Fs w0 w p a S D h vs vd) (o b' : Int) (k : Nat) (hk : k < S.length) : Calls Try.prog 33 #[.pointer (some ⟨p, 0, none⟩), .agg #[.int .u8 o, .int .i64 k, .int .i64 b']] w fun e w' => e = .returned (.tuple #[]) ∧ Fs w0 w' p a (S.set k 0) D h vs vd := by
  obtain ⟨g, c, rfl, g1, g2, g3, g4, g5, g6⟩ := F.slots.form (by omega)
  have F1 := ((F.slot k 0 hk).call (below_one _ (.cells #[.int .u8 o, .int .i64 k, .int .i64 b'] 32))).call (below_drew _)
  have hp := F.lt
  have c1 := F.c1
  have e0 : w.cell? ⟨g, k, none⟩ = some (.int .u64 S[k]) := by
    have := g6 k 0 _ hk rfl
    simpa [show kU.m = 1 from rfl] using this
  have f0 := g5 k
  clear g5 g6
  have i0 : (0 : Int) ≤ (k : Int) := by omega
  have i1 : (k : Int) < (S.length : Int) := by omega
  have hc : S.length ≤ 9223372036854775807 := by unfold maxLen at g4; omega
  clear F
  go_enter Try.func33, Try.ntmps33
  go_wp2_with fail
  go_region
  go_end0
  exact ⟨rfl, F1⟩
set_option maxHeartbeats 2000000 in
theorem move_any (F : Fs w0 w p a S D h vs vd) (o : Int) (k j : Nat) (hk : k < S.length) (hj : j < S.length) : Calls Try.prog 34 #[.pointer (some ⟨p, 0, none⟩), .agg #[.int .u8 o, .int .i64 k, .int .i64 j]] w fun e w' => e = .returned (.tuple #[]) ∧ Fs w0 w' p a (S.set k S[j]) D h vs vd := by
  obtain ⟨g, c, rfl, g1, g2, g3, g4, g5, g6⟩ := F.slots.form (by omega)
  have F1 := ((F.slot k S[j] hk).call (below_one _ (.cells #[.int .u8 o, .int .i64 k, .int .i64 j] 32))).call (below_drew _)
  have hp := F.lt
  have c1 := F.c1
  have e0 : w.cell? ⟨g, k, none⟩ = some (.int .u64 S[k]) := by
    have := g6 k 0 _ hk rfl
    simpa [show kU.m = 1 from rfl] using this
  have e1 : w.cell? ⟨g, j, none⟩ = some (.int .u64 S[j]) := by
    have := g6 j 0 _ hj rfl
    simpa [show kU.m = 1 from rfl] using this
  have f0 := g5 k
  clear g5 g6
  generalize S[k] = x at *
  generalize S[j] = y at *
  have i0 : (0 : Int) ≤ (k : Int) := by omega
  have i1 : (k : Int) < (S.length : Int) := by omega
  have j0 : (0 : Int) ≤ (j : Int) := by omega
  have j1 : (j : Int) < (S.length : Int) := by omega
  have hc : S.length ≤ 9223372036854775807 := by unfold maxLen at g4; omega
  clear F
  go_enter Try.func34, Try.ntmps34
  go_wp2_with fail
  go_region
  go_end0
  exact ⟨rfl, F1⟩
set_option maxHeartbeats 2000000 in
theorem skip_any (F : Fs w0 w p a S D h vs vd) (o b' : Int) (k : Nat) (hk : k < S.length) (a0 : 0 ≤ a) (a1 : a ≤ 1000000) (b0 : 0 ≤ b') (b1 : b' ≤ 1000000) : Calls Try.prog 35 #[.pointer (some ⟨p, 0, none⟩), .agg #[.int .u8 o, .int .i64 k, .int .i64 b']] w fun e w' => e = .returned (.tuple #[]) ∧ Fs w0 w' p (if S[k] = 0 then a + b' else a) S D h vs vd := by
  obtain ⟨g, c, rfl, g1, g2, g3, g4, g5, g6⟩ := F.slots.form (by omega)
  have hp := F.lt
  have c1 := F.c1
  have c0 := F.c0
  have f0 := F.fz 0
  have e0 : w.cell? ⟨g, k, none⟩ = some (.int .u64 S[k]) := by
    have := g6 k 0 _ hk rfl
    simpa [show kU.m = 1 from rfl] using this
  clear g5 g6
  have i0 : (0 : Int) ≤ (k : Int) := by omega
  have i1 : (k : Int) < (S.length : Int) := by omega
  have hc : S.length ≤ 9223372036854775807 := by unfold maxLen at g4; omega
  by_cases hx : S[k] = 0
  · have F1 := F.at' (a + b')
    have X : Hid ((if S[k] = 0 then a + b' else a) = a + b') := Lib.hid (if_pos hx)
    rw [hx] at e0
    rw [X.out]
    clear hx F
    go_enter Try.func35, Try.ntmps35
    go_wp2_with fail
    go_region
    go_wp2_with fail
    go_region_held3 (fun w' => w'.cell? ⟨w.heap.size, 2, none⟩ = some (.int .i64 b') ∧ w'.cell? ⟨p, 0, none⟩ = some (.int .i64 a)) (go_keep) ((go_at_call 37; refine (add_ok _ _ _ a0 a1 b0 b1).mono ?_; rintro e w' ⟨rfl, rfl⟩))
    go_wp2
    go_end0
    exact ⟨rfl, ((F1.call (below_one _ _)).call (below_drew _)).call (below_drew _)⟩
  · have X : Hid ((if S[k] = 0 then a + b' else a) = a) := Lib.hid (if_neg hx)
    have z : (S[k] != 0) = true := by simpa using hx
    rw [X.out]
    generalize S[k] = x at *
    clear hx
    go_enter Try.func35, Try.ntmps35
    go_wp2_with fail
    go_region
    go_wp2
    refine bodyPost_ret (results_none rfl _ _ _) rfl ?_
    exact ⟨rfl, (F.call (below_one _ _)).call (below_drew _)⟩
end
end Go.Proofs.Ytapbhcpcechccaa.Fina
