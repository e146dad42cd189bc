/-
  What the laws want: the end of a slice, one program made such as may be.
-/
import Derived.Test.YtapbhcpcechccaaFinaK
import Derived.Test.YtapbhcpcechccaaFinaH
import Derived.Test.YtapbhcpcechccaaFinaG
namespace Go.Proofs.Ytapbhcpcechccaa.Fina
open Go.ChangeShapes Go.WideShapes Go.ChangeAt Go.RowKit
open Slic
set_option linter.unusedVariables false

theorem slice_l {α : Type} (K : Kd α) {w : World} {A : Option Addr} {n c : Nat} {L : List α} (h : Sr K w (.slice A n c) L) (hn : n = L.length) (lo : Nat) (hlo : lo ≤ n) (hlen : n ≤ c) :
    ∃ A2, (∀ W, (Instr.slice K.X (.slice A n c) (some (.int .i64 (lo : Int))) none none).run Try.prog W = .ok (.slice A2 (n - lo) (c - lo)) W) ∧
    (∀ W, (Instr.sliceAt K.X (.slice A n c) (some (.int .i64 (lo : Int))) none none).run Try.prog W = .ok (.slice A2 (n - lo) (c - lo)) W) ∧ Sr K w (.slice A2 (n - lo) (c - lo)) (L.drop lo) := by
  have run : ∀ W, (Instr.slice K.X (.slice A n c) (some (.int .i64 (lo : Int))) none none).run Try.prog W = .ok (.slice (if c = lo then A else A.map (·.add (lo * K.m))) (n - lo) (c - lo)) W := by
    intro W
    rw [run_slice_l W K.X A n c (under_X K) .i64 lo (by omega) (by omega), size_X K]
    simp [Result.andThen, sliced]
  refine ⟨_, run, fun W => (run_sliceAt_slice W K.X _ _ _ _ (under_X K)).trans (run W), ?_⟩
  subst hn
  have h' := h
  obtain ⟨A', d, e, g1, g2, g3, g4⟩ := h
  injection e with e1 _ e2
  subst e1 e2
  by_cases hz : L.length ≤ lo
  · refine ⟨_, c - lo, by rw [List.length_drop], by rw [List.length_drop]; omega, by omega, fun e => ?_, fun hp => by rw [List.length_drop] at hp; omega⟩
    by_cases hc : c = lo
    · omega
    · rw [if_neg hc] at e
      cases A with
      | none => have := g3 rfl; omega
      | some a => cases e
  · obtain ⟨g, o, rfl, hg, hc⟩ := g4 (by omega)
    rw [if_neg (by omega)]
    have := h'.rest (k := lo) (by omega)
    simpa [Addr.add_lit] using this

/-- What Fit makes of one program. -/
structure One (w W : World) (L : List O) (g c : Nat) (A : Option Addr) (d : Nat) : Prop where
  cell : W.cell? ⟨g, 0, none⟩ = some (.slice A (fitP L).length d)
  lt : g < W.heap.size
  row : Own kF W w.heap.size (.slice A (fitP L).length d) (fitP L)
  cap : (fitP L).length ≤ d ∧ d ≤ maxLen
  rows : Rows W (.slice (some ⟨g, 0, none⟩) 1 c) [fitP L]
  below : Below w.heap.size w W
def FitOne (w : World) (L : List O) (e : Ending) (W : World) : Prop := ∃ g c A d, e = .returned (.slice (some ⟨g, 0, none⟩) 1 c) ∧ One w W L g c A d
theorem fitone_any (w : World) (v : Value) (A : Option Addr) (n c : Nat) (L : List O) (hv : Sr kR w v [(A, n, c)]) (hL : Sr kF w (.slice A n c) L) (hb : okO L) : Calls Try.prog 21 #[v] w (FitOne w L) := by
  have R : Rows w v [L] := ⟨[(A, n, c)], hv, rfl, fun i h h' => by
    obtain rfl : i = 0 := by simpa using h
    exact hL⟩
  refine (fit_any w v [L] R (by intro M hM; simp at hM; subst hM; exact hb)).mono ?_
  rintro e W ⟨u, Hs, rfl, hO, hl, hr, hB⟩
  have hl1 : Hs.length = 1 := by rw [hl]; rfl
  obtain ⟨H, rfl⟩ : ∃ H, Hs = [H] := by
    rcases Hs with _ | ⟨H, _ | ⟨_, _⟩⟩
    · simp at hl1
    · exact ⟨H, rfl⟩
    · simp at hl1
  obtain ⟨A2, n2, d2⟩ := H
  obtain ⟨g, c2, rfl, g1, g2, g3, g4, g5, g6⟩ := hO.form (by simp)
  have h0 := hr 0 (by simp) (by simp [fitL])
  simp only [List.getElem_cons_zero] at h0
  have e0 : (fitL [L])[0]'(by simp [fitL]) = fitP L := by simp [fitL]
  rw [e0] at h0
  obtain ⟨A3, d3, e, k1, k2⟩ := h0.sr.form
  injection e with e1 e2 e3
  subst e1 e2 e3
  have hc := g6 0 0 _ (by simp) rfl
  refine ⟨g, c2, A2, d2, rfl, ⟨by simpa [show kR.m = 1 from rfl] using hc, g2, h0, ⟨k1, k2⟩, ?_, hB⟩⟩
  refine ⟨_, hO.sr, by simp, fun i h h' => ?_⟩
  obtain rfl : i = 0 := by simpa using h
  exact h0.sr
theorem One.call {w W W' : World} {L : List O} {g c : Nat} {A : Option Addr} {d : Nat} (h : One w W L g c A d) (k : Below W.heap.size W W') : One w W' L g c A d :=
  ⟨(k.cell (p := ⟨g, 0, none⟩) h.lt).trans h.cell, Nat.lt_of_lt_of_le h.lt k.size, h.row.below k, h.cap, h.rows.below k, h.below.trans (k.mono h.below.size)⟩
theorem fitp_ok {L : List O} (hb : okO L) : okO (fitP L) ∧ okL (fitP L) ∧ progB (fitP L) = true ∧ (fitP L).length ≤ 8 := by
  have h1 := fit_prog L fun o ho => (hb o ho).1
  have h2 := h1
  unfold progB at h2
  rw [Bool.and_eq_true, decide_eq_true_eq] at h2
  refine ⟨fun o ho => ?_, one_ok h2.2, h1, h2.1⟩
  have : oneP o := of_decide_eq_true (List.all_eq_true.1 h2.2 o ho)
  unfold oneP at this
  omega
/-- append, telling where the new row lies. -/
theorem wpList_app2 {α : Type} {K : Kd α} {w : World} {ops : Array Oper} {rest : List Oper} {o : Oper} {a : Act} {Q : Exit → Act → World → Prop} (hgd : o.guard = none) (s x : Operand)
    (ho : o.op = .call { callee := .builtin .append, args := #[s, x], argTypes := #[K.X, K.X] }) (hty : o.type = K.X) {v y : Value} {L M : List α} {base : Nat}
    (hs : a.eval s = v) (hx : a.eval x = y) (h : Own K w base v L) (hy : Sr K w y M) (hl : L.length + M.length ≤ 1000000) (hb : base ≤ w.heap.size)
    (hK : ∀ v' w', Own K w' base v' (L ++ M) → w.grownBy w' v.ownBlock → Grew w w' base → (v'.ownBlock = v.ownBlock ∨ v'.ownBlock = some w.heap.size) → wpList Try.prog ops Q rest (a.put o.dst v') w') : wpList Try.prog ops Q (o :: rest) a w := by
  obtain ⟨v', w', hrun, r1, r2, r3⟩ := app_own w h hy hl hb
  refine wpList_plain hgd fun J hJ => ?_
  unfold Oper.wp
  simp [execOp, ho, resolve, invoke, builtin, hs, hx, hty, hrun, Result.andThen]
  exact hJ _ _ (hK v' w' r1 r2 (grew h r2 hb) r3)
theorem own_empty {α : Type} {K : Kd α} (W : World) (n : Nat) (hn : n = W.heap.size) : Own K (W.alloc (.cells #[] K.T)) W.heap.size (.slice (some ⟨n, 0, none⟩) 0 0) [] := by
  subst hn
  exact Own.empty W _ (Nat.le_refl _)
theorem says_snoc (L : List O) (o : O) : says (L ++ [o]) = says L ++ sayV o := by simp [says]
theorem far_new {v v' : Value} {N C M : Nat} (hA : ∀ g, v.ownBlock = some g → g = N ∨ C ≤ g) (h : v'.ownBlock = v.ownBlock ∨ v'.ownBlock = some M) (hC : C ≤ M) : ∀ g, v'.ownBlock = some g → g = N ∨ C ≤ g := by
  intro g e
  rcases h with h | h
  · exact hA g (h.symm.trans e)
  · rw [h] at e
    injection e with e
    omega
theorem far_say {w : World} {N B C : Nat} {v u : Value} {D : List Int} (hD : Own kI w B u D) (hu : ∀ g, u.ownBlock = some g → g < C) (hA : ∀ g, v.ownBlock = some g → g = N ∨ C ≤ g) (hN : N < B) : u.ownBlock = none ∨ u.ownBlock ≠ v.ownBlock := by
  cases e : u.ownBlock with
  | none => exact .inl rfl
  | some g =>
    refine .inr fun q => ?_
    have := hu g e
    have := (hD.lt g e).1
    have := hA g q.symm
    omega
theorem own_op (W : World) (x y z : Int) : Own kF (W.alloc (.cells #[.int .u8 x, .int .i64 y, .int .i64 z] 32)) W.heap.size (.slice (some ⟨W.heap.size, 0, none⟩) 1 1) [(x, y, z)] := Own.lit W _ (Nat.le_refl _) [(x, y, z)] #[.int .u8 x, .int .i64 y, .int .i64 z] rfl (by simp [maxLen]) 1 rfl
theorem okO_take {L : List O} (h : okO L) (k : Nat) : okO (L.take k) := fun o ho => h o (List.mem_of_mem_take ho)
theorem okL_take {L : List O} (h : okL L) (k : Nat) : okL (L.take k) := fun o ho => h o (List.mem_of_mem_take ho)
theorem okO_drop {L : List O} (h : okO L) (k : Nat) : okO (L.drop k) := fun o ho => h o (List.mem_of_mem_drop ho)
theorem okL_drop {L : List O} (h : okL L) (k : Nat) : okL (L.drop k) := fun o ho => h o (List.mem_of_mem_drop ho)
end Go.Proofs.Ytapbhcpcechccaa.Fina
