/-
  Contracts of package begin: the way out; what a walk carries (local blocks, closures that ask); rows of closures.
-/
import Derived.Test.YtbpmnjmegffllaaBegB
namespace Go.Proofs.Ytbpmnjmegffllaa.Beg
open Go.ChangeShapes Go.WideShapes Go.ChangeAt Go.RowKit
open Go.Proofs.Ytbpmnjmegffllaa.Mod Slic
set_option linter.unusedVariables false
set_option linter.unusedSimpArgs false
set_option maxRecDepth 8000
attribute [local go_sem ↓] Go.wp_at_zero Go.wp_at_succ

theorem Ask.alloc {w : World} {f : Fv} {c : Int} (h : Ask w f c) (o : Obj) : Ask (w.alloc o) f c := h.below (below_one w o)
theorem Ask.drew {w : World} {f : Fv} {c : Int} (h : Ask w f c) : Ask w.drew f c := h.below (Below.refl _ _).drew
/-- What a walk carries: local blocks, and closures that ask. -/
structure Bs (w0 w : World) (L : List (Nat × List Value)) (A : List (Fv × Int)) : Prop where
  st : Held.St w0 w L
  ask : ∀ f c, (f, c) ∈ A → Ask w f c
section
variable {w0 w w' : World} {L : List (Nat × List Value)} {A : List (Fv × Int)}
theorem Bs.call (S : Bs w0 w L A) (k : Below w.heap.size w w') : Bs w0 w' L A := ⟨S.st.call k, fun f c h => (S.ask f c h).below k⟩
theorem Bs.drew (S : Bs w0 w L A) : Bs w0 w.drew L A := ⟨S.st.drew, fun f c h => (S.ask f c h).drew⟩
theorem Bs.alloc (S : Bs w0 w L A) (o : Obj) : Bs w0 (w.alloc o) L A := ⟨S.st.alloc o, fun f c h => (S.ask f c h).alloc o⟩
theorem Bs.new (S : Bs w0 w L A) (vs : List Value) (t : TypeId) : Bs w0 (w.alloc (.cells vs.toArray t)) ((w.heap.size, vs) :: L) A := ⟨S.st.new vs t, fun f c h => (S.ask f c h).alloc _⟩
theorem Bs.asked (S : Bs w0 w L A) {f : Fv} {c : Int} (h : Ask w' f c) (k : Below w.heap.size w w') : Bs w0 w' L ((f, c) :: A) := ⟨S.st.call k, fun g d hm => by
  rcases List.mem_cons.1 hm with e | e
  · injection e with e1 e2
    subst e1 e2
    exact h
  · exact (S.ask g d e).below k⟩
theorem Bs.start (w : World) : Bs w w [] [] := ⟨Held.St.start w, fun f c h => absurd h List.not_mem_nil⟩
theorem Bs.below (S : Bs w0 w L A) : Below w0.heap.size w0 w := S.st.below
end
theorem litR (W : World) (r : Int) : Sr kB (W.alloc (.cells #[.int .u8 r] 5)) (.slice (some ⟨W.heap.size, 0, none⟩) 1 1) [r] :=
  (Slic.Own.lit (K := kB) W 0 (Nat.zero_le _) [r] #[.int .u8 r] rfl (by show 1 ≤ maxLen; decide) 1 rfl).sr
theorem litR2 (W : World) (r s : Int) : Sr kB (W.alloc (.cells #[.int .u8 r, .int .u8 s] 5)) (.slice (some ⟨W.heap.size, 0, none⟩) 2 2) [r, s] :=
  (Slic.Own.lit (K := kB) W 0 (Nat.zero_le _) [r, s] #[.int .u8 r, .int .u8 s] rfl (by show 2 ≤ maxLen; decide) 2 rfl).sr
theorem asks1 {W : World} {f : Fv} {c : Int} (a : Ask W f c) : Asks (W.alloc (.cells #[fnV f] 138)) (.slice (some ⟨W.heap.size, 0, none⟩) 1 1) [c] := by
  refine ⟨⟨[f], (Slic.Own.lit (K := kQ) W 0 (Nat.zero_le _) [f] #[fnV f] rfl (by show 1 ≤ maxLen; decide) 1 rfl).sr, rfl, fun i g d h1 h2 => ?_⟩⟩
  rcases i with _ | i
  · simp at h1 h2
    subst h1 h2
    exact a.alloc _
  · simp at h1
theorem asks2 {W : World} {f g : Fv} {c d : Int} (a : Ask W f c) (b : Ask W g d) : Asks (W.alloc (.cells #[fnV f, fnV g] 138)) (.slice (some ⟨W.heap.size, 0, none⟩) 2 2) [c, d] := by
  refine ⟨⟨[f, g], (Slic.Own.lit (K := kQ) W 0 (Nat.zero_le _) [f, g] #[fnV f, fnV g] rfl (by show 2 ≤ maxLen; decide) 2 rfl).sr, rfl, fun i x y h1 h2 => ?_⟩⟩
  rcases i with _ | _ | i
  · simp at h1 h2
    subst h1 h2
    exact a.alloc _
  · simp at h1 h2
    subst h1 h2
    exact b.alloc _
  · simp at h1
theorem asks3 {W : World} {f g h : Fv} {c d e : Int} (a : Ask W f c) (b : Ask W g d) (b' : Ask W h e) : Asks (W.alloc (.cells #[fnV f, fnV g, fnV h] 138)) (.slice (some ⟨W.heap.size, 0, none⟩) 3 3) [c, d, e] := by
  refine ⟨⟨[f, g, h], (Slic.Own.lit (K := kQ) W 0 (Nat.zero_le _) [f, g, h] #[fnV f, fnV g, fnV h] rfl (by show 3 ≤ maxLen; decide) 3 rfl).sr, rfl, fun i x y h1 h2 => ?_⟩⟩
  rcases i with _ | _ | _ | i
  · simp at h1 h2
    subst h1 h2
    exact a.alloc _
  · simp at h1 h2
    subst h1 h2
    exact b.alloc _
  · simp at h1 h2
    subst h1 h2
    exact b'.alloc _
  · simp at h1

/-- A Pc, and what is asked. -/
def Wayed (w : World) (a : Wa) (e : Ending) (w' : World) : Prop := ∃ v, e = .returned (.tuple #[.int .i64 a.pc, v]) ∧ Asks w' v a.cs ∧ Below w.heap.size w w'
set_option maxHeartbeats 1000000 in
theorem wayout_any (v : Value) (L : List Chain.E) (w : World) (hL : Chain.Sr w v L) (hl : L.length ≤ 1000000) : Calls Try.prog 71 #[v] w (Wayed w ⟨outP L, [Chain.popE L]⟩) := by
  unfold outP
  have P := fun (W : World) (h : Chain.Sr W v L) => Chain.pop_any W v L h hl
  generalize Chain.lastV L = l at *
  generalize Chain.popE L = x at *
  obtain ⟨s, b⟩ := l
  cases b with
  | true =>
    go_enter Try.func71, Try.ntmps71
    go_wp2_with fail
    refine (P _ hL).mono ?_
    rintro z w1 ⟨u, rfl, O, k⟩
    have S1 := ((Bs.start w).call k).new [.int .i64 s, .bool true] 106
    obtain ⟨_, c0, c1⟩ := S1.st.get2 0 rfl
    dsimp only
    go_wp2_with fail
    refine (al_any x _).mono ?_
    rintro z w2 ⟨f, rfl, a, k2⟩
    have B := S1.call k2
    go_wp2
    go_ret2
    exact ⟨_, rfl, asks1 a, (B.alloc _).below⟩
  | false =>
    go_enter Try.func71, Try.ntmps71
    go_wp2_with fail
    refine (P _ hL).mono ?_
    rintro z w1 ⟨u, rfl, O, k⟩
    have S1 := ((Bs.start w).call k).new [.int .i64 s, .bool false] 106
    obtain ⟨_, c0, c1⟩ := S1.st.get2 0 rfl
    dsimp only
    go_wp2_with fail
    refine (al_any x _).mono ?_
    rintro z w2 ⟨f, rfl, a, k2⟩
    have B := S1.call k2
    go_wp2
    go_ret2
    exact ⟨_, rfl, asks1 a, (B.alloc _).below⟩
end Go.Proofs.Ytbpmnjmegffllaa.Beg
