/-
  Layer 13 in plain mathematics: what stands against a call that begins, and where it goes on; what a row of closures tells.
-/
import Derived.Test.YtbpmnjmegffllaaModp
import Derived.Test.YtbpmnjmegffllaaHeads
import Derived.StillTailTactics
import Derived.Deep.RegionHeld3
import Derived.Deep.DeepCutAuto
namespace Go.Proofs.Ytbpmnjmegffllaa.Beg
open Go.ChangeShapes Go.WideShapes Go.ChangeAt Go.RowKit
open Go.Proofs.Ytbpmnjmegffllaa.Mod Slic
set_option linter.unusedVariables false
set_option linter.unusedSimpArgs false
set_option maxRecDepth 8000

/-- What Check tells. -/
def ckV (n : Int) (L : List Chain.E) (h : Int) : Int :=
  if (Refs.unV h).err ≠ 0 then (Refs.unV h).err else if n ≤ (Refs.unV h).s then 18 else if Chain.reachV L (Refs.unV h).s = false then 20 else 0
structure Rf3 where
  s : Int
  e : Int
  a : Int
def ckR (n : Int) (L : List Chain.E) (h : Int) : Rf3 := if ckV n L h = 0 then ⟨(Refs.unV h).s, (Refs.unV h).e, (Refs.unV h).a⟩ else ⟨0, 0, 0⟩
/-- What stands against a number outside of bounds. -/
def wiE (a lo hi c : Int) : Int := if Heads.withinB a lo hi = true then 0 else c
def reE (L : List Chain.E) (s : Int) : Int := if Chain.reachV L s = true then 0 else 20
def rgE (R : List Int) : Int := if R.any badR = true then 1 else 0
/-- The first one that is not 0. -/
def firE : List Int → Int
  | [] => 0
  | c :: r => if c = 0 then firE r else c
/-- Where a call goes on, and what is asked of it. -/
structure Wa where
  pc : Int
  cs : List Int
def outP (L : List Chain.E) : Int := if (Chain.lastV L).2 = true then 15 else 0
def wayV (n : Int) (L : List Chain.E) (c : Ca) (h v : Int) : Wa :=
  if c.op = 0 then ⟨0, []⟩
  else if c.op = 1 then ⟨0, [rgE [c.r]]⟩
  else if c.op = 2 then ⟨1, [wiE c.a 1 8192 1]⟩
  else if c.op = 3 then ⟨1, [wiE c.a 1 (n - 1) 11]⟩
  else if c.op = 4 then ⟨13, [wiE c.a 1 (n - 1) 11, Chain.pushE L]⟩
  else if c.op = 5 then ⟨outP L, [Chain.popE L]⟩
  else if c.op = 6 then ⟨0, [wiE c.a 0 (n - 1) 11, reE L c.a, Chain.pushE L]⟩
  else if c.op = 7 then ⟨5, [rgE [c.r], (Heads.wordsV c.a c.b).err, wiE c.c 0 7 1]⟩
  else if c.op = 8 then ⟨5, [rgE [c.r, c.h], ckV n L h]⟩
  else if c.op = 9 then ⟨5, [rgE [c.h, c.v], ckV n L h]⟩
  else if c.op = 10 then ⟨11, [rgE [c.r], wiE c.a 1 (n - 1) 11, reE L c.a]⟩
  else if c.op = 11 then (if v = 0 then ⟨12, [rgE [c.v], wiE c.a 1 (n - 1) 11, reE L c.a]⟩ else ⟨7, [rgE [c.v], wiE c.a 1 (n - 1) 11, reE L c.a, ckV n L v]⟩)
  else ⟨0, [1]⟩
/-- The code and the Pc of a call that begins. -/
structure Be where
  code : Int
  pc : Int
def begV (n : Int) (L : List Chain.E) (c : Ca) (h v : Int) : Be := ⟨firE (wayV n L c h v).cs, if firE (wayV n L c h v).cs = 0 then (wayV n L c h v).pc else 0⟩

/-! A closure that tells a code, whatever is made meanwhile. -/
abbrev Fv := FuncId × Array Value
abbrev fnV (f : Fv) : Value := .func (.func f.1) #[] f.2
def kQ : Kd Fv := { X := 107, T := 138, m := 1, by_ := 8, z := .nilFunc, enc := fun x => [fnV x], len := fun _ => rfl, one := fun _ u h => by simp at h; subst h; rfl, pos := by decide, small := by decide, zs := rfl, under := by kernel_rfl, info := by kernel_rfl, elem := by kernel_rfl }
structure Ask (w : World) (f : Fv) (c : Int) : Prop where
  en : ∀ (a : Array Value) (W : World), (callFunc f.1 a).run Try.prog W = .ok (.enter f.1 a) W
  does : ∀ w', Below w.heap.size w w' → Calls Try.prog f.1 f.2 w' fun e w'' => e = .returned (.int .i64 c) ∧ Below w'.heap.size w' w''
theorem Ask.below {w w' : World} {f : Fv} {c : Int} (h : Ask w f c) (k : Below w.heap.size w w') : Ask w' f c := ⟨h.en, fun w'' k' => h.does w'' (k.trans (k'.mono k.size))⟩
def Asked (w : World) (c : Int) (e : Ending) (w' : World) : Prop := ∃ f : Fv, e = .returned (fnV f) ∧ Ask w' f c ∧ Below w.heap.size w w'
/-- A row of closures. -/
structure Asks (w : World) (v : Value) (cs : List Int) : Prop where
  ex : ∃ fs : List Fv, Sr kQ w v fs ∧ fs.length = cs.length ∧ ∀ (i : Nat) f c, fs[i]? = some f → cs[i]? = some c → Ask w f c
theorem Asks.below {w w' : World} {v : Value} {cs : List Int} (h : Asks w v cs) (k : Below w.heap.size w w') : Asks w' v cs := by
  obtain ⟨fs, h1, h2, h3⟩ := h.ex
  exact ⟨⟨fs, h1.below k, h2, fun i f c a b => (h3 i f c a b).below k⟩⟩
theorem Asks.nil (w : World) : Asks w (.slice none 0 0) [] := ⟨⟨[], Sr.nil w, rfl, fun i f c a => by simp at a⟩⟩
theorem cell_in {w : World} {b o : Nat} {v : Value} (c : w.cell? ⟨b, o, none⟩ = some v) : b < w.heap.size := by
  rcases Nat.lt_or_ge b w.heap.size with hlt | hge
  · exact hlt
  · simp [World.cell?, Array.getElem?_eq_none hge] at c

theorem fir_take {cs : List Int} {k : Nat} (h : ∀ (j : Nat) c, j < k → cs[j]? = some c → c = 0) {c : Int} (hc : cs[k]? = some c) (h0 : c ≠ 0) : firE cs = c := by
  induction cs generalizing k with
  | nil => simp at hc
  | cons x r ih =>
    cases k with
    | zero =>
      simp at hc
      subst hc
      unfold firE
      rw [if_neg h0]
    | succ k =>
      have hx := h 0 x (by omega) rfl
      unfold firE
      rw [if_pos hx]
      exact ih (k := k) (fun j c' hj hc' => h (j + 1) c' (by omega) (by simpa using hc')) (by simpa using hc)
theorem fir_none {cs : List Int} (h : ∀ (j : Nat) c, j < cs.length → cs[j]? = some c → c = 0) : firE cs = 0 := by
  induction cs with
  | nil => rfl
  | cons x r ih =>
    have hx := h 0 x (by simp) rfl
    unfold firE
    rw [if_pos hx]
    exact ih fun j c hj hc => h (j + 1) c (by simpa using hj) (by simpa using hc)

set_option maxHeartbeats 2000000 in
theorem first_any (w : World) (v : Value) (cs : List Int) (h : Asks w v cs) (hl : cs.length ≤ 1000) :
    Calls Try.prog 40 #[v] w fun e w' => e = .returned (.int .i64 (firE cs)) ∧ Below w.heap.size w w' := by
  obtain ⟨fs, hS, hL, hA⟩ := h.ex
  obtain ⟨A, c, rfl, c1, c2⟩ := hS.form
  obtain ⟨n, hn⟩ : ∃ n, fs.length = n := ⟨_, rfl⟩
  have HN := Lib.hid hn
  have HL := Lib.hid hL
  have HA := Lib.hid hA
  have HS := Lib.hid hS
  have n1 : n ≤ 1000 := by omega
  rw [hn]
  clear hn hL hA hS c1 c2
  go_enter Try.func40, Try.ntmps40
  go_wp2
  go_loopw [8] (fun t wr => ∃ k : Nat, k ≤ n ∧ t = .int .i64 k ∧ Below w.heap.size w wr ∧ Hid (∀ (j : Nat) c, j < k → cs[j]? = some c → c = 0)) (fun t _ => n - (intOf t).toNat)
  case atStart => exact ⟨0, Nat.zero_le _, rfl, Below.refl _ _, Lib.hid (fun j c hj _ => absurd hj (Nat.not_lt_zero _))⟩
  case round =>
    obtain ⟨k, hk, rfl, hB, hno⟩ := hrel
    by_cases hlt : k < n
    · have hkf : k < fs.length := by rw [HN.out]; exact hlt
      have hkc : k < cs.length := by rw [← HL.out]; exact hkf
      have hS := HS.out.below hB
      rw [HN.out] at hS
      obtain ⟨g, o, rfl, hg, hc⟩ := hS.at k hkf
      have c0 := hc 0 _ rfl
      rw [show o + (k * kQ.m + 0) = o + k from by simp [kQ]] at c0
      obtain ⟨f, hf⟩ : ∃ f, fs[k] = f := ⟨_, rfl⟩
      obtain ⟨x, hx⟩ : ∃ x, cs[k] = x := ⟨_, rfl⟩
      rw [hf] at c0
      have hf' : fs[k]? = some f := by rw [List.getElem?_eq_getElem hkf, hf]
      have hx' : cs[k]? = some x := by rw [List.getElem?_eq_getElem hkc, hx]
      have AK := HA.out k f x hf' hx'
      have HX := Lib.hid hx'
      clear hf hx hf' hx' hc hS
      obtain ⟨f1, f2⟩ := f
      have en := AK.en
      dsimp only at en
      by_cases h0 : x = 0
      · have NO := Lib.hid (show ∀ (j : Nat) c, j < k + 1 → cs[j]? = some c → c = 0 from fun j c hj hc => by
          by_cases e : j < k
          · exact hno.out j c e hc
          · obtain rfl : j = k := by omega
            rw [HX.out] at hc
            injection hc with hc
            rw [← hc]
            exact h0)
        subst h0
        go_wp2_with fail
        refine (AK.does _ hB).mono ?_
        rintro e w2 ⟨rfl, k2⟩
        have B2 := hB.trans (k2.mono hB.size)
        go_wp2
        go_roundw
        case rel => exact ⟨k + 1, by omega, by go_num, B2, NO⟩
        case measure => simp [intOf]; omega
      · have E := Lib.hid (fir_take (cs := cs) hno.out HX.out h0)
        have z : (x == 0) = false := by simpa using h0
        have z2 : (x != 0) = true := by simpa using h0
        go_wp2_with fail
        refine (AK.does _ hB).mono ?_
        rintro e w2 ⟨rfl, k2⟩
        have B2 := hB.trans (k2.mono hB.size)
        go_wp2
        go_ret
        exact ⟨by rw [E.out]; rfl, B2⟩
    · obtain rfl : k = n := by omega
      have E := Lib.hid (fir_none (cs := cs) fun j c hj hc => hno.out j c (by rw [← HL.out, HN.out] at hj; exact hj) hc)
      go_wp2
      go_ret
      exact ⟨by rw [E.out]; rfl, hB⟩
end Go.Proofs.Ytbpmnjmegffllaa.Beg
