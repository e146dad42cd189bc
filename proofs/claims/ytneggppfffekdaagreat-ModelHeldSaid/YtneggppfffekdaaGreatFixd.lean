/-
  Two fixed plans of calls: what leaves, and what is held; each decided by evaluation.
-/
import Derived.Test.YtneggppfffekdaaGreatLaws
namespace Go.Proofs.YtneggppfffekdaaGreat.Mod
open Sco
set_option linter.unusedVariables false
set_option linter.unusedSimpArgs false
set_option maxRecDepth 100000
def stF (FF : List (List Fina.O)) (m : Mo) (t : Int) (c : Ca) : Mo := (doX FF m 2 t c).1.2
def anF (FF : List (List Fina.O)) (m : Mo) (t : Int) (c : Ca) : An := (doX FF m 2 t c).1.1
theorem stF_of {FF : List (List Fina.O)} {m m' : Mo} {t : Int} {c : Ca} {a : An} (h : doX FF m 2 t c = ((a, m'), 0)) : stF FF m t c = m' := by unfold stF; rw [h]
theorem anF_of {FF : List (List Fina.O)} {m m' : Mo} {t : Int} {c : Ca} {a : An} (h : doX FF m 2 t c = ((a, m'), 0)) : anF FF m t c = a := by unfold anF; rw [h]
/-- What the k-th entering does: thread by turns, and once more within. -/
def lvF : List (List Fina.O) := [[], [(0, 1, 0)], [(0, 2, 0)], [(0, 3, 0)]]
def enC : Ca := ⟨4, 0, 0, 0, 1, 0, 0⟩
def exC : Ca := ⟨5, 0, 0, 0, 0, 0, 0⟩
def inC (a : Int) : Ca := ⟨6, 0, 0, 0, a, 0, 0⟩
def alC (c : Int) : Ca := ⟨7, 1, 0, 0, 0, 0, c⟩
def gaC : Ca := ⟨11, 0, 0, 1, 1, 0, 0⟩
def crC (a : Int) : Ca := ⟨2, 0, 0, 0, a, 0, 0⟩
def tn (i : Nat) : Int := ((i % 2 : Nat) : Int)
def enR (i : Nat) (m : Mo) : Mo := if i = 1 then stF lvF (stF lvF m (tn i) enC) 0 (inC 0) else stF lvF m (tn i) enC
def lvE : Nat → Mo
  | 0 => stF lvF sh0 0 (crC 100)
  | i + 1 => enR i (lvE i)
def lvI (k : Nat) : Mo := if 1 < k then stF lvF (lvE k) 0 (inC 1) else lvE k
def tg (wh i : Nat) : Int := ((wh / 2 ^ i % 2 * (1 + i % 3) : Nat) : Int)
def lvA (k wh : Nat) : Nat → Mo
  | 0 => lvI k
  | i + 1 => stF lvF (lvA k wh i) 0 (alC (tg wh i))
def wnt (wh : Nat) : Nat → List Int
  | 0 => []
  | i + 1 => if 0 < tg wh i then tg wh i :: wnt wh i else wnt wh i
def lvX (k wh n : Nat) : Nat → Mo
  | 0 => stF lvF (lvA k wh n) 0 gaC
  | i + 1 => stF lvF (lvX k wh n i) (tn i) exC
def lvS (k wh n : Nat) : Nat → List Int
  | 0 => []
  | i + 1 => lvS k wh n i ++ (anF lvF (lvX k wh n i) (tn i) exC).said
def lvN (k wh n : Nat) : Nat → Int
  | 0 => 0
  | i + 1 => lvN k wh n i + (anF lvF (lvX k wh n i) (tn i) exC).n
def lvY (k wh n : Nat) : Mo := stF lvF (lvX k wh n 12) 1 enC
def lvZ (k wh n : Nat) : Mo := stF lvF (lvY k wh n) 1 ⟨1, 0, 0, 0, IntKind.i64.wrap (((lvY k wh n).th 0).r 1), 0, 0⟩
def ldC : Ca := ⟨8, 1, 0, 0, 0, 0, 0⟩
def a6C : Ca := ⟨7, 0, 0, 0, 6, 40, 0⟩
def freshB (r : Ctl.R) : Bool := decide (r.s = 1 ∧ r.c = 0 ∧ r.p = -1 ∧ r.e = 1 ∧ r.x = 0)
theorem fresh_of {r : Ctl.R} (h : freshB r = true) : r = ⟨1, 0, -1, 1, 0⟩ := by
  obtain ⟨s, c, p, e, x⟩ := r
  have h : s = 1 ∧ c = 0 ∧ p = -1 ∧ e = 1 ∧ x = 0 := of_decide_eq_true h
  obtain ⟨rfl, rfl, rfl, rfl, rfl⟩ := h
  rfl
def lvB (k wh n : Nat) : Bool :=
  (List.range n).all (fun i => decide ((anF lvF (lvA k wh i) 0 (alC (tg wh i))).c = 0)) &&
  (decide (lvS k wh n 12 = wnt wh n) && (decide (lvN k wh n 12 = ((wnt wh n).length : Int)) && (freshB (seeC (lvX k wh n 12).F.R 1) && (decide (((lvX k wh n 12).ar 1).u = 0 ∧ ((lvX k wh n 12).ar 1).g = 0) &&
  (((decide (n = 0) || decide ((anF lvF (lvZ k wh n) 1 ldC).c = 19)) && decide ((anF lvF (stF lvF (lvZ k wh n) 1 ldC) 1 a6C).c = 0)) &&
  (List.range 13).all (fun i => decide (0 ≤ lvN k wh n i ∧ lvN k wh n i ≤ 100 ∧ (lvS k wh n i).length ≤ 100)))))))
def lvAll : Bool := (List.range 3).all fun r => (List.range 7).all fun n => (List.range 64).all fun wh => lvB (r + 1) wh n
theorem lv_all : lvAll = true := by kernel_rfl
structure LvOk (k wh n : Nat) : Prop where
  ok : ∀ i, i < n → (anF lvF (lvA k wh i) 0 (alC (tg wh i))).c = 0
  said : lvS k wh n 12 = wnt wh n
  many : lvN k wh n 12 = ((wnt wh n).length : Int)
  see : seeC (lvX k wh n 12).F.R 1 = ⟨1, 0, -1, 1, 0⟩
  us : ((lvX k wh n 12).ar 1).u = 0
  gt : ((lvX k wh n 12).ar 1).g = 0
  ld : n = 0 ∨ (anF lvF (lvZ k wh n) 1 ldC).c = 19
  al : (anF lvF (stF lvF (lvZ k wh n) 1 ldC) 1 a6C).c = 0
  bd : ∀ i, i ≤ 12 → 0 ≤ lvN k wh n i ∧ lvN k wh n i ≤ 100 ∧ (lvS k wh n i).length ≤ 100
theorem lv_at {k wh n : Nat} (k1 : 1 ≤ k) (k3 : k ≤ 3) (hw : wh < 64) (hn : n < 7) : LvOk k wh n := by
  have h := List.all_eq_true.1 (List.all_eq_true.1 (List.all_eq_true.1 lv_all (k - 1) (List.mem_range.2 (by omega))) n (List.mem_range.2 hn)) wh (List.mem_range.2 hw)
  rw [Nat.sub_add_cancel k1] at h
  unfold lvB at h
  simp only [Bool.and_eq_true, Bool.or_eq_true] at h
  obtain ⟨h1, h2, h3, h4, h5, ⟨h6, h7⟩, h8⟩ := h
  have h5 := of_decide_eq_true h5
  exact ⟨fun i hi => of_decide_eq_true (List.all_eq_true.1 h1 i (List.mem_range.2 hi)), of_decide_eq_true h2, of_decide_eq_true h3, fresh_of h4, h5.1, h5.2, h6.imp of_decide_eq_true of_decide_eq_true, of_decide_eq_true h7, fun i hi => of_decide_eq_true (List.all_eq_true.1 h8 i (List.mem_range.2 (by omega)))⟩
/-- What is held: an object that says that it holds, and others, some of which clear their slot. -/
def hdF : List (List Fina.O) := [[(4, 0, 0), (0, 7, 0)], [(1, 0, 0), (0, 8, 0)]]
def stC : Ca := ⟨9, 0, 0, 1, 0, 0, 0⟩
def htg (wh i : Nat) : Int := if i = 0 then 0 else ((wh / 2 ^ i % 2 : Nat) : Int)
def halC (c : Int) : Ca := ⟨7, 0, 0, 0, 1, 0, c⟩
def hd0 : Mo := stF hdF sh0 0 ⟨7, 1, 0, 0, 0, 0, 0⟩
def hd1 : Mo := stF hdF hd0 0 (crC 400)
def hd2 : Mo := stF hdF hd1 0 enC
def hdR (put : Bool) (m : Mo) : Mo := if put = true then stF hdF m 0 stC else m
def hdA (put : Bool) (wh : Nat) : Nat → Mo
  | 0 => hd2
  | i + 1 => hdR put (stF hdF (hdA put wh i) 0 (halC (htg wh i)))
def hdN (put : Bool) (wh i : Nat) : Int := (anF hdF (hdA put wh i) 0 (halC (htg wh i))).n
def hdH (put : Bool) (wh : Nat) : Nat → List Int
  | 0 => []
  | i + 1 => hdH put wh i ++ [hdN put wh i]
def hdW (wh : Nat) : Nat → List Int
  | 0 => []
  | i + 1 => (7 + htg wh i) :: hdW wh i
def hdX (put : Bool) (wh k : Nat) : Mo := stF hdF (hdA put wh k) 0 exC
def hdY (put : Bool) (wh k : Nat) : Mo := stF hdF (hdX put wh k) 0 exC
def hdV (put : Bool) (wh k i : Nat) : Int := if put = true ∧ (i = 0 ∨ wh / 2 ^ i % 2 = 0) then ((hdX put wh k).th 0).r 1 else 0
def liveB (r : Ctl.R) : Bool := decide (r.s = 2 ∧ r.c = 1 ∧ r.p = 0 ∧ r.e = 0 ∧ r.x = 0)
theorem live_of {r : Ctl.R} (h : liveB r = true) : r = ⟨2, 1, 0, 0, 0⟩ := by
  obtain ⟨s, c, p, e, x⟩ := r
  have h : s = 2 ∧ c = 1 ∧ p = 0 ∧ e = 0 ∧ x = 0 := of_decide_eq_true h
  obtain ⟨rfl, rfl, rfl, rfl, rfl⟩ := h
  rfl
def hdB (put : Bool) (wh k : Nat) : Bool :=
  (List.range k).all (fun i => decide (0 ≤ hdN put wh i ∧ hdN put wh i ≤ 1000000000000)) &&
  (decide ((anF hdF (hdA put wh k) 0 exC).c = 25 ∧ (anF hdF (hdA put wh k) 0 exC).n = (k : Int)) && (decide ((anF hdF (hdA put wh k) 0 exC).said = hdW wh k) && (liveB (seeC (hdX put wh k).F.R 1) && (decide (((hdX put wh k).ents 0).length = 1) &&
  ((List.range k).all (fun i => decide (slotsV (hdX put wh k) (hdN put wh i) = ([hdV put wh k i], true))) &&
  (decide ((anF hdF (hdX put wh k) 0 exC).c = 0 ∧ (anF hdF (hdX put wh k) 0 exC).n = 0) && (decide ((anF hdF (hdX put wh k) 0 exC).said = []) && (freshB (seeC (hdY put wh k).F.R 1) && decide (slotsV (hdY put wh k) (hdN put wh 0) = ([], false))))))))))
def hdAll : Bool := (List.range 5).all fun k => (List.range 32).all fun wh => hdB true wh (k + 1) && hdB false wh (k + 1)
theorem hd_all : hdAll = true := by kernel_rfl
structure HdOk (put : Bool) (wh k : Nat) : Prop where
  nu : ∀ i, i < k → 0 ≤ hdN put wh i ∧ hdN put wh i ≤ 1000000000000
  xc : (anF hdF (hdA put wh k) 0 exC).c = 25
  xn : (anF hdF (hdA put wh k) 0 exC).n = (k : Int)
  xs : (anF hdF (hdA put wh k) 0 exC).said = hdW wh k
  see : seeC (hdX put wh k).F.R 1 = ⟨2, 1, 0, 0, 0⟩
  ent : ((hdX put wh k).ents 0).length = 1
  sl : ∀ i, i < k → slotsV (hdX put wh k) (hdN put wh i) = ([hdV put wh k i], true)
  yc : (anF hdF (hdX put wh k) 0 exC).c = 0
  yn : (anF hdF (hdX put wh k) 0 exC).n = 0
  ys : (anF hdF (hdX put wh k) 0 exC).said = []
  ysee : seeC (hdY put wh k).F.R 1 = ⟨1, 0, -1, 1, 0⟩
  gone : slotsV (hdY put wh k) (hdN put wh 0) = ([], false)
theorem hd_at (put : Bool) {wh k : Nat} (k1 : 1 ≤ k) (k5 : k ≤ 5) (hw : wh < 32) : HdOk put wh k := by
  have h := List.all_eq_true.1 (List.all_eq_true.1 hd_all (k - 1) (List.mem_range.2 (by omega))) wh (List.mem_range.2 hw)
  rw [Nat.sub_add_cancel k1, Bool.and_eq_true] at h
  have h : hdB put wh k = true := by
    cases put
    · exact h.2
    · exact h.1
  unfold hdB at h
  simp only [Bool.and_eq_true] at h
  obtain ⟨h1, h2, h3, h4, h5, h6, h7, h8, h9, h10⟩ := h
  have h2 := of_decide_eq_true h2
  have h7 := of_decide_eq_true h7
  exact ⟨fun i hi => of_decide_eq_true (List.all_eq_true.1 h1 i (List.mem_range.2 hi)), h2.1, h2.2, of_decide_eq_true h3, live_of h4, of_decide_eq_true h5, fun i hi => of_decide_eq_true (List.all_eq_true.1 h6 i (List.mem_range.2 hi)), h7.1, h7.2, of_decide_eq_true h8, fresh_of h9, of_decide_eq_true h10⟩
end Go.Proofs.YtneggppfffekdaaGreat.Mod
