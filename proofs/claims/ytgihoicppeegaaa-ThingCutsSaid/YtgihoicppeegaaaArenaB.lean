/-
  Contracts of arena's Cas, Claim and Zero, for every argument, over the invariant Ar; with them math/bits.Add64 at this program.
-/
import Derived.Test.YtgihoicppeegaaaArena
import Derived.Laws.Externs
namespace Go.Proofs.Ytgihoicppeegaaa.Arena
open Go.ChangeShapes Go.WideShapes Go.ChangeAt Go.RowKit Mem
set_option linter.unusedVariables false

theorem add64_0 (x y : Int) (hx : 0 ≤ x) (hy : 0 ≤ y) (w : World) : (callFunc 38 #[.int .u64 x, .int .u64 y, .int .u64 0]).run Try.prog w =
    .ok (.value (.tuple #[.int .u64 ((x + y) % 18446744073709551616), .int .u64 ((x + y) / 18446744073709551616)])) w := by
  rw [run_callFunc_extern (fn := Try.f38) (e := add64Entry) Try.func38 (by kernel_rfl) (by kernel_rfl) (by kernel_rfl) (by kernel_rfl), run_add64 x y 0 hx hy (Int.le_refl 0) (by decide)]
  simp

def casB (n : Nat) (f : Nat → Int) (a old : Int) : Bool := okW n a && decide (f (a.toNat / 8) = old)
def casF (n : Nat) (f : Nat → Int) (a old x : Int) : Nat → Int := if casB n f a old = true then setF f (a.toNat / 8) x else f
theorem retbi {a b : Bool} {k : IntKind} {c d : Int} (h : a = b) (h' : c = d) : Ending.returned (.tuple #[.bool a, .int k c]) = .returned (.tuple #[.bool b, .int k d]) := by rw [h, h']

/-- Whether two words stand at base and u and behind it. -/
def pairB (n : Nat) (base u : Int) : Bool := decide (u ≤ 65536) && decide (0 ≤ base) && decide (base ≤ 65536) && okW n (base + u) && okW n (base + u + 8)
theorem retib {k : IntKind} {a b : Int} {c d : Bool} (h : a = b) (h' : c = d) : Ending.returned (.tuple #[.int k a, .bool c]) = .returned (.tuple #[.int k b, .bool d]) := by rw [h, h']

set_option maxHeartbeats 400000 in
theorem pair_any (w : World) (B g n : Nat) (f : Nat → Int) (base u : Int) (h : Ar w B g n f) (b1 : -9223372036854775808 ≤ base) (b2 : base ≤ 9223372036854775807) (u1 : 0 ≤ u) :
    Calls Try.prog 39 #[.pointer (some ⟨B, 0, none⟩), .int .i64 base, .int .u64 u] w fun e w' => (∃ z, e = .returned (.tuple #[.int .i64 z, .bool (pairB n base u)]) ∧ (pairB n base u = true → z = base + u)) ∧ w = w' := by
  by_cases h1 : u ≤ 65536
  · by_cases h2 : 0 ≤ base ∧ base ≤ 65536
    · have hwi : withinB base 0 65536 = true := decide_eq_true h2
      obtain ⟨h3, h4⟩ := h2
      by_cases k1 : okW n (base + u) = true
      · by_cases k2 : okW n (base + u + 8) = true
        · have hp : pairB n base u = true := by simp [pairB, h1, h3, h4, k1, k2]
          have HP := Lib.hid hp
          clear hp
          go_enter Try.func39, Try.ntmps39
          go_wp2_with (first
            | (go_at_call 31; refine (within_any _ _ _ _).mono ?_; rintro e w' ⟨rfl, rfl⟩)
            | (go_at_call 35; refine (wordplace_any _ B g n f _ h (by omega) (by omega)).mono ?_; rintro e w' ⟨rfl, rfl⟩))
          go_ret2
          exact ⟨⟨_, retib rfl HP.out.symm, fun _ => rfl⟩, rfl⟩
        · have k2' : okW n (base + u + 8) = false := by simpa using k2
          have hp : pairB n base u = false := by simp [pairB, k2']
          have HP := Lib.hid hp
          clear hp k2
          go_enter Try.func39, Try.ntmps39
          go_wp2_with (first
            | (go_at_call 31; refine (within_any _ _ _ _).mono ?_; rintro e w' ⟨rfl, rfl⟩)
            | (go_at_call 35; refine (wordplace_any _ B g n f _ h (by omega) (by omega)).mono ?_; rintro e w' ⟨rfl, rfl⟩))
          go_ret2
          exact ⟨⟨_, retib rfl HP.out.symm, fun e => by rw [HP.out] at e; cases e⟩, rfl⟩
      · have k1' : okW n (base + u) = false := by simpa using k1
        have hp : pairB n base u = false := by simp [pairB, k1']
        have HP := Lib.hid hp
        clear hp k1
        go_enter Try.func39, Try.ntmps39
        go_wp2_with (first
          | (go_at_call 31; refine (within_any _ _ _ _).mono ?_; rintro e w' ⟨rfl, rfl⟩)
          | (go_at_call 35; refine (wordplace_any _ B g n f _ h (by omega) (by omega)).mono ?_; rintro e w' ⟨rfl, rfl⟩))
        go_ret2
        exact ⟨⟨_, retib rfl HP.out.symm, fun e => by rw [HP.out] at e; cases e⟩, rfl⟩
    · have hwi : withinB base 0 65536 = false := decide_eq_false h2
      have hp : pairB n base u = false := by
        unfold pairB
        rcases Classical.not_and_iff_not_or_not.1 h2 with h2 | h2 <;> simp [h2]
      have HP := Lib.hid hp
      clear hp h2
      go_enter Try.func39, Try.ntmps39
      go_wp2_with (go_at_call 31; refine (within_any _ _ _ _).mono ?_; rintro e w' ⟨rfl, rfl⟩)
      go_ret2
      exact ⟨⟨_, retib rfl HP.out.symm, fun e => by rw [HP.out] at e; cases e⟩, rfl⟩
  · have hp : pairB n base u = false := by simp [pairB, h1]
    have HP := Lib.hid hp
    clear hp
    go_enter Try.func39, Try.ntmps39
    go_wp2
    go_ret2
    exact ⟨⟨_, retib rfl HP.out.symm, fun e => by rw [HP.out] at e; cases e⟩, rfl⟩

theorem write_at (w : World) (B g n i : Nat) (a : Int) (f : Nat → Int) (x : Int) (h : Ar w B g n f) (hi : i < n) (ha : a = 8 * (i : Int)) (x1 : 0 ≤ x) (x2 : x ≤ 18446744073709551615) :
    Calls Try.prog 40 #[.pointer (some ⟨B, 0, none⟩), .int .i64 a, .int .u64 x] w fun e w' => e = .returned (.tuple #[]) ∧ Ar w' B g n (setF f i x) ∧ w.grownBy w' (some g) := by
  subst ha
  exact write_any w B g n i f x h hi x1 x2

/-- What the word at a is. -/
def wd (f : Nat → Int) (a : Int) : Int := f (a.toNat / 8)
def fitsB (f : Nat → Int) (a by_ most : Int) : Bool := decide (wd f a + by_ ≤ most)
def claimB (n : Nat) (f : Nat → Int) (a by_ most base : Int) : Bool := okW n a && fitsB f a by_ most && pairB n base (wd f a)
def claimT (n : Nat) (f : Nat → Int) (a by_ most base : Int) : Bool := okW n a && (!fitsB f a by_ most || pairB n base (wd f a))
def claimV (n : Nat) (f : Nat → Int) (a by_ most base : Int) : Int := if claimT n f a by_ most base = true then wd f a else 0
def claimE (n : Nat) (f : Nat → Int) (a by_ most base : Int) : Int := if claimT n f a by_ most base = true then 0 else 1
def claimF (n : Nat) (f : Nat → Int) (a by_ most base one two : Int) : Nat → Int :=
  if claimB n f a by_ most base = true then setF (setF (setF f (a.toNat / 8) (wd f a + by_)) ((base + wd f a).toNat / 8) one) ((base + wd f a + 8).toNat / 8) two else f
theorem ret3 {k l : IntKind} {a b c d : Int} {p q : Bool} (h : a = b) (h' : p = q) (h'' : c = d) : Ending.returned (.tuple #[.int k a, .bool p, .int l c]) = .returned (.tuple #[.int k b, .bool q, .int l d]) := by rw [h, h', h'']

set_option maxHeartbeats 1000000 in
theorem claim_any (w : World) (B g n : Nat) (f : Nat → Int) (a by_ most base one two : Int) (h : Ar w B g n f) (a1 : -9223372036854775808 ≤ a) (a2 : a ≤ 9223372036854775807)
    (y1 : 0 ≤ by_) (y2 : by_ ≤ 18446744073709551615) (m1 : 0 ≤ most) (m2 : most ≤ 18446744073709551615) (b1 : -9223372036854775808 ≤ base) (b2 : base ≤ 9223372036854775807)
    (o1 : 0 ≤ one) (o2 : one ≤ 18446744073709551615) (t1 : 0 ≤ two) (t2 : two ≤ 18446744073709551615) :
    Calls Try.prog 22 #[.pointer (some ⟨B, 0, none⟩), .int .i64 a, .int .u64 by_, .int .u64 most, .int .i64 base, .int .u64 one, .int .u64 two] w fun e w' =>
      e = .returned (.tuple #[.int .u64 (claimV n f a by_ most base), .bool (claimB n f a by_ most base), .int .i64 (claimE n f a by_ most base)]) ∧ Ar w' B g n (claimF n f a by_ most base one two) ∧ w.grownBy w' (some g) := by
  by_cases hk : okW n a = true
  · obtain ⟨i, hi, rfl, hj⟩ := okW_idx hk
    have hwd : wd f (8 * (i : Int)) = f i := by unfold wd; rw [hj]
    have ⟨f1, f2⟩ := h.fit i
    have hl := h.len
    by_cases hf : f i + by_ ≤ most
    · have hfb : fitsB f (8 * (i : Int)) by_ most = true := decide_eq_true (by rw [hwd]; exact hf)
      by_cases hp : pairB n base (f i) = true
      · have hB : claimB n f (8 * (i : Int)) by_ most base = true := by simp [claimB, hk, hfb, hwd, hp]
        have hT : claimT n f (8 * (i : Int)) by_ most base = true := by simp [claimT, hk, hwd, hp]
        have hp' := hp
        unfold pairB at hp'
        simp only [Bool.and_eq_true, decide_eq_true_eq] at hp'
        obtain ⟨⟨⟨⟨p1, p2⟩, p3⟩, p4⟩, p5⟩ := hp'
        obtain ⟨j, hj1, hj2, hj3⟩ := okW_idx p4
        obtain ⟨l, hl1, hl2, hl3⟩ := okW_idx p5
        have hlj : l = j + 1 := by omega
        subst hlj
        have HF := Lib.hid (show claimF n f (8 * (i : Int)) by_ most base one two = setF (setF (setF f i (f i + by_)) j one) (j + 1) two by unfold claimF; rw [if_pos hB, hwd, hj, hj3, hl3])
        have HB := Lib.hid hB
        have HT := Lib.hid hT
        have HW := Lib.hid hwd
        have HJ := Lib.hid hj2
        have hs : (f i + by_) % 18446744073709551616 = f i + by_ := by omega
        have hs' : (f i + by_) / 18446744073709551616 = 0 := by omega
        clear hB hT hwd hj hfb hj3 hl3 p4 p5 hl2 hj2
        go_enter Try.func22, Try.ntmps22
        go_wp2_with (first
          | (go_at_call 35; refine (wordplace_any _ B g n f _ h a1 a2).mono ?_; rintro e w' ⟨rfl, rfl⟩)
          | (go_at_call 36; refine (read_any _ B g n i f h hi).mono ?_; rintro e w' ⟨rfl, rfl⟩)
          | simp only [add64_0 (f i) by_ f1 y1]
          | (go_at_call 39; refine (pair_any _ B g n f base _ h b1 b2 f1).mono ?_; rintro e w' ⟨⟨z, rfl, hz⟩, rfl⟩; obtain rfl : z = 8 * (j : Int) := (hz hp).trans HJ.out; clear hz)
          | fail)
        refine (write_any _ B g n i f _ h hi (by omega) (by omega)).mono ?_
        rintro e w1 ⟨rfl, h1, g1⟩
        go_wp2_with fail
        refine (write_any _ B g n j _ one h1 hj1 o1 o2).mono ?_
        rintro e w2 ⟨rfl, h2, g2⟩
        go_wp2_with fail
        refine (write_at _ B g n (j + 1) _ _ two h2 hl1 (by omega) t1 t2).mono ?_
        rintro e w3 ⟨rfl, h3, g3⟩
        go_wp2_with fail
        go_ret3
        exact ⟨ret3 (by unfold claimV; rw [if_pos HT.out, HW.out]) HB.out.symm (by unfold claimE; rw [if_pos HT.out]), by rw [HF.out]; exact h3, only_trans (only_trans g1 g2) g3⟩
      · have hp' : pairB n base (f i) = false := by simpa using hp
        have hB : claimB n f (8 * (i : Int)) by_ most base = false := by simp [claimB, hwd, hp']
        have hT : claimT n f (8 * (i : Int)) by_ most base = false := by simp [claimT, hfb, hwd, hp']
        have HB := Lib.hid hB
        have HT := Lib.hid hT
        have hs : (f i + by_) % 18446744073709551616 = f i + by_ := by omega
        have hs' : (f i + by_) / 18446744073709551616 = 0 := by omega
        clear hB hT hwd hj hfb hp
        go_enter Try.func22, Try.ntmps22
        go_wp2_with (first
          | (go_at_call 35; refine (wordplace_any _ B g n f _ h a1 a2).mono ?_; rintro e w' ⟨rfl, rfl⟩)
          | (go_at_call 36; refine (read_any _ B g n i f h hi).mono ?_; rintro e w' ⟨rfl, rfl⟩)
          | simp only [add64_0 (f i) by_ f1 y1]
          | (go_at_call 39; refine (pair_any _ B g n f base _ h b1 b2 f1).mono ?_; rintro e w' ⟨⟨z, rfl, hz⟩, rfl⟩; clear hz))
        go_ret3
        exact ⟨ret3 (by unfold claimV; rw [if_neg (by simp [HT.out])]) HB.out.symm (by unfold claimE; rw [if_neg (by simp [HT.out])]), by unfold claimF; rw [if_neg (by simp [HB.out])]; exact h, World.grownBy.refl _ _⟩
    · have hfb : fitsB f (8 * (i : Int)) by_ most = false := decide_eq_false (by rw [hwd]; exact hf)
      have hB : claimB n f (8 * (i : Int)) by_ most base = false := by simp [claimB, hfb]
      have hT : claimT n f (8 * (i : Int)) by_ most base = true := by simp [claimT, hk, hfb]
      have HB := Lib.hid hB
      have HT := Lib.hid hT
      have HW := Lib.hid hwd
      clear hB hT hwd hj hfb
      by_cases hc : f i + by_ ≤ 18446744073709551615
      · have hs : (f i + by_) % 18446744073709551616 = f i + by_ := by omega
        have hs' : (f i + by_) / 18446744073709551616 = 0 := by omega
        go_enter Try.func22, Try.ntmps22
        go_wp2_with (first
          | (go_at_call 35; refine (wordplace_any _ B g n f _ h a1 a2).mono ?_; rintro e w' ⟨rfl, rfl⟩)
          | (go_at_call 36; refine (read_any _ B g n i f h hi).mono ?_; rintro e w' ⟨rfl, rfl⟩)
          | simp only [add64_0 (f i) by_ f1 y1])
        go_ret3
        exact ⟨ret3 (by unfold claimV; rw [if_pos HT.out, HW.out]) HB.out.symm (by unfold claimE; rw [if_pos HT.out]), by unfold claimF; rw [if_neg (by simp [HB.out])]; exact h, World.grownBy.refl _ _⟩
      · have hs' : (f i + by_) / 18446744073709551616 = 1 := by omega
        go_enter Try.func22, Try.ntmps22
        go_wp2_with (first
          | (go_at_call 35; refine (wordplace_any _ B g n f _ h a1 a2).mono ?_; rintro e w' ⟨rfl, rfl⟩)
          | (go_at_call 36; refine (read_any _ B g n i f h hi).mono ?_; rintro e w' ⟨rfl, rfl⟩)
          | simp only [add64_0 (f i) by_ f1 y1])
        go_ret3
        exact ⟨ret3 (by unfold claimV; rw [if_pos HT.out, HW.out]) HB.out.symm (by unfold claimE; rw [if_pos HT.out]), by unfold claimF; rw [if_neg (by simp [HB.out])]; exact h, World.grownBy.refl _ _⟩
  · have hq : okW n a = false := by simpa using hk
    clear hk
    go_enter Try.func22, Try.ntmps22
    go_wp2_with (go_at_call 35; refine (wordplace_any _ B g n f _ h a1 a2).mono ?_; rintro e w' ⟨rfl, rfl⟩)
    go_ret3
    exact ⟨ret3 (by unfold claimV; rw [if_neg (by simp [claimT, hq])]) (by simp [claimB, hq]) (by unfold claimE; rw [if_neg (by simp [claimT, hq])]), by unfold claimF; rw [if_neg (by simp [claimB, hq])]; exact h, World.grownBy.refl _ _⟩

/-- k words from word i on are 0. -/
def zeroUp (f : Nat → Int) (i k : Nat) : Nat → Int := fun j => if i ≤ j ∧ j < i + k then 0 else f j
theorem zeroUp_none (f : Nat → Int) (i : Nat) : zeroUp f i 0 = f := by funext j; unfold zeroUp; rw [if_neg (by omega)]
theorem zeroUp_step (f : Nat → Int) (i k : Nat) : setF (zeroUp f i k) (i + k) 0 = zeroUp f i (k + 1) := by
  funext j
  unfold setF zeroUp
  by_cases e : j = i + k
  · rw [if_pos e, if_pos (by omega)]
  · rw [if_neg e]
    by_cases e' : i ≤ j ∧ j < i + k
    · rw [if_pos e', if_pos (by omega)]
    · rw [if_neg e', if_neg (by omega)]
def zeroB (n : Nat) (a m : Int) : Bool := decide (m = 0) || (decide (0 < m) && okW n a && decide (m ≤ (n : Int) - a / 8))
def zeroE (n : Nat) (a m : Int) : Int := if zeroB n a m = true then 0 else 1
def zeroF (n : Nat) (f : Nat → Int) (a m : Int) : Nat → Int := if zeroB n a m = true then zeroUp f (a.toNat / 8) m.toNat else f

end Go.Proofs.Ytgihoicppeegaaa.Arena
