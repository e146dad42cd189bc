/-
  Contracts of ctl.Pack and ctl.Unpack and of the document's own.
-/
import Derived.Test.YtkkmhapfhnnooaaCtl
import Derived.Laws.BitsAllLaws
namespace Go.Proofs.Ytkkmhapfhnnooaa.Ctl
open Go.ChangeShapes Go.WideShapes Go.ChangeAt Go.RowKit
set_option linter.unusedVariables false

theorem ret2 {k k' : IntKind} {a b c d : Int} (h : a = b) (h' : c = d) : Ending.returned (.tuple #[.int k a, .int k' c]) = .returned (.tuple #[.int k b, .int k' d]) := by rw [h, h']
theorem bcell {W w1 : World} (hb : Below W.heap.size W w1) : (∀ b o, b < W.heap.size → w1.cell? ⟨b, o, none⟩ = W.cell? ⟨b, o, none⟩) ∧ (∀ b o, b < W.heap.size → w1.frozen? ⟨b, o, none⟩ = W.frozen? ⟨b, o, none⟩) :=
  ⟨fun b o h => hb.cell (p := ⟨b, o, none⟩) h, fun b o h => hb.frozen (p := ⟨b, o, none⟩) h⟩

def packV (s c p e : Int) : Int := if rightB s c p e = true then s + 4 * c + 1024 * (p + 1) + 262144 * e else 0
def packE (s c p e : Int) : Int := if rightB s c p e = true then 0 else 1

theorem or_join (k : Nat) (lo hi : Int) (h1 : 0 ≤ lo) (h2 : lo < 2 ^ k) (h3 : 0 ≤ hi) (h4 : hi % 2 ^ k = 0) (h5 : hi < 18446744073709551616) (h6 : lo < 18446744073709551616) : bits .or .u64 lo hi = lo + hi := by
  obtain ⟨a, rfl⟩ := Int.eq_ofNat_of_zero_le h1
  obtain ⟨b, rfl⟩ := Int.eq_ofNat_of_zero_le h3
  rw [u64_or_nat _ _ (by omega) (by omega)]
  have h2' : a < 2 ^ k := by exact_mod_cast h2
  have h4' : b % 2 ^ k = 0 := by exact_mod_cast h4
  have e : b = 2 ^ k * (b / 2 ^ k) := by have := Nat.div_add_mod b (2 ^ k); omega
  rw [e, Nat.or_comm, ← Nat.two_pow_add_eq_or_of_lt h2' (b / 2 ^ k)]
  push_cast
  omega

/-- Four parts, and an error. -/
structure R where
  s : Int
  c : Int
  p : Int
  e : Int
  x : Int
def no (x : Int) : R := ⟨0, 0, 0, 0, x⟩
theorem retR {r : R} {s c p e x : Int} (h : r = ⟨s, c, p, e, x⟩) :
    Ending.returned (.tuple #[.agg #[.int .i64 s, .int .i64 c, .int .i64 p, .int .i64 e], .int .i64 x]) = .returned (.tuple #[.agg #[.int .i64 r.s, .int .i64 r.c, .int .i64 r.p, .int .i64 r.e], .int .i64 r.x]) := by subst h; rfl

/-- What a word tells. -/
def unB (x : Int) : Bool := rightB (x % 4) (x / 4 % 256) (x / 1024 % 256 - 1) (x / 262144)
def unV (x : Int) : R := if unB x = true then ⟨x % 4, x / 4 % 256, x / 1024 % 256 - 1, x / 262144, 0⟩ else no 1

theorem wraps_u64 (n : Int) (h₀ : 0 ≤ n) (h₁ : n < 2 ^ 64) : IntKind.u64.wrap n = n := by rw [IntKind.wrap_u64]; omega
theorem mask_u64 (k : Nat) (c : Int) (h : 0 ≤ c) (h' : c ≤ 18446744073709551615) (hk : k ≤ 64 := by decide) : bits .and .u64 c (2 ^ k - 1) = c % 2 ^ k := by
  have := bits_mask .u64 64 (by decide) wraps_u64 k hk c h (by omega)
  simpa using this

end Go.Proofs.Ytkkmhapfhnnooaa.Ctl
