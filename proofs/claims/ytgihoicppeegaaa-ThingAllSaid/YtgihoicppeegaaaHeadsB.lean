/-
  Contracts of head's closures: laying and what it lays, taking and what it takes.
-/
import Derived.Test.YtgihoicppeegaaaHeads
namespace Go.Proofs.Ytgihoicppeegaaa.Heads
open Go.ChangeShapes Go.WideShapes Go.ChangeAt Go.RowKit
open Held
set_option linter.unusedVariables false

theorem or_join (k : Nat) (lo hi : Int) (h1 : 0 ≤ lo) (h2 : lo < 2 ^ k) (h3 : 0 ≤ hi) (h4 : hi % 2 ^ k = 0) (h5 : hi < 18446744073709551616) (h6 : lo < 18446744073709551616) : bits .or .u64 lo hi = lo + hi := by
  obtain ⟨a, rfl⟩ := Int.eq_ofNat_of_zero_le h1
  obtain ⟨b, rfl⟩ := Int.eq_ofNat_of_zero_le h3
  rw [u64_or_nat _ _ (by omega) (by omega)]
  have h2' : a < 2 ^ k := by exact_mod_cast h2
  have h4' : b % 2 ^ k = 0 := by exact_mod_cast h4
  have e : b = 2 ^ k * (b / 2 ^ k) := by have := Nat.div_add_mod b (2 ^ k); omega
  rw [e, Nat.or_comm, ← Nat.two_pow_add_eq_or_of_lt h2' (b / 2 ^ k)]
  push_cast
  omega
theorem wraps_u64 (n : Int) (h₀ : 0 ≤ n) (h₁ : n < 2 ^ 64) : IntKind.u64.wrap n = n := by rw [IntKind.wrap_u64]; omega
theorem mask_u64 (k : Nat) (c : Int) (h : 0 ≤ c) (h' : c ≤ 18446744073709551615) (hk : k ≤ 64 := by decide) : bits .and .u64 c (2 ^ k - 1) = c % 2 ^ k := by
  have := bits_mask .u64 64 (by decide) wraps_u64 k hk c h (by omega)
  simpa using this

set_option maxHeartbeats 400000 in
theorem laying_any (w : World) : Calls Try.prog 46 #[] w fun e w' =>
    e = .returned (.func (.func 50) #[] #[.pointer (some ⟨w.heap.size, 0, none⟩), .pointer (some ⟨w.heap.size + 1, 0, none⟩)]) ∧ (w.alloc (.cells #[.int .u64 0] 45)).alloc (.cells #[.int .u64 0] 78) = w' := by
  go_enter Try.func46, Try.ntmps46
  go_wp2
  go_ret
  exact ⟨rfl, rfl⟩
set_option maxHeartbeats 400000 in
theorem taking_any (f : Int) (w : World) : Calls Try.prog 41 #[.int .u64 f] w fun e w' =>
    e = .returned (.func (.func 48) #[] #[.pointer (some ⟨w.heap.size, 0, none⟩)]) ∧ w.alloc (.cells #[.int .u64 f] 45) = w' := by
  go_enter Try.func41, Try.ntmps41
  go_wp2
  go_ret
  exact ⟨rfl, rfl⟩

set_option maxHeartbeats 1000000 in
theorem take_32 (f : Int) (q : Nat) (w : World) (f1 : 0 ≤ f) (f2 : f ≤ 18446744073709551615) (c : w.cell? ⟨q, 0, none⟩ = some (.int .u64 f)) (z : w.frozen? ⟨q, 0, none⟩ = false) : Calls Try.prog 48 #[.int .u64 32, .pointer (some ⟨q, 0, none⟩)] w fun e w' =>
    e = .returned (.int .i64 (f % 4294967296)) ∧ w.setCell ⟨q, 0, none⟩ (.int .u64 (f / 4294967296)) = w' := by
  have m := mask_u64 32 f f1 f2
  simp only [Int.reducePow, Int.reduceSub] at m
  go_enter Try.func48, Try.ntmps48
  go_wp2
  go_ret
  exact ⟨rfl, rfl⟩
theorem takes_32 (f : Int) {q : Nat} {w0 w : World} {L : List (Nat × List Value)} (S : St w0 w L) (i : Nat) (h : L[i]? = some (q, [.int .u64 f])) (f1 : 0 ≤ f) (f2 : f ≤ 18446744073709551615) : Calls Try.prog 48 #[.int .u64 32, .pointer (some ⟨q, 0, none⟩)] w fun e w' =>
    e = .returned (.int .i64 (f % 4294967296)) ∧ St w0 w' (L.set i (q, [.int .u64 (f / 4294967296)])) := by
  obtain ⟨_, c, z⟩ := S.get1 i h
  refine (take_32 f q w f1 f2 c z).mono ?_
  rintro e w' ⟨rfl, rfl⟩
  exact ⟨rfl, S.put i 0 h _ Nat.zero_lt_one⟩
set_option maxHeartbeats 1000000 in
theorem take_8 (f : Int) (q : Nat) (w : World) (f1 : 0 ≤ f) (f2 : f ≤ 18446744073709551615) (c : w.cell? ⟨q, 0, none⟩ = some (.int .u64 f)) (z : w.frozen? ⟨q, 0, none⟩ = false) : Calls Try.prog 48 #[.int .u64 8, .pointer (some ⟨q, 0, none⟩)] w fun e w' =>
    e = .returned (.int .i64 (f % 256)) ∧ w.setCell ⟨q, 0, none⟩ (.int .u64 (f / 256)) = w' := by
  have m := mask_u64 8 f f1 f2
  simp only [Int.reducePow, Int.reduceSub] at m
  go_enter Try.func48, Try.ntmps48
  go_wp2
  go_ret
  exact ⟨rfl, rfl⟩
theorem takes_8 (f : Int) {q : Nat} {w0 w : World} {L : List (Nat × List Value)} (S : St w0 w L) (i : Nat) (h : L[i]? = some (q, [.int .u64 f])) (f1 : 0 ≤ f) (f2 : f ≤ 18446744073709551615) : Calls Try.prog 48 #[.int .u64 8, .pointer (some ⟨q, 0, none⟩)] w fun e w' =>
    e = .returned (.int .i64 (f % 256)) ∧ St w0 w' (L.set i (q, [.int .u64 (f / 256)])) := by
  obtain ⟨_, c, z⟩ := S.get1 i h
  refine (take_8 f q w f1 f2 c z).mono ?_
  rintro e w' ⟨rfl, rfl⟩
  exact ⟨rfl, S.put i 0 h _ Nat.zero_lt_one⟩
set_option maxHeartbeats 1000000 in
theorem take_56 (f : Int) (q : Nat) (w : World) (f1 : 0 ≤ f) (f2 : f ≤ 18446744073709551615) (c : w.cell? ⟨q, 0, none⟩ = some (.int .u64 f)) (z : w.frozen? ⟨q, 0, none⟩ = false) : Calls Try.prog 48 #[.int .u64 56, .pointer (some ⟨q, 0, none⟩)] w fun e w' =>
    e = .returned (.int .i64 (f % 72057594037927936)) ∧ w.setCell ⟨q, 0, none⟩ (.int .u64 (f / 72057594037927936)) = w' := by
  have m := mask_u64 56 f f1 f2
  simp only [Int.reducePow, Int.reduceSub] at m
  go_enter Try.func48, Try.ntmps48
  go_wp2
  go_ret
  exact ⟨rfl, rfl⟩
theorem takes_56 (f : Int) {q : Nat} {w0 w : World} {L : List (Nat × List Value)} (S : St w0 w L) (i : Nat) (h : L[i]? = some (q, [.int .u64 f])) (f1 : 0 ≤ f) (f2 : f ≤ 18446744073709551615) : Calls Try.prog 48 #[.int .u64 56, .pointer (some ⟨q, 0, none⟩)] w fun e w' =>
    e = .returned (.int .i64 (f % 72057594037927936)) ∧ St w0 w' (L.set i (q, [.int .u64 (f / 72057594037927936)])) := by
  obtain ⟨_, c, z⟩ := S.get1 i h
  refine (take_56 f q w f1 f2 c z).mono ?_
  rintro e w' ⟨rfl, rfl⟩
  exact ⟨rfl, S.put i 0 h _ Nat.zero_lt_one⟩
set_option maxHeartbeats 1000000 in
theorem lay_0_32 (p : Int) (q r : Nat) (w : World) (p1 : 0 ≤ p) (p2 : p ≤ 4294967295) (hqr : q ≠ r) (c : w.cell? ⟨q, 0, none⟩ = some (.int .u64 0)) (z : w.frozen? ⟨q, 0, none⟩ = false) (c' : w.cell? ⟨r, 0, none⟩ = some (.int .u64 0)) (z' : w.frozen? ⟨r, 0, none⟩ = false) : Calls Try.prog 50 #[.int .i64 p, .int .u64 32, .pointer (some ⟨q, 0, none⟩), .pointer (some ⟨r, 0, none⟩)] w fun e w' =>
    e = .returned (.int .u64 p) ∧ (w.setCell ⟨q, 0, none⟩ (.int .u64 p)).setCell ⟨r, 0, none⟩ (.int .u64 32) = w' := by
  have m := or_join 0 0 p (by omega) (by omega) (by omega) (by omega) (by omega) (by omega)
  simp only [Int.zero_add] at m
  go_enter Try.func50, Try.ntmps50
  go_wp2
  go_ret
  exact ⟨rfl, rfl⟩
theorem lays_0_32 (p : Int) {q r : Nat} {w0 w : World} {L : List (Nat × List Value)} (S : St w0 w L) (i j : Nat) (hij : i ≠ j) (h : L[i]? = some (q, [.int .u64 0])) (k : L[j]? = some (r, [.int .u64 0])) (p1 : 0 ≤ p) (p2 : p ≤ 4294967295) : Calls Try.prog 50 #[.int .i64 p, .int .u64 32, .pointer (some ⟨q, 0, none⟩), .pointer (some ⟨r, 0, none⟩)] w fun e w' =>
    e = .returned (.int .u64 p) ∧ St w0 w' ((L.set i (q, [.int .u64 p])).set j (r, [.int .u64 32])) := by
  obtain ⟨_, c, z⟩ := S.get1 i h
  obtain ⟨_, c', z'⟩ := S.get1 j k
  refine (lay_0_32 p q r w p1 p2 (S.ne i j h k hij) c z c' z').mono ?_
  rintro e w' ⟨rfl, rfl⟩
  have k' : (L.set i (q, [.int .u64 p]))[j]? = some (r, [.int .u64 0]) := by rw [List.getElem?_set_ne hij]; exact k
  exact ⟨rfl, (S.put i 0 h (.int .u64 p) Nat.zero_lt_one).put j 0 k' _ Nat.zero_lt_one⟩
set_option maxHeartbeats 1000000 in
theorem lay_32_8 (x p : Int) (q r : Nat) (w : World) (x1 : 0 ≤ x) (x2 : x < 4294967296) (p1 : 0 ≤ p) (p2 : p ≤ 255) (hqr : q ≠ r) (c : w.cell? ⟨q, 0, none⟩ = some (.int .u64 x)) (z : w.frozen? ⟨q, 0, none⟩ = false) (c' : w.cell? ⟨r, 0, none⟩ = some (.int .u64 32)) (z' : w.frozen? ⟨r, 0, none⟩ = false) : Calls Try.prog 50 #[.int .i64 p, .int .u64 8, .pointer (some ⟨q, 0, none⟩), .pointer (some ⟨r, 0, none⟩)] w fun e w' =>
    e = .returned (.int .u64 (x + p * 4294967296)) ∧ (w.setCell ⟨q, 0, none⟩ (.int .u64 (x + p * 4294967296))).setCell ⟨r, 0, none⟩ (.int .u64 40) = w' := by
  have m := or_join 32 x (p * 4294967296) (by omega) (by omega) (by omega) (by omega) (by omega) (by omega)
  go_enter Try.func50, Try.ntmps50
  go_wp2
  go_ret
  exact ⟨rfl, rfl⟩
theorem lays_32_8 (x p : Int) {q r : Nat} {w0 w : World} {L : List (Nat × List Value)} (S : St w0 w L) (i j : Nat) (hij : i ≠ j) (h : L[i]? = some (q, [.int .u64 x])) (k : L[j]? = some (r, [.int .u64 32])) (x1 : 0 ≤ x) (x2 : x < 4294967296) (p1 : 0 ≤ p) (p2 : p ≤ 255) : Calls Try.prog 50 #[.int .i64 p, .int .u64 8, .pointer (some ⟨q, 0, none⟩), .pointer (some ⟨r, 0, none⟩)] w fun e w' =>
    e = .returned (.int .u64 (x + p * 4294967296)) ∧ St w0 w' ((L.set i (q, [.int .u64 (x + p * 4294967296)])).set j (r, [.int .u64 40])) := by
  obtain ⟨_, c, z⟩ := S.get1 i h
  obtain ⟨_, c', z'⟩ := S.get1 j k
  refine (lay_32_8 x p q r w x1 x2 p1 p2 (S.ne i j h k hij) c z c' z').mono ?_
  rintro e w' ⟨rfl, rfl⟩
  have k' : (L.set i (q, [.int .u64 (x + p * 4294967296)]))[j]? = some (r, [.int .u64 32]) := by rw [List.getElem?_set_ne hij]; exact k
  exact ⟨rfl, (S.put i 0 h (.int .u64 (x + p * 4294967296)) Nat.zero_lt_one).put j 0 k' _ Nat.zero_lt_one⟩
set_option maxHeartbeats 1000000 in
theorem lay_40_8 (x p : Int) (q r : Nat) (w : World) (x1 : 0 ≤ x) (x2 : x < 1099511627776) (p1 : 0 ≤ p) (p2 : p ≤ 255) (hqr : q ≠ r) (c : w.cell? ⟨q, 0, none⟩ = some (.int .u64 x)) (z : w.frozen? ⟨q, 0, none⟩ = false) (c' : w.cell? ⟨r, 0, none⟩ = some (.int .u64 40)) (z' : w.frozen? ⟨r, 0, none⟩ = false) : Calls Try.prog 50 #[.int .i64 p, .int .u64 8, .pointer (some ⟨q, 0, none⟩), .pointer (some ⟨r, 0, none⟩)] w fun e w' =>
    e = .returned (.int .u64 (x + p * 1099511627776)) ∧ (w.setCell ⟨q, 0, none⟩ (.int .u64 (x + p * 1099511627776))).setCell ⟨r, 0, none⟩ (.int .u64 48) = w' := by
  have m := or_join 40 x (p * 1099511627776) (by omega) (by omega) (by omega) (by omega) (by omega) (by omega)
  go_enter Try.func50, Try.ntmps50
  go_wp2
  go_ret
  exact ⟨rfl, rfl⟩
theorem lays_40_8 (x p : Int) {q r : Nat} {w0 w : World} {L : List (Nat × List Value)} (S : St w0 w L) (i j : Nat) (hij : i ≠ j) (h : L[i]? = some (q, [.int .u64 x])) (k : L[j]? = some (r, [.int .u64 40])) (x1 : 0 ≤ x) (x2 : x < 1099511627776) (p1 : 0 ≤ p) (p2 : p ≤ 255) : Calls Try.prog 50 #[.int .i64 p, .int .u64 8, .pointer (some ⟨q, 0, none⟩), .pointer (some ⟨r, 0, none⟩)] w fun e w' =>
    e = .returned (.int .u64 (x + p * 1099511627776)) ∧ St w0 w' ((L.set i (q, [.int .u64 (x + p * 1099511627776)])).set j (r, [.int .u64 48])) := by
  obtain ⟨_, c, z⟩ := S.get1 i h
  obtain ⟨_, c', z'⟩ := S.get1 j k
  refine (lay_40_8 x p q r w x1 x2 p1 p2 (S.ne i j h k hij) c z c' z').mono ?_
  rintro e w' ⟨rfl, rfl⟩
  have k' : (L.set i (q, [.int .u64 (x + p * 1099511627776)]))[j]? = some (r, [.int .u64 40]) := by rw [List.getElem?_set_ne hij]; exact k
  exact ⟨rfl, (S.put i 0 h (.int .u64 (x + p * 1099511627776)) Nat.zero_lt_one).put j 0 k' _ Nat.zero_lt_one⟩
set_option maxHeartbeats 1000000 in
theorem lay_48_8 (x p : Int) (q r : Nat) (w : World) (x1 : 0 ≤ x) (x2 : x < 281474976710656) (p1 : 0 ≤ p) (p2 : p ≤ 255) (hqr : q ≠ r) (c : w.cell? ⟨q, 0, none⟩ = some (.int .u64 x)) (z : w.frozen? ⟨q, 0, none⟩ = false) (c' : w.cell? ⟨r, 0, none⟩ = some (.int .u64 48)) (z' : w.frozen? ⟨r, 0, none⟩ = false) : Calls Try.prog 50 #[.int .i64 p, .int .u64 8, .pointer (some ⟨q, 0, none⟩), .pointer (some ⟨r, 0, none⟩)] w fun e w' =>
    e = .returned (.int .u64 (x + p * 281474976710656)) ∧ (w.setCell ⟨q, 0, none⟩ (.int .u64 (x + p * 281474976710656))).setCell ⟨r, 0, none⟩ (.int .u64 56) = w' := by
  have m := or_join 48 x (p * 281474976710656) (by omega) (by omega) (by omega) (by omega) (by omega) (by omega)
  go_enter Try.func50, Try.ntmps50
  go_wp2
  go_ret
  exact ⟨rfl, rfl⟩
theorem lays_48_8 (x p : Int) {q r : Nat} {w0 w : World} {L : List (Nat × List Value)} (S : St w0 w L) (i j : Nat) (hij : i ≠ j) (h : L[i]? = some (q, [.int .u64 x])) (k : L[j]? = some (r, [.int .u64 48])) (x1 : 0 ≤ x) (x2 : x < 281474976710656) (p1 : 0 ≤ p) (p2 : p ≤ 255) : Calls Try.prog 50 #[.int .i64 p, .int .u64 8, .pointer (some ⟨q, 0, none⟩), .pointer (some ⟨r, 0, none⟩)] w fun e w' =>
    e = .returned (.int .u64 (x + p * 281474976710656)) ∧ St w0 w' ((L.set i (q, [.int .u64 (x + p * 281474976710656)])).set j (r, [.int .u64 56])) := by
  obtain ⟨_, c, z⟩ := S.get1 i h
  obtain ⟨_, c', z'⟩ := S.get1 j k
  refine (lay_48_8 x p q r w x1 x2 p1 p2 (S.ne i j h k hij) c z c' z').mono ?_
  rintro e w' ⟨rfl, rfl⟩
  have k' : (L.set i (q, [.int .u64 (x + p * 281474976710656)]))[j]? = some (r, [.int .u64 48]) := by rw [List.getElem?_set_ne hij]; exact k
  exact ⟨rfl, (S.put i 0 h (.int .u64 (x + p * 281474976710656)) Nat.zero_lt_one).put j 0 k' _ Nat.zero_lt_one⟩
set_option maxHeartbeats 1000000 in
theorem lay_56_8 (x p : Int) (q r : Nat) (w : World) (x1 : 0 ≤ x) (x2 : x < 72057594037927936) (p1 : 0 ≤ p) (p2 : p ≤ 255) (hqr : q ≠ r) (c : w.cell? ⟨q, 0, none⟩ = some (.int .u64 x)) (z : w.frozen? ⟨q, 0, none⟩ = false) (c' : w.cell? ⟨r, 0, none⟩ = some (.int .u64 56)) (z' : w.frozen? ⟨r, 0, none⟩ = false) : Calls Try.prog 50 #[.int .i64 p, .int .u64 8, .pointer (some ⟨q, 0, none⟩), .pointer (some ⟨r, 0, none⟩)] w fun e w' =>
    e = .returned (.int .u64 (x + p * 72057594037927936)) ∧ (w.setCell ⟨q, 0, none⟩ (.int .u64 (x + p * 72057594037927936))).setCell ⟨r, 0, none⟩ (.int .u64 64) = w' := by
  have m := or_join 56 x (p * 72057594037927936) (by omega) (by omega) (by omega) (by omega) (by omega) (by omega)
  go_enter Try.func50, Try.ntmps50
  go_wp2
  go_ret
  exact ⟨rfl, rfl⟩
theorem lays_56_8 (x p : Int) {q r : Nat} {w0 w : World} {L : List (Nat × List Value)} (S : St w0 w L) (i j : Nat) (hij : i ≠ j) (h : L[i]? = some (q, [.int .u64 x])) (k : L[j]? = some (r, [.int .u64 56])) (x1 : 0 ≤ x) (x2 : x < 72057594037927936) (p1 : 0 ≤ p) (p2 : p ≤ 255) : Calls Try.prog 50 #[.int .i64 p, .int .u64 8, .pointer (some ⟨q, 0, none⟩), .pointer (some ⟨r, 0, none⟩)] w fun e w' =>
    e = .returned (.int .u64 (x + p * 72057594037927936)) ∧ St w0 w' ((L.set i (q, [.int .u64 (x + p * 72057594037927936)])).set j (r, [.int .u64 64])) := by
  obtain ⟨_, c, z⟩ := S.get1 i h
  obtain ⟨_, c', z'⟩ := S.get1 j k
  refine (lay_56_8 x p q r w x1 x2 p1 p2 (S.ne i j h k hij) c z c' z').mono ?_
  rintro e w' ⟨rfl, rfl⟩
  have k' : (L.set i (q, [.int .u64 (x + p * 72057594037927936)]))[j]? = some (r, [.int .u64 56]) := by rw [List.getElem?_set_ne hij]; exact k
  exact ⟨rfl, (S.put i 0 h (.int .u64 (x + p * 72057594037927936)) Nat.zero_lt_one).put j 0 k' _ Nat.zero_lt_one⟩
set_option maxHeartbeats 1000000 in
theorem lay_0_8 (p : Int) (q r : Nat) (w : World) (p1 : 0 ≤ p) (p2 : p ≤ 255) (hqr : q ≠ r) (c : w.cell? ⟨q, 0, none⟩ = some (.int .u64 0)) (z : w.frozen? ⟨q, 0, none⟩ = false) (c' : w.cell? ⟨r, 0, none⟩ = some (.int .u64 0)) (z' : w.frozen? ⟨r, 0, none⟩ = false) : Calls Try.prog 50 #[.int .i64 p, .int .u64 8, .pointer (some ⟨q, 0, none⟩), .pointer (some ⟨r, 0, none⟩)] w fun e w' =>
    e = .returned (.int .u64 p) ∧ (w.setCell ⟨q, 0, none⟩ (.int .u64 p)).setCell ⟨r, 0, none⟩ (.int .u64 8) = w' := by
  have m := or_join 0 0 p (by omega) (by omega) (by omega) (by omega) (by omega) (by omega)
  simp only [Int.zero_add] at m
  go_enter Try.func50, Try.ntmps50
  go_wp2
  go_ret
  exact ⟨rfl, rfl⟩
theorem lays_0_8 (p : Int) {q r : Nat} {w0 w : World} {L : List (Nat × List Value)} (S : St w0 w L) (i j : Nat) (hij : i ≠ j) (h : L[i]? = some (q, [.int .u64 0])) (k : L[j]? = some (r, [.int .u64 0])) (p1 : 0 ≤ p) (p2 : p ≤ 255) : Calls Try.prog 50 #[.int .i64 p, .int .u64 8, .pointer (some ⟨q, 0, none⟩), .pointer (some ⟨r, 0, none⟩)] w fun e w' =>
    e = .returned (.int .u64 p) ∧ St w0 w' ((L.set i (q, [.int .u64 p])).set j (r, [.int .u64 8])) := by
  obtain ⟨_, c, z⟩ := S.get1 i h
  obtain ⟨_, c', z'⟩ := S.get1 j k
  refine (lay_0_8 p q r w p1 p2 (S.ne i j h k hij) c z c' z').mono ?_
  rintro e w' ⟨rfl, rfl⟩
  have k' : (L.set i (q, [.int .u64 p]))[j]? = some (r, [.int .u64 0]) := by rw [List.getElem?_set_ne hij]; exact k
  exact ⟨rfl, (S.put i 0 h (.int .u64 p) Nat.zero_lt_one).put j 0 k' _ Nat.zero_lt_one⟩
set_option maxHeartbeats 1000000 in
theorem lay_8_56 (x p : Int) (q r : Nat) (w : World) (x1 : 0 ≤ x) (x2 : x < 256) (p1 : 0 ≤ p) (p2 : p ≤ 72057594037927935) (hqr : q ≠ r) (c : w.cell? ⟨q, 0, none⟩ = some (.int .u64 x)) (z : w.frozen? ⟨q, 0, none⟩ = false) (c' : w.cell? ⟨r, 0, none⟩ = some (.int .u64 8)) (z' : w.frozen? ⟨r, 0, none⟩ = false) : Calls Try.prog 50 #[.int .i64 p, .int .u64 56, .pointer (some ⟨q, 0, none⟩), .pointer (some ⟨r, 0, none⟩)] w fun e w' =>
    e = .returned (.int .u64 (x + p * 256)) ∧ (w.setCell ⟨q, 0, none⟩ (.int .u64 (x + p * 256))).setCell ⟨r, 0, none⟩ (.int .u64 64) = w' := by
  have m := or_join 8 x (p * 256) (by omega) (by omega) (by omega) (by omega) (by omega) (by omega)
  go_enter Try.func50, Try.ntmps50
  go_wp2
  go_ret
  exact ⟨rfl, rfl⟩
theorem lays_8_56 (x p : Int) {q r : Nat} {w0 w : World} {L : List (Nat × List Value)} (S : St w0 w L) (i j : Nat) (hij : i ≠ j) (h : L[i]? = some (q, [.int .u64 x])) (k : L[j]? = some (r, [.int .u64 8])) (x1 : 0 ≤ x) (x2 : x < 256) (p1 : 0 ≤ p) (p2 : p ≤ 72057594037927935) : Calls Try.prog 50 #[.int .i64 p, .int .u64 56, .pointer (some ⟨q, 0, none⟩), .pointer (some ⟨r, 0, none⟩)] w fun e w' =>
    e = .returned (.int .u64 (x + p * 256)) ∧ St w0 w' ((L.set i (q, [.int .u64 (x + p * 256)])).set j (r, [.int .u64 64])) := by
  obtain ⟨_, c, z⟩ := S.get1 i h
  obtain ⟨_, c', z'⟩ := S.get1 j k
  refine (lay_8_56 x p q r w x1 x2 p1 p2 (S.ne i j h k hij) c z c' z').mono ?_
  rintro e w' ⟨rfl, rfl⟩
  have k' : (L.set i (q, [.int .u64 (x + p * 256)]))[j]? = some (r, [.int .u64 8]) := by rw [List.getElem?_set_ne hij]; exact k
  exact ⟨rfl, (S.put i 0 h (.int .u64 (x + p * 256)) Nat.zero_lt_one).put j 0 k' _ Nat.zero_lt_one⟩
end Go.Proofs.Ytgihoicppeegaaa.Heads
