/-
  copy between slices of any element, onto a row of one's own (run_copyK; a law for the walk, a step for a drawn region); slices.Repeat of one record.
-/
import Derived.Test.YtneggppfffekdaaGreatScoM
import Derived.Laws.CopyRow
import Derived.Laws.MakeOwn
import Derived.Deep.RegionLaw
namespace Go.Proofs.YtneggppfffekdaaGreat.Sco
open Go.ChangeShapes Go.WideShapes Go.ChangeAt Go.RowKit
open Slic Gm
set_option linter.unusedVariables false
set_option maxRecDepth 8000
set_option linter.unusedSimpArgs false
attribute [local go_sem ↓] Go.wp_at_zero Go.wp_at_succ

section
variable {α : Type} {Q : Kd α}
theorem flat_take (L : List α) (i : Nat) (h : i ≤ L.length) : (Q.flat L).take (i * Q.m) = Q.flat (L.take i) := by
  conv => lhs; rw [← List.take_append_drop i L, flat_append]
  have e : (Q.flat (L.take i)).length = i * Q.m := by rw [flat_len, List.length_take, Nat.min_eq_left h]
  rw [← e, List.take_left]
theorem flat_drop (L : List α) (i : Nat) (h : i ≤ L.length) : (Q.flat L).drop (i * Q.m) = Q.flat (L.drop i) := by
  conv => lhs; rw [← List.take_append_drop i L, flat_append]
  have e : (Q.flat (L.take i)).length = i * Q.m := by rw [flat_len, List.length_take, Nat.min_eq_left h]
  rw [← e, List.drop_left]
theorem take_splice (l cs : List Value) (o N : Nat) (h : o + cs.length ≤ N) (hN : N ≤ l.length) : (l.take o ++ cs ++ l.drop (o + cs.length)).take N = (l.take N).take o ++ cs ++ (l.take N).drop (o + cs.length) := by
  rw [List.take_append, List.take_of_length_le (by simp; omega), List.take_take, Nat.min_eq_left (by omega), List.drop_take]
  congr 2
  simp
  omega
/-- What is copied onto a row. -/
def over (L M : List α) (off k : Nat) : List α := L.take off ++ M.take k ++ L.drop (off + k)
theorem over_len (L M : List α) (off k : Nat) (h : off + k ≤ L.length) (hk : k ≤ M.length) : (over L M off k).length = L.length := by
  unfold over
  simp
  omega
theorem run_copyK (w : World) {base g n c : Nat} {L : List α} (h : Own Q w base (.slice (some ⟨g, 0, none⟩) n c) L) (hn : L.length = n) {x : Value} {M : List α} (hx : Sr Q w x M) (off dLen dCap : Nat) (hd : off + dLen ≤ n) (ty : TypeId) (hpos : 0 < M.length) :
    ∃ w', (Builtin.copy_ #[Q.X, Q.X] ty #[.slice (some ⟨g, off * Q.m, none⟩) dLen dCap, x]).run Tryz.prog w = .ok (goInt (min M.length dLen : Nat)) w' ∧ Own Q w' base (.slice (some ⟨g, 0, none⟩) n c) (over L M off (min M.length dLen)) ∧ w.grownBy w' (some g) := by
  obtain ⟨i0, hi, hz0, hz1, hz2⟩ := info_parts Q.info
  obtain ⟨A, d, rfl, x1, x2, x3, hx'⟩ := hx
  obtain ⟨g', o', rfl, hg', hc'⟩ := hx' hpos
  subst hn
  have hsrc := flat_cells hc'
  rcases h.2 with ⟨e, _⟩ | ⟨g1, cap, cur, e, hb, hgg, r1, r2, r3, r4⟩
  · cases e
  injection e with e1 e2 e3
  injection e1 with e1
  injection e1 with e1
  subst e1 e3
  have hk : min M.length dLen ≤ M.length := Nat.min_le_left _ _
  have hk2 : off + min M.length dLen ≤ L.length := by have := Nat.min_le_right M.length dLen; omega
  generalize hkk : min M.length dLen = k at *
  have cl : (Q.flat (M.take k)).length = k * Q.m := by rw [flat_len, List.length_take, Nat.min_eq_left hk]
  have hN : off * Q.m + k * Q.m ≤ L.length * Q.m := by rw [← Nat.add_mul]; exact Nat.mul_le_mul_right _ hk2
  have hcur : L.length * Q.m ≤ cur.size := by rw [r3]; exact Nat.mul_le_mul_right _ r1
  have hl := run_loadCells_list (P := Tryz.prog) w ⟨g', o', none⟩ (Q.flat (M.take k)) (fun j v hv => hsrc j v (by
    have hj : j < k * Q.m := by
      rcases Nat.lt_or_ge j (k * Q.m) with q | q
      · exact q
      · rw [List.getElem?_eq_none (by rw [cl]; exact q)] at hv; cases hv
    rw [← flat_take M k hk, List.getElem?_take, if_pos hj] at hv
    exact hv))
  have hst := run_storeCells_at Tryz.prog g (off * Q.m) Q.T (Q.flat (M.take k)) 0 cur w hgg (by rw [cl]; omega) (flat_one _)
  rw [Nat.add_zero, cl] at hst
  rw [cl] at hl
  have ol := over_len L M off k hk2 hk
  rw [List.append_assoc] at hst
  refine ⟨w.setRow g (cur.toList.take (off * Q.m) ++ (Q.flat (M.take k) ++ cur.toList.drop (off * Q.m + k * Q.m))).toArray, ?_, ?_, ⟨rfl, rfl, rfl, by simp [World.setRow], fun j hj hne => setRow_other w g j _ (fun e => hne (by rw [e]))⟩⟩
  · have hmin : Nat.min M.length dLen = k := hkk
    simp [Builtin.copy_, run_underlying Q.under, Builtin.lenOf, Builtin.firstCells, sizeOf, typeInfo, hi, hz1, hmin, hl, hst]
  · unfold Own
    rw [ol]
    refine ⟨by rw [flat_len, ol], .inr ⟨g, c, _, rfl, hb, setRow_heap w g cur _ Q.T _ hgg, r1, r2, ?_, ?_⟩⟩
    · simp [cl]
      omega
    · have := take_splice cur.toList (Q.flat (M.take k)) (off * Q.m) (L.length * Q.m) (by rw [cl]; exact hN) (by simpa using hcur)
      rw [cl] at this
      rw [List.append_assoc] at this
      rw [List.toList_toArray, this, r4, flat_take L off (by omega), ← Nat.add_mul, flat_drop L (off + k) hk2]
      unfold over
      rw [flat_append, flat_append]
theorem wpList_copyK {w : World} {ops : Array Oper} {rest : List Oper} {o : Oper} {a : Act} {P : Exit → Act → World → Prop} (hgd : o.guard = none) (s x : Operand)
    (ho : o.op = .call { callee := .builtin .copy, args := #[s, x], argTypes := #[Q.X, Q.X] }) {base g n c : Nat} {L : List α} (h : Own Q w base (.slice (some ⟨g, 0, none⟩) n c) L) (hn : L.length = n) {y : Value} {M : List α} (hx : Sr Q w y M) (off dLen dCap : Nat) (hd : off + dLen ≤ n) (hpos : 0 < M.length) (k : Nat) (hk : min M.length dLen = k)
    (hs : a.eval s = .slice (some ⟨g, off * Q.m, none⟩) dLen dCap) (hy : a.eval x = y)
    (hK : ∀ w', Own Q w' base (.slice (some ⟨g, 0, none⟩) n c) (over L M off k) → w.grownBy w' (some g) → wpList Tryz.prog ops P rest (a.put o.dst (goInt (k : Nat))) w') : wpList Tryz.prog ops P (o :: rest) a w := by
  subst hk
  obtain ⟨w', hrun, r1, r2⟩ := run_copyK w h hn hx off dLen dCap hd o.type hpos
  refine wpList_plain hgd fun J hJ => ?_
  unfold Oper.wp
  simp [execOp, ho, resolve, invoke, builtin, hs, hy, hrun, Result.andThen]
  exact hJ _ _ (by simpa using hK w' r1 r2)
theorem step_copyK {ops : Array Oper} {o : Oper} {a : Act} {w : World} {J : Act → World → Prop} {P : Exit → Act → World → Prop} {E : Prop} (hgd : o.guard = none) (s x : Operand)
    (ho : o.op = .call { callee := .builtin .copy, args := #[s, x], argTypes := #[Q.X, Q.X] }) {base g n c : Nat} {L : List α} (h : Own Q w base (.slice (some ⟨g, 0, none⟩) n c) L) (hn : L.length = n) {y : Value} {M : List α} (hx : Sr Q w y M) (off dLen dCap : Nat) (hd : off + dLen ≤ n) (hpos : 0 < M.length) (k : Nat) (hk : min M.length dLen = k)
    (hs : a.eval s = .slice (some ⟨g, off * Q.m, none⟩) dLen dCap) (hy : a.eval x = y)
    (hK : ∀ w', Own Q w' base (.slice (some ⟨g, 0, none⟩) n c) (over L M off k) → w.grownBy w' (some g) → J (a.put o.dst (goInt (k : Nat))) w') : if Region.wanted o (yielded ops a.tmps) = true then Oper.wp Tryz.prog o a w J P else E := by
  have hw : Region.wanted o (yielded ops a.tmps) = true := by simp [Region.wanted, hgd]
  rw [if_pos hw]
  subst hk
  obtain ⟨w', hrun, r1, r2⟩ := run_copyK w h hn hx off dLen dCap hd o.type hpos
  unfold Oper.wp
  simp [execOp, ho, resolve, invoke, builtin, hs, hy, hrun, Result.andThen]
  exact hK w' r1 r2
end

def z0 : Cx := ⟨0, 0, 0, 0, 0, 0⟩
theorem flat_zero (n : Nat) : kD.flat (List.replicate n z0) = List.replicate (n * 6) (.int .i64 0) := by
  induction n with
  | zero => rfl
  | succ n ih =>
    have e : List.replicate (n + 1) z0 = [z0] ++ List.replicate n z0 := rfl
    rw [e, flat_append, ih, show (n + 1) * 6 = 6 + n * 6 by omega, ← List.replicate_append_replicate]
    rfl
theorem made_zero (n : Nat) : (madeCells #[.int .i64 0, .int .i64 0, .int .i64 0, .int .i64 0, .int .i64 0, .int .i64 0] (n * 6)).toList = List.replicate (n * 6) (.int .i64 0) := by
  rw [List.eq_replicate_iff]
  refine ⟨by simp [madeCells], fun b hb => ?_⟩
  simp only [madeCells, Array.toList_map, List.mem_map] at hb
  obtain ⟨i, _, rfl⟩ := hb
  have : i % 6 = 0 ∨ i % 6 = 1 ∨ i % 6 = 2 ∨ i % 6 = 3 ∨ i % 6 = 4 ∨ i % 6 = 5 := by omega
  rcases this with h | h | h | h | h | h <;> simp [h]
theorem make_any (n : Nat) (hn : n ≤ 8) (W : World) : (Instr.makeSlice 107 (.int .i64 (n : Int)) (.int .i64 (n : Int))).run Tryz.prog W =
    .ok (.slice (some ⟨W.heap.size, 0, none⟩) n n) (W.alloc (.cells (madeCells #[.int .i64 0, .int .i64 0, .int .i64 0, .int .i64 0, .int .i64 0, .int .i64 0] (n * 6)) 157)) := by
  obtain ⟨i0, hi, hz0, hz1, hz2⟩ := info_parts kD.info
  have h := run_make (P := Tryz.prog) W 107 157 i0 _ kD.under hi hz0 .i64 .i64 (n : Int) (n : Int) (by omega) (by omega) (by rw [hz2]; show ((48 : Nat) : Int) * _ ≤ _; omega) (by omega)
  rw [hz1, show (n : Int).toNat = n by omega] at h
  exact h
theorem own_made (n : Nat) (w : World) (b : Nat) (hb : b ≤ w.heap.size) (hn : n ≤ 8) : Own kD (w.alloc (.cells (madeCells #[.int .i64 0, .int .i64 0, .int .i64 0, .int .i64 0, .int .i64 0, .int .i64 0] (n * 6)) 157)) b (.slice (some ⟨w.heap.size, 0, none⟩) n n) (List.replicate n z0) :=
  Own.lit (K := kD) w b hb _ _ ((made_zero n).trans (flat_zero n).symm) (by simp [maxLen]; omega) n (by simp)

theorem mul_hi (n : Int) (n1 : 1 ≤ n) (n8 : n ≤ 8) : IntKind.u64.wrap (n / 4294967296 / 4294967296 + IntKind.u64.wrap (bits .and .u64 (n / 4294967296) 4294967295 + n / 4294967296) / 4294967296) = 0 := by
  rw [show n / 4294967296 = 0 by omega]
  decide
set_option maxHeartbeats 1000000 in
theorem mul64_any (n : Int) (w : World) (n1 : 1 ≤ n) (n8 : n ≤ 8) :
    Calls Tryz.prog 117 #[.int .u64 1, .int .u64 n] w fun e w' => e = .returned (.tuple #[.int .u64 0, .int .u64 n]) ∧ w = w' := by
  have m1 : bits .and .u64 1 4294967295 = 1 := by decide
  have mn : bits .and .u64 n 4294967295 = n := (Ctl.mask_u64 32 n (by omega) (by omega)).trans (by omega)
  have m0 : bits .and .u64 0 4294967295 = 0 := by decide
  have K := Lib.hid (mul_hi n n1 n8)
  go_enter Tryz.func117, Tryz.ntmps117
  go_wp2
  go_ret2
  exact ⟨by rw [K.out]; rfl, rfl⟩
set_option maxHeartbeats 1000000 in
theorem mul_any (n : Int) (w : World) (n1 : 1 ≤ n) (n8 : n ≤ 8) :
    Calls Tryz.prog 93 #[.int .u64 1, .int .u64 n] w fun e w' => e = .returned (.tuple #[.int .u64 0, .int .u64 n]) ∧ w = w' := by
  go_enter Tryz.func93, Tryz.ntmps93
  go_wp2_with (go_at_call 117; refine (mul64_any _ _ n1 n8).mono ?_; rintro e w' ⟨rfl, rfl⟩)
  go_ret2
  exact ⟨rfl, rfl⟩
theorem slice_lo (Q : Kd Cx) (g n c lo : Nat) (hlo : lo ≤ n) (hn : n ≤ c) (hc : lo < c) : (∀ W, (Instr.slice Q.X (.slice (some ⟨g, 0, none⟩) n c) (some (.int .i64 (lo : Int))) none none).run Tryz.prog W = .ok (.slice (some ⟨g, lo * Q.m, none⟩) (n - lo) (c - lo)) W) ∧
    (∀ W, (Instr.sliceAt Q.X (.slice (some ⟨g, 0, none⟩) n c) (some (.int .i64 (lo : Int))) none none).run Tryz.prog W = .ok (.slice (some ⟨g, lo * Q.m, none⟩) (n - lo) (c - lo)) W) := by
  have run : ∀ W, (Instr.slice Q.X (.slice (some ⟨g, 0, none⟩) n c) (some (.int .i64 (lo : Int))) none none).run Tryz.prog W = .ok (.slice (some ⟨g, lo * Q.m, none⟩) (n - lo) (c - lo)) W := by
    intro W
    rw [run_slice_l W Q.X _ n c (under_X Q) .i64 lo (by omega) (by omega), size_X Q]
    simp [Result.andThen, sliced, Nat.ne_of_gt hc, Addr.add_lit]
  exact ⟨run, fun W => (run_sliceAt_slice W Q.X _ _ _ _ (under_X Q)).trans (run W)⟩
theorem over_rep (x : Cx) (n k m : Nat) (hm : k + m ≤ n) (hmk : m ≤ k) : over (List.replicate k x ++ List.replicate (n - k) z0) (List.replicate k x) k m = List.replicate (k + m) x ++ List.replicate (n - (k + m)) z0 := by
  have e1 : (List.replicate k x ++ List.replicate (n - k) z0).take k = List.replicate k x := by rw [List.take_append_of_le_length (by simp)]; simp
  have e2 : (List.replicate k x).take m = List.replicate m x := by rw [List.take_replicate, Nat.min_eq_left hmk]
  have e3 : (List.replicate k x ++ List.replicate (n - k) z0).drop (k + m) = List.replicate (n - (k + m)) z0 := by
    rw [List.drop_append, List.drop_replicate, List.drop_replicate, List.length_replicate, show k - (k + m) = 0 by omega, show n - k - (k + m - k) = n - (k + m) by omega]
    rfl
  unfold over
  rw [e1, e2, e3, List.replicate_append_replicate]

set_option maxRecDepth 8000 in
set_option maxHeartbeats 1500000 in
theorem repeat_any (w : World) (q d n : Nat) (x : Cx) (hx : Sr kD w (.slice (some ⟨q, 0, none⟩) 1 d) [x]) (n1 : 1 ≤ n) (n8 : n ≤ 8) :
    Calls Tryz.prog 67 #[.slice (some ⟨q, 0, none⟩) 1 d, .int .i64 (n : Int)] w fun e w' => ∃ g, e = .returned (.slice (some ⟨g, 0, none⟩) n n) ∧ w.heap.size ≤ g ∧ Own kD w' w.heap.size (.slice (some ⟨g, 0, none⟩) n n) (List.replicate n x) ∧ Below w.heap.size w w' := by
  have mk := make_any n n8
  have O0 := own_made n w w.heap.size (Nat.le_refl _) n8
  have wn : IntKind.u64.wrap (n : Int) = (n : Int) := Ctl.wraps_u64 _ (by omega) (by omega)
  go_enter Tryz.func67, Tryz.ntmps67
  go_wp2_with (first
    | (go_at_call 93; refine (mul_any _ _ (by omega) (by omega)).mono ?_; rintro e w' ⟨rfl, rfl⟩)
    | (refine wpList_copyK (Q := kD) (o := ⟨some 33, _, _, _, _, _⟩) rfl (.tmp 31) (.tmp 32) rfl O0 (by simp) (hx.alloc _) 0 n n (by omega) (by simp) 1 (by simp; omega) rfl rfl ?_; intro w1 O1 G1))
  have O1' : Own kD w1 w.heap.size (.slice (some ⟨w.heap.size, 0, none⟩) n n) (List.replicate 1 x ++ List.replicate (n - 1) z0) := by
    have e : over (List.replicate n z0) [x] 0 1 = List.replicate 1 x ++ List.replicate (n - 1) z0 := by simp [over]
    rw [← e]
    exact O1
  have B1 : Below w.heap.size w w1 := ((Below.refl w.heap.size w).alloc (Nat.le_refl _) _).grown G1 (by simp) (fun j e => by injection e with e; omega)
  clear O1 G1 O0
  go_loopw [8] (fun t wr => ∃ k : Nat, 1 ≤ k ∧ k ≤ n ∧ t = .int .i64 (k : Int) ∧ Own kD wr w.heap.size (.slice (some ⟨w.heap.size, 0, none⟩) n n) (List.replicate k x ++ List.replicate (n - k) z0) ∧ Below w.heap.size w wr) (fun t _ => n - (intOf t).toNat)
  case atStart => exact ⟨1, by omega, n1, rfl, O1', B1⟩
  case round =>
    obtain ⟨k, k1, kn, rfl, O, hb⟩ := hrel
    by_cases hlt : k < n
    · obtain ⟨m, hm⟩ : ∃ m, min k (n - k) = m := ⟨_, rfl⟩
      have hm1 : m ≤ k := by omega
      have hm2 : k + m ≤ n := by omega
      have hm0 : 0 < m := by omega
      have sl := slice_lo kD w.heap.size n n k (by omega) (by omega) hlt
      have sh := Slic.slice_h kD (some ⟨w.heap.size, 0, none⟩) n n k (by omega)
      have wk : IntKind.i64.wrap ((k : Int) + (m : Int)) = ((k + m : Nat) : Int) := by rw [IntWalk.i64_in _ (by omega)]; omega
      have SRC : Sr kD wr (.slice (some ⟨w.heap.size, 0, none⟩) k n) (List.replicate k x) := by
        have := O.sr.part (k := k) (c' := n) (by simp) (by omega) (by omega)
        rw [List.take_append_of_le_length (by simp), List.take_of_length_le (by simp)] at this
        exact this
      have HO := Lib.hid (over_rep x n k m hm2 hm1)
      have hz := hb.size
      have eN : (if n = k then (some ⟨w.heap.size, 0, none⟩ : Option Addr) else some ⟨w.heap.size, k * 6, none⟩) = some ⟨w.heap.size, k * 6, none⟩ := if_neg (by omega)
      go_wp2_with fail
      go_region_law
        ((refine step_copyK (Q := kD) (by rfl) (.tmp 41) (.tmp 44) (by rfl) (base := w.heap.size) (L := List.replicate k x ++ List.replicate (n - k) z0) (M := List.replicate k x) (g := w.heap.size) (n := n) (c := n) (O.below (Below.refl wr.heap.size wr).drew) (by simp; omega) SRC.drew k (n - k) (n - k) (by omega) (by simp; omega) m (by simpa using hm) (by simp [Act.put, Act.eval, kD]) (by simp [Act.put, Act.eval]) ?_; intro w2 O2 G2))
      all_goals
        rw [HO.out] at O2
        have B2 := hb.drew.grown G2 hz (fun j e => by injection e with e; omega)
        simp [Act.put]
        go_wp2
        go_roundw
        case rel => exact ⟨k + m, by omega, hm2, congrArg (Value.int IntKind.i64) (by omega), O2, B2⟩
        case measure => simp [intOf]; omega
    · obtain rfl : k = n := by omega
      have e : List.replicate k x ++ List.replicate (k - k) z0 = List.replicate k x := by simp
      rw [e] at O
      go_wp2
      go_ret
      exact ⟨_, rfl, Nat.le_refl _, O, hb⟩
end Go.Proofs.YtneggppfffekdaaGreat.Sco
