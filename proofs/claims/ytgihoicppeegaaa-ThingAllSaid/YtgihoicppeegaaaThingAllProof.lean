/-
  penfoldlaw08.ThingAll returns true for every slice of words of 64 bits and every three integers, and changes nothing that was there; no condition.
-/
import Derived.Test.YtgihoicppeegaaaRows
import Derived.Test.YtgihoicppeegaaaArgs
import Derived.Test.YtgihoicppeegaaaThingT
import Derived.Deep.RegionHeld3
import Derived.Deep.DeepCutAuto
namespace Go.Proofs.Ytgihoicppeegaaa.thingAll
open Go.ChangeShapes Go.WideShapes Go.ChangeAt Go.RowKit
set_option linter.unusedVariables false

open Thing Arena Mem Ref Held
open Heads (unV firstV)
/-- What the walk carries: blocks of its own, and both arenas. -/
structure Q (w W : World) (L : List (Nat × List Value)) (N : Nat) (f f' : Nat → Int) : Prop where
  s : St w W L
  t : Two w W N f f'
theorem Q.call {w W W' : World} {L : List (Nat × List Value)} {N : Nat} {f f' : Nat → Int} (q : Q w W L N f f') (k : Below W.heap.size W W') : Q w W' L N f f' := ⟨q.s.call k, q.t.call k⟩
theorem Q.new {w W : World} {L : List (Nat × List Value)} {N : Nat} {f f' : Nat → Int} (q : Q w W L N f f') (vs : List Value) (t : TypeId) : Q w (W.alloc (.cells vs.toArray t)) ((W.heap.size, vs) :: L) N f f' := ⟨q.s.new vs t, q.t.call ((Below.refl _ _).alloc (Nat.le_refl _) _)⟩
theorem Q.drew {w W : World} {L : List (Nat × List Value)} {N : Nat} {f f' : Nat → Int} (q : Q w W L N f f') : Q w W.drew L N f f' := q.call (Below.refl _ _).drew
theorem Q.mark {w W : World} {p q b : Nat} {x y z : List Value} {N : Nat} {f f' : Nat → Int} {a : Int} (k : Q w W [(q, x), (p, y), (b, z)] N f f') (h1 : q ≠ N) (h2 : p ≠ N) (h3 : b ≠ N) (a1 : -9223372036854775808 ≤ a) (a2 : a ≤ 9223372036854775807) :
    Calls Try.prog 16 #[.pointer (some ⟨N + 1, 0, none⟩), .int .i64 a] W fun e W' => e = .returned (.int .i64 (atV 60 f a).err) ∧ Q w W' [(q, x), (p, y), (b, z)] N (markF 60 f a) f' :=
  (mark_any W _ _ 60 f a k.t.a a1 a2).mono fun e W' ⟨he, hA, hg⟩ => ⟨he, st_only k.s hg k.t.own (by simp [h1, h2, h3]), k.t.onA hg hA⟩
theorem Q.refmark {w W : World} {p q b : Nat} {x y z : List Value} {N : Nat} {f f' : Nat → Int} {a : Int} (k : Q w W [(q, x), (p, y), (b, z)] N f f') (h1 : q ≠ N + 2) (h2 : p ≠ N + 2) (h3 : b ≠ N + 2) (a1 : -9223372036854775808 ≤ a) (a2 : a ≤ 9223372036854775807) :
    Calls Try.prog 17 #[.pointer (some ⟨N + 2 + 1, 0, none⟩), .int .i64 a] W fun e W' => e = .returned (.int .i64 (atV 60 f' a).err) ∧ Q w W' [(q, x), (p, y), (b, z)] N f (markF 60 f' a) :=
  (refmark_any W _ _ 60 f' a k.t.r a1 a2).mono fun e W' ⟨he, hA, hg⟩ => ⟨he, st_only k.s hg (by have := k.t.own; omega) (by simp [h1, h2, h3]), k.t.onR hg hA⟩

set_option maxRecDepth 100000 in
set_option maxHeartbeats 8000000 in
theorem walk (lA : Option Addr) (ln lc : Nat) (lz : Nat → Int) (n0 n1 n2 : Int) (w : World) (hl : Args.Ints .u64 w lA ln lz) (wn0 : (Lit.int .i64 n0).wf = true) (wn1 : (Lit.int .i64 n1).wf = true) (wn2 : (Lit.int .i64 n2).wf = true) :
    Calls Try.prog 3 #[.slice lA ln lc, .agg #[.int .i64 n0, .int .i64 n1, .int .i64 n2]] w fun e w' => e = .returned (.bool true) ∧ Below w.heap.size w w' := by
  have ⟨a1, a2⟩ := bounds_i64 wn0
  have ⟨b1, b2⟩ := bounds_i64 wn1
  have ⟨c1, c2⟩ := bounds_i64 wn2
  clear wn0 wn1 wn2
  go_enter Try.func3, Try.ntmps3
  have S0 := (St.start w).new [.int .i64 n0, .int .i64 n1, .int .i64 n2] 23
  go_wp2_with fail
  refine (lift S0 (shown_any _)).mono ?_
  rintro z w1 ⟨rfl, S1⟩
  clear S0
  have hl1 : Args.Ints .u64 w1 lA ln lz := ⟨hl.len, hl.wf, fun i hi => by
    obtain ⟨b, o, e, hb, hc⟩ := hl.at_ i hi
    exact ⟨b, o, e, Nat.lt_of_lt_of_le hb S1.below.size, (S1.below.cell (p := ⟨b, o + i, none⟩) hb).trans hc⟩⟩
  go_wp2_with fail
  refine (laid_any _ _ _ _ _ hl1).mono ?_
  rintro z w2 ⟨rfl, f, T2⟩
  have hs1 : w.heap.size < w1.heap.size := (S1.get 0 rfl).lt
  have Q2 : Q w w2 _ w1.heap.size f f := ⟨S1.call T2.below, T2.a, T2.r, S1.below.trans (T2.below.mono S1.below.size), S1.below.size⟩
  have hsz := T2.size
  clear S1 T2 hl1 hl
  generalize w1.heap.size = N at *
  obtain ⟨L, k, hW⟩ := walked_ex (n := 60) Q2.t.a.fit n0 n2
  have hlen := walked_len Q2.t.a.fit hW
  have WK := Lib.hid hW
  clear hW
  obtain ⟨nl, n_0, n_1, n_2⟩ := Q2.s.get3 0 rfl
  go_wp2_with fail
  refine (at_any _ _ _ 60 f _ Q2.t.a a1 a2).mono ?_
  rintro z w3 ⟨rfl, k3⟩
  have Q3 := (Q2.call k3).new [.int .i64 (atV 60 f n0).s, .int .i64 (atV 60 f n0).n, .int .i64 (atV 60 f n0).t, .bool (atV 60 f n0).d, .int .i64 (atV 60 f n0).c, .int .i64 (atV 60 f n0).e] 30
  have z3 : N + 4 ≤ w3.heap.size := (Q2.call k3).t.size
  clear Q2 k3 nl n_0 n_1 n_2
  obtain ⟨nl, n_0, n_1, n_2⟩ := Q3.s.get3 1 rfl
  go_wp2_with fail
  refine (refat_any _ _ _ 60 f _ Q3.t.r a1 a2).mono ?_
  rintro z w4 ⟨rfl, k4⟩
  have Q4 := (Q3.call k4).new [.int .i64 (atV 60 f n0).s, .int .i64 (atV 60 f n0).n, .int .i64 (atV 60 f n0).t, .bool (atV 60 f n0).d, .int .i64 (atV 60 f n0).c, .int .i64 (atV 60 f n0).e] 30
  have z4 : N + 4 ≤ w4.heap.size := (Q3.call k4).t.size
  clear Q3 k4 nl n_0 n_1 n_2
  obtain ⟨nl, n_0, n_1, n_2⟩ := Q4.s.get3 2 rfl
  go_wp2_with fail
  refine (slot_any _ _ _ 60 f _ _ Q4.t.a a1 a2 b1 b2).mono ?_
  rintro z w5 ⟨rfl, k5⟩
  have Q5 := Q4.call k5
  clear Q4 k5 nl n_0 n_1 n_2
  obtain ⟨nl, n_0, n_1, n_2⟩ := Q5.s.get3 2 rfl
  go_wp2_with fail
  refine (refslot_any _ _ _ 60 f _ _ Q5.t.r a1 a2 b1 b2).mono ?_
  rintro z w6 ⟨rfl, k6⟩
  have Q6 := Q5.call k6
  clear Q5 k6 nl n_0 n_1 n_2
  obtain ⟨nl, n_0, n_1, n_2⟩ := Q6.s.get3 2 rfl
  go_wp2_with fail
  refine (walk_any _ _ _ 60 f _ _ L k Q6.t.a a1 a2 c1 c2 WK.out).mono ?_
  rintro z w7 ⟨⟨v, rfl, hv⟩, k7⟩
  obtain ⟨A, c, rfl, hr⟩ := hv.reads
  have Q7 := Q6.call k7
  clear Q6 k7 nl n_0 n_1 n_2 hv
  obtain ⟨nl, n_0, n_1, n_2⟩ := Q7.s.get3 2 rfl
  go_wp2_with fail
  refine (refwalk_any _ _ _ 60 f _ _ L k Q7.t.r a1 a2 c1 c2 WK.out).mono ?_
  rintro z w8 ⟨⟨v, rfl, hv⟩, k8⟩
  obtain ⟨A', c', rfl, hr'⟩ := hv.reads
  have hr8 := hr.below k8
  have Q8 := Q7.call k8
  clear Q7 k8 nl n_0 n_1 n_2 hv hr
  go_wp2_with fail
  refine (ints_any _ _ _ _ _ L (by omega) hr8 hr').mono ?_
  rintro z w9 ⟨rfl, k9⟩
  have Q9 := Q8.call k9
  clear Q8 k9 hr' hr8
  obtain ⟨nl, n_0, n_1, n_2⟩ := Q9.s.get3 2 rfl
  obtain ⟨pl, p0, p1, p2, p3, p4, p5⟩ := Q9.s.get6 1 rfl
  obtain ⟨ql, q0, q1, q2, q3, q4, q5⟩ := Q9.s.get6 0 rfl
  have D9 := Q9.drew
  have NE1 : w4.heap.size ≠ N ∧ w3.heap.size ≠ N ∧ w.heap.size ≠ N := by omega
  have NE2 : w4.heap.size ≠ N + 2 ∧ w3.heap.size ≠ N + 2 ∧ w.heap.size ≠ N + 2 := by omega
  obtain ⟨e1, e2, e3⟩ := NE1
  obtain ⟨e4, e5, e6⟩ := NE2
  go_wp2_with fail
  go_region_held3 (fun w' => w'.cell? ⟨w.heap.size, 0, none⟩ = some (.int .i64 n0) ∧ w'.cell? ⟨w3.heap.size, 0, none⟩ = some (.int .i64 (atV 60 f n0).s) ∧ w'.cell? ⟨w3.heap.size, 1, none⟩ = some (.int .i64 (atV 60 f n0).n) ∧ w'.cell? ⟨w3.heap.size, 2, none⟩ = some (.int .i64 (atV 60 f n0).t) ∧ w'.cell? ⟨w3.heap.size, 3, none⟩ = some (.bool (atV 60 f n0).d) ∧ w'.cell? ⟨w3.heap.size, 4, none⟩ = some (.int .i64 (atV 60 f n0).c) ∧ w'.cell? ⟨w3.heap.size, 5, none⟩ = some (.int .i64 (atV 60 f n0).e) ∧ w'.cell? ⟨w4.heap.size, 0, none⟩ = some (.int .i64 (atV 60 f n0).s) ∧ w'.cell? ⟨w4.heap.size, 1, none⟩ = some (.int .i64 (atV 60 f n0).n) ∧ w'.cell? ⟨w4.heap.size, 2, none⟩ = some (.int .i64 (atV 60 f n0).t) ∧ w'.cell? ⟨w4.heap.size, 3, none⟩ = some (.bool (atV 60 f n0).d) ∧ w'.cell? ⟨w4.heap.size, 4, none⟩ = some (.int .i64 (atV 60 f n0).c) ∧ w'.cell? ⟨w4.heap.size, 5, none⟩ = some (.int .i64 (atV 60 f n0).e))
    (first | exact ⟨n_0, p0, p1, p2, p3, p4, p5, q0, q1, q2, q3, q4, q5⟩ | exact ⟨m_0, r0, r1, r2, r3, r4, r5, s0, s1, s2, s3, s4, s5⟩ | exact ⟨o_0, t0, t1, t2, t3, t4, t5, v0, v1, v2, v3, v4, v5⟩)
    (first | (go_at_call 16; refine (Q.mark (by assumption) e1 e2 e3 a1 a2).mono ?_; rintro z w10 ⟨rfl, QA⟩; have ⟨ml, m_0, m_1, m_2⟩ := QA.s.get3 2 rfl; have ⟨rl, r0, r1, r2, r3, r4, r5⟩ := QA.s.get6 1 rfl; have ⟨sl, s0, s1, s2, s3, s4, s5⟩ := QA.s.get6 0 rfl) | (go_at_call 17; refine (Q.refmark (by assumption) e4 e5 e6 a1 a2).mono ?_; rintro z w11 ⟨rfl, QB⟩; have ⟨ol, o_0, o_1, o_2⟩ := QB.s.get3 2 rfl; have ⟨tl, t0, t1, t2, t3, t4, t5⟩ := QB.s.get6 1 rfl; have ⟨vl, v0, v1, v2, v3, v4, v5⟩ := QB.s.get6 0 rfl))
  go_wp2_with fail
  go_loop [21] (fun t => ∃ j : Nat, j ≤ 60 ∧ t = .int .i64 j) (fun t => 60 - (intOf t).toNat)
  case atStart => exact ⟨0, by omega, rfl⟩
  case round =>
    obtain ⟨j, hj, rfl⟩ := hrel
    by_cases hlt : j < 60
    · have c0 := QB.t.r.cell
      have c1 := QB.t.r.body.cell hlt
      go_wp2_with fail
      refine (word_ok _ _ _ 60 j _ _ QB.t.a hlt rfl).mono ?_
      rintro z w12 ⟨rfl, rfl⟩
      go_wp2_with fail
      go_round
      case rel => exact ⟨j + 1, by omega, by go_num⟩
      case measure => simp [intOf]; omega
    · obtain rfl : j = 60 := by omega
      go_wp2
      go_ret
      exact ⟨rfl, QB.s.below⟩

set_option maxRecDepth 100000 in
theorem lifted (os : Os) (started : os.Started) (H : Type) (enc : TypeId × Value → H) :
    ReturnsInHanded {} Try.checked os 3 .any (Rows.thingAllSpec.pre6 enc Try.prog Try.f3 Rows.thingAllRow.domain false) (Rows.thingAllSpec.post enc Try.prog Try.f3 false true false false) := by
  refine returnsInHanded_of_change (C := Try.checked) Args.own started (by kernel_rfl) Try.func3
    (ChangeSpec.witness6 (enc := enc) (C := Try.checked) false ⟨#[], #[.slice none 0 0, .agg #[.int .i64 0, .int .i64 0, .int .i64 0]], []⟩ 8 (by kernel_rfl) (by kernel_rfl) (by kernel_rfl) (by kernel_rfl)) ?_
  intro W base args ds gs before hval0 hW hcnd _
  have hval : ∀ (j : Nat) t v, Try.f3.params[j]? = some t → args[j]? = some v → Value.okWide Try.prog W .any base t v := hval0
  have hW' := hW
  obtain ⟨p, q, hA0, hV, rfl, hfz, hnd⟩ := hW
  have hA : DataW.TrodAll enc Try.prog W 0 (fun _ => true) true Try.f3.params.toList args.toList ds p := hA0
  rw [Try.params3] at hA hval
  obtain ⟨v0, vs0, d0, ds0, p0, q0, hargs, rfl, rfl, h0, r0⟩ := trodAll_cons hA
  obtain ⟨v1, vs1, d1, ds1, p1, q1, rfl, rfl, rfl, h1, r1⟩ := trodAll_cons r0
  obtain ⟨rfl, rfl, rfl⟩ := trodAll_nil r1
  obtain rfl : args = #[v0, v1] := by cases args; simp_all
  obtain ⟨rfl, rfl⟩ := trodVars_none hV
  have lt0 := Args.trod_below h0
  obtain ⟨lA, ln, lc, lz, rfl, hl⟩ := Args.ints_in (k := .u64) (e := 45) (by kernel_rfl) (by kernel_rfl) (by kernel_rfl) (hval 0 22 v0 rfl rfl) h0
  have lt1 := Args.trod_below h1
  obtain ⟨nz, hv1, hn⟩ := Args.arr_in (m := 3) (k := .i64) (e := 3) (by kernel_rfl) (by kernel_rfl) (by kernel_rfl) (by kernel_rfl) (hval 1 23 v1 rfl rfl) h1
  obtain rfl : v1 = .agg #[.int .i64 (nz 0), .int .i64 (nz 1), .int .i64 (nz 2)] := hv1.trans (by kernel_rfl)
  clear hA0 hval0
  refine (walk lA ln lc lz (nz 0) (nz 1) (nz 2) W hl (hn 0) (hn 1) (hn 2)).mono fun e W' ⟨he, bel⟩ => ?_
  subst he
  exact ⟨_, rfl, _, _, _, [], _, [], hW', trodAll_mk1 (shut_bool Try.underlying4 _), trodAll_cons_mk (Below.trod Args.laidOut (by kernel_rfl) (of_decide_eq_true (by kernel_rfl)) h0 bel lt0) (trodAll_cons_mk (Below.trod Args.laidOut (by kernel_rfl) (of_decide_eq_true (by kernel_rfl)) h1 bel lt1) (trodAll_mk0)), rfl, bel.frame _, fun h => by cases h⟩

theorem over : Rows.thingAllRow.holds Try.pinned (OpenSpec.ofChange Rows.thingAllSpec) :=
  OpenClaim.holds_of_wide 3 Try.f3 rfl rfl rfl rfl rfl rfl rfl ⟨rfl, rfl, rfl, rfl, rfl⟩ rfl rfl rfl rfl rfl (by kernel_rfl) Try.func3 (by kernel_rfl)
    (of_decide_eq_true (by kernel_rfl)) (by unfold Func.isWrapper; rw [if_neg (of_decide_eq_false (by kernel_rfl))]; exact ⟨rfl, rfl⟩)
    (fun os started H enc _ => lifted os started H enc)

theorem proved : Rows.ThingAllSaid :=
  over
end Go.Proofs.Ytgihoicppeegaaa.thingAll
