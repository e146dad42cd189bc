/-
  Contracts of the document's model: Handle, Slots, check, value.
-/
import Derived.Test.YtbpmnjmegffllaaGreatDn
namespace Go.Proofs.YtbpmnjmegffllaaGreat.Mod
open Go.ChangeShapes Go.WideShapes Go.ChangeAt Go.RowKit
open Slic Sco
set_option linter.unusedVariables false
set_option linter.unusedSimpArgs false
set_option maxRecDepth 8000
theorem un_ok {h : Int} (h0 : 0 ≤ h) : Refs.unV h = ⟨0, 0, 0, 18⟩ ∨ ∃ (s : Nat) (e a : Int), Refs.unV h = ⟨(s : Int), e, a, 0⟩ ∧ Refs.rightB (s : Int) e a = true ∧ Refs.handle (s : Int) e a = h := by
  by_cases hb : Refs.unB h = true
  · right
    have hr := hb
    unfold Refs.unB at hr
    refine ⟨(h / 16777216 % 256).toNat, h / 4294967296, 8 * (h % 16777216), ?_⟩
    rw [show (((h / 16777216 % 256).toNat : Nat) : Int) = h / 16777216 % 256 by omega]
    refine ⟨by unfold Refs.unV; rw [if_pos hb], hr, ?_⟩
    unfold Refs.handle
    omega
  · left
    unfold Refs.unV
    rw [if_neg hb]
section
variable {w w' : World} {X : Dx} {p : Dp} {m : Mo} {Z : Fx} {k : Nat}
theorem obs_fi (m : Mo) (h : Int) : (fiV m.O h = -1 ∧ m.obs h = none) ∨ ∃ (i : Nat) (o : Ob), fiV m.O h = (i : Int) ∧ m.O[i]? = some o ∧ m.obs h = some o ∧ o.h = h := by
  unfold fiV Mo.obs
  by_cases hl : m.O.findIdx (fun o => o.h == h) < m.O.length
  · right
    rw [if_pos hl]
    refine ⟨_, _, rfl, List.getElem?_eq_getElem hl, ?_, ?_⟩
    · rw [List.find?_eq_some_iff_getElem]
      refine ⟨List.findIdx_getElem (w := hl), _, hl, rfl, fun j hj => ?_⟩
      have := List.not_of_lt_findIdx hj
      simpa using this
    · have := List.findIdx_getElem (w := hl)
      simpa using this
  · left
    rw [if_neg hl]
    refine ⟨rfl, List.find?_eq_none.2 fun o ho hh => hl ?_⟩
    exact List.findIdx_lt_length.2 ⟨o, ho, hh⟩
def ckI (m : Mo) (L : List Chain.E) (h : Int) : Int := if m.chk L h = 0 then fiV m.O h else 0
def ckS (m : Mo) (L : List Chain.E) (h : Int) : Int := if m.chk L h = 0 then (Refs.unV h).s else 0
theorem ck_no {m : Mo} {L : List Chain.E} {h : Int} {c : Int} (hc : m.chk L h = c) (h0 : c ≠ 0) : ckI m L h = 0 ∧ ckS m L h = 0 ∧ m.chk L h = c := by
  unfold ckI ckS
  rw [hc, if_neg h0, if_neg h0]
  exact ⟨rfl, rfl, rfl⟩
theorem ck_yes {m : Mo} {L : List Chain.E} {h : Int} (hc : m.chk L h = 0) : ckI m L h = fiV m.O h ∧ ckS m L h = (Refs.unV h).s := by
  unfold ckI ckS
  rw [if_pos hc, if_pos hc]
  exact ⟨rfl, rfl⟩
theorem chk_un {m : Mo} {L : List Chain.E} {h : Int} (e : Refs.unV h = ⟨0, 0, 0, 18⟩) : m.chk L h = 18 := by
  unfold Mo.chk
  rw [e]
  rfl
theorem chk_of {m : Mo} {L : List Chain.E} {h s e a : Int} (u : Refs.unV h = ⟨s, e, a, 0⟩) : m.chk L h = if (seeC m.F.R s).x ≠ 0 then 18 else if Chain.reachV L s = false then 20 else if e ≠ (seeC m.F.R s).e then 19 else if (m.obs h).isSome = false then 18 else 0 := by
  unfold Mo.chk
  rw [u]
  rfl
abbrev tell3 (a b c : Int) : Ending := .returned (.tuple #[.int .i64 a, .int .i64 b, .int .i64 c])
theorem ret3 {a b c a' b' c' : Int} (h1 : a = a') (h2 : b = b') (h3 : c = c') : tell3 a b c = tell3 a' b' c' := by rw [h1, h2, h3]
set_option maxHeartbeats 4000000 in
theorem refcheck_any (h : Rm w X p m) (v : Iv Z k m) (hk : k ≤ 10000) (hn : Z.n = X.n) {t : Nat} (ht : t < 4) {h0 : Int} (hx : wf64 h0) :
    Calls Tryz.prog 125 #[ptrX X, .int .i64 (t : Int), .int .u64 h0] w fun z w' => z = tell3 (ckI m (m.ents t) h0) (ckS m (m.ents t) h0) (m.chk (m.ents t) h0) ∧ Rm w' X p m ∧ Below w.heap.size w w' := by
  have n8 := v.n8
  have ti : (t : Int) < 4 := by omega
  have t0 : (0 : Int) ≤ (t : Int) := by omega
  rcases un_ok (h := h0) hx.1 with hu | ⟨s, e, a, hu, hr, hh⟩
  · obtain ⟨k1, k2, k3⟩ := ck_no (chk_un (m := m) (L := m.ents t) hu) (by decide)
    have KK := Lib.hid (show tell3 (ckI m (m.ents t) h0) (ckS m (m.ents t) h0) (m.chk (m.ents t) h0) = tell3 0 0 18 from ret3 k1 k2 k3)
    have HU := Lib.hid hu
    clear k1 k2 k3 hu
    as_aux_lemma =>
      go_enter Tryz.func125, Tryz.ntmps125
      go_wp2_with fail
      refine (Refs.refunpack_any h0 _ hx.1 hx.2).mono ?_
      rintro z w1 ⟨rfl, q1⟩
      rw [HU.out]
      have h1 := (h.keep q1).alloc (.cells #[.int .i64 0, .int .i64 0, .int .i64 0] 181)
      have B1 := q1.trans ((below_one w1 (.cells #[.int .i64 0, .int .i64 0, .int .i64 0] 181)).mono q1.size)
      go_wp2_with fail
      go_region
      go_wp2
      refine bodyPost_ret (v := .tuple #[.int .i64 0, .int .i64 0, .int .i64 18]) (by simp [results, Tryz.results125, go_sem]) rfl ?_
      exact ⟨by rw [KK.out], h1.drew, B1.drew⟩
  · have HU := Lib.hid hu
    have CK := Lib.hid (chk_of (m := m) (L := m.ents t) hu)
    have B1 : ∀ w1, Below w.heap.size w w1 → Below w.heap.size w (w1.alloc (.cells #[.int .i64 (s : Int), .int .i64 e, .int .i64 a] 181)) := fun w1 q1 => q1.trans ((below_one w1 (.cells #[.int .i64 (s : Int), .int .i64 e, .int .i64 a] 181)).mono q1.size)
    obtain ⟨Rb1, Rb2, _⟩ := Refs.rbounds hr
    clear hu
    by_cases hs : s < X.n
    rotate_left
    · have hs0 : (seeC m.F.R (s : Int)).x ≠ 0 := by
        rw [(see_out (R := m.F.R) (i := (s : Int)) (.inr (by rw [h.rs.len]; omega))).1]
        decide
      obtain ⟨k1, k2, k3⟩ := ck_no (m := m) (L := m.ents t) (h := h0) (c := 18) (by rw [CK.out, if_pos hs0]) (by decide)
      have KK := Lib.hid (show tell3 (ckI m (m.ents t) h0) (ckS m (m.ents t) h0) (m.chk (m.ents t) h0) = tell3 0 0 18 from ret3 k1 k2 k3)
      have z1 : decide ((X.n : Int) ≤ (s : Int)) = true := decide_eq_true (by omega)
      have z2 : X.n ≤ s := by omega
      clear k1 k2 k3 hs0
      as_aux_lemma =>
        go_enter Tryz.func125, Tryz.ntmps125
        go_wp2_with fail
        refine (Refs.refunpack_any h0 _ hx.1 hx.2).mono ?_
        rintro z w1 ⟨rfl, q1⟩
        rw [HU.out]
        have h1 := (h.keep q1).alloc (.cells #[.int .i64 (s : Int), .int .i64 e, .int .i64 a] 181)
        have B2 := B1 w1 q1
        have c0 := h1.c0
        go_wp2_with fail
        go_region
        go_wp2
        refine bodyPost_ret (v := .tuple #[.int .i64 0, .int .i64 0, .int .i64 18]) (by simp [results, Tryz.results125, go_sem]) rfl ?_
        exact ⟨by rw [KK.out], h1.drew, B2.drew⟩
    obtain ⟨x, hxs⟩ : ∃ x, m.F.R[s]? = some x := ⟨_, List.getElem?_eq_getElem (by rw [h.rs.len]; exact hs)⟩
    have CK2 := Lib.hid (show m.chk (m.ents t) h0 = if Chain.reachV (m.ents t) (s : Int) = false then 20 else if e ≠ x.e then 19 else if (m.obs h0).isSome = false then 18 else 0 by
      rw [CK.out, (see_in hxs).1, if_neg (by simp)])
    have z1 : decide ((X.n : Int) ≤ (s : Int)) = false := decide_eq_false (by omega)
    have z2 : ¬ X.n ≤ s := by omega
    have s1 : (s : Int) < (X.n : Int) := by omega
    clear CK
    cases hre : Chain.reachV (m.ents t) (s : Int) with
    | false =>
      obtain ⟨k1, k2, k3⟩ := ck_no (m := m) (L := m.ents t) (h := h0) (c := 20) (by rw [CK2.out, if_pos hre]) (by decide)
      have KK := Lib.hid (show tell3 (ckI m (m.ents t) h0) (ckS m (m.ents t) h0) (m.chk (m.ents t) h0) = tell3 0 0 20 from ret3 k1 k2 k3)
      have RE := Lib.hid hre
      clear k1 k2 k3 hre CK2
      as_aux_lemma =>
        go_enter Tryz.func125, Tryz.ntmps125
        go_wp2_with fail
        refine (Refs.refunpack_any h0 _ hx.1 hx.2).mono ?_
        rintro z w1 ⟨rfl, q1⟩
        rw [HU.out]
        have h1 := (h.keep q1).alloc (.cells #[.int .i64 (s : Int), .int .i64 e, .int .i64 a] 181)
        have B2 := B1 w1 q1
        have Q0 := heap_alloc_new w1 (.cells #[.int .i64 (s : Int), .int .i64 e, .int .i64 a] 181)
        have r0 := cell_of Q0 0 _ rfl
        have r1 := cell_of Q0 1 _ rfl
        have r2 := cell_of Q0 2 _ rfl
        have c0 := h1.c0
        have c5 := h1.c5
        have cE := h1.entC ht
        have d0 := h1.rs.c0
        obtain ⟨⟨_, _, _, x3⟩, _⟩ := h1.rs.atC hxs
        have oE := (ent_own.2 (h1.en t ht)).sr
        have oD := oE.drew
        clear Q0
        obtain ⟨W, hW⟩ : ∃ W : World, W = w1.alloc (.cells #[.int .i64 (s : Int), .int .i64 e, .int .i64 a] 181) := ⟨_, rfl⟩
        rw [← hW] at h1 B2 r0 r1 r2 c0 c5 cE d0 x3 oE oD
        go_wp2_with fail
        rw [← hW]
        clear hW
        go_region
        go_wp2_with fail
        go_region_held3 (fun W' => W'.cell? ⟨X.D, 39 + t, none⟩ = some (sl3 (p.c t)) ∧ W'.cell? ⟨w1.heap.size, 0, none⟩ = some (.int .i64 (s : Int)))
          (exact ⟨cE, r0⟩)
          ((go_at_call 117; refine (Chain.refreach_any _ (sl3 (p.c t)) (m.ents t) (s : Int) (by first | exact oE | exact oD | exact oD.drew)).mono ?_; rintro e wq ⟨rfl, rfl⟩; rw [RE.out]))
        go_wp2
        refine bodyPost_ret (v := .tuple #[.int .i64 0, .int .i64 0, .int .i64 20]) (by simp [results, Tryz.results125, go_sem]) rfl ?_
        exact ⟨by rw [KK.out], h1.drew.drew, B2.drew.drew⟩
    | true =>
      have RE := Lib.hid hre
      by_cases he : e = x.e
      rotate_left
      · obtain ⟨k1, k2, k3⟩ := ck_no (m := m) (L := m.ents t) (h := h0) (c := 19) (by rw [CK2.out, if_neg (by rw [hre]; decide), if_pos he]) (by decide)
        have KK := Lib.hid (show tell3 (ckI m (m.ents t) h0) (ckS m (m.ents t) h0) (m.chk (m.ents t) h0) = tell3 0 0 19 from ret3 k1 k2 k3)
        have z3 : (e != x.e) = true := by simpa using he
        clear k1 k2 k3 hre CK2 he
        as_aux_lemma =>
          go_enter Tryz.func125, Tryz.ntmps125
          go_wp2_with fail
          refine (Refs.refunpack_any h0 _ hx.1 hx.2).mono ?_
          rintro z w1 ⟨rfl, q1⟩
          rw [HU.out]
          have h1 := (h.keep q1).alloc (.cells #[.int .i64 (s : Int), .int .i64 e, .int .i64 a] 181)
          have B2 := B1 w1 q1
          have Q0 := heap_alloc_new w1 (.cells #[.int .i64 (s : Int), .int .i64 e, .int .i64 a] 181)
          have r0 := cell_of Q0 0 _ rfl
          have r1 := cell_of Q0 1 _ rfl
          have r2 := cell_of Q0 2 _ rfl
          have c0 := h1.c0
          have c5 := h1.c5
          have cE := h1.entC ht
          have d0 := h1.rs.c0
          obtain ⟨⟨_, _, _, x3⟩, _⟩ := h1.rs.atC hxs
          have oE := (ent_own.2 (h1.en t ht)).sr
          have oD := oE.drew
          clear Q0
          obtain ⟨W, hW⟩ : ∃ W : World, W = w1.alloc (.cells #[.int .i64 (s : Int), .int .i64 e, .int .i64 a] 181) := ⟨_, rfl⟩
          rw [← hW] at h1 B2 r0 r1 r2 c0 c5 cE d0 x3 oE oD
          go_wp2_with fail
          rw [← hW]
          clear hW
          go_region
          go_wp2_with fail
          go_region_held3 (fun W' => W'.cell? ⟨X.D, 39 + t, none⟩ = some (sl3 (p.c t)) ∧ W'.cell? ⟨w1.heap.size, 0, none⟩ = some (.int .i64 (s : Int)))
            (exact ⟨cE, r0⟩)
            ((go_at_call 117; refine (Chain.refreach_any _ (sl3 (p.c t)) (m.ents t) (s : Int) (by first | exact oE | exact oD | exact oD.drew)).mono ?_; rintro e wq ⟨rfl, rfl⟩; rw [RE.out]))
          go_wp2_with fail
          go_region
          go_wp2
          refine bodyPost_ret (v := .tuple #[.int .i64 0, .int .i64 0, .int .i64 19]) (by simp [results, Tryz.results125, go_sem]) rfl ?_
          exact ⟨by rw [KK.out], h1.drew.drew.drew, B2.drew.drew.drew⟩
      · have CK3 := Lib.hid (show m.chk (m.ents t) h0 = if (m.obs h0).isSome = false then 18 else 0 by rw [CK2.out, if_neg (by rw [hre]; decide), if_neg (by simpa using he)])
        have z3 : (e != x.e) = false := by simpa using he
        clear CK2 hre he
        rcases obs_fi m h0 with ⟨f1, f2⟩ | ⟨i, o, f1, f2, f3, f4⟩
        · obtain ⟨k1, k2, k3⟩ := ck_no (m := m) (L := m.ents t) (h := h0) (c := 18) (by rw [CK3.out, f2]; rfl) (by decide)
          have KK := Lib.hid (show tell3 (ckI m (m.ents t) h0) (ckS m (m.ents t) h0) (m.chk (m.ents t) h0) = tell3 0 0 18 from ret3 k1 k2 k3)
          have FF := Lib.hid (show fiV m.O (Refs.handle (s : Int) e a) = -1 by rw [hh]; exact f1)
          clear k1 k2 k3 CK3 f1 f2 hh
          as_aux_lemma =>
          go_enter Tryz.func125, Tryz.ntmps125
          go_wp2_with fail
          refine (Refs.refunpack_any h0 _ hx.1 hx.2).mono ?_
          rintro z w1 ⟨rfl, q1⟩
          rw [HU.out]
          have h1 := (h.keep q1).alloc (.cells #[.int .i64 (s : Int), .int .i64 e, .int .i64 a] 181)
          have B2 := B1 w1 q1
          have Q0 := heap_alloc_new w1 (.cells #[.int .i64 (s : Int), .int .i64 e, .int .i64 a] 181)
          have r0 := cell_of Q0 0 _ rfl
          have r1 := cell_of Q0 1 _ rfl
          have r2 := cell_of Q0 2 _ rfl
          have c0 := h1.c0
          have c5 := h1.c5
          have cE := h1.entC ht
          have d0 := h1.rs.c0
          obtain ⟨⟨_, _, _, x3⟩, _⟩ := h1.rs.atC hxs
          have oE := (ent_own.2 (h1.en t ht)).sr
          have oD := oE.drew
          clear Q0
          have lr : w1.heap.size < (w1.alloc (.cells #[.int .i64 (s : Int), .int .i64 e, .int .i64 a] 181)).heap.size := by rw [World.size_alloc]; omega
          obtain ⟨W, hW⟩ : ∃ W : World, W = w1.alloc (.cells #[.int .i64 (s : Int), .int .i64 e, .int .i64 a] 181) := ⟨_, rfl⟩
          rw [← hW] at h1 B2 r0 r1 r2 c0 c5 cE d0 x3 oE oD lr
          go_wp2_with fail
          rw [← hW]
          clear hW
          go_region
          go_wp2_with fail
          go_region_held3 (fun W' => W'.cell? ⟨X.D, 39 + t, none⟩ = some (sl3 (p.c t)) ∧ W'.cell? ⟨w1.heap.size, 0, none⟩ = some (.int .i64 (s : Int)))
            (exact ⟨cE, r0⟩)
            ((go_at_call 117; refine (Chain.refreach_any _ (sl3 (p.c t)) (m.ents t) (s : Int) (by first | exact oE | exact oD | exact oD.drew)).mono ?_; rintro e wq ⟨rfl, rfl⟩; rw [RE.out]))
          go_wp2_with fail
          go_region
          go_wp2_with fail
          refine (find_any h1.drew.drew.drew v hk hr hxs).mono ?_
          rintro z w9 ⟨rfl, h9, q9⟩
          rw [FF.out]
          have r0' : w9.cell? ⟨w1.heap.size, 0, none⟩ = some (.int .i64 (s : Int)) := (q9.cell (p := ⟨w1.heap.size, 0, none⟩) lr).trans r0
          have B9 := B2.drew.drew.drew.trans (q9.mono B2.size)
          go_wp2
          refine bodyPost_ret (v := .tuple #[.int .i64 0, .int .i64 0, .int .i64 18]) (by simp [results, Tryz.results125, go_sem]) rfl ?_
          exact ⟨by rw [KK.out], h9, B9⟩
        · have k0 : m.chk (m.ents t) h0 = 0 := by rw [CK3.out, f3]; rfl
          obtain ⟨k1, k2⟩ := ck_yes k0
          have KK := Lib.hid (show tell3 (ckI m (m.ents t) h0) (ckS m (m.ents t) h0) (m.chk (m.ents t) h0) = tell3 (i : Int) (s : Int) 0 from ret3 (k1.trans f1) (by rw [k2, HU.out]) k0)
          have FF := Lib.hid (show fiV m.O (Refs.handle (s : Int) e a) = (i : Int) by rw [hh]; exact f1)
          have i0 : ¬ (i : Int) < 0 := by omega
          clear k1 k2 k0 CK3 f1 f2 f3 f4 hh
          as_aux_lemma =>
          go_enter Tryz.func125, Tryz.ntmps125
          go_wp2_with fail
          refine (Refs.refunpack_any h0 _ hx.1 hx.2).mono ?_
          rintro z w1 ⟨rfl, q1⟩
          rw [HU.out]
          have h1 := (h.keep q1).alloc (.cells #[.int .i64 (s : Int), .int .i64 e, .int .i64 a] 181)
          have B2 := B1 w1 q1
          have Q0 := heap_alloc_new w1 (.cells #[.int .i64 (s : Int), .int .i64 e, .int .i64 a] 181)
          have r0 := cell_of Q0 0 _ rfl
          have r1 := cell_of Q0 1 _ rfl
          have r2 := cell_of Q0 2 _ rfl
          have c0 := h1.c0
          have c5 := h1.c5
          have cE := h1.entC ht
          have d0 := h1.rs.c0
          obtain ⟨⟨_, _, _, x3⟩, _⟩ := h1.rs.atC hxs
          have oE := (ent_own.2 (h1.en t ht)).sr
          have oD := oE.drew
          clear Q0
          have lr : w1.heap.size < (w1.alloc (.cells #[.int .i64 (s : Int), .int .i64 e, .int .i64 a] 181)).heap.size := by rw [World.size_alloc]; omega
          obtain ⟨W, hW⟩ : ∃ W : World, W = w1.alloc (.cells #[.int .i64 (s : Int), .int .i64 e, .int .i64 a] 181) := ⟨_, rfl⟩
          rw [← hW] at h1 B2 r0 r1 r2 c0 c5 cE d0 x3 oE oD lr
          go_wp2_with fail
          rw [← hW]
          clear hW
          go_region
          go_wp2_with fail
          go_region_held3 (fun W' => W'.cell? ⟨X.D, 39 + t, none⟩ = some (sl3 (p.c t)) ∧ W'.cell? ⟨w1.heap.size, 0, none⟩ = some (.int .i64 (s : Int)))
            (exact ⟨cE, r0⟩)
            ((go_at_call 117; refine (Chain.refreach_any _ (sl3 (p.c t)) (m.ents t) (s : Int) (by first | exact oE | exact oD | exact oD.drew)).mono ?_; rintro e wq ⟨rfl, rfl⟩; rw [RE.out]))
          go_wp2_with fail
          go_region
          go_wp2_with fail
          refine (find_any h1.drew.drew.drew v hk hr hxs).mono ?_
          rintro z w9 ⟨rfl, h9, q9⟩
          rw [FF.out]
          have r0' : w9.cell? ⟨w1.heap.size, 0, none⟩ = some (.int .i64 (s : Int)) := (q9.cell (p := ⟨w1.heap.size, 0, none⟩) lr).trans r0
          have B9 := B2.drew.drew.drew.trans (q9.mono B2.size)
          go_wp2_with fail
          go_region
          go_wp2
          refine bodyPost_ret (v := .tuple #[.int .i64 (i : Int), .int .i64 (s : Int), .int .i64 0]) (by simp [results, Tryz.results125, go_sem]) rfl ?_
          exact ⟨by rw [KK.out], h9.drew, B9.drew⟩
end
end Go.Proofs.YtbpmnjmegffllaaGreat.Mod
