/-
  The document's scopes in memory, and contracts of its small functions: Is, Ctl, Extent, become.
-/
import Derived.Test.YteakglkagmghpaaGreatScop
import Derived.Test.YteakglkagmghpaaGreatGror
namespace Go.Proofs.YteakglkagmghpaaGreat.Sco
open Go.ChangeShapes Go.WideShapes Go.ChangeAt Go.RowKit
open Slic Gm
set_option linter.unusedVariables false
set_option linter.unusedSimpArgs false
attribute [local go_sem ↓] Go.wp_at_zero Go.wp_at_succ

/-- Where all lies: the struct, the row of words and its room, the row of extents and its room, the ground, its words. -/
structure Pl where
  D : Nat
  gc : Nat
  cc : Nat
  gx : Nat
  cx : Nat
  C : Nat
  gw : Nat
/-- The document's scopes. -/
structure Rs (w : World) (P : Pl) (n : Nat) (A : Int) (N : Nat) (R : List Cx) (Y : Nat → Bool) : Prop where
  len : R.length = n
  hd : w.heap[P.D]? = some (.cells #[.slice (some ⟨P.gc, 0, none⟩) n P.cc, .slice (some ⟨P.gx, 0, none⟩) n P.cx, .pointer (some ⟨P.C, 0, none⟩)] 71 (0, 0))
  rC : Own kC w 0 (.slice (some ⟨P.gc, 0, none⟩) n P.cc) R
  rX : Own kX w 0 (.slice (some ⟨P.gx, 0, none⟩) n P.cx) R
  rf : Ref.Rf w P.C P.gw A N Y
section
variable {w w' : World} {P : Pl} {n N : Nat} {A : Int} {R : List Cx} {Y : Nat → Bool}
theorem Rs.c0 (h : Rs w P n A N R Y) : w.cell? ⟨P.D, 0, none⟩ = some (.slice (some ⟨P.gc, 0, none⟩) n P.cc) := by simp [World.cell?, h.hd]
theorem Rs.c1 (h : Rs w P n A N R Y) : w.cell? ⟨P.D, 1, none⟩ = some (.slice (some ⟨P.gx, 0, none⟩) n P.cx) := by simp [World.cell?, h.hd]
theorem Rs.c2 (h : Rs w P n A N R Y) : w.cell? ⟨P.D, 2, none⟩ = some (.pointer (some ⟨P.C, 0, none⟩)) := by simp [World.cell?, h.hd]
theorem Rs.tD (h : Rs w P n A N R Y) : isT w P.D 71 := ⟨_, h.hd⟩
theorem Rs.tc (h : Rs w P n A N R Y) : isT w P.gc 64 := isT.own h.rC
theorem Rs.tx (h : Rs w P n A N R Y) : isT w P.gx 119 := isT.own h.rX
theorem Rs.tC (h : Rs w P n A N R Y) : isT w P.C 182 := isT.row h.rf.head
theorem Rs.tw (h : Rs w P n A N R Y) : isT w P.gw 4 := isT.row h.rf.body
theorem Rs.lD (h : Rs w P n A N R Y) : P.D < w.heap.size := (Array.getElem?_eq_some_iff.1 h.hd).1
theorem Rs.lc (h : Rs w P n A N R Y) : P.gc < w.heap.size := (h.rC.lt _ rfl).2
theorem Rs.lx (h : Rs w P n A N R Y) : P.gx < w.heap.size := (h.rX.lt _ rfl).2
theorem Rs.lC (h : Rs w P n A N R Y) : P.C < w.heap.size := h.rf.head.lt
theorem Rs.lw (h : Rs w P n A N R Y) : P.gw < w.heap.size := h.rf.body.lt
theorem Rs.only {X : List Nat} (h : Rs w P n A N R Y) (k : Only X w w') (h1 : P.D ∉ X) (h2 : P.gc ∉ X) (h3 : P.gx ∉ X) (h4 : P.C ∉ X) (h5 : P.gw ∉ X) : Rs w' P n A N R Y :=
  ⟨h.len, (k.block _ h.lD h1).trans h.hd, own_block h.rC (k.block _ h.lc h2), own_block h.rX (k.block _ h.lx h3), h.rf.head.of_block (k.block _ h.lC h4), h.rf.body.of_block (k.block _ h.lw h5)⟩
theorem Rs.below (h : Rs w P n A N R Y) (k : Below w.heap.size w w') : Rs w' P n A N R Y :=
  h.only (X := []) (Only.below k) List.not_mem_nil List.not_mem_nil List.not_mem_nil List.not_mem_nil List.not_mem_nil
theorem Rs.alloc (h : Rs w P n A N R Y) (o : Obj) : Rs (w.alloc o) P n A N R Y := h.below (below_one w o)
theorem Rs.drew (h : Rs w P n A N R Y) : Rs w.drew P n A N R Y := h.below (Below.refl _ _).drew
theorem Rs.atC (h : Rs w P n A N R Y) {i : Nat} {x : Cx} (hx : R[i]? = some x) :
    (w.cell? ⟨P.gc, i * 4, none⟩ = some (.int .i64 x.s) ∧ w.cell? ⟨P.gc, i * 4 + 1, none⟩ = some (.int .i64 x.c) ∧ w.cell? ⟨P.gc, i * 4 + 2, none⟩ = some (.int .i64 x.p) ∧ w.cell? ⟨P.gc, i * 4 + 3, none⟩ = some (.int .i64 x.e)) ∧ ∀ o, w.frozen? ⟨P.gc, o, none⟩ = false := by
  obtain ⟨hi, hx⟩ := List.getElem?_eq_some_iff.1 hx
  have hr := h.rC
  rw [← h.len] at hr
  obtain ⟨g', c, e, _, _, _, _, hf, hc⟩ := hr.form (by omega)
  injection e with e _ _
  injection e with e
  injection e with e
  subst e
  have hq := fun j u => hc i j u hi
  rw [hx] at hq
  exact ⟨⟨hq 0 _ rfl, hq 1 _ rfl, hq 2 _ rfl, hq 3 _ rfl⟩, hf⟩
theorem Rs.atX (h : Rs w P n A N R Y) {i : Nat} {x : Cx} (hx : R[i]? = some x) :
    (w.cell? ⟨P.gx, i * 2, none⟩ = some (.int .i64 x.a) ∧ w.cell? ⟨P.gx, i * 2 + 1, none⟩ = some (.int .i64 x.z)) ∧ ∀ o, w.frozen? ⟨P.gx, o, none⟩ = false := by
  obtain ⟨hi, hx⟩ := List.getElem?_eq_some_iff.1 hx
  have hr := h.rX
  rw [← h.len] at hr
  obtain ⟨g', c, e, _, _, _, _, hf, hc⟩ := hr.form (by omega)
  injection e with e _ _
  injection e with e
  injection e with e
  subst e
  have hq := fun j u => hc i j u hi
  rw [hx] at hq
  exact ⟨⟨hq 0 _ rfl, hq 1 _ rfl⟩, hf⟩
/-- Another element of the same encoding. -/
theorem own_set {α : Type} {K : Kd α} {w : World} {b : Nat} {v : Value} {L : List α} (h : Own K w b v L) {i : Nat} {x y : α} (hx : L[i]? = some x) (he : K.enc y = K.enc x) : Own K w b v (L.set i y) := by
  obtain ⟨hi, hx⟩ := List.getElem?_eq_some_iff.1 hx
  have e : K.flat (L.set i y) = K.flat L := by
    unfold Kd.flat
    rw [List.flatMap_def, List.flatMap_def, List.map_set, he, ← hx]
    congr 1
    apply List.ext_getElem?
    intro j
    rw [List.getElem?_set]
    by_cases ij : i = j
    · subst ij
      simp [hi]
    · simp [ij]
  unfold Own at h ⊢
  rw [List.length_set, e]
  exact h
theorem Rs.of_c {R' : List Cx} (h : Rs w P n A N R Y) (k : Only [P.gc] w w') (r : Own kC w' 0 (.slice (some ⟨P.gc, 0, none⟩) n P.cc) R') (hl : R'.length = n) (rx : Own kX w 0 (.slice (some ⟨P.gx, 0, none⟩) n P.cx) R') : Rs w' P n A N R' Y := by
  have n1 : P.D ∉ [P.gc] := by simp; exact h.tD.ne h.tc (by decide)
  have n2 : P.gx ∉ [P.gc] := by simp; exact h.tx.ne h.tc (by decide)
  have n3 : P.C ∉ [P.gc] := by simp; exact h.tC.ne h.tc (by decide)
  have n4 : P.gw ∉ [P.gc] := by simp; exact h.tw.ne h.tc (by decide)
  exact ⟨hl, (k.block _ h.lD n1).trans h.hd, r, own_block rx (k.block _ h.lx n2), h.rf.head.of_block (k.block _ h.lC n3), h.rf.body.of_block (k.block _ h.lw n4)⟩
theorem Rs.of_x {R' : List Cx} (h : Rs w P n A N R Y) (k : Only [P.gx] w w') (r : Own kX w' 0 (.slice (some ⟨P.gx, 0, none⟩) n P.cx) R') (hl : R'.length = n) (rc : Own kC w 0 (.slice (some ⟨P.gc, 0, none⟩) n P.cc) R') : Rs w' P n A N R' Y := by
  have n1 : P.D ∉ [P.gx] := by simp; exact h.tD.ne h.tx (by decide)
  have n2 : P.gc ∉ [P.gx] := by simp; exact h.tc.ne h.tx (by decide)
  have n3 : P.C ∉ [P.gx] := by simp; exact h.tC.ne h.tx (by decide)
  have n4 : P.gw ∉ [P.gx] := by simp; exact h.tw.ne h.tx (by decide)
  exact ⟨hl, (k.block _ h.lD n1).trans h.hd, own_block rc (k.block _ h.lc n2), r, h.rf.head.of_block (k.block _ h.lC n3), h.rf.body.of_block (k.block _ h.lw n4)⟩
theorem Rs.ground {Y' : Nat → Bool} (h : Rs w P n A N R Y) (k : w.grownBy w' (some P.gw)) (hf : Ref.Rf w' P.C P.gw A N Y') : Rs w' P n A N R Y' := by
  have n1 : some P.D ≠ some P.gw := fun e => h.tD.ne h.tw (by decide) (Option.some.inj e)
  have n2 : some P.gc ≠ some P.gw := fun e => h.tc.ne h.tw (by decide) (Option.some.inj e)
  have n3 : some P.gx ≠ some P.gw := fun e => h.tx.ne h.tw (by decide) (Option.some.inj e)
  exact ⟨h.len, (k.block _ h.lD n1).trans h.hd, own_block h.rC (k.block _ h.lc n2), own_block h.rX (k.block _ h.lx n3), hf⟩
theorem put_at {α : Type} {K : Kd α} {w : World} {g n c : Nat} {L : List α} (h : Own K w 0 (.slice (some ⟨g, 0, none⟩) n c) L) (hn : L.length = n) (i j : Nat) {x : α} (hx : L[i]? = some x) (hj : j < K.m) (y : α) (v : Value) (hy : K.enc y = (K.enc x).set j v) :
    Own K (w.setCell ⟨g, i * K.m + j, none⟩ v) 0 (.slice (some ⟨g, 0, none⟩) n c) (L.set i y) := by
  subst hn
  obtain ⟨hi, hx⟩ := List.getElem?_eq_some_iff.1 hx
  exact (h.put i j hi hj y v (by rw [hx]; exact hy)).1
theorem Rs.putC1 (h : Rs w P n A N R Y) (i : Nat) {x : Cx} (hx : R[i]? = some x) (s : Int) : Rs (w.setCell ⟨P.gc, i * 4, none⟩ (.int .i64 s)) P n A N (R.set i ⟨s, x.c, x.p, x.e, x.a, x.z⟩) Y :=
  h.of_c (Only.put w _ _ _ (by simp)) (put_at h.rC h.len i 0 hx (by decide) ⟨s, x.c, x.p, x.e, x.a, x.z⟩ (.int .i64 s) rfl) (by rw [List.length_set]; exact h.len) (own_set h.rX hx rfl)
theorem Rs.putC4 (h : Rs w P n A N R Y) (i : Nat) {x : Cx} (hx : R[i]? = some x) (s c p e : Int) :
    Rs ((((w.setCell ⟨P.gc, i * 4, none⟩ (.int .i64 s)).setCell ⟨P.gc, i * 4 + 1, none⟩ (.int .i64 c)).setCell ⟨P.gc, i * 4 + 2, none⟩ (.int .i64 p)).setCell ⟨P.gc, i * 4 + 3, none⟩ (.int .i64 e)) P n A N (R.set i ⟨s, c, p, e, x.a, x.z⟩) Y := by
  have h1 := put_at h.rC h.len i 0 hx (by decide) ⟨s, x.c, x.p, x.e, x.a, x.z⟩ (.int .i64 s) rfl
  have h2 := put_at h1 (by rw [List.length_set]; exact h.len) i 1 (set_read hx _) (by decide) ⟨s, c, x.p, x.e, x.a, x.z⟩ (.int .i64 c) rfl
  rw [List.set_set] at h2
  have h3 := put_at h2 (by rw [List.length_set]; exact h.len) i 2 (set_read hx _) (by decide) ⟨s, c, p, x.e, x.a, x.z⟩ (.int .i64 p) rfl
  rw [List.set_set] at h3
  have h4 := put_at h3 (by rw [List.length_set]; exact h.len) i 3 (set_read hx _) (by decide) ⟨s, c, p, e, x.a, x.z⟩ (.int .i64 e) rfl
  rw [List.set_set] at h4
  exact h.of_c ((((Only.put w _ _ _ (by simp)).trans (Only.put _ _ _ _ (by simp))).trans (Only.put _ _ _ _ (by simp))).trans (Only.put _ _ _ _ (by simp))) h4 (by rw [List.length_set]; exact h.len) (own_set h.rX hx rfl)
theorem Rs.putX2 (h : Rs w P n A N R Y) (i : Nat) {x : Cx} (hx : R[i]? = some x) (a z : Int) :
    Rs ((w.setCell ⟨P.gx, i * 2, none⟩ (.int .i64 a)).setCell ⟨P.gx, i * 2 + 1, none⟩ (.int .i64 z)) P n A N (R.set i ⟨x.s, x.c, x.p, x.e, a, z⟩) Y := by
  have h1 := put_at h.rX h.len i 0 hx (by decide) ⟨x.s, x.c, x.p, x.e, a, x.z⟩ (.int .i64 a) rfl
  have h2 := put_at h1 (by rw [List.length_set]; exact h.len) i 1 (set_read hx _) (by decide) ⟨x.s, x.c, x.p, x.e, a, z⟩ (.int .i64 z) rfl
  rw [List.set_set] at h2
  exact h.of_x ((Only.put w _ _ _ (by simp)).trans (Only.put _ _ _ _ (by simp))) h2 (by rw [List.length_set]; exact h.len) (own_set h.rC hx rfl)

abbrev ptrD (P : Pl) : Value := .pointer (some ⟨P.D, 0, none⟩)
def isB (i : Int) (n : Nat) : Bool := decide (1 ≤ i ∧ i < (n : Int))
set_option maxHeartbeats 1000000 in
theorem is_any (h : Rs w P n A N R Y) (i : Int) :
    Calls Tryz.prog 103 #[ptrD P, .int .i64 i] w fun e w' => e = .returned (.bool (isB i n)) ∧ w = w' := by
  have c0 := h.c0
  by_cases h1 : 1 ≤ i
  · by_cases h2 : i < n
    · have E := Lib.hid (show isB i n = true from decide_eq_true ⟨h1, h2⟩)
      go_enter Tryz.func103, Tryz.ntmps103
      go_wp2
      go_ret
      exact ⟨ret_bool E.out.symm, rfl⟩
    · have E := Lib.hid (show isB i n = false from decide_eq_false (fun q => h2 q.2))
      go_enter Tryz.func103, Tryz.ntmps103
      go_wp2
      go_ret
      exact ⟨ret_bool E.out.symm, rfl⟩
  · have E := Lib.hid (show isB i n = false from decide_eq_false (fun q => h1 q.1))
    go_enter Tryz.func103, Tryz.ntmps103
    go_wp2
    go_ret
    exact ⟨ret_bool E.out.symm, rfl⟩
def becR (R : List Cx) (k : Nat) (s c p e a z er : Int) : List Cx := if er = 0 then R.set k ⟨s, c, p, e, a, z⟩ else R
set_option maxHeartbeats 2000000 in
theorem become_any (h : Rs w P n A N R Y) (k : Nat) {x : Cx} (hx : R[k]? = some x) (s c p e er : Int) :
    Calls Tryz.prog 156 #[ptrD P, .int .i64 (k : Int), .agg #[.int .i64 s, .int .i64 c, .int .i64 p, .int .i64 e], .int .i64 er] w fun z w' => z = .returned (.int .i64 er) ∧ Rs w' P n A N (becR R k s c p e x.a x.z er) Y ∧ Only [P.gc] w w' := by
  have o1 : Only [P.gc] w (w.alloc (.cells #[.int .i64 s, .int .i64 c, .int .i64 p, .int .i64 e] 64)) := Only.below (below_one w _)
  have hs := h.alloc (.cells #[.int .i64 s, .int .i64 c, .int .i64 p, .int .i64 e] 64)
  have hk : k < n := by have := (List.getElem?_eq_some_iff.1 hx).1; rw [h.len] at this; exact this
  by_cases h0 : er = 0
  · subst h0
    have c0 := hs.c0
    obtain ⟨⟨x0, x1, x2, x3⟩, hf⟩ := hs.atC hx
    have f0 := hf (k * 4)
    have f1 := hf (k * 4 + 1)
    have f2 := hf (k * 4 + 2)
    have f3 := hf (k * 4 + 3)
    have hl := h.lc
    have hne : w.heap.size ≠ P.gc := by omega
    have FIN := (hs.putC4 k hx s c p e).drew
    have FO : Only [P.gc] w _ := ((((o1.trans (Only.put _ P.gc (k * 4) (.int .i64 s) (by simp))).trans (Only.put _ P.gc (k * 4 + 1) (.int .i64 c) (by simp))).trans (Only.put _ P.gc (k * 4 + 2) (.int .i64 p) (by simp))).trans (Only.put _ P.gc (k * 4 + 3) (.int .i64 e) (by simp))).trans (Only.below (Below.refl _ _).drew)
    have z0 : (w.alloc (.cells #[.int .i64 s, .int .i64 c, .int .i64 p, .int .i64 e] 64)).cell? ⟨w.heap.size, 0, none⟩ = some (.int .i64 s) := by simp [go_sem]
    have z1 : (w.alloc (.cells #[.int .i64 s, .int .i64 c, .int .i64 p, .int .i64 e] 64)).cell? ⟨w.heap.size, 1, none⟩ = some (.int .i64 c) := by simp [go_sem]
    have z2 : (w.alloc (.cells #[.int .i64 s, .int .i64 c, .int .i64 p, .int .i64 e] 64)).cell? ⟨w.heap.size, 2, none⟩ = some (.int .i64 p) := by simp [go_sem]
    have z3 : (w.alloc (.cells #[.int .i64 s, .int .i64 c, .int .i64 p, .int .i64 e] 64)).cell? ⟨w.heap.size, 3, none⟩ = some (.int .i64 e) := by simp [go_sem]
    clear hf hs o1 hx
    go_enter Tryz.func156, Tryz.ntmps156
    go_wp2_with fail
    generalize w.alloc (.cells #[.int .i64 s, .int .i64 c, .int .i64 p, .int .i64 e] 64) = W1 at *
    go_region
    all_goals
      go_wp2
      go_ret
      exact ⟨rfl, FIN, FO⟩
  · have q : (er == 0) = false := by simpa using h0
    have E := Lib.hid (show becR R k s c p e x.a x.z er = R from if_neg h0)
    clear h0
    go_enter Tryz.func156, Tryz.ntmps156
    go_wp2
    go_ret
    exact ⟨rfl, by rw [E.out]; exact hs, o1⟩
end
end Go.Proofs.YteakglkagmghpaaGreat.Sco
