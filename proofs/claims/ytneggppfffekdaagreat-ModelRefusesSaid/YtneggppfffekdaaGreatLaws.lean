/-
  What a law's walk carries: a model in memory, all that is so of it, local blocks; New and Do over it; the document's example.
-/
import Derived.Test.YtneggppfffekdaaGreatNews
import Derived.Test.YtneggppfffekdaaGreatInvB
namespace Go.Proofs.YtneggppfffekdaaGreat.Mod
open Go.ChangeShapes Go.WideShapes Go.ChangeAt Go.RowKit
open Slic Sco
set_option linter.unusedVariables false
set_option linter.unusedSimpArgs false
set_option maxRecDepth 8000
attribute [local go_sem] Oper.semAt_some

theorem Mw.base {w0 w w' : World} {Z : Fx} {m : Mo} (h : Mw w w' Z m []) (hb : Below w0.heap.size w0 w) {bx : Bx} (hx : ∀ x ∈ bx, w.heap[x.1]? = some x.2 ∧ w0.heap.size ≤ x.1) (nd : (bx.map (·.1)).Nodup) : Mw w0 w' Z m bx := by
  obtain ⟨H, h⟩ := h
  refine ⟨H, ⟨h.md, hb.trans (h.below.mono hb.size), fun b e => Nat.le_trans hb.size (h.own b e), fun x hx' => ?_, nd⟩⟩
  obtain ⟨e1, e2⟩ := hx x hx'
  have hl := (Array.getElem?_eq_some_iff.1 e1).1
  refine ⟨(h.below.block x.1 hl).trans e1, fun e => ?_, e2⟩
  have := h.own _ e
  omega
/-- A model in memory, and what is so of it, above where the law began. -/
structure Ms (w0 w : World) (Z : Fx) (FF : List (List Fina.O)) (n nt k : Nat) (m : Mo) (bx : Bx) : Prop where
  mw : Mw w0 w Z m bx
  iv : Iv Z k m
  ff : Fok FF
  eF : Z.FF = FF
  en : Z.n = n
  et : Z.nt = nt
section
variable {w0 w w' : World} {Z : Fx} {FF : List (List Fina.O)} {n nt k : Nat} {m : Mo} {bx : Bx}
theorem Ms.with (h : Ms w0 w Z FF n nt k m bx) {bx' : Bx} (q : Mw w0 w' Z m bx') : Ms w0 w' Z FF n nt k m bx' := ⟨q, h.iv, h.ff, h.eF, h.en, h.et⟩
theorem Ms.mono (h : Ms w0 w Z FF n nt k m bx) {k' : Nat} (hk : k ≤ k') : Ms w0 w Z FF n nt k' m bx := ⟨h.mw, h.iv.mono hk, h.ff, h.eF, h.en, h.et⟩
theorem Ms.call (h : Ms w0 w Z FF n nt k m bx) (q : Below w.heap.size w w') : Ms w0 w' Z FF n nt k m bx := h.with (h.mw.call q)
theorem Ms.alloc (h : Ms w0 w Z FF n nt k m bx) (o : Obj) : Ms w0 (w.alloc o) Z FF n nt k m bx := h.with (h.mw.alloc o)
theorem Ms.drew (h : Ms w0 w Z FF n nt k m bx) : Ms w0 w.drew Z FF n nt k m bx := h.with h.mw.drew
theorem Ms.new (h : Ms w0 w Z FF n nt k m bx) (cs : Array Value) (t : TypeId) : Ms w0 (w.alloc (.cells cs t)) Z FF n nt k m ((w.heap.size, .cells cs t (0, 0)) :: bx) := h.with (h.mw.new cs t)
theorem Ms.drop (h : Ms w0 w Z FF n nt k m bx) (i : Nat) : Ms w0 w Z FF n nt k m (bx.drop i) := h.with (h.mw.drop i)
theorem Ms.less {bx' : Bx} (h : Ms w0 w Z FF n nt k m bx) (hs : bx'.Sublist bx) : Ms w0 w Z FF n nt k m bx' := h.with (h.mw.less hs)
theorem Ms.below (h : Ms w0 w Z FF n nt k m bx) : Below w0.heap.size w0 w := h.mw.below
theorem Ms.at (h : Ms w0 w Z FF n nt k m bx) (i : Nat) {b : Nat} {o : Obj} (e : bx[i]? = some (b, o)) : w.heap[b]? = some o := h.mw.at i e
theorem Ms.fresh (h : Ms w0 w Z FF n nt k m bx) (q : Below w.heap.size w w') {b : Nat} {o : Obj} (e : w'.heap[b]? = some o) (hb : w.heap.size ≤ b) : Ms w0 w' Z FF n nt k m ((b, o) :: bx) := h.with (h.mw.fresh q e hb)
theorem Ms.cells3 (h : Ms w0 w Z FF n nt k m bx) (i : Nat) {b : Nat} {x y z : Value} {t : TypeId} (e : bx[i]? = some (b, .cells #[x, y, z] t (0, 0))) : w.cell? ⟨b, 0, none⟩ = some x ∧ w.cell? ⟨b, 1, none⟩ = some y ∧ w.cell? ⟨b, 2, none⟩ = some z := by
  have H := h.at i e
  exact ⟨cell_of H 0 _ rfl, cell_of H 1 _ rfl, cell_of H 2 _ rfl⟩
theorem Ms.cells4 (h : Ms w0 w Z FF n nt k m bx) (i : Nat) {b : Nat} {x y z u : Value} {t : TypeId} (e : bx[i]? = some (b, .cells #[x, y, z, u] t (0, 0))) : w.cell? ⟨b, 0, none⟩ = some x ∧ w.cell? ⟨b, 1, none⟩ = some y ∧ w.cell? ⟨b, 2, none⟩ = some z ∧ w.cell? ⟨b, 3, none⟩ = some u := by
  have H := h.at i e
  exact ⟨cell_of H 0 _ rfl, cell_of H 1 _ rfl, cell_of H 2 _ rfl, cell_of H 3 _ rfl⟩
theorem Ms.cells7 (h : Ms w0 w Z FF n nt k m bx) (i : Nat) {b : Nat} {x0 x1 x2 x3 x4 x5 x6 : Value} {t : TypeId} (e : bx[i]? = some (b, .cells #[x0, x1, x2, x3, x4, x5, x6] t (0, 0))) : w.cell? ⟨b, 0, none⟩ = some x0 ∧ w.cell? ⟨b, 1, none⟩ = some x1 ∧ w.cell? ⟨b, 2, none⟩ = some x2 ∧ w.cell? ⟨b, 3, none⟩ = some x3 ∧ w.cell? ⟨b, 4, none⟩ = some x4 ∧ w.cell? ⟨b, 5, none⟩ = some x5 ∧ w.cell? ⟨b, 6, none⟩ = some x6 := by
  have H := h.at i e
  exact ⟨cell_of H 0 _ rfl, cell_of H 1 _ rfl, cell_of H 2 _ rfl, cell_of H 3 _ rfl, cell_of H 4 _ rfl, cell_of H 5 _ rfl, cell_of H 6 _ rfl⟩
theorem Ms.n8 (h : Ms w0 w Z FF n nt k m bx) : Z.n ≤ 8 := h.iv.n8
theorem Ms.nt4 (h : Ms w0 w Z FF n nt k m bx) : Z.nt ≤ 4 := h.iv.nt.2
/-- Registers of a thread that is. -/
theorem ms_regs (h : Ms w0 w Z FF n nt k m bx) (t : Nat) (ht : t < nt) : Calls Tryz.prog 23 #[ptr Z.B, .int .i64 (t : Int)] w fun e w' =>
    ∃ g c, e = .returned (.slice (some ⟨g, 0, none⟩) 4 c) ∧ Slic.Own Fina.kU w' w.heap.size (.slice (some ⟨g, 0, none⟩) 4 c) (regL (m.th t)) ∧ w'.cell? ⟨g, 0, none⟩ = some (.int .u64 ((m.th t).r 0)) ∧ w'.cell? ⟨g, 1, none⟩ = some (.int .u64 ((m.th t).r 1)) ∧ w'.cell? ⟨g, 2, none⟩ = some (.int .u64 ((m.th t).r 2)) ∧ w'.cell? ⟨g, 3, none⟩ = some (.int .u64 ((m.th t).r 3)) ∧ Ms w0 w' Z FF n nt k m bx ∧ Below w.heap.size w w' := by
  refine (regs_any h.mw (by have := h.nt4; omega) (t : Int)).mono ?_
  rintro e w' ⟨v, rfl, O, q⟩
  have hr : regsV m Z.nt (t : Int) = regL (m.th t) := by
    unfold regsV
    rw [if_pos (show inN (t : Int) Z.nt = true from decide_eq_true (by have := h.et; omega)), Int.toNat_natCast]
  rw [hr] at O
  obtain ⟨g, c, rfl, hg, _⟩ := O.form (by show 0 < 4; decide)
  have cc := fun (i : Nat) (hi : i < 4) (u : Value) (hu : (Fina.kU.enc ((regL (m.th t))[i]'hi))[0]? = some u) => (by
    obtain ⟨g', o', e', _, hc⟩ := O.sr.at i hi
    injection e' with e'
    injection e' with e1 e2
    subst e1 e2
    exact hc 0 u hu : w'.cell? ⟨g, 0 + (i * Fina.kU.m + 0), none⟩ = some u)
  exact ⟨g, c, rfl, O, cc 0 (by decide) _ rfl, cc 1 (by decide) _ rfl, cc 2 (by decide) _ rfl, cc 3 (by decide) _ rfl, h.call q, q⟩
theorem doX_iv (v : Iv Z k m) (i : Int) (c : Ca) : Iv Z (k + 1) (doX FF m Z.nt i c).1.2 := by
  unfold doX
  split
  · rename_i h
    have : 0 ≤ i ∧ i < (Z.nt : Int) := of_decide_eq_true h
    exact v.does FF (t := i.toNat) (by omega) c
  · exact v.mono (Nat.le_succ k)
/-- What Do tells. -/
abbrev tellA (c n : Int) (A : Option Addr) (l cp : Nat) (x : Int) : Ending := .returned (.tuple #[.agg #[.int .i64 c, .int .i64 n, .slice A l cp], .int .i64 x])
theorem ms_do (h : Ms w0 w Z FF n nt k m bx) (hk : k ≤ 10000) {c : Ca} (hc : Cok c) (i : Int) : Calls Tryz.prog 19 #[ptr Z.B, .int .i64 i, .agg (caA c)] w fun e w' =>
    ∃ A cp, e = tellA (doX FF m nt i c).1.1.c (doX FF m nt i c).1.1.n A (doX FF m nt i c).1.1.said.length cp (doX FF m nt i c).2 ∧ SrO w' (.slice A (doX FF m nt i c).1.1.said.length cp) (doX FF m nt i c).1.1.said ∧ Ms w0 w' Z FF n nt (k + 1) (doX FF m nt i c).1.2 bx := by
  obtain ⟨mw, iv, ff, eF, en, et⟩ := h
  subst eF en et
  refine (do_any mw iv hk ff hc i).mono ?_
  rintro e w' ⟨v, rfl, sd, q⟩
  obtain ⟨A, cp, rfl, _, _⟩ := sd.sr.form
  exact ⟨A, cp, rfl, sd, q, doX_iv iv i c, ff, rfl, rfl, rfl⟩
/-- The same, where what is told is known. -/
theorem ms_to (h : Ms w0 w Z FF n nt k m bx) (hk : k ≤ 10000) {c : Ca} (hc : Cok c) (i : Int) {x y z : Int} {L : List Int} (hr : ((doX FF m nt i c).1.1.c = x ∧ (doX FF m nt i c).1.1.n = y ∧ (doX FF m nt i c).1.1.said = L) ∧ (doX FF m nt i c).2 = z) : Calls Tryz.prog 19 #[ptr Z.B, .int .i64 i, .agg (caA c)] w fun e w' =>
    ∃ A cp, e = tellA x y A L.length cp z ∧ SrO w' (.slice A L.length cp) L ∧ Ms w0 w' Z FF n nt (k + 1) (doX FF m nt i c).1.2 bx := by
  obtain ⟨⟨rfl, rfl, rfl⟩, rfl⟩ := hr
  exact ms_do h hk hc i
/-- What a call tells, and leaves, by letters. -/
theorem exX (FF : List (List Fina.O)) (m : Mo) (nt : Nat) (i : Int) (c : Ca) (hi : inN i nt = true) : ∃ (x y : Int) (L : List Int) (m' : Mo), doX FF m nt i c = ((⟨x, y, L⟩, m'), 0) := by
  unfold doX
  rw [if_pos hi]
  exact ⟨_, _, _, _, rfl⟩
theorem ms_as (h : Ms w0 w Z FF n nt k m bx) (hk : k ≤ 10000) {c : Ca} (hc : Cok c) (i : Int) {x y z : Int} {L : List Int} {m' : Mo} (hr : doX FF m nt i c = ((⟨x, y, L⟩, m'), z)) : Calls Tryz.prog 19 #[ptr Z.B, .int .i64 i, .agg (caA c)] w fun e w' =>
    ∃ A cp, e = tellA x y A L.length cp z ∧ SrO w' (.slice A L.length cp) L ∧ Ms w0 w' Z FF n nt (k + 1) m' bx := by
  refine (ms_do h hk hc i).mono ?_
  rw [hr]
  exact fun e w' q => q
theorem ms_new {bx : Bx} (hb : Below w0.heap.size w0 w) (hx : ∀ x ∈ bx, w.heap[x.1]? = some x.2 ∧ w0.heap.size ≤ x.1) (nd : (bx.map (·.1)).Nodup) (s t i h : Int) (v : Value) (FF : List (List Fina.O)) (hF : Fina.Rows w v FF) (ho : Fina.okOs FF) (hp : Plan.rightB s t i h = true) (hr : Fina.rightB FF = true) :
    Calls Tryz.prog 16 #[.agg #[.int .i64 s, .int .i64 t, .int .i64 i, .int .i64 h], v] w fun e w' => ∃ Z : Fx, e = .returned (.tuple #[ptr Z.B, .int .i64 0]) ∧ Ms w0 w' Z FF s.toNat t.toNat 0 (newM s.toNat t.toNat (64 * s + i) h (64 * s) i) bx ∧ Below w.heap.size w w' := by
  refine (new_good w s t i h v FF hF ho hp hr).mono ?_
  rintro e w' ⟨Z, rfl, e1, e2, e3, e4, e5, e6, e7, q⟩
  obtain ⟨r1, r2, r3, r4, r5, r6, r7, r8, r9, r10⟩ := Plan.rbounds hp
  refine ⟨Z, rfl, ⟨?_, ?_, fok_right hr, e7, e1, e2⟩, q.below⟩
  · have := q.base hb hx nd
    rw [← e1, ← e2, ← e3, ← e4, ← e5, ← e6]
    exact this
  · have := newM_iv (Z := Z) (by omega) (by omega) (by omega) (by omega) (by omega) (by omega) (by omega)
    rw [← e1, ← e2, ← e3, ← e4, ← e5, ← e6]
    exact this
end
theorem rows_nil (w : World) : Fina.Rows w (.slice none 0 0) [] := ⟨[], Sr.nil w, rfl, fun i h => absurd h (by simp)⟩
theorem ok_nil : Fina.okOs [] := fun _ h => absurd h List.not_mem_nil
theorem some_any (w : World) : Calls Tryz.prog 31 #[] w fun e w' => e = .returned (.agg #[.int .i64 4, .int .i64 2, .int .i64 128, .int .i64 512]) ∧ Below w.heap.size w w' := by
  go_enter Tryz.func31, Tryz.ntmps31
  go_wp2
  refine bodyPost_ret (v := .agg #[.int .i64 4, .int .i64 2, .int .i64 128, .int .i64 512]) (by simp [results, Tryz.results31, go_sem]) rfl ⟨rfl, below_one _ _⟩
/-- The document's example, as far as it tells numbers. -/
def sh0 : Mo := newM 4 2 384 512 256 128
def sc1 : Ca := ⟨2, 0, 0, 0, 64, 0, 0⟩
def sc2 : Ca := ⟨4, 0, 0, 0, 1, 0, 0⟩
def sc3 : Ca := ⟨7, 0, 0, 0, 1, 0, 0⟩
def sc4 : Ca := ⟨5, 0, 0, 0, 0, 0, 0⟩
def sc5 : Ca := ⟨8, 0, 0, 0, 0, 0, 0⟩
def sh1 : Mo := (doX [] sh0 2 0 sc1).1.2
def sh2 : Mo := (doX [] sh1 2 0 sc2).1.2
def sh3 : Mo := (doX [] sh2 2 0 sc3).1.2
def sh4 : Mo := (doX [] sh3 2 0 sc4).1.2
theorem sE1 : ((doX [] sh0 2 0 sc1).1.1.c = 0 ∧ (doX [] sh0 2 0 sc1).1.1.n = 1 ∧ (doX [] sh0 2 0 sc1).1.1.said = []) ∧ (doX [] sh0 2 0 sc1).2 = 0 := ⟨⟨by kernel_rfl, by kernel_rfl, by kernel_rfl⟩, by kernel_rfl⟩
theorem sE2 : ((doX [] sh1 2 0 sc2).1.1.c = 0 ∧ (doX [] sh1 2 0 sc2).1.1.n = 0 ∧ (doX [] sh1 2 0 sc2).1.1.said = []) ∧ (doX [] sh1 2 0 sc2).2 = 0 := ⟨⟨by kernel_rfl, by kernel_rfl, by kernel_rfl⟩, by kernel_rfl⟩
theorem sE3 : ((doX [] sh2 2 0 sc3).1.1.c = 0 ∧ (doX [] sh2 2 0 sc3).1.1.n = 16777264 ∧ (doX [] sh2 2 0 sc3).1.1.said = []) ∧ (doX [] sh2 2 0 sc3).2 = 0 := ⟨⟨by kernel_rfl, by kernel_rfl, by kernel_rfl⟩, by kernel_rfl⟩
theorem sE4 : ((doX [] sh3 2 0 sc4).1.1.c = 0 ∧ (doX [] sh3 2 0 sc4).1.1.n = 0 ∧ (doX [] sh3 2 0 sc4).1.1.said = []) ∧ (doX [] sh3 2 0 sc4).2 = 0 := ⟨⟨by kernel_rfl, by kernel_rfl, by kernel_rfl⟩, by kernel_rfl⟩
theorem sE5 : ((doX [] sh4 2 0 sc5).1.1.c = 20 ∧ (doX [] sh4 2 0 sc5).1.1.n = 0 ∧ (doX [] sh4 2 0 sc5).1.1.said = []) ∧ (doX [] sh4 2 0 sc5).2 = 0 := ⟨⟨by kernel_rfl, by kernel_rfl, by kernel_rfl⟩, by kernel_rfl⟩
theorem cok {op r h v a b c : Int} (h1 : 0 ≤ op) (h2 : 0 ≤ r) (h3 : 0 ≤ h) (h4 : 0 ≤ v) (h5 : -9223372036854775808 ≤ a) (h6 : a ≤ 9223372036854775807) : Cok ⟨op, r, h, v, a, b, c⟩ := ⟨h1, h2, h3, h4, h5, h6⟩
set_option maxHeartbeats 4000000 in
theorem shown_any (w : World) : Calls Tryz.prog 13 #[] w fun e w' => e = .returned (.bool true) ∧ Below w.heap.size w w' := by
  go_enter Tryz.func13, Tryz.ntmps13
  go_wp2_with fail
  refine (some_any _).mono ?_
  rintro e wq ⟨rfl, kq⟩
  go_wp2_with fail
  refine (ms_new (bx := []) kq (fun x hx => absurd hx List.not_mem_nil) List.nodup_nil 4 2 128 512 _ [] (rows_nil _) ok_nil (by decide) (by decide)).mono ?_
  rintro e w2 ⟨Z, rfl, h2, _⟩
  have h2 : Ms w w2 Z [] 4 2 0 sh0 [] := h2
  go_wp2_with fail
  refine (ms_to h2 (by omega) (c := sc1) (cok (by omega) (by omega) (by omega) (by omega) (by omega) (by omega)) 0 sE1).mono ?_
  rintro e w3 ⟨A3, c3, rfl, _, h3⟩
  have h3 : Ms w w3 Z [] 4 2 1 sh1 [] := h3
  have h3 := h3.new #[.int .i64 0, .int .i64 1, .slice A3 0 c3] anT
  go_wp2_with fail
  refine (ms_to h3 (by omega) (c := sc2) (cok (by omega) (by omega) (by omega) (by omega) (by omega) (by omega)) 0 sE2).mono ?_
  rintro e w4 ⟨A4, c4, rfl, _, h4⟩
  have h4 : Ms w w4 Z [] 4 2 2 sh2 _ := h4
  have h4 := h4.new #[.int .i64 0, .int .i64 0, .slice A4 0 c4] anT
  go_wp2_with fail
  refine (ms_to h4 (by omega) (c := sc3) (cok (by omega) (by omega) (by omega) (by omega) (by omega) (by omega)) 0 sE3).mono ?_
  rintro e w5 ⟨A5, c5, rfl, _, h5⟩
  have h5 : Ms w w5 Z [] 4 2 3 sh3 _ := h5
  have h5 := h5.new #[.int .i64 0, .int .i64 16777264, .slice A5 0 c5] anT
  go_wp2_with fail
  refine (ms_to h5 (by omega) (c := sc4) (cok (by omega) (by omega) (by omega) (by omega) (by omega) (by omega)) 0 sE4).mono ?_
  rintro e w6 ⟨A6, c6, rfl, _, h6⟩
  have h6 : Ms w w6 Z [] 4 2 4 sh4 _ := h6
  have h6 := h6.new #[.int .i64 0, .int .i64 0, .slice A6 0 c6] anT
  go_wp2_with fail
  refine (ms_to h6 (by omega) (c := sc5) (cok (by omega) (by omega) (by omega) (by omega) (by omega) (by omega)) 0 sE5).mono ?_
  rintro e w7 ⟨A7, c7, rfl, _, h7⟩
  have h8 := h7.new #[.int .i64 20, .int .i64 0, .slice A7 0 c7] anT
  obtain ⟨x0, x1, _⟩ := h8.cells3 4 rfl
  obtain ⟨y0, y1, _⟩ := h8.cells3 3 rfl
  obtain ⟨z0, z1, _⟩ := h8.cells3 2 rfl
  obtain ⟨u0, u1, _⟩ := h8.cells3 1 rfl
  go_wp2
  go_ret
  exact ⟨rfl, h8.below⟩
end Go.Proofs.YtneggppfffekdaaGreat.Mod
