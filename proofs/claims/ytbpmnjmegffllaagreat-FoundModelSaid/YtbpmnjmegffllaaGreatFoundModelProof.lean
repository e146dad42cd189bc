/-
  penfoldlaw14.FoundModel returns true for every four integers (a plan) and every row of Ops, and changes nothing that was there; no condition.
-/
import Derived.Test.YtbpmnjmegffllaaGreatRows
import Derived.Test.YtbpmnjmegffllaaGreatBase
import Derived.Test.YtbpmnjmegffllaaGreatFouc
import Derived.Deep.DeepCutAuto
namespace Go.Proofs.YtbpmnjmegffllaaGreat.foundModel
open Go.ChangeShapes Go.WideShapes Go.ChangeAt Go.RowKit
set_option linter.unusedVariables false

open Go.Proofs.YtbpmnjmegffllaaGreat.Fou Sco Amem Go.Proofs.YtbpmnjmegffllaaGreat.Beg Go.Proofs.YtbpmnjmegffllaaGreat.Mod
attribute [local go_sem ↓] Go.wp_at_zero Go.wp_at_succ
theorem there_len {w0 W : World} {b m : Nat} {vs : List Value} (A : Held.At w0 W b vs) (h : vs.length = m) : W.there b 0 m := h ▸ at_there A
theorem keepS {w0 W : World} {L : List (Nat × List Value)} {bP b o : Nat} {n t i j v : Int} {mk : Bool} (S : Held.St w0 W L) (A : Held.At w0 W bP [.int .i64 n, .int .i64 t, .int .i64 i, .int .i64 j]) (hb : b < w0.heap.size) (x0 : w0.cell? ⟨b, o, none⟩ = some (.bool mk)) (x1 : w0.cell? ⟨b, o + 1, none⟩ = some (.int .i64 v)) :
    (W.cell? ⟨bP, 0, none⟩ = some (.int .i64 n) ∧ W.cell? ⟨bP, 1, none⟩ = some (.int .i64 t) ∧ W.cell? ⟨bP, 2, none⟩ = some (.int .i64 i) ∧ W.cell? ⟨bP, 3, none⟩ = some (.int .i64 j)) ∧ W.cell? ⟨b, o, none⟩ = some (.bool mk) ∧ W.cell? ⟨b, o + 1, none⟩ = some (.int .i64 v) :=
  ⟨plan4 A, (S.below.cell (p := ⟨b, o, none⟩) hb).trans x0, (S.below.cell (p := ⟨b, o + 1, none⟩) hb).trans x1⟩
/-- Behind 'r := begun(..)'. -/
def StB (w0 : World) (L : List (Nat × List Value)) (P : Pn) (G : Nat) (f : Nat → Int) (X : Dx) (p : Dp) (m : Mo) (c : Ca) (be : Be) (s : Value) (wx : World) : Prop :=
  ∃ gB CS A d, s = .pointer (some ⟨gB, 0, none⟩) ∧ Wb w0 wx ((gB, CS) :: L) P G f X p m ∧ CS = (ofR c be 0 0 0 (.slice A 0 d)).cells ∧ Slic.Sr kE wx (.slice A 0 d) [] ∧ ∀ b, (Value.slice A 0 d).ownBlock = some b → b ∉ [P.g, G]
theorem op_do (FF : List (List Fina.O)) (m : Mo) (mk : Bool) (v : Int) : doM FF m 0 (opC mk v) = (⟨(opR m.F mk v).x, (opR m.F mk v).v, []⟩, ⟨(opR m.F mk v).F, m.O, m.A, m.T⟩) := by
  cases mk with
  | true => rfl
  | false =>
    have e : doM FF m 0 (opC false v) = destroyM m (opA false v) := rfl
    rw [e]
    unfold destroyM no
    have hv : (opR m.F false v).v = 0 := Go.Proofs.YtbpmnjmegffllaaGreat.Fou.destroy_v m.F (opA false v)
    rw [hv]
    rfl
/-- A scope that there is not is refused. -/
theorem op_out {F : Fo} {n : Nat} (hl : F.R.length = n) {mk : Bool} {v : Int} (h : opB n mk v = false) : (opR F mk v).x = 11 ∧ (opR F mk v).v = 0 ∧ (opR F mk v).F = F := by
  cases mk with
  | true => cases h
  | false =>
    have h1 : ¬ opA false v < (n : Int) := by simpa [opB] using h
    have h2 := (op_bd false v).1
    have lk : Sco.look F.R (opA false v) = none := by
      unfold Sco.look
      rw [if_pos h2, List.getElem?_eq_none (by omega)]
    have e : opR F false v = destroyV F (opA false v) := rfl
    rw [e]
    unfold destroyV
    rw [lk]
    exact ⟨rfl, rfl, rfl⟩
theorem op_cok (mk : Bool) (v : Int) : Cok (opC mk v) := by
  have := op_bd mk v
  refine ⟨?_, Int.le_refl _, Int.le_refl _, Int.le_refl _, ?_, ?_⟩
  · show 0 ≤ (if mk = true then (2 : Int) else 3)
    split <;> omega
  · show -9223372036854775808 ≤ opA mk v
    omega
  · show opA mk v ≤ 9223372036854775807
    omega
theorem wkRe {w0 w : World} {L : List (Nat × List Value)} {n : Nat} {t i j : Int} {B g N K K' G : Nat} {f : Nat → Int} {F : Fo} (S : Wk w0 w L ⟨n, t, i, j, B, g, N, K⟩ G f F) {w' : World} (hk : w.heap.size ≤ K') (k : Below w.heap.size w w') (hl : K' < w'.heap.size) : Wk w0 w' L ⟨n, t, i, j, B, g, N, K'⟩ G f F :=
  ⟨S.st.call k, ⟨Ar.keep S.fd.ar k, (S.fd.gr.other hk).below k, S.fd.wf, S.fd.iv, hl⟩, S.og, S.oG, S.ap⟩

set_option maxRecDepth 100000 in
set_option maxHeartbeats 8000000 in
theorem walk (q0 q1 q2 q3 : Int) (lA : Option Addr) (ln lc : Nat) (lz : Nat → Nat → Int) (w : World) (wq0 : (Lit.int .i64 q0).wf = true) (wq1 : (Lit.int .i64 q1).wf = true) (wq2 : (Lit.int .i64 q2).wf = true) (wq3 : (Lit.int .i64 q3).wf = true) (hl : Args.PRecs [none, some .i64] w lA ln lz) :
    Calls Tryz.prog 4 #[.agg #[.int .i64 q0, .int .i64 q1, .int .i64 q2, .int .i64 q3], .slice lA ln lc] w fun e w' => e = .returned (.bool true) ∧ Below w.heap.size w w' := by
  obtain ⟨n, t, i, hp, ⟨b1, b2, b3, b4, b5, b6, b7, b8, b9, b10⟩, FT⟩ := Plan.fit_all q0 q1 q2 q3
  have hr : Plan.rightB n t i hp = true := decide_eq_true (by omega)
  obtain ⟨n, rfl⟩ := Int.eq_ofNat_of_zero_le (show 0 ≤ n by omega)
  obtain ⟨nt, hnt⟩ := Int.eq_ofNat_of_zero_le (show 0 ≤ t by omega)
  obtain ⟨M, hM⟩ : ∃ M : Nat, hp = 8 * (M : Int) := ⟨(hp / 8).toNat, by omega⟩
  clear wq0 wq1 wq2 wq3
  have S0 := (Held.St.start w).new [.int .i64 q0, .int .i64 q1, .int .i64 q2, .int .i64 q3] 23
  have HR := Lib.hid hr
  have RN := fun w => refnew12_any w n M nt i none 0 0 [] (by rw [← hnt, ← hM]; exact hr) ⟨[], Slic.Own.nil _ _, rfl, fun i h => absurd h (by simp)⟩
  rw [← hnt, ← hM] at RN
  have HNT := Lib.hid hnt
  have HM := Lib.hid hM
  clear hr hnt hM
  go_enter Tryz.func4, Tryz.ntmps4
  go_wp2_with fail
  refine (shown14_any _).mono ?_
  rintro z w1 ⟨rfl, k1⟩
  have S1 := S0.call k1
  obtain ⟨_, c0, c1, c2, c3⟩ := S1.get4 0 rfl
  go_wp2_with fail
  refine (FT _).mono ?_
  rintro z w2 ⟨rfl, k2⟩
  have S2 := (S1.call k2).new [.int .i64 (n : Int), .int .i64 t, .int .i64 i, .int .i64 hp] 23
  clear c0 c1 c2 c3
  obtain ⟨_, c0, c1, c2, c3⟩ := S2.get4 0 rfl
  go_wp2_with fail
  refine (new_ok _ n t i hp HR.out).mono ?_
  rintro z w3 ⟨B, g, G, rfl, h3, k3, l1, l2, l3⟩
  have S3 := Wk.start S2 k3 h3 l2 l3
  clear c0 c1 c2 c3
  obtain ⟨_, c0, c1, c2, c3⟩ := S3.st.get4 0 rfl
  go_wp2_with fail
  refine (RN _).mono ?_
  rintro z w4 ⟨X, rfl, rm, xn, xt, xA, xN, xF, k4, ow⟩
  have lgx := dlt rm (.inr (.inr (.inl rfl)))
  have S4 := wkRe S3 (K' := X.P.gx) (ow _ (.inr (.inr (.inl rfl)))) k4 lgx
  have R := newpr HR.out B g X.P.gx
  obtain ⟨N, hNN⟩ : ∃ N, sizeN n i hp = N := ⟨_, rfl⟩
  obtain ⟨f0, hf⟩ : ∃ f0, Go.Proofs.YtbpmnjmegffllaaGreat.Fou.newW n i = f0 := ⟨_, rfl⟩
  obtain ⟨m0, hm0⟩ : ∃ m0, newM n nt (64 * (n : Int) + i) hp (64 * (n : Int)) i = m0 := ⟨_, rfl⟩
  have hF0 : Sco.start n (64 * (n : Int) + i) hp (64 * (n : Int)) i = m0.F := by rw [← hm0]; rfl
  obtain ⟨Z, hZ⟩ : ∃ Z : Fx, Z = ⟨0, 0, 0, 0, 0, n, nt, 64 * (n : Int) + i, hp, 64 * (n : Int), i, (none, 0, 0), []⟩ := ⟨_, rfl⟩
  have iv0 : Iv Z 0 m0 := by
    rw [← hm0, hZ]
    have hM := HM.out
    have hT := HNT.out
    exact newM_iv (Z := ⟨0, 0, 0, 0, 0, n, nt, 64 * (n : Int) + i, hp, 64 * (n : Int), i, (none, 0, 0), []⟩) (by show 1 ≤ n; omega) (by show n ≤ 8; omega) (by show 1 ≤ nt ∧ nt ≤ 4; omega) (by show 8 ≤ 64 * (n : Int) ∧ 64 * (n : Int) % 8 = 0 ∧ 0 ≤ i ∧ i % 8 = 0 ∧ 64 * (n : Int) + i = 64 * (n : Int) + i; omega) (by show 0 ≤ hp; omega) (by show hp % 8 = 0; omega) (by show 64 * (n : Int) + i + hp ≤ 65536; omega)
  have zn : Z.n = X.n := by rw [hZ, xn]
  have zA : Z.A = X.A := by rw [hZ, xA]
  have zS : Z.S = 8 * (X.N : Int) := by rw [hZ, xN]; exact HM.out
  have zN : X.N ≤ 8192 := by rw [xN]; have := HM.out; omega
  have zt : 0 < Z.nt := by rw [hZ]; have := HNT.out; show 0 < nt; omega
  have zZ : Z.n = n := by rw [hZ]
  have ff : Fok X.FF := by rw [xF]; exact fun L hL => absurd hL List.not_mem_nil
  rw [hNN] at R S4
  rw [hf, hF0] at S4
  rw [hm0] at rm
  obtain ⟨gx, hgx⟩ : ∃ z, X.P.gx = z := ⟨_, rfl⟩
  rw [hgx] at R S4
  obtain ⟨bP, hbP⟩ : ∃ bP : Nat, bP = w2.heap.size := ⟨_, rfl⟩
  rw [← hbP] at S4
  have lg := S3.fd.ar.body.lt
  have lG := S3.fd.gr.lt
  have nGg : ∀ b, w4.heap.size ≤ b → b ∈ [g, G] → False := fun b hb hm => by
    have l9 := k4.size
    rcases List.mem_cons.1 hm with rfl | hm
    · dsimp only at lg; omega
    · rw [List.mem_singleton.1 hm] at hb; omega
  have SB : Wb w w4 [(bP, [.int .i64 (n : Int), .int .i64 t, .int .i64 i, .int .i64 hp]), (w.heap.size, [.int .i64 q0, .int .i64 q1, .int .i64 q2, .int .i64 q3])] ⟨n, t, i, hp, B, g, N, gx⟩ G f0 X p0 m0 := ⟨S4, rm, hgx.symm, fun b hb => Nat.le_trans S3.st.below.size (ow b hb), fun y hy d => by
    have h9 := ow _ d
    have h8 := S3.st.at_
    rcases List.mem_cons.1 hy with rfl | hy
    · have := (S3.st.get 0 rfl).lt
      dsimp only at h9
      omega
    · rw [List.mem_singleton.1 hy] at h9
      have := (S3.st.get 1 rfl).lt
      dsimp only at h9
      omega⟩
  have QN := Lib.hid zn
  have QA := Lib.hid zA
  have QS := Lib.hid zS
  have QM := Lib.hid zN
  have QT := Lib.hid zt
  have QZ := Lib.hid zZ
  have HGG := Lib.hid nGg
  clear zn zA zS zN zt zZ xn xt xA xN xF hZ hm0 ow hNN hf hF0 hgx h3 S3 S4 rm lgx lg lG nGg c0 c1 c2 c3 l1 l2 l3 RN
  go_wp2_with fail
  rw [← hbP]
  clear hbP
  go_loopw [11] (fun t' wr => ∃ (k : Nat) (f : Nat → Int) (p : Dp) (m : Mo), k ≤ 40 ∧ k ≤ ln ∧ t' = .int .i64 (k : Int) ∧ Iv Z k m ∧ Wb w wr [(bP, [.int .i64 (n : Int), .int .i64 t, .int .i64 i, .int .i64 hp]), (w.heap.size, [.int .i64 q0, .int .i64 q1, .int .i64 q2, .int .i64 q3])] ⟨n, t, i, hp, B, g, N, gx⟩ G f X p m ∧ w4.heap.size ≤ wr.heap.size) (fun t' _ => 40 - (intOf t').toNat)
  case atStart => exact ⟨0, f0, p0, m0, by omega, by omega, rfl, iv0, SB, Nat.le_refl _⟩
  case round =>
    clear SB iv0
    obtain ⟨k, f, p, m, hk, hkl, rfl, iv, S5, l5⟩ := hrel
    by_cases h40 : k < 40
    · by_cases hln : k < ln
      · obtain ⟨b, o, mk, rfl, hb, x0, x1, z1, z2⟩ := op_at hl k hln
        obtain ⟨v, hv⟩ : ∃ v, lz k 1 = v := ⟨_, rfl⟩
        rw [hv] at x1 z1 z2
        rw [show o + (k * 2 + 1) = o + k * 2 + 1 from rfl] at x1
        clear hv
        obtain ⟨be, hbe⟩ : ∃ be : Be, (if opB n mk v = true then ⟨0, 1⟩ else ⟨11, 0⟩ : Be) = be := ⟨_, rfl⟩
        have BE := Lib.hid hbe
        have nGg : ∀ b, wr.heap.size ≤ b → b ∈ [g, G] → False := fun b hb hm => HGG.out b (Nat.le_trans l5 hb) hm
        obtain ⟨W5, hW5⟩ : ∃ W : World, W = wr := ⟨_, rfl⟩
        rw [← hW5] at S5 l5 nGg
        have i0 : (0 : Int) ≤ (k : Int) := by omega
        have i1 : (k : Int) < (ln : Int) := by omega
        clear hbe
        go_upto_region 10 with (fail)
        rw [← hW5]
        clear hW5
        go_cut [12] (fun s wx => StB w [(bP, [.int .i64 (n : Int), .int .i64 t, .int .i64 i, .int .i64 hp]), (w.heap.size, [.int .i64 q0, .int .i64 q1, .int .i64 q2, .int .i64 q3])] ⟨n, t, i, hp, B, g, N, gx⟩ G f X p m (opC mk v) be s wx ∧ W5.heap.size ≤ wx.heap.size)
        case first =>
          refine wp_region_held_drew (S := (fun W' => ((W'.cell? ⟨bP, 0, none⟩ = some (.int .i64 (n : Int)) ∧ W'.cell? ⟨bP, 1, none⟩ = some (.int .i64 t) ∧ W'.cell? ⟨bP, 2, none⟩ = some (.int .i64 i) ∧ W'.cell? ⟨bP, 3, none⟩ = some (.int .i64 hp)) ∧ W'.cell? ⟨b, o + k * 2, none⟩ = some (.bool mk) ∧ W'.cell? ⟨b, o + k * 2 + 1, none⟩ = some (.int .i64 v)))) (by kernel_rfl) ?_ (fun hHeld => ?_)
          · exact keepS S5.drew.wk.st (S5.drew.wk.st.get 0 rfl) hb x0 x1
          refine wpAnyH_take (i := 0) (oi := ⟨some 52, _, _, _, _, _⟩) (v := ?_) rfl (by kernel_rfl) (by kernel_rfl) (by kernel_rfl) (fun _ _ _ h => h) (Or.inl ⟨by kernel_rfl, ?_⟩) (by assumption) ?_
          rotate_left
          · intro w hSw
            try dsimp only at hSw
            first | (go_simp; done) | (go_simp; with_reducible rfl) | with_reducible rfl
          simp only [Act.put, List.setIfInBounds_toArray, List.set_cons_zero, List.set_cons_succ]
          refine wpAnyH_take (i := 1) (oi := ⟨some 53, _, _, _, _, _⟩) (v := ?_) rfl (by kernel_rfl) (by kernel_rfl) (by kernel_rfl) (fun _ _ _ h => h) (Or.inl ⟨by kernel_rfl, ?_⟩) (by assumption) ?_
          rotate_left
          · intro w hSw
            try dsimp only at hSw
            first | (go_simp; done) | (go_simp; with_reducible rfl) | with_reducible rfl
          simp only [Act.put, List.setIfInBounds_toArray, List.set_cons_zero, List.set_cons_succ]
          refine wpAnyH_take (i := 2) (oi := ⟨some 54, _, _, _, _, _⟩) (v := ?_) rfl (by kernel_rfl) (by kernel_rfl) (by kernel_rfl) (fun _ _ _ h => h) (Or.inl ⟨by kernel_rfl, ?_⟩) (by assumption) ?_
          rotate_left
          · intro w hSw
            try dsimp only at hSw
            first | (go_simp; done) | (go_simp; with_reducible rfl) | with_reducible rfl
          simp only [Act.put, List.setIfInBounds_toArray, List.set_cons_zero, List.set_cons_succ]
          refine wpAnyH_take (i := 3) (oi := ⟨some 55, _, _, _, _, _⟩) (v := ?_) rfl (by kernel_rfl) (by kernel_rfl) (by kernel_rfl) (fun _ _ _ h => h) (Or.inl ⟨by kernel_rfl, ?_⟩) (by assumption) ?_
          rotate_left
          · intro w hSw
            try dsimp only at hSw
            first | (go_simp; done) | (go_simp; with_reducible rfl) | with_reducible rfl
          simp only [Act.put, List.setIfInBounds_toArray, List.set_cons_zero, List.set_cons_succ]
          refine wpAnyH_take (i := 4) (oi := ⟨some 56, _, _, _, _, _⟩) (v := ?_) rfl (by kernel_rfl) (by kernel_rfl) (by kernel_rfl) (fun _ _ _ h => h) (Or.inl ⟨by kernel_rfl, ?_⟩) (by assumption) ?_
          rotate_left
          · intro w hSw
            try dsimp only at hSw
            first | (go_simp; done) | (go_simp; with_reducible rfl) | with_reducible rfl
          simp only [Act.put, List.setIfInBounds_toArray, List.set_cons_zero, List.set_cons_succ]
          refine wpAnyH_take (i := 5) (oi := ⟨some 57, _, _, _, _, _⟩) (v := ?_) rfl (by kernel_rfl) (by kernel_rfl) (by kernel_rfl) (fun _ _ _ h => h) (Or.inl ⟨by kernel_rfl, ?_⟩) (by assumption) ?_
          rotate_left
          · intro w hSw
            try dsimp only at hSw
            first | (go_simp; done) | (go_simp; with_reducible rfl) | with_reducible rfl
          simp only [Act.put, List.setIfInBounds_toArray, List.set_cons_zero, List.set_cons_succ]
          refine wpAnyH_take (i := 6) (oi := ⟨some 58, _, _, _, _, _⟩) (v := ?_) rfl (by kernel_rfl) (by kernel_rfl) (by kernel_rfl) (fun _ _ _ h => h) (Or.inl ⟨by kernel_rfl, ?_⟩) (by assumption) ?_
          rotate_left
          · intro w hSw
            try dsimp only at hSw
            first | (go_simp; done) | (go_simp; with_reducible rfl) | with_reducible rfl
          simp only [Act.put, List.setIfInBounds_toArray, List.set_cons_zero, List.set_cons_succ]
          refine wpAnyH_take (i := 7) (oi := ⟨some 59, _, _, _, _, _⟩) (v := ?_) rfl (by kernel_rfl) (by kernel_rfl) (by kernel_rfl) (fun _ _ _ h => h) (Or.inl ⟨by kernel_rfl, ?_⟩) (by assumption) ?_
          rotate_left
          · intro w hSw
            try dsimp only at hSw
            first | (go_simp; done) | (go_simp; with_reducible rfl) | with_reducible rfl
          simp only [Act.put, List.setIfInBounds_toArray, List.set_cons_zero, List.set_cons_succ]
          refine wpAnyH_take (i := 8) (oi := ⟨some 60, _, _, _, _, _⟩) (v := ?_) rfl (by kernel_rfl) (by kernel_rfl) (by kernel_rfl) (fun _ _ _ h => h) (Or.inl ⟨by kernel_rfl, ?_⟩) (by assumption) ?_
          rotate_left
          · intro w hSw
            try dsimp only at hSw
            first | (go_simp; done) | (go_simp; with_reducible rfl) | with_reducible rfl
          simp only [Act.put, List.setIfInBounds_toArray, List.set_cons_zero, List.set_cons_succ]
          refine wpAnyH_take (i := 9) (oi := ⟨some 61, _, _, _, _, _⟩) (v := ?_) rfl (by kernel_rfl) (by kernel_rfl) (by kernel_rfl) (fun _ _ _ h => h) (Or.inl ⟨by kernel_rfl, ?_⟩) (by assumption) ?_
          rotate_left
          · intro w hSw
            try dsimp only at hSw
            first | (go_simp; done) | (go_simp; with_reducible rfl) | with_reducible rfl
          simp only [Act.put, List.setIfInBounds_toArray, List.set_cons_zero, List.set_cons_succ]
          refine wpAnyH_take (i := 10) (oi := ⟨some 62, _, _, _, _, _⟩) (v := ?_) rfl (by kernel_rfl) (by kernel_rfl) (by kernel_rfl) (fun _ _ _ h => h) (Or.inl ⟨by kernel_rfl, ?_⟩) (by assumption) ?_
          rotate_left
          · intro w hSw
            try dsimp only at hSw
            first | (go_simp; done) | (go_simp; with_reducible rfl) | with_reducible rfl
          simp only [Act.put, List.setIfInBounds_toArray, List.set_cons_zero, List.set_cons_succ]
          refine wpAnyH_ready (rs := [11, 12]) (by kernel_rfl) (by simp) ?_
          refine AllReadyH.cons (o := ⟨some 63, _, _, _, _, _⟩) rfl (fun K hK => ?_) (AllReadyH.cons (o := ⟨some 12, _, _, _, _, _⟩) rfl (fun K hK => ?_) AllReadyH.nil)
          · skip
            go_simp
            refine (begun_any _ n t i hp mk v (by omega) (by omega)).mono ?_
            rintro z w6 ⟨A6, c6, rfl, O6, OB6, k6⟩
            rw [BE.out]
            obtain ⟨CS, hCS⟩ : ∃ CS : List Value, (ofR (opC mk v) be 0 0 0 (.slice A6 0 c6)).cells = CS := ⟨_, rfl⟩
            have CE : runV (ofR (opC mk v) be 0 0 0 (.slice A6 0 c6)) = .agg CS.toArray := by rw [← hCS]; rfl
            have ON : ∀ u ∈ CS, u.oneCell' = true := by rw [← hCS]; exact cells_one rfl rfl rfl rfl
            have LC : CS.length = 26 := by rw [← hCS]; rfl
            have HG : ∀ b, (Value.slice A6 0 c6).ownBlock = some b → b ∉ [g, G] := fun b e hm => nGg b (Nat.le_trans (Nat.le_refl _) (OB6 b e)) hm
            rw [CE]
            refine hK.out _ _ ?_ (fun hHeld => ?_)
            · exact keepS (S5.drew.call k6).wk.st ((S5.drew.call k6).wk.st.get 0 rfl) hb x0 x1
            clear hK K
            refine wpAnyH_ready (rs := [12]) (by kernel_rfl) (by simp) ?_
            refine AllReadyH.cons (o := ⟨some 12, _, _, _, _, _⟩) rfl (fun K hK => ?_) AllReadyH.nil
            go_simp
            refine hK.out _ _ ?_ (fun hHeld => ?_)
            · exact keepS ((S5.drew.call k6).new zR 42).wk.st (((S5.drew.call k6).new zR 42).wk.st.get 1 rfl) hb x0 x1
            clear hK K
            refine wpAnyH_ready (rs := [13]) (by kernel_rfl) (by simp) ?_
            refine AllReadyH.cons (o := ⟨none, _, _, _, _, _⟩) rfl (fun K hK => ?_) AllReadyH.nil
            have AA := ((S5.drew.call k6).new zR 42)
            have TB := typ_new w6 zR.toArray 42
            have AF := Wb.fill AA TB CS LC
            have TT := there_len (AA.wk.st.get 0 rfl) (show zR.length = CS.toArray.size from LC.symm)
            have IR : (Tryz.prog.info? 42).map (·.size) = some CS.toArray.size := by rw [show CS.toArray.size = 26 from LC]; exact info_run
            rw [if_pos (by rfl)]
            refine wp_store_mid _ _ _ rfl _ 0 CS.toArray rfl rfl TT IR (all_oneCell_toArray ON) ?_
            simp only [Act.put]
            refine hK.out _ _ ?_ (fun hHeld => ?_)
            · exact keepS AF.wk.st (AF.wk.st.get 1 rfl) hb x0 x1
            clear hK K
            refine wpAnyH_done (by kernel_rfl) ?_ _
            go_wp2_with fail
            go_meet
            exact ⟨⟨_, CS, A6, c6, rfl, AF, hCS.symm, sr_nilK O6, HG⟩, (fill_only _ _ _).size |> Nat.le_trans (Nat.le_trans k6.size (by simp))⟩
          · skip
            go_simp
            refine hK.out _ _ ?_ (fun hHeld => ?_)
            · exact keepS (S5.drew.new zR 42).wk.st ((S5.drew.new zR 42).wk.st.get 1 rfl) hb x0 x1
            clear hK K
            refine wpAnyH_ready (rs := [11]) (by kernel_rfl) (by simp) ?_
            refine AllReadyH.cons (o := ⟨some 63, _, _, _, _, _⟩) rfl (fun K hK => ?_) AllReadyH.nil
            go_simp
            refine (begun_any _ n t i hp mk v (by omega) (by omega)).mono ?_
            rintro z w6 ⟨A6, c6, rfl, O6, OB6, k6⟩
            rw [BE.out]
            obtain ⟨CS, hCS⟩ : ∃ CS : List Value, (ofR (opC mk v) be 0 0 0 (.slice A6 0 c6)).cells = CS := ⟨_, rfl⟩
            have CE : runV (ofR (opC mk v) be 0 0 0 (.slice A6 0 c6)) = .agg CS.toArray := by rw [← hCS]; rfl
            have ON : ∀ u ∈ CS, u.oneCell' = true := by rw [← hCS]; exact cells_one rfl rfl rfl rfl
            have LC : CS.length = 26 := by rw [← hCS]; rfl
            have HG : ∀ b, (Value.slice A6 0 c6).ownBlock = some b → b ∉ [g, G] := fun b e hm => nGg b (Nat.le_trans (by simp) (OB6 b e)) hm
            rw [CE]
            refine hK.out _ _ ?_ (fun hHeld => ?_)
            · exact keepS ((S5.drew.new zR 42).call k6).wk.st (((S5.drew.new zR 42).call k6).wk.st.get 1 rfl) hb x0 x1
            clear hK K
            refine wpAnyH_ready (rs := [13]) (by kernel_rfl) (by simp) ?_
            refine AllReadyH.cons (o := ⟨none, _, _, _, _, _⟩) rfl (fun K hK => ?_) AllReadyH.nil
            have AA := ((S5.drew.new zR 42).call k6)
            have TB := typ_go (X := []) (typ_new W5.drew zR.toArray 42) (Only.below k6) (by simp)
            have AF := Wb.fill AA TB CS LC
            have TT := there_len (AA.wk.st.get 0 rfl) (show zR.length = CS.toArray.size from LC.symm)
            have IR : (Tryz.prog.info? 42).map (·.size) = some CS.toArray.size := by rw [show CS.toArray.size = 26 from LC]; exact info_run
            rw [if_pos (by rfl)]
            refine wp_store_mid _ _ _ rfl _ 0 CS.toArray rfl rfl TT IR (all_oneCell_toArray ON) ?_
            simp only [Act.put]
            refine hK.out _ _ ?_ (fun hHeld => ?_)
            · exact keepS AF.wk.st (AF.wk.st.get 1 rfl) hb x0 x1
            clear hK K
            refine wpAnyH_done (by kernel_rfl) ?_ _
            go_wp2_with fail
            go_meet
            exact ⟨⟨_, CS, A6, c6, rfl, AF, hCS.symm, sr_nilK O6, HG⟩, (fill_only _ _ _).size |> Nat.le_trans (Nat.le_trans (by simp) k6.size)⟩
        case rest =>
          obtain ⟨⟨gB, CS, A6, c6, rfl, S6, hCS, O6, HG⟩, l6⟩ := hcut
          obtain ⟨c, hc⟩ : ∃ c, opC mk v = c := ⟨_, rfl⟩
          have ok : Cok c := by rw [← hc]; exact op_cok mk v
          have DO : doM X.FF m 0 c = (⟨(opR m.F mk v).x, (opR m.F mk v).v, []⟩, ⟨(opR m.F mk v).F, m.O, m.A, m.T⟩) := by rw [← hc]; exact op_do _ _ _ _
          rw [hc] at hCS
          have e0 : CS[0]? = some (.int .u8 c.op) ∧ CS[1]? = some (.int .u8 c.r) ∧ CS[2]? = some (.int .u8 c.h) ∧ CS[3]? = some (.int .u8 c.v) ∧ CS[4]? = some (.int .i64 c.a) ∧ CS[5]? = some (.int .i64 c.b) ∧ CS[6]? = some (.int .i64 c.c) := by rw [hCS]; exact ⟨rfl, rfl, rfl, rfl, rfl, rfl, rfl⟩
          have e7 : CS[7]? = some (.int .i64 be.pc) := by rw [hCS]; rfl
          have e23 : CS[23]? = some (.int .i64 be.code) := by rw [hCS]; rfl
          have HC := Lib.hid hc
          have HCS := Lib.hid hCS
          have HDO := Lib.hid DO
          have A6' := S6.wk.st.get 0 rfl
          have y0 := A6'.cell 0 _ e0.1
          have y1 := A6'.cell 1 _ e0.2.1
          have y2 := A6'.cell 2 _ e0.2.2.1
          have y3 := A6'.cell 3 _ e0.2.2.2.1
          have y4 := A6'.cell 4 _ e0.2.2.2.2.1
          have y5 := A6'.cell 5 _ e0.2.2.2.2.2.1
          have y6 := A6'.cell 6 _ e0.2.2.2.2.2.2
          have HLEN := Lib.hid (show m.F.R.length = n from S6.wk.fd.iv.len)
          clear hc hCS DO A6' e0
          go_wp2_with fail
          refine (refdo_any S6.rm iv (by omega) ff QN.out QA.out QS.out QM.out QT.out ok).mono ?_
          rintro z w7 ⟨⟨sA, sn, sc⟩, rfl, osd, fsd, did⟩
          obtain ⟨p', wk7, rm7, own7, ad7⟩ := S6.did did
          have iv7 := iv.does X.FF QT.out c
          have l7 : w4.heap.size ≤ w7.heap.size := by
            obtain ⟨_, _, ⟨_, _, q⟩, _⟩ := did
            exact Nat.le_trans l5 (Nat.le_trans l6 q.size)
          rw [HDO.out] at rm7 iv7 osd ⊢
          obtain ⟨x, hx⟩ : ∃ z, (opR m.F mk v).x = z := ⟨_, rfl⟩
          obtain ⟨vn, hvn⟩ : ∃ z, (opR m.F mk v).v = z := ⟨_, rfl⟩
          dsimp only at osd rm7 iv7 ⊢
          rw [hx, hvn]
          have SD := osd.sr
          obtain ⟨sA', sc', e9, _⟩ := id SD
          injection e9 with e9a e9b e9c
          dsimp only [List.length_nil] at e9b
          subst e9b
          clear e9a e9c did osd fsd y0 y1 y2 y3 y4 y5 y6
          have wk8 := wk7.new [.int .i64 x, .int .i64 vn, .slice sA 0 sc] 40
          have rm8 := rm7.keep ((Below.refl _ _).alloc (Nat.le_refl _) (.cells [.int .i64 x, .int .i64 vn, .slice sA 0 sc].toArray 40))
          have x0' := (wk8.st.get 0 rfl).cell 0 _ rfl
          have x7 := (wk8.st.get 1 rfl).cell 7 _ e7
          have x23 := (wk8.st.get 1 rfl).cell 23 _ e23
          have ad8 : ∀ y ∈ (w7.heap.size, [Value.int .i64 x, .int .i64 vn, .slice sA 0 sc]) :: (gB, CS) :: [(bP, [.int .i64 (n : Int), .int .i64 t, .int .i64 i, .int .i64 hp]), (w.heap.size, [.int .i64 q0, .int .i64 q1, .int .i64 q2, .int .i64 q3])], ¬ dw X p' y.1 := fun y hy d => by
            rcases List.mem_cons.1 hy with rfl | hy
            · exact Nat.lt_irrefl _ (dlt rm7 d)
            · exact ad7 y hy d
          cases hb' : opB n mk v with
          | false =>
            have hbe : be = ⟨11, 0⟩ := by rw [← BE.out, hb']; rfl
            obtain ⟨o1, o2, o3⟩ := op_out HLEN.out hb'
            rw [hx] at o1
            rw [hbe] at x7 x23
            rw [o1] at x0'
            rw [o3] at rm7 iv7 rm8
            have SE : Wb w (w7.alloc (.cells [.int .i64 x, .int .i64 vn, .slice sA 0 sc].toArray 40)) [(bP, [.int .i64 (n : Int), .int .i64 t, .int .i64 i, .int .i64 hp]), (w.heap.size, [.int .i64 q0, .int .i64 q1, .int .i64 q2, .int .i64 q3])] ⟨n, t, i, hp, B, g, N, gx⟩ G f X p' ⟨m.F, m.O, m.A, m.T⟩ := (Wb.sub (Wb.sub ⟨wk8, rm8, S6.kx, own7, ad8⟩))
            have l8 : w4.heap.size ≤ (w7.alloc (.cells [.int .i64 x, .int .i64 vn, .slice sA 0 sc].toArray 40)).heap.size := by simp; omega
            clear hbe o2 o3 wk7 wk8 rm7 rm8 S6 e7 e23 HDO
            subst o1
            go_wp2_with fail
            go_roundw
            case rel => exact ⟨k + 1, f, p', _, by omega, by omega, by go_num, iv7, SE, l8⟩
            case measure => simp [intOf]; omega
          | true =>
            have hbe : be = ⟨0, 1⟩ := by rw [← BE.out, hb']; rfl
            rw [hbe] at x7
            have LC : CS.length = 26 := by rw [HCS.out]; rfl
            have CE : runV (ofR (opC mk v) ⟨0, 1⟩ 0 0 0 (.slice A6 0 c6)) = .agg CS.toArray := by rw [HCS.out, hbe, HC.out]; rfl
            have P8 := wk8.st.get 2 rfl
            have p0 := P8.cell 0 _ rfl
            have p1 := P8.cell 1 _ rfl
            have p2 := P8.cell 2 _ rfl
            have p3 := P8.cell 3 _ rfl
            have RR := at_range (wk8.st.get 1 rfl)
            have HLC := Lib.hid LC
            clear P8 hbe LC e7 e23
            go_upto_region 15 with (fail)
            obtain ⟨W8, hW8⟩ : ∃ W : World, W = w7.alloc (.cells [.int .i64 x, .int .i64 vn, .slice sA 0 sc].toArray 40) := ⟨_, rfl⟩
            rw [← hW8] at wk8 rm8 p0 p1 p2 p3 RR x0'
            rw [show w7.alloc (.cells #[.int .i64 x, .int .i64 vn, .slice sA 0 sc] 40) = W8 from hW8.symm]
            have l8 : w4.heap.size ≤ W8.heap.size := by rw [hW8]; simp; omega
            clear hW8 x7 x23
            go_wp2_with (refine wpList_load_mid rfl _ _ rfl gB 0 rfl CS _ RR Tryz.underlying42 rfl (by rw [HLC.out]; exact info_run) ?_)
            rw [← CE]
            refine (step_op _ R wk8.fd mk v _ (sr_nilK O6) HG).mono ?_
            rintro z w9 ⟨ch9, li9, sa9, as9, rfl, O9, I9, T9, V9, h9, k9⟩
            rw [hx, hvn]
            obtain ⟨aA, an, rfl, _, _⟩ := O9.form
            obtain ⟨bA, bn, rfl, _, _⟩ := I9.form
            obtain ⟨cA, cn, rfl, _, _⟩ := T9.form
            obtain ⟨dA, dn, rfl, _, _⟩ := V9.form
            dsimp only [List.length_nil] at *
            obtain ⟨CN, hCN⟩ : ∃ CN : List Value, (ofT (opC mk v) ⟨0, 1⟩ 0 0 0 x vn (.slice aA 0 an) (.slice bA 0 bn) (.slice cA 0 cn) (.slice dA 0 dn)).cells = CN := ⟨_, rfl⟩
            have CE9 : runV (ofT (opC mk v) ⟨0, 1⟩ 0 0 0 x vn (.slice aA 0 an) (.slice bA 0 bn) (.slice cA 0 cn) (.slice dA 0 dn)) = .agg CN.toArray := by rw [← hCN]; rfl
            have ON9 : ∀ u ∈ CN, u.oneCell' = true := by rw [← hCN]; exact cells_one rfl rfl rfl rfl
            have LN9 : CN.length = 26 := by rw [← hCN]; rfl
            have D9 : CN[21]? = some (.bool true) ∧ CN[22]? = some (.bool true) ∧ CN[23]? = some (.int .i64 x) ∧ CN[24]? = some (.int .i64 vn) ∧ CN[25]? = some (.slice dA 0 dn) := by rw [← hCN]; exact ⟨rfl, rfl, rfl, rfl, rfl⟩
            rw [CE9]
            have S9 : Wb w w9 ((w7.heap.size, [Value.int .i64 x, .int .i64 vn, .slice sA 0 sc]) :: (gB, CS) :: [(bP, [.int .i64 (n : Int), .int .i64 t, .int .i64 i, .int .i64 hp]), (w.heap.size, [.int .i64 q0, .int .i64 q1, .int .i64 q2, .int .i64 q3])]) ⟨n, t, i, hp, B, g, N, gx⟩ G (opW f m.F mk v) X p' ⟨(opR m.F mk v).F, m.O, m.A, m.T⟩ := Wb.step wk8 rm8 S6.kx own7 ad8 h9 k9
            have l9 : w4.heap.size ≤ w9.heap.size := Nat.le_trans l8 k9.size
            have TT9 : World.there (w9.alloc (.cells zR.toArray 42)) w9.heap.size 0 CN.toArray.size := there_len ((S9.new zR 42).wk.st.get 0 rfl) (show zR.length = CN.toArray.size from LN9.symm)
            have IR9 : (Tryz.prog.info? 42).map (·.size) = some CN.toArray.size := by rw [show CN.toArray.size = 26 from LN9]; exact info_run
            have SM := Wb.fill (S9.new zR 42) (typ_new w9 zR.toArray 42) CN LN9
            have lM : w4.heap.size ≤ ((w9.alloc (.cells zR.toArray 42)).setCells w9.heap.size 0 CN).heap.size := Nat.le_trans l9 (Nat.le_trans (by simp) (fill_only _ _ _).size)
            have HON := Lib.hid ON9
            clear CE9 hCN ON9 LN9 p0 p1 p2 p3 RR x0' h9 k9 S9 wk8 rm8 wk7 rm7 S6 O9 I9 T9 CE
            go_upto_region 16 with (refine wpList_store_mid rfl _ _ _ rfl w9.heap.size 0 CN.toArray rfl rfl TT9 IR9 (all_oneCell_toArray HON.out) ?_)
            obtain ⟨W9, hW9⟩ : ∃ W : World, W = (w9.alloc (.cells [.int .u8 0, .int .u8 0, .int .u8 0, .int .u8 0, .int .i64 0, .int .i64 0, .int .i64 0, .int .i64 0, .int .i64 0, .int .u64 0, .int .u64 0, .slice none 0 0, .int .u64 0, .int .u64 0, .int .i64 0, .int .i64 0, .slice none 0 0, .int .i64 0, .slice none 0 0, .int .i64 0, .bool false, .bool false, .bool false, .int .i64 0, .int .i64 0, .slice none 0 0].toArray 42)).setCells w9.heap.size 0 CN := ⟨_, rfl⟩
            rw [← hW9] at SM lM
            rw [show (w9.alloc (.cells [.int .u8 0, .int .u8 0, .int .u8 0, .int .u8 0, .int .i64 0, .int .i64 0, .int .i64 0, .int .i64 0, .int .i64 0, .int .u64 0, .int .u64 0, .slice none 0 0, .int .u64 0, .int .u64 0, .int .i64 0, .int .i64 0, .slice none 0 0, .int .i64 0, .slice none 0 0, .int .i64 0, .bool false, .bool false, .bool false, .int .i64 0, .int .i64 0, .slice none 0 0].toArray 42)).setCells w9.heap.size 0 CN.toArray.toList = W9 from hW9.symm]
            clear hW9 TT9 IR9
            have AN := SM.wk.st.get 0 rfl
            have a21 := AN.cell 21 _ D9.1
            have a22 := AN.cell 22 _ D9.2.1
            have a23 := AN.cell 23 _ D9.2.2.1
            have a24 := AN.cell 24 _ D9.2.2.2.1
            have a25 := AN.cell 25 _ D9.2.2.2.2
            have AW := SM.wk.st.get 1 rfl
            have w0' := AW.cell 0 _ rfl
            have w1' := AW.cell 1 _ rfl
            have w2' := AW.cell 2 _ rfl
            clear AN AW
            go_wp2_with fail
            refine (same12_any x vn (.slice dA 0 dn) (.slice sA 0 sc) [] _ (sr_nilK V9) (sr_nilK SD)).mono ?_
            rintro z w10 ⟨rfl, k10⟩
            have SX := SM.call k10
            have b21 := (SX.wk.st.get 0 rfl).cell 21 _ D9.1
            have b22 := (SX.wk.st.get 0 rfl).cell 22 _ D9.2.1
            have lX : w4.heap.size ≤ w10.heap.size := Nat.le_trans lM k10.size
            have SE := Wb.sub (Wb.sub (Wb.sub SX))
            clear SX SM a21 a22 a23 a24 a25 w0' w1' w2'
            go_wp2_with fail
            go_roundw
            case rel => exact ⟨k + 1, _, p', _, by omega, by omega, by go_num, iv7, SE, lX⟩
            case measure => simp [intOf]; omega
      · obtain rfl : k = ln := by omega
        have q1 : decide ((k : Int) < (k : Int)) = false := by simp
        go_wp2
        go_ret
        exact ⟨rfl, S5.wk.st.below⟩
    · obtain rfl : k = 40 := by omega
      go_wp2
      all_goals
        go_ret
        exact ⟨rfl, S5.wk.st.below⟩

set_option maxRecDepth 100000 in
theorem lifted (os : Os) (started : os.Started) (H : Type) (enc : TypeId × Value → H) :
    ReturnsInHanded {} Tryz.checked os 4 .any (Rows.foundModelSpec.pre6 enc Tryz.prog Tryz.f4 Rows.foundModelRow.domain false) (Rows.foundModelSpec.post enc Tryz.prog Tryz.f4 false true false false) := by
  refine returnsInHanded_of_change (C := Tryz.checked) Args.own started (by kernel_rfl) Tryz.func4
    (ChangeSpec.witness6 (enc := enc) (C := Tryz.checked) false ⟨#[], #[.agg #[.int .i64 0, .int .i64 0, .int .i64 0, .int .i64 0], .slice none 0 0], []⟩ 8 (by kernel_rfl) (by kernel_rfl) (by kernel_rfl) (by kernel_rfl)) ?_
  intro W base args ds gs before hval0 hW hcnd _
  have hval : ∀ (j : Nat) t v, Tryz.f4.params[j]? = some t → args[j]? = some v → Value.okWide Tryz.prog W .any base t v := hval0
  have hW' := hW
  obtain ⟨p, q, hA0, hV, rfl, hfz, hnd⟩ := hW
  have hA : DataW.TrodAll enc Tryz.prog W 0 (fun _ => true) true Tryz.f4.params.toList args.toList ds p := hA0
  rw [Tryz.params4] at hA hval
  obtain ⟨v0, vs0, d0, ds0, p0, q0, hargs, rfl, rfl, h0, r0⟩ := trodAll_cons hA
  obtain ⟨v1, vs1, d1, ds1, p1, q1, rfl, rfl, rfl, h1, r1⟩ := trodAll_cons r0
  obtain ⟨rfl, rfl, rfl⟩ := trodAll_nil r1
  obtain rfl : args = #[v0, v1] := by cases args; simp_all
  obtain ⟨rfl, rfl⟩ := trodVars_none hV
  have lt0 := Args.trod_below h0
  obtain ⟨qz, hv0, hq⟩ := Args.rec_in (ks := [.i64, .i64, .i64, .i64]) Tryz.underlying23 (by kernel_rfl) (by kernel_rfl) (hval 0 23 v0 rfl rfl) h0
  obtain rfl : v0 = .agg #[.int .i64 (qz 0), .int .i64 (qz 1), .int .i64 (qz 2), .int .i64 (qz 3)] := hv0
  have lt1 := Args.trod_below h1
  obtain ⟨lA, ln, lc, lz, rfl, hl⟩ := Args.precs_in (ks := [none, some .i64]) (e := 45) (by kernel_rfl) Tryz.underlying45 (by kernel_rfl) (by kernel_rfl) (by decide) (hval 1 24 v1 rfl rfl) h1
  clear hA0 hval0
  refine (walk (qz 0) (qz 1) (qz 2) (qz 3) lA ln lc lz W (hq 0) (hq 1) (hq 2) (hq 3) hl).mono fun e W' ⟨he, bel⟩ => ?_
  subst he
  exact ⟨_, rfl, _, _, _, [], _, [], hW', trodAll_mk1 (shut_bool Tryz.underlying4 _), trodAll_cons_mk (Below.trod Args.laidOut (by kernel_rfl) (of_decide_eq_true (by kernel_rfl)) h0 bel lt0) (trodAll_cons_mk (Below.trod Args.laidOut (by kernel_rfl) (of_decide_eq_true (by kernel_rfl)) h1 bel lt1) (trodAll_mk0)), rfl, bel.frame _, fun h => by cases h⟩

theorem over : Rows.foundModelRow.holds Tryz.pinned (OpenSpec.ofChange Rows.foundModelSpec) :=
  OpenClaim.holds_of_wide 4 Tryz.f4 rfl rfl rfl rfl rfl rfl rfl ⟨rfl, rfl, rfl, rfl, rfl⟩ rfl rfl rfl rfl rfl (by kernel_rfl) Tryz.func4 (by kernel_rfl)
    (of_decide_eq_true (by kernel_rfl)) (by unfold Func.isWrapper; rw [if_neg (of_decide_eq_false (by kernel_rfl))]; exact ⟨rfl, rfl⟩)
    (fun os started H enc _ => lifted os started H enc)

theorem proved : Rows.FoundModelSaid :=
  over
end Go.Proofs.YtbpmnjmegffllaaGreat.foundModel
