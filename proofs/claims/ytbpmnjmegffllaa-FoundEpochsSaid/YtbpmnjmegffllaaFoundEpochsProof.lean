/-
  penfoldlaw14.FoundEpochs returns true for every four integers (a plan) and every row of Ops, and changes nothing that was there; no condition.
-/
import Derived.Test.YtbpmnjmegffllaaRows
import Derived.Test.YtbpmnjmegffllaaBase
import Derived.Test.YtbpmnjmegffllaaFouL
import Derived.Deep.DeepCutAuto
namespace Go.Proofs.Ytbpmnjmegffllaa.foundEpochs
open Go.ChangeShapes Go.WideShapes Go.ChangeAt Go.RowKit
set_option linter.unusedVariables false

open Go.Proofs.Ytbpmnjmegffllaa.Fou Sco Amem Go.Proofs.Ytbpmnjmegffllaa.Beg Go.Proofs.Ytbpmnjmegffllaa.Mod
attribute [local go_sem ↓] Go.wp_at_zero Go.wp_at_succ
/-- What the two arrays hold. -/
structure Ep (F : Fo) (e : Nat → Int) (m : Nat → Bool) (i : Nat) : Prop where
  is : ∀ (s : Nat) (x : Cx), F.R[s]? = some x → e s = x.e ∧ m s = (x.s != 0) ∧ 0 ≤ x.e ∧ x.e ≤ (i : Int)
theorem ep_start (n : Nat) (i j : Int) : Ep (Sco.start n (64 * (n : Int) + i) j (64 * (n : Int)) i) (fun _ => 0) (fun s => decide (s = 0)) 0 := by
  refine ⟨fun s x hx => ?_⟩
  unfold Sco.start at hx
  cases s with
  | zero =>
    obtain rfl := Option.some.inj hx
    exact ⟨rfl, rfl, by dsimp only; omega, by dsimp only; omega⟩
  | succ s =>
    have hx' : (List.replicate (n - 1) (⟨0, 0, -1, 0, 0, 0⟩ : Cx))[s]? = some x := hx
    rw [List.getElem?_replicate] at hx'
    split at hx'
    · obtain rfl := Option.some.inj hx'
      exact ⟨rfl, by simp, by dsimp only; omega, by dsimp only; omega⟩
    · cases hx'
def upd {α : Type} (f : Nat → α) (k : Nat) (v : α) : Nat → α := fun j => if j = k then v else f j
theorem ep_same {F : Fo} {e : Nat → Int} {m : Nat → Bool} {i : Nat} (h : Ep F e m i) : Ep F e m (i + 1) := ⟨fun s x hx => by
  obtain ⟨a, b, c, d⟩ := h.is s x hx
  exact ⟨a, b, c, by omega⟩⟩
theorem ep_make {F : Fo} {e : Nat → Int} {m : Nat → Bool} {i k : Nat} {x : Cx} {a z : Int} {L : List Gm.E} (h : Ep F e m i) (hx : F.R[k]? = some x) : Ep ⟨F.R.set k (made x a z), L⟩ e (upd m k true) (i + 1) := ⟨fun s y hy => by
  rcases get_set hy with ⟨rfl, rfl, _⟩ | ⟨hs, hy⟩
  · obtain ⟨a, b, c, d⟩ := h.is s x hx
    exact ⟨a, by simp [upd, made], c, by show x.e ≤ _; omega⟩
  · obtain ⟨a, b, c, d⟩ := h.is s y hy
    exact ⟨a, by rw [← b]; simp [upd, hs], c, by omega⟩⟩
theorem ep_drop {F : Fo} {e : Nat → Int} {m : Nat → Bool} {i k : Nat} {x : Cx} {L : List Gm.E} (h : Ep F e m i) (hx : F.R[k]? = some x) (hi : i ≤ 40) : Ep ⟨F.R.set k (gone x), L⟩ (upd e k (e k + 1)) (upd m k false) (i + 1) := ⟨fun s y hy => by
  rcases get_set hy with ⟨rfl, rfl, _⟩ | ⟨hs, hy⟩
  · obtain ⟨a, b, c, d⟩ := h.is s x hx
    exact ⟨by show upd e s (e s + 1) s = (x.e + 1) % 16777216; rw [show upd e s (e s + 1) s = e s + 1 by simp [upd], a]; omega, by simp [upd, gone], by show 0 ≤ (x.e + 1) % 16777216; omega, by show (x.e + 1) % 16777216 ≤ _; omega⟩
  · obtain ⟨a, b, c, d⟩ := h.is s y hy
    exact ⟨by rw [← a]; simp [upd, hs], by rw [← b]; simp [upd, hs], c, by omega⟩⟩
theorem row_new8i (W : World) : (W.alloc (.cells #[.int .i64 0, .int .i64 0, .int .i64 0, .int .i64 0, .int .i64 0, .int .i64 0, .int .i64 0, .int .i64 0] 64)).rowIs W.heap.size 64 8 (fun _ => .int .i64 ((fun _ : Nat => (0 : Int)) 0)) :=
  World.rowIs_alloc W _ 64 _ (fun i hi => by
    have hi' : i < 8 := hi
    have : i = 0 ∨ i = 1 ∨ i = 2 ∨ i = 3 ∨ i = 4 ∨ i = 5 ∨ i = 6 ∨ i = 7 := by omega
    rcases this with rfl | rfl | rfl | rfl | rfl | rfl | rfl | rfl <;> rfl)
theorem row_new8b (W : World) : (W.alloc (.cells #[.bool true, .bool false, .bool false, .bool false, .bool false, .bool false, .bool false, .bool false] 65)).rowIs W.heap.size 65 8 (fun j => .bool ((fun s : Nat => decide (s = 0)) j)) :=
  World.rowIs_alloc W _ 65 _ (fun i hi => by
    have hi' : i < 8 := hi
    have : i = 0 ∨ i = 1 ∨ i = 2 ∨ i = 3 ∨ i = 4 ∨ i = 5 ∨ i = 6 ∨ i = 7 := by omega
    rcases this with rfl | rfl | rfl | rfl | rfl | rfl | rfl | rfl <;> rfl)

set_option maxRecDepth 100000 in
set_option maxHeartbeats 8000000 in
theorem walk (q0 q1 q2 q3 : Int) (lA : Option Addr) (ln lc : Nat) (lz : Nat → Nat → Int) (w : World) (wq0 : (Lit.int .i64 q0).wf = true) (wq1 : (Lit.int .i64 q1).wf = true) (wq2 : (Lit.int .i64 q2).wf = true) (wq3 : (Lit.int .i64 q3).wf = true) (hl : Args.PRecs [none, some .i64] w lA ln lz) :
    Calls Try.prog 6 #[.agg #[.int .i64 q0, .int .i64 q1, .int .i64 q2, .int .i64 q3], .slice lA ln lc] w fun e w' => e = .returned (.bool true) ∧ Below w.heap.size w w' := by
  obtain ⟨n, t, i, hp, ⟨b1, b2, b3, b4, b5, b6, b7, b8, b9, b10⟩, FT⟩ := Plan.fit_all q0 q1 q2 q3
  have hr : Plan.rightB n t i hp = true := decide_eq_true (by omega)
  obtain ⟨n, rfl⟩ := Int.eq_ofNat_of_zero_le (show 0 ≤ n by omega)
  clear wq0 wq1 wq2 wq3
  have S0 := (Held.St.start w).new [.int .i64 q0, .int .i64 q1, .int .i64 q2, .int .i64 q3] 23
  have HR := Lib.hid hr
  clear hr
  go_enter Try.func6, Try.ntmps6
  go_wp2_with fail
  refine (shown14_any _).mono ?_
  rintro z w1 ⟨rfl, k1⟩
  have S1 := S0.call k1
  obtain ⟨_, c0, c1, c2, c3⟩ := S1.get4 0 rfl
  go_wp2_with fail
  refine (FT _).mono ?_
  rintro z w2 ⟨rfl, k2⟩
  have S2 := (S1.call k2).new [.int .i64 (n : Int), .int .i64 t, .int .i64 i, .int .i64 hp] 23
  clear c0 c1 c2 c3
  obtain ⟨_, c0, c1, c2, c3⟩ := S2.get4 0 rfl
  go_wp2_with fail
  refine (new_ok _ n t i hp HR.out).mono ?_
  rintro z w3 ⟨B, g, G, rfl, h3, k3, l1, l2, l3⟩
  have S3 := Wk.start S2 k3 h3 l2 l3
  have R := newpr HR.out B g
  have EP := ep_start n i hp
  obtain ⟨N, hNN⟩ : ∃ N, sizeN n i hp = N := ⟨_, rfl⟩
  obtain ⟨f0, hf⟩ : ∃ f0, Go.Proofs.Ytbpmnjmegffllaa.Fou.newW n i = f0 := ⟨_, rfl⟩
  obtain ⟨F0, hF⟩ : ∃ F0, Sco.start n (64 * (n : Int) + i) hp (64 * (n : Int)) i = F0 := ⟨_, rfl⟩
  rw [hNN] at R S3
  rw [hf] at S3
  rw [hF] at S3 EP
  clear hNN hf hF h3
  have S4 := (S3.alloc (.cells #[.int .i64 0, .int .i64 0, .int .i64 0, .int .i64 0, .int .i64 0, .int .i64 0, .int .i64 0, .int .i64 0] 64)).alloc (.cells #[.bool true, .bool false, .bool false, .bool false, .bool false, .bool false, .bool false, .bool false] 65)
  have RE := (row_new8i w3).alloc (.cells #[.bool true, .bool false, .bool false, .bool false, .bool false, .bool false, .bool false, .bool false] 65)
  have RM := row_new8b (w3.alloc (.cells #[.int .i64 0, .int .i64 0, .int .i64 0, .int .i64 0, .int .i64 0, .int .i64 0, .int .i64 0, .int .i64 0] 64))
  simp only [World.size_alloc] at RM
  have ow := S3.st.below.size
  have lg := S3.fd.ar.body.lt
  have lG := S3.fd.gr.lt
  have lp : w2.heap.size < w3.heap.size := (S3.st.get 0 rfl).lt
  have lq : w.heap.size < w3.heap.size := (S3.st.get 1 rfl).lt
  dsimp only at lg
  clear c0 c1 c2 c3
  go_wp2_with fail
  obtain ⟨bM, hbM⟩ : ∃ bM : Nat, bM = w3.heap.size + 1 := ⟨_, rfl⟩
  obtain ⟨bE, hbE⟩ : ∃ bE : Nat, bE = w3.heap.size := ⟨_, rfl⟩
  obtain ⟨bP, hbP⟩ : ∃ bP : Nat, bP = w2.heap.size := ⟨_, rfl⟩
  have nE : bE ∉ [g, G] := by rw [hbE]; simp; omega
  have nM : bM ∉ [g, G] := by rw [hbM]; simp; omega
  have nEM : bE ≠ bM := by omega
  have oE : w.heap.size ≤ bE := by omega
  have oM : w.heap.size ≤ bM := by omega
  have nPE : ∀ y ∈ ([(bP, [.int .i64 (n : Int), .int .i64 t, .int .i64 i, .int .i64 hp]), (w.heap.size, [.int .i64 q0, .int .i64 q1, .int .i64 q2, .int .i64 q3])] : List (Nat × List Value)), y.1 ≠ bE := fun y hy => by
    rcases List.mem_cons.1 hy with rfl | hy
    · dsimp only; omega
    · rw [List.mem_singleton.1 hy]; dsimp only; omega
  have nPM : ∀ y ∈ ([(bP, [.int .i64 (n : Int), .int .i64 t, .int .i64 i, .int .i64 hp]), (w.heap.size, [.int .i64 q0, .int .i64 q1, .int .i64 q2, .int .i64 q3])] : List (Nat × List Value)), y.1 ≠ bM := fun y hy => by
    rcases List.mem_cons.1 hy with rfl | hy
    · dsimp only; omega
    · rw [List.mem_singleton.1 hy]; dsimp only; omega
  rw [← hbP] at S4
  rw [← hbE] at RE
  rw [← hbM] at RM
  rw [← hbM, ← hbE, ← hbP]
  clear hbM hbE hbP S3 lg lG lp lq ow
  go_loopw [12] (fun t' wr => ∃ (k : Nat) (e : Nat → Int) (m : Nat → Bool) (f : Nat → Int) (F : Fo), k ≤ 40 ∧ k ≤ ln ∧ t' = .int .i64 (k : Int) ∧ Ep F e m k ∧ Wk w wr [(bP, [.int .i64 (n : Int), .int .i64 t, .int .i64 i, .int .i64 hp]), (w.heap.size, [.int .i64 q0, .int .i64 q1, .int .i64 q2, .int .i64 q3])] ⟨n, t, i, hp, B, g, N⟩ G f F ∧ wr.rowIs bE 64 8 (fun j => .int .i64 (e j)) ∧ wr.rowIs bM 65 8 (fun j => .bool (m j))) (fun t' _ => 40 - (intOf t').toNat)
  case atStart => exact ⟨0, _, _, f0, F0, by omega, by omega, rfl, EP, S4, RE, RM⟩
  case round =>
    clear S4 EP RE RM
    obtain ⟨k, e, m, f, F, hk, hkl, rfl, ep, S5, re, rm⟩ := hrel
    by_cases h40 : k < 40
    · by_cases hln : k < ln
      · obtain ⟨b, o, mk, rfl, hb, x0, x1, z1, z2⟩ := op_at hl k hln
        obtain ⟨v, hv⟩ : ∃ v, lz k 1 = v := ⟨_, rfl⟩
        rw [hv] at x1 z1 z2
        rw [show o + (k * 2 + 1) = o + k * 2 + 1 from rfl] at x1
        clear hv
        obtain ⟨W5, hW5⟩ : ∃ W : World, W = wr := ⟨_, rfl⟩
        rw [← hW5] at S5 re rm
        have c0 := (S5.st.get 0 rfl).cell 0 _ rfl
        have i0 : (0 : Int) ≤ (k : Int) := by omega
        have i1 : (k : Int) < (ln : Int) := by omega
        rw [hW5] at c0
        go_upto_region 11 with (fail)
        rw [← hW5]
        clear c0 hW5
        go_cut [13, 14] (fun s dv wx => StR w W5 [(bP, [.int .i64 (n : Int), .int .i64 t, .int .i64 i, .int .i64 hp]), (w.heap.size, [.int .i64 q0, .int .i64 q1, .int .i64 q2, .int .i64 q3])] ⟨n, t, i, hp, B, g, N⟩ G f F mk v s dv wx)
        case first =>
          refine wp_region_held_drew (S := (fun W' => ((W'.cell? ⟨bP, 0, none⟩ = some (.int .i64 (n : Int)) ∧ W'.cell? ⟨bP, 1, none⟩ = some (.int .i64 t) ∧ W'.cell? ⟨bP, 2, none⟩ = some (.int .i64 i) ∧ W'.cell? ⟨bP, 3, none⟩ = some (.int .i64 hp)) ∧ W'.cell? ⟨b, o + k * 2, none⟩ = some (.bool mk) ∧ W'.cell? ⟨b, o + k * 2 + 1, none⟩ = some (.int .i64 v)))) (by kernel_rfl) ?_ (fun hHeld => ?_)
          · exact keepS S5.drew.st (S5.drew.st.get 0 rfl) hb x0 x1
          refine wpAnyH_take (i := 0) (oi := ⟨some 55, _, _, _, _, _⟩) (v := ?_) rfl (by kernel_rfl) (by kernel_rfl) (by kernel_rfl) (fun _ _ _ h => h) (Or.inl ⟨by kernel_rfl, ?_⟩) (by assumption) ?_
          rotate_left
          · intro w hSw
            try dsimp only at hSw
            first | (go_simp; done) | (go_simp; with_reducible rfl) | with_reducible rfl
          simp only [Act.put, List.setIfInBounds_toArray, List.set_cons_zero, List.set_cons_succ]
          refine wpAnyH_take (i := 1) (oi := ⟨some 56, _, _, _, _, _⟩) (v := ?_) rfl (by kernel_rfl) (by kernel_rfl) (by kernel_rfl) (fun _ _ _ h => h) (Or.inl ⟨by kernel_rfl, ?_⟩) (by assumption) ?_
          rotate_left
          · intro w hSw
            try dsimp only at hSw
            first | (go_simp; done) | (go_simp; with_reducible rfl) | with_reducible rfl
          simp only [Act.put, List.setIfInBounds_toArray, List.set_cons_zero, List.set_cons_succ]
          refine wpAnyH_take (i := 2) (oi := ⟨some 57, _, _, _, _, _⟩) (v := ?_) rfl (by kernel_rfl) (by kernel_rfl) (by kernel_rfl) (fun _ _ _ h => h) (Or.inl ⟨by kernel_rfl, ?_⟩) (by assumption) ?_
          rotate_left
          · intro w hSw
            try dsimp only at hSw
            first | (go_simp; done) | (go_simp; with_reducible rfl) | with_reducible rfl
          simp only [Act.put, List.setIfInBounds_toArray, List.set_cons_zero, List.set_cons_succ]
          refine wpAnyH_take (i := 3) (oi := ⟨some 58, _, _, _, _, _⟩) (v := ?_) rfl (by kernel_rfl) (by kernel_rfl) (by kernel_rfl) (fun _ _ _ h => h) (Or.inl ⟨by kernel_rfl, ?_⟩) (by assumption) ?_
          rotate_left
          · intro w hSw
            try dsimp only at hSw
            first | (go_simp; done) | (go_simp; with_reducible rfl) | with_reducible rfl
          simp only [Act.put, List.setIfInBounds_toArray, List.set_cons_zero, List.set_cons_succ]
          refine wpAnyH_take (i := 4) (oi := ⟨some 59, _, _, _, _, _⟩) (v := ?_) rfl (by kernel_rfl) (by kernel_rfl) (by kernel_rfl) (fun _ _ _ h => h) (Or.inl ⟨by kernel_rfl, ?_⟩) (by assumption) ?_
          rotate_left
          · intro w hSw
            try dsimp only at hSw
            first | (go_simp; done) | (go_simp; with_reducible rfl) | with_reducible rfl
          simp only [Act.put, List.setIfInBounds_toArray, List.set_cons_zero, List.set_cons_succ]
          refine wpAnyH_take (i := 5) (oi := ⟨some 60, _, _, _, _, _⟩) (v := ?_) rfl (by kernel_rfl) (by kernel_rfl) (by kernel_rfl) (fun _ _ _ h => h) (Or.inl ⟨by kernel_rfl, ?_⟩) (by assumption) ?_
          rotate_left
          · intro w hSw
            try dsimp only at hSw
            first | (go_simp; done) | (go_simp; with_reducible rfl) | with_reducible rfl
          simp only [Act.put, List.setIfInBounds_toArray, List.set_cons_zero, List.set_cons_succ]
          refine wpAnyH_take (i := 6) (oi := ⟨some 61, _, _, _, _, _⟩) (v := ?_) rfl (by kernel_rfl) (by kernel_rfl) (by kernel_rfl) (fun _ _ _ h => h) (Or.inl ⟨by kernel_rfl, ?_⟩) (by assumption) ?_
          rotate_left
          · intro w hSw
            try dsimp only at hSw
            first | (go_simp; done) | (go_simp; with_reducible rfl) | with_reducible rfl
          simp only [Act.put, List.setIfInBounds_toArray, List.set_cons_zero, List.set_cons_succ]
          refine wpAnyH_ready (rs := [7, 11]) (by kernel_rfl) (by simp) ?_
          refine AllReadyH.cons (o := ⟨some 62, _, _, _, _, _⟩) rfl (fun K hK => ?_) (AllReadyH.cons (o := ⟨some 13, _, _, _, _, _⟩) rfl (fun K hK => ?_) AllReadyH.nil)
          · skip
            have E7 := S5.drew
            go_simp
            refine (steps_agg _ R E7.fd mk v z1 z2).mono ?_
            rintro z w6 ⟨CS, d, f6, F6, rfl, LN, ON, h6, k6, SF⟩
            refine hK.out _ _ ?_ (fun hHeld => ?_)
            · exact keepS (S5.drew.step h6 k6).st ((S5.drew.step h6 k6).st.get 0 rfl) hb x0 x1
            clear hK K
            refine wpAnyH_take (i := 8) (oi := ⟨some 54, _, _, _, _, _⟩) (v := ?_) rfl (by kernel_rfl) (by kernel_rfl) (by kernel_rfl) (fun _ _ _ h => h) (Or.inl ⟨by kernel_rfl, ?_⟩) (by assumption) ?_
            rotate_left
            · intro w hSw
              try dsimp only at hSw
              first | (go_simp; done) | (go_simp; with_reducible rfl) | with_reducible rfl
            simp only [Act.put, List.setIfInBounds_toArray, List.set_cons_zero, List.set_cons_succ]
            refine wpAnyH_take (i := 9) (oi := ⟨some 63, _, _, _, _, _⟩) (v := ?_) rfl (by kernel_rfl) (by kernel_rfl) (by kernel_rfl) (fun _ _ _ h => h) (Or.inl ⟨by kernel_rfl, ?_⟩) (by assumption) ?_
            rotate_left
            · intro w hSw
              try dsimp only at hSw
              first | (go_simp; done) | (go_simp; with_reducible rfl) | with_reducible rfl
            simp only [Act.put, List.setIfInBounds_toArray, List.set_cons_zero, List.set_cons_succ]
            refine wpAnyH_take (i := 10) (oi := ⟨some 64, _, _, _, _, _⟩) (v := ?_) rfl (by kernel_rfl) (by kernel_rfl) (by kernel_rfl) (fun _ _ _ h => h) (Or.inl ⟨by kernel_rfl, ?_⟩) (by assumption) ?_
            rotate_left
            · intro w hSw
              try dsimp only at hSw
              first | (go_simp; done) | (go_simp; with_reducible rfl) | with_reducible rfl
            simp only [Act.put, List.setIfInBounds_toArray, List.set_cons_zero, List.set_cons_succ]
            refine wpAnyH_ready (rs := [11]) (by kernel_rfl) (by simp) ?_
            refine AllReadyH.cons (o := ⟨some 13, _, _, _, _, _⟩) rfl (fun K hK => ?_) AllReadyH.nil
            go_simp
            refine hK.out _ _ ?_ (fun hHeld => ?_)
            · exact keepS ((S5.drew.step h6 k6).new zR 53).st (((S5.drew.step h6 k6).new zR 53).st.get 1 rfl) hb x0 x1
            clear hK K
            refine wpAnyH_ready (rs := [12]) (by kernel_rfl) (by simp) ?_
            refine AllReadyH.cons (o := ⟨none, _, _, _, _, _⟩) rfl (fun K hK => ?_) AllReadyH.nil
            have AA := ((S5.drew.step h6 k6).new zR 53)
            have TB := typ_new w6 zR.toArray 53
            have AF := Wk.fill AA TB CS LN
            have TT := there_len (AA.st.get 0 rfl) (show zR.length = CS.toArray.size from LN.symm)
            have IR : (Try.prog.info? 53).map (·.size) = some CS.toArray.size := by rw [show CS.toArray.size = 26 from LN]; exact info_run
            rw [if_pos (by rfl)]
            refine wp_store_mid _ _ _ rfl _ 0 CS.toArray rfl rfl TT IR (all_oneCell_toArray ON) ?_
            simp only [Act.put]
            refine hK.out _ _ ?_ (fun hHeld => ?_)
            · exact keepS AF.st (AF.st.get 1 rfl) hb x0 x1
            clear hK K
            refine wpAnyH_ready (rs := [13]) (by kernel_rfl) (by simp) ?_
            refine AllReadyH.cons (o := ⟨some 14, _, _, _, _, _⟩) rfl (fun K hK => ?_) AllReadyH.nil
            go_simp
            refine hK.out _ _ ?_ (fun hHeld => ?_)
            · exact keepS AF.st (AF.st.get 1 rfl) hb x0 x1
            clear hK K
            refine wpAnyH_done (by kernel_rfl) ?_ _
            go_wp2_with fail
            go_meet
            exact ⟨_, CS, d, f6, F6, rfl, rfl, AF, SF, only_fill (((Only.below (Below.refl _ _).drew).trans k6).trans (Only.below ((Below.refl _ _).alloc (Nat.le_refl _) (.cells zR.toArray 53)))) k6.size CS, k6.size⟩
          · skip
            go_simp
            refine hK.out _ _ ?_ (fun hHeld => ?_)
            · exact keepS (S5.drew.new zR 53).st ((S5.drew.new zR 53).st.get 1 rfl) hb x0 x1
            clear hK K
            refine wpAnyH_ready (rs := [7]) (by kernel_rfl) (by simp) ?_
            refine AllReadyH.cons (o := ⟨some 62, _, _, _, _, _⟩) rfl (fun K hK => ?_) AllReadyH.nil
            have E7 := (S5.drew.new zR 53)
            go_simp
            refine (steps_agg _ R E7.fd mk v z1 z2).mono ?_
            rintro z w6 ⟨CS, d, f6, F6, rfl, LN, ON, h6, k6, SF⟩
            refine hK.out _ _ ?_ (fun hHeld => ?_)
            · exact keepS ((S5.drew.new zR 53).step h6 k6).st (((S5.drew.new zR 53).step h6 k6).st.get 1 rfl) hb x0 x1
            clear hK K
            refine wpAnyH_take (i := 8) (oi := ⟨some 54, _, _, _, _, _⟩) (v := ?_) rfl (by kernel_rfl) (by kernel_rfl) (by kernel_rfl) (fun _ _ _ h => h) (Or.inl ⟨by kernel_rfl, ?_⟩) (by assumption) ?_
            rotate_left
            · intro w hSw
              try dsimp only at hSw
              first | (go_simp; done) | (go_simp; with_reducible rfl) | with_reducible rfl
            simp only [Act.put, List.setIfInBounds_toArray, List.set_cons_zero, List.set_cons_succ]
            refine wpAnyH_take (i := 9) (oi := ⟨some 63, _, _, _, _, _⟩) (v := ?_) rfl (by kernel_rfl) (by kernel_rfl) (by kernel_rfl) (fun _ _ _ h => h) (Or.inl ⟨by kernel_rfl, ?_⟩) (by assumption) ?_
            rotate_left
            · intro w hSw
              try dsimp only at hSw
              first | (go_simp; done) | (go_simp; with_reducible rfl) | with_reducible rfl
            simp only [Act.put, List.setIfInBounds_toArray, List.set_cons_zero, List.set_cons_succ]
            refine wpAnyH_take (i := 10) (oi := ⟨some 64, _, _, _, _, _⟩) (v := ?_) rfl (by kernel_rfl) (by kernel_rfl) (by kernel_rfl) (fun _ _ _ h => h) (Or.inl ⟨by kernel_rfl, ?_⟩) (by assumption) ?_
            rotate_left
            · intro w hSw
              try dsimp only at hSw
              first | (go_simp; done) | (go_simp; with_reducible rfl) | with_reducible rfl
            simp only [Act.put, List.setIfInBounds_toArray, List.set_cons_zero, List.set_cons_succ]
            refine wpAnyH_ready (rs := [12]) (by kernel_rfl) (by simp) ?_
            refine AllReadyH.cons (o := ⟨none, _, _, _, _, _⟩) rfl (fun K hK => ?_) AllReadyH.nil
            have AA := ((S5.drew.new zR 53).step h6 k6)
            have TB := typ_go (typ_new W5.drew zR.toArray 53) k6 (Wk.notin (S5.drew.new zR 53))
            have AF := Wk.fill AA TB CS LN
            have TT := there_len (AA.st.get 0 rfl) (show zR.length = CS.toArray.size from LN.symm)
            have IR : (Try.prog.info? 53).map (·.size) = some CS.toArray.size := by rw [show CS.toArray.size = 26 from LN]; exact info_run
            rw [if_pos (by rfl)]
            refine wp_store_mid _ _ _ rfl _ 0 CS.toArray rfl rfl TT IR (all_oneCell_toArray ON) ?_
            simp only [Act.put]
            refine hK.out _ _ ?_ (fun hHeld => ?_)
            · exact keepS AF.st (AF.st.get 1 rfl) hb x0 x1
            clear hK K
            refine wpAnyH_ready (rs := [13]) (by kernel_rfl) (by simp) ?_
            refine AllReadyH.cons (o := ⟨some 14, _, _, _, _, _⟩) rfl (fun K hK => ?_) AllReadyH.nil
            go_simp
            refine hK.out _ _ ?_ (fun hHeld => ?_)
            · exact keepS AF.st (AF.st.get 1 rfl) hb x0 x1
            clear hK K
            refine wpAnyH_done (by kernel_rfl) ?_ _
            go_wp2_with fail
            go_meet
            exact ⟨_, CS, d, f6, F6, rfl, rfl, AF, SF, only_fill ((Only.below (((Below.refl _ _).drew).alloc (Nat.le_refl _) (.cells zR.toArray 53))).trans k6) (Nat.le_refl _) CS, Nat.le_refl _⟩
        case rest =>
          obtain ⟨gB, CS, d, f6, F6, rfl, rfl, S6, ⟨d0, d4, sf⟩, ko, lgB⟩ := hcut
          have RE := row_go re ko nE
          have RM := row_go rm ko nM
          have rm5 := rm.lt
          have re5 := re.lt
          clear re rm
          rcases sf with ⟨rfl, hB, hf6, hF6, d7, d23, d24⟩ | ⟨rfl, hB, hf6, hF6, d7⟩
          · have x0' := (S6.st.get 0 rfl).cell 0 _ d0
            have x4' := (S6.st.get 0 rfl).cell 4 _ d4
            have P6 := S6.st.get 1 rfl
            have p0 := P6.cell 0 _ rfl
            clear P6 x0 x1
            rcases op_cases F mk v with ⟨hx0, hv0, hFF⟩ | ⟨x, hmk, hx, hx0, hv0, hc, hFF⟩ | ⟨x, s, hmk, hs, hx, hx1, hx0, hv0, hFF⟩
            · have x23 := (S6.st.get 0 rfl).cell 23 _ d23
              have t0 : ((opR F mk v).x == 0) = false := by simpa using hx0
              have ep6 : Ep F6 e m (k + 1) := by rw [hF6, hFF]; exact ep_same ep
              have SI := S6.sub
              clear S6 d0 d4 d7 d23 d24 hB hf6 hF6 hx0 hv0 hFF
              go_wp2_with fail
              go_loopw [16] (fun t' wr => ∃ s : Nat, s ≤ n ∧ t' = .int .i64 (s : Int) ∧ Wk w wr [(bP, [.int .i64 (n : Int), .int .i64 t, .int .i64 i, .int .i64 hp]), (w.heap.size, [.int .i64 q0, .int .i64 q1, .int .i64 q2, .int .i64 q3])] ⟨n, t, i, hp, B, g, N⟩ G f6 F6 ∧ wr.rowIs bE 64 8 (fun jj => .int .i64 (e jj)) ∧ wr.rowIs bM 65 8 (fun jj => .bool (m jj))) (fun t' _ => n - (intOf t').toNat)
              case atStart => exact ⟨0, by omega, rfl, SI, RE, RM⟩
              case round =>
                clear SI RE RM
                obtain ⟨s, hs, rfl, S7, re, rm⟩ := hrel
                by_cases hsn : s < n
                · obtain ⟨x, hx⟩ : ∃ x, F6.R[s]? = some x := ⟨_, List.getElem?_eq_getElem (by rw [S7.fd.iv.len]; exact hsn)⟩
                  obtain ⟨e1, e2, _, _⟩ := ep6.is s x hx
                  have HS := Lib.hid (S7.fd.see hx)
                  have P7 := S7.st.get 0 rfl
                  have c0 := P7.cell 0 _ rfl
                  have c1 := P7.cell 1 _ rfl
                  have c2 := P7.cell 2 _ rfl
                  have c3 := P7.cell 3 _ rfl
                  clear P7 hx
                  go_wp2_with fail
                  refine (ctl_ok _ R S7.fd.ar s hsn).mono ?_
                  rintro z w8 ⟨rfl, k8⟩
                  rw [HS.out]
                  have S8 := (S7.call k8).new [.int .i64 x.s, .int .i64 x.c, .int .i64 x.p, .int .i64 x.e] 37
                  have re8 := (row_call re k8).alloc (.cells [.int .i64 x.s, .int .i64 x.c, .int .i64 x.p, .int .i64 x.e].toArray 37)
                  have rm8 := (row_call rm k8).alloc (.cells [.int .i64 x.s, .int .i64 x.c, .int .i64 x.p, .int .i64 x.e].toArray 37)
                  have d0 := (S8.st.get 0 rfl).cell 0 _ rfl
                  have d3 := (S8.st.get 0 rfl).cell 3 _ rfl
                  have y1 := re8.cell (i := s) (by omega)
                  have y2 := rm8.cell (i := s) (by omega)
                  rw [e1] at y1
                  rw [e2] at y2
                  have j0 : (0 : Int) ≤ (s : Int) := by omega
                  have j1 : (s : Int) < 8 := by omega
                  have t1 : (x.e != x.e) = false := bne_self_eq_false _
                  have t2 : ((x.s != 0) != (x.s != 0)) = false := bne_self_eq_false _
                  clear c0 c1 c2 c3 e1 e2 HS S7 re rm
                  go_upto_region 28 with (fail)
                  generalize w8.alloc (.cells #[.int .i64 x.s, .int .i64 x.c, .int .i64 x.p, .int .i64 x.e] 37) = W8 at *
                  go_quiet (fail)
                  go_wp2_with fail
                  go_roundw
                  case rel => exact ⟨s + 1, by omega, by go_num, S8.sub.call (Held.below_drewN (Below.refl _ _) _), row_call re8 (Held.below_drewN (Below.refl _ _) _), row_call rm8 (Held.below_drewN (Below.refl _ _) _)⟩
                  case measure => simp [intOf]; omega
                · obtain rfl : s = n := by omega
                  have P7 := S7.st.get 0 rfl
                  have c0 := P7.cell 0 _ rfl
                  go_wp2_with fail
                  go_roundw
                  case rel => exact ⟨k + 1, e, m, f6, F6, by omega, by omega, by go_num, ep6, S7, re, rm⟩
                  case measure => simp [intOf]; omega
            · subst hmk
              rw [hx0] at d23
              rw [hv0] at d24
              have x23 := (S6.st.get 0 rfl).cell 23 _ d23
              have x24 := (S6.st.get 0 rfl).cell 24 _ d24
              have ep6 : Ep F6 e (upd m (F.R.findIdx fr) true) (k + 1) := by rw [hF6, hFF]; exact ep_make ep hx
              have hK1 : 1 ≤ F.R.findIdx fr := S5.fd.iv.fr_pos
              have hKn : F.R.findIdx fr < n := by
                have := (List.getElem?_eq_some_iff.1 hx).1
                rw [S5.fd.iv.len] at this
                exact this
              have mlo : ∀ j : Nat, j < F.R.findIdx fr → m j = true := fun j hj => by
                have hjl : j < F.R.length := by rw [S5.fd.iv.len]; show j < n; omega
                have hy := List.getElem?_eq_getElem hjl
                have hf := List.not_of_lt_findIdx hj
                rw [(ep.is j _ hy).2.1]
                simpa [fr] using hf
              have mK : m (F.R.findIdx fr) = false := by
                rw [(ep.is _ x hx).2.1, fr_at hx]
                rfl
              generalize F.R.findIdx fr = K at *
              have MLO := Lib.hid mlo
              have MK := Lib.hid mK
              have lbM := (row_go RM (Only.refl [g, G] wc) nM).lt
              have gM : gB ≠ bM := by omega
              clear mlo mK d4 d7 d24 hB hf6 hF6 hx hx0 hv0 hc hFF
              go_wp2_with fail
              go_loop [15] (fun t' => ∃ j : Nat, 1 ≤ j ∧ j ≤ K ∧ t' = .int .i64 (j : Int)) (fun t' => K - (intOf t').toNat)
              case atStart => exact ⟨1, by omega, hK1, rfl⟩
              case round =>
                obtain ⟨j, hj1, hjK, rfl⟩ := hrel
                have y2 := RM.cell (i := j) (by omega)
                have j0 : (0 : Int) ≤ (j : Int) := by omega
                have j1 : (j : Int) < 8 := by omega
                by_cases hjl : j < K
                · rw [MLO.out j hjl] at y2
                  go_wp2
                  go_round
                  case rel => exact ⟨j + 1, by omega, by omega, by go_num⟩
                  case measure => simp [intOf]; omega
                · obtain rfl : j = K := by omega
                  rw [MK.out] at y2
                  have fzM := RM.frozen j
                  have S7 := S6.other (Only.put wc bM j (.bool true) (by simp)) (isT.row RM) (by decide) (by decide) (by decide) (by decide) oM (fun y hy => by
                    rcases List.mem_cons.1 hy with rfl | hy
                    · exact gM
                    · exact nPM y hy)
                  have SI := S7.sub
                  have RM' := (RM.set j (.bool true)).congr (g := fun i => .bool (upd m j true i)) (fun i hi => by unfold upd; split <;> rfl)
                  have RE' := row_go (X := [bM]) RE (Only.put wc bM j (.bool true) (by simp)) (by simpa using nEM)
                  have y0' := (S7.st.get 0 rfl).cell 0 _ d0
                  have y23' := (S7.st.get 0 rfl).cell 23 _ d23
                  clear S7 S6 RM RE
                  have RE := RE'
                  have RM := RM'
                  clear RE' RM' MLO MK
                  go_wp2_with fail
                  go_loopw [16] (fun t' wr => ∃ s : Nat, s ≤ n ∧ t' = .int .i64 (s : Int) ∧ Wk w wr [(bP, [.int .i64 (n : Int), .int .i64 t, .int .i64 i, .int .i64 hp]), (w.heap.size, [.int .i64 q0, .int .i64 q1, .int .i64 q2, .int .i64 q3])] ⟨n, t, i, hp, B, g, N⟩ G f6 F6 ∧ wr.rowIs bE 64 8 (fun jj => .int .i64 (e jj)) ∧ wr.rowIs bM 65 8 (fun jj => .bool ((upd m j true) jj))) (fun t' _ => n - (intOf t').toNat)
                  case atStart => exact ⟨0, by omega, rfl, SI, RE, RM⟩
                  case round =>
                    clear SI RE RM
                    obtain ⟨s, hs, rfl, S7, re, rm⟩ := hrel
                    by_cases hsn : s < n
                    · obtain ⟨x, hx⟩ : ∃ x, F6.R[s]? = some x := ⟨_, List.getElem?_eq_getElem (by rw [S7.fd.iv.len]; exact hsn)⟩
                      obtain ⟨e1, e2, _, _⟩ := ep6.is s x hx
                      have HS := Lib.hid (S7.fd.see hx)
                      have P7 := S7.st.get 0 rfl
                      have c0 := P7.cell 0 _ rfl
                      have c1 := P7.cell 1 _ rfl
                      have c2 := P7.cell 2 _ rfl
                      have c3 := P7.cell 3 _ rfl
                      clear P7 hx
                      go_wp2_with fail
                      refine (ctl_ok _ R S7.fd.ar s hsn).mono ?_
                      rintro z w8 ⟨rfl, k8⟩
                      rw [HS.out]
                      have S8 := (S7.call k8).new [.int .i64 x.s, .int .i64 x.c, .int .i64 x.p, .int .i64 x.e] 37
                      have re8 := (row_call re k8).alloc (.cells [.int .i64 x.s, .int .i64 x.c, .int .i64 x.p, .int .i64 x.e].toArray 37)
                      have rm8 := (row_call rm k8).alloc (.cells [.int .i64 x.s, .int .i64 x.c, .int .i64 x.p, .int .i64 x.e].toArray 37)
                      have d0 := (S8.st.get 0 rfl).cell 0 _ rfl
                      have d3 := (S8.st.get 0 rfl).cell 3 _ rfl
                      have y1 := re8.cell (i := s) (by omega)
                      have y2 := rm8.cell (i := s) (by omega)
                      rw [e1] at y1
                      rw [e2] at y2
                      have j0 : (0 : Int) ≤ (s : Int) := by omega
                      have j1 : (s : Int) < 8 := by omega
                      have t1 : (x.e != x.e) = false := bne_self_eq_false _
                      have t2 : ((x.s != 0) != (x.s != 0)) = false := bne_self_eq_false _
                      clear c0 c1 c2 c3 e1 e2 HS S7 re rm
                      go_upto_region 28 with (fail)
                      generalize w8.alloc (.cells #[.int .i64 x.s, .int .i64 x.c, .int .i64 x.p, .int .i64 x.e] 37) = W8 at *
                      go_quiet (fail)
                      go_wp2_with fail
                      go_roundw
                      case rel => exact ⟨s + 1, by omega, by go_num, S8.sub.call (Held.below_drewN (Below.refl _ _) _), row_call re8 (Held.below_drewN (Below.refl _ _) _), row_call rm8 (Held.below_drewN (Below.refl _ _) _)⟩
                      case measure => simp [intOf]; omega
                    · obtain rfl : s = n := by omega
                      have P7 := S7.st.get 0 rfl
                      have c0 := P7.cell 0 _ rfl
                      go_wp2_with fail
                      go_roundw
                      case rel => exact ⟨k + 1, e, (upd m j true), f6, F6, by omega, by omega, by go_num, ep6, S7, re, rm⟩
                      case measure => simp [intOf]; omega
            · subst hmk
              rw [hx0] at d23
              rw [hv0] at d24
              rw [hs] at d4
              have x23 := (S6.st.get 0 rfl).cell 23 _ d23
              have x4 := (S6.st.get 0 rfl).cell 4 _ d4
              clear x4'
              have ep6 : Ep F6 (upd e s (e s + 1)) (upd m s false) (k + 1) := by rw [hF6, hFF]; exact ep_drop ep hx hk
              have hs1 : 1 ≤ s := by have := (op_bd false v).1; omega
              have hsn : s < n := by
                have := (List.getElem?_eq_some_iff.1 hx).1
                rw [S5.fd.iv.len] at this
                exact this
              have be := ep.is s x hx
              have ms : m s = true := by rw [be.2.1, hx1]; rfl
              have e0 : 0 ≤ e s := by rw [be.1]; exact be.2.2.1
              have e1 : e s ≤ 40 := by rw [be.1]; have := be.2.2.2; omega
              have y2 := RM.cell (i := s) (by omega)
              have y3 := RE.cell (i := s) (by omega)
              rw [ms] at y2
              have j0 : (0 : Int) ≤ (s : Int) := by omega
              have j1 : (s : Int) < 8 := by omega
              have t1 : decide ((s : Int) < 1) = false := by simp; omega
              have t2 : decide ((n : Int) ≤ (s : Int)) = false := by simp; omega
              have gM : gB ≠ bM := by omega
              have gE : gB ≠ bE := by omega
              have fzM := RM.frozen s
              have fzE := RE.frozen s
              have fzE2 : (wc.setCell ⟨bM, s, none⟩ (.bool false)).frozen? ⟨bE, s, none⟩ = false := (row_go (X := [bM]) RE (Only.put wc bM s (.bool false) (by simp)) (by simpa using nEM)).frozen s
              have y3' := (row_go (X := [bM]) RE (Only.put wc bM s (.bool false) (by simp)) (by simpa using nEM)).cell (i := s) (by omega)
              have S7 := S6.other (Only.put wc bM s (.bool false) (by simp)) (isT.row RM) (by decide) (by decide) (by decide) (by decide) oM (fun y hy => by
                rcases List.mem_cons.1 hy with rfl | hy
                · exact gM
                · exact nPM y hy)
              have RM1 := (RM.set s (.bool false)).congr (g := fun i => .bool (upd m s false i)) (fun i hi => by unfold upd; split <;> rfl)
              have RE1 := row_go (X := [bM]) RE (Only.put wc bM s (.bool false) (by simp)) (by simpa using nEM)
              have z4 := (S7.st.get 0 rfl).cell 4 _ d4
              have S8 := S7.other (Only.put _ bE s (.int .i64 (e s + 1)) (by simp)) (isT.row RE1) (by decide) (by decide) (by decide) (by decide) oE (fun y hy => by
                rcases List.mem_cons.1 hy with rfl | hy
                · exact gE
                · exact nPE y hy)
              have SI := S8.sub
              have RM2 := row_go (X := [bE]) RM1 (Only.put _ bE s (.int .i64 (e s + 1)) (by simp)) (by simpa using fun h => nEM h.symm)
              have RE2 := (RE1.set s (.int .i64 (e s + 1))).congr (g := fun i => .int .i64 (upd e s (e s + 1) i)) (fun i hi => by unfold upd; split <;> rfl)
              clear d7 d24 hB hf6 hF6 hx hx0 hv0 hFF be RM RE RM1 RE1 hs S6 S7 S8
              obtain ⟨e2, he2⟩ : ∃ e2, upd e s (e s + 1) = e2 := ⟨_, rfl⟩
              obtain ⟨m2, hm2⟩ : ∃ m2, upd m s false = m2 := ⟨_, rfl⟩
              rw [he2] at RE2 ep6
              rw [hm2] at RM2 ep6
              have RE := RE2
              have RM := RM2
              clear RE2 RM2 he2 hm2
              go_wp2_with fail
              go_loopw [16] (fun t' wr => ∃ s : Nat, s ≤ n ∧ t' = .int .i64 (s : Int) ∧ Wk w wr [(bP, [.int .i64 (n : Int), .int .i64 t, .int .i64 i, .int .i64 hp]), (w.heap.size, [.int .i64 q0, .int .i64 q1, .int .i64 q2, .int .i64 q3])] ⟨n, t, i, hp, B, g, N⟩ G f6 F6 ∧ wr.rowIs bE 64 8 (fun jj => .int .i64 (e2 jj)) ∧ wr.rowIs bM 65 8 (fun jj => .bool (m2 jj))) (fun t' _ => n - (intOf t').toNat)
              case atStart => exact ⟨0, by omega, rfl, SI, RE, RM⟩
              case round =>
                clear SI RE RM
                obtain ⟨s, hs, rfl, S7, re, rm⟩ := hrel
                by_cases hsn : s < n
                · obtain ⟨x, hx⟩ : ∃ x, F6.R[s]? = some x := ⟨_, List.getElem?_eq_getElem (by rw [S7.fd.iv.len]; exact hsn)⟩
                  obtain ⟨e1, e2, _, _⟩ := ep6.is s x hx
                  have HS := Lib.hid (S7.fd.see hx)
                  have P7 := S7.st.get 0 rfl
                  have c0 := P7.cell 0 _ rfl
                  have c1 := P7.cell 1 _ rfl
                  have c2 := P7.cell 2 _ rfl
                  have c3 := P7.cell 3 _ rfl
                  clear P7 hx
                  go_wp2_with fail
                  refine (ctl_ok _ R S7.fd.ar s hsn).mono ?_
                  rintro z w8 ⟨rfl, k8⟩
                  rw [HS.out]
                  have S8 := (S7.call k8).new [.int .i64 x.s, .int .i64 x.c, .int .i64 x.p, .int .i64 x.e] 37
                  have re8 := (row_call re k8).alloc (.cells [.int .i64 x.s, .int .i64 x.c, .int .i64 x.p, .int .i64 x.e].toArray 37)
                  have rm8 := (row_call rm k8).alloc (.cells [.int .i64 x.s, .int .i64 x.c, .int .i64 x.p, .int .i64 x.e].toArray 37)
                  have d0 := (S8.st.get 0 rfl).cell 0 _ rfl
                  have d3 := (S8.st.get 0 rfl).cell 3 _ rfl
                  have y1 := re8.cell (i := s) (by omega)
                  have y2 := rm8.cell (i := s) (by omega)
                  rw [e1] at y1
                  rw [e2] at y2
                  have j0 : (0 : Int) ≤ (s : Int) := by omega
                  have j1 : (s : Int) < 8 := by omega
                  have t1 : (x.e != x.e) = false := bne_self_eq_false _
                  have t2 : ((x.s != 0) != (x.s != 0)) = false := bne_self_eq_false _
                  clear c0 c1 c2 c3 e1 e2 HS S7 re rm
                  go_upto_region 28 with (fail)
                  generalize w8.alloc (.cells #[.int .i64 x.s, .int .i64 x.c, .int .i64 x.p, .int .i64 x.e] 37) = W8 at *
                  go_quiet (fail)
                  go_wp2_with fail
                  go_roundw
                  case rel => exact ⟨s + 1, by omega, by go_num, S8.sub.call (Held.below_drewN (Below.refl _ _) _), row_call re8 (Held.below_drewN (Below.refl _ _) _), row_call rm8 (Held.below_drewN (Below.refl _ _) _)⟩
                  case measure => simp [intOf]; omega
                · obtain rfl : s = n := by omega
                  have P7 := S7.st.get 0 rfl
                  have c0 := P7.cell 0 _ rfl
                  go_wp2_with fail
                  go_roundw
                  case rel => exact ⟨k + 1, e2, m2, f6, F6, by omega, by omega, by go_num, ep6, S7, re, rm⟩
                  case measure => simp [intOf]; omega
          · have ep6 : Ep F6 e m (k + 1) := by rw [hF6]; exact ep_same ep
            have SI := S6.sub
            clear S6 d0 d4 d7 hB hf6 hF6
            go_wp2_with fail
            go_loopw [16] (fun t' wr => ∃ s : Nat, s ≤ n ∧ t' = .int .i64 (s : Int) ∧ Wk w wr [(bP, [.int .i64 (n : Int), .int .i64 t, .int .i64 i, .int .i64 hp]), (w.heap.size, [.int .i64 q0, .int .i64 q1, .int .i64 q2, .int .i64 q3])] ⟨n, t, i, hp, B, g, N⟩ G f6 F6 ∧ wr.rowIs bE 64 8 (fun jj => .int .i64 (e jj)) ∧ wr.rowIs bM 65 8 (fun jj => .bool (m jj))) (fun t' _ => n - (intOf t').toNat)
            case atStart => exact ⟨0, by omega, rfl, SI, RE, RM⟩
            case round =>
              clear SI RE RM
              obtain ⟨s, hs, rfl, S7, re, rm⟩ := hrel
              by_cases hsn : s < n
              · obtain ⟨x, hx⟩ : ∃ x, F6.R[s]? = some x := ⟨_, List.getElem?_eq_getElem (by rw [S7.fd.iv.len]; exact hsn)⟩
                obtain ⟨e1, e2, _, _⟩ := ep6.is s x hx
                have HS := Lib.hid (S7.fd.see hx)
                have P7 := S7.st.get 0 rfl
                have c0 := P7.cell 0 _ rfl
                have c1 := P7.cell 1 _ rfl
                have c2 := P7.cell 2 _ rfl
                have c3 := P7.cell 3 _ rfl
                clear P7 hx
                go_wp2_with fail
                refine (ctl_ok _ R S7.fd.ar s hsn).mono ?_
                rintro z w8 ⟨rfl, k8⟩
                rw [HS.out]
                have S8 := (S7.call k8).new [.int .i64 x.s, .int .i64 x.c, .int .i64 x.p, .int .i64 x.e] 37
                have re8 := (row_call re k8).alloc (.cells [.int .i64 x.s, .int .i64 x.c, .int .i64 x.p, .int .i64 x.e].toArray 37)
                have rm8 := (row_call rm k8).alloc (.cells [.int .i64 x.s, .int .i64 x.c, .int .i64 x.p, .int .i64 x.e].toArray 37)
                have d0 := (S8.st.get 0 rfl).cell 0 _ rfl
                have d3 := (S8.st.get 0 rfl).cell 3 _ rfl
                have y1 := re8.cell (i := s) (by omega)
                have y2 := rm8.cell (i := s) (by omega)
                rw [e1] at y1
                rw [e2] at y2
                have j0 : (0 : Int) ≤ (s : Int) := by omega
                have j1 : (s : Int) < 8 := by omega
                have t1 : (x.e != x.e) = false := bne_self_eq_false _
                have t2 : ((x.s != 0) != (x.s != 0)) = false := bne_self_eq_false _
                clear c0 c1 c2 c3 e1 e2 HS S7 re rm
                go_upto_region 28 with (fail)
                generalize w8.alloc (.cells #[.int .i64 x.s, .int .i64 x.c, .int .i64 x.p, .int .i64 x.e] 37) = W8 at *
                go_quiet (fail)
                go_wp2_with fail
                go_roundw
                case rel => exact ⟨s + 1, by omega, by go_num, S8.sub.call (Held.below_drewN (Below.refl _ _) _), row_call re8 (Held.below_drewN (Below.refl _ _) _), row_call rm8 (Held.below_drewN (Below.refl _ _) _)⟩
                case measure => simp [intOf]; omega
              · obtain rfl : s = n := by omega
                have P7 := S7.st.get 0 rfl
                have c0 := P7.cell 0 _ rfl
                go_wp2_with fail
                go_roundw
                case rel => exact ⟨k + 1, e, m, f6, F6, by omega, by omega, by go_num, ep6, S7, re, rm⟩
                case measure => simp [intOf]; omega
      · obtain rfl : k = ln := by omega
        have q1 : decide ((k : Int) < (k : Int)) = false := by simp
        go_wp2
        go_ret
        exact ⟨rfl, S5.st.below⟩
    · obtain rfl : k = 40 := by omega
      go_wp2
      all_goals
        go_ret
        exact ⟨rfl, S5.st.below⟩

set_option maxRecDepth 100000 in
theorem lifted (os : Os) (started : os.Started) (H : Type) (enc : TypeId × Value → H) :
    ReturnsInHanded {} Try.checked os 6 .any (Rows.foundEpochsSpec.pre6 enc Try.prog Try.f6 Rows.foundEpochsRow.domain false) (Rows.foundEpochsSpec.post enc Try.prog Try.f6 false true false false) := by
  refine returnsInHanded_of_change (C := Try.checked) Args.own started (by kernel_rfl) Try.func6
    (ChangeSpec.witness6 (enc := enc) (C := Try.checked) false ⟨#[], #[.agg #[.int .i64 0, .int .i64 0, .int .i64 0, .int .i64 0], .slice none 0 0], []⟩ 8 (by kernel_rfl) (by kernel_rfl) (by kernel_rfl) (by kernel_rfl)) ?_
  intro W base args ds gs before hval0 hW hcnd _
  have hval : ∀ (j : Nat) t v, Try.f6.params[j]? = some t → args[j]? = some v → Value.okWide Try.prog W .any base t v := hval0
  have hW' := hW
  obtain ⟨p, q, hA0, hV, rfl, hfz, hnd⟩ := hW
  have hA : DataW.TrodAll enc Try.prog W 0 (fun _ => true) true Try.f6.params.toList args.toList ds p := hA0
  rw [Try.params6] at hA hval
  obtain ⟨v0, vs0, d0, ds0, p0, q0, hargs, rfl, rfl, h0, r0⟩ := trodAll_cons hA
  obtain ⟨v1, vs1, d1, ds1, p1, q1, rfl, rfl, rfl, h1, r1⟩ := trodAll_cons r0
  obtain ⟨rfl, rfl, rfl⟩ := trodAll_nil r1
  obtain rfl : args = #[v0, v1] := by cases args; simp_all
  obtain ⟨rfl, rfl⟩ := trodVars_none hV
  have lt0 := Args.trod_below h0
  obtain ⟨qz, hv0, hq⟩ := Args.rec_in (ks := [.i64, .i64, .i64, .i64]) Try.underlying23 (by kernel_rfl) (by kernel_rfl) (hval 0 23 v0 rfl rfl) h0
  obtain rfl : v0 = .agg #[.int .i64 (qz 0), .int .i64 (qz 1), .int .i64 (qz 2), .int .i64 (qz 3)] := hv0
  have lt1 := Args.trod_below h1
  obtain ⟨lA, ln, lc, lz, rfl, hl⟩ := Args.precs_in (ks := [none, some .i64]) (e := 57) (by kernel_rfl) Try.underlying57 (by kernel_rfl) (by kernel_rfl) (by decide) (hval 1 40 v1 rfl rfl) h1
  clear hA0 hval0
  refine (walk (qz 0) (qz 1) (qz 2) (qz 3) lA ln lc lz W (hq 0) (hq 1) (hq 2) (hq 3) hl).mono fun e W' ⟨he, bel⟩ => ?_
  subst he
  exact ⟨_, rfl, _, _, _, [], _, [], hW', trodAll_mk1 (shut_bool Try.underlying4 _), trodAll_cons_mk (Below.trod Args.laidOut (by kernel_rfl) (of_decide_eq_true (by kernel_rfl)) h0 bel lt0) (trodAll_cons_mk (Below.trod Args.laidOut (by kernel_rfl) (of_decide_eq_true (by kernel_rfl)) h1 bel lt1) (trodAll_mk0)), rfl, bel.frame _, fun h => by cases h⟩

theorem over : Rows.foundEpochsRow.holds Try.pinned (OpenSpec.ofChange Rows.foundEpochsSpec) :=
  OpenClaim.holds_of_wide 6 Try.f6 rfl rfl rfl rfl rfl rfl rfl ⟨rfl, rfl, rfl, rfl, rfl⟩ rfl rfl rfl rfl rfl (by kernel_rfl) Try.func6 (by kernel_rfl)
    (of_decide_eq_true (by kernel_rfl)) (by unfold Func.isWrapper; rw [if_neg (of_decide_eq_false (by kernel_rfl))]; exact ⟨rfl, rfl⟩)
    (fun os started H enc _ => lifted os started H enc)

theorem proved : Rows.FoundEpochsSaid :=
  over
end Go.Proofs.Ytbpmnjmegffllaa.foundEpochs
