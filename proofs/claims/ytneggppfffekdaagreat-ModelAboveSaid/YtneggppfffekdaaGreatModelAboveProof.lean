/-
  penfoldlaw12.ModelAbove returns true for every two bytes and bool, and changes nothing that was there; no condition.
-/
import Derived.Test.YtneggppfffekdaaGreatRows
import Derived.Test.YtneggppfffekdaaGreatBase
import Derived.Test.YtneggppfffekdaaGreatLaws
import Derived.Deep.DeepCutAuto
namespace Go.Proofs.YtneggppfffekdaaGreat.modelAbove
open Go.ChangeShapes Go.WideShapes Go.ChangeAt Go.RowKit
set_option linter.unusedVariables false

open Go.Proofs.YtneggppfffekdaaGreat.Mod Slic Sco
def aC (op r h v a : Int) : Ca := ⟨op, r, h, v, a, 0, 0⟩
def st (m : Mo) (c : Ca) : Mo := (doX [] m 1 0 c).1.2
def an (m : Mo) (c : Ca) : An := (doX [] m 1 0 c).1.1
def al : Ca := ⟨7, 3, 0, 0, 1, 0, 0⟩
def pre (m : Mo) (q : Nat) : Mo := if q = 0 then m else st (st m ⟨2, 0, 0, 0, 64, 0, 0⟩) ⟨4, 0, 0, 0, (q : Int), 0, 0⟩
def mid (m : Mo) (q : Nat) : Mo := st (pre m q) al
def nu (m : Mo) (q : Nat) : Int := (an (pre m q) al).n
def s1 (i q : Nat) (x : Int) (m : Mo) : Mo := if q = i then st m ⟨1, 0, 0, 0, x, 0, 0⟩ else m
def s2 (j q : Nat) (x : Int) (m : Mo) : Mo := if q = j then st m ⟨1, 1, 0, 0, x, 0, 0⟩ else m
def rd (i j q : Nat) (m : Mo) : Mo := s2 j q (nu m q) (s1 i q (nu m q) (mid m q))
def ab (i j : Nat) : Nat → Mo
  | 0 => newM 4 1 320 192 256 64
  | q + 1 => rd i j q (ab i j q)
def pu (p : Bool) (i : Nat) : Ca := if p = true then ⟨11, 0, 0, 1, (i : Int), 0, 0⟩ else ⟨9, 0, 0, 1, 0, 0, 0⟩
def ge (p : Bool) (i : Nat) : Ca := if p = true then ⟨10, 2, 0, 0, (i : Int), 0, 0⟩ else ⟨8, 2, 0, 0, 0, 0, 0⟩
def okB (i j : Nat) (p : Bool) : Bool :=
  (List.range 4).all (fun q => decide ((an (pre (ab i j q) q) al).c = 0 ∧ 0 ≤ nu (ab i j q) q ∧ nu (ab i j q) q ≤ 1000000000000)) &&
  (if p = true ∧ i = 0 then decide ((an (ab i j 4) (pu p i)).c = 11 ∧ (an (st (ab i j 4) (pu p i)) (ge p i)).c = 11)
  else if i < j then decide ((an (ab i j 4) (pu p i)).c = 22 ∧ (an (st (ab i j 4) (pu p i)) (ge p i)).c = 0 ∧ (an (st (ab i j 4) (pu p i)) (ge p i)).n = 0 ∧ (st (st (ab i j 4) (pu p i)) (ge p i)).reg 0 2 = 0)
  else decide ((an (ab i j 4) (pu p i)).c = 0 ∧ (an (st (ab i j 4) (pu p i)) (ge p i)).c = 0 ∧ (st (st (ab i j 4) (pu p i)) (ge p i)).reg 0 2 = (st (st (ab i j 4) (pu p i)) (ge p i)).reg 0 1 ∧ 0 < (st (st (ab i j 4) (pu p i)) (ge p i)).reg 0 1))
def allB : Bool := (List.range 4).all fun i => (List.range 4).all fun j => okB i j true && okB i j false
theorem all_ok : allB = true := by kernel_rfl
theorem ok_at {i j : Nat} (hi : i < 4) (hj : j < 4) (p : Bool) : okB i j p = true := by
  have h := List.all_eq_true.1 (List.all_eq_true.1 all_ok i (List.mem_range.2 hi)) j (List.mem_range.2 hj)
  rw [Bool.and_eq_true] at h
  cases p
  · exact h.2
  · exact h.1
theorem ok_rd {i j : Nat} {p : Bool} (h : okB i j p = true) {q : Nat} (hq : q < 4) : (an (pre (ab i j q) q) al).c = 0 ∧ 0 ≤ nu (ab i j q) q ∧ nu (ab i j q) q ≤ 1000000000000 := by
  unfold okB at h
  rw [Bool.and_eq_true] at h
  exact of_decide_eq_true (List.all_eq_true.1 h.1 q (List.mem_range.2 hq))
theorem ok_fin {i j : Nat} {p : Bool} (h : okB i j p = true) : (if p = true ∧ i = 0 then decide ((an (ab i j 4) (pu p i)).c = 11 ∧ (an (st (ab i j 4) (pu p i)) (ge p i)).c = 11)
  else if i < j then decide ((an (ab i j 4) (pu p i)).c = 22 ∧ (an (st (ab i j 4) (pu p i)) (ge p i)).c = 0 ∧ (an (st (ab i j 4) (pu p i)) (ge p i)).n = 0 ∧ (st (st (ab i j 4) (pu p i)) (ge p i)).reg 0 2 = 0)
  else decide ((an (ab i j 4) (pu p i)).c = 0 ∧ (an (st (ab i j 4) (pu p i)) (ge p i)).c = 0 ∧ (st (st (ab i j 4) (pu p i)) (ge p i)).reg 0 2 = (st (st (ab i j 4) (pu p i)) (ge p i)).reg 0 1 ∧ 0 < (st (st (ab i j 4) (pu p i)) (ge p i)).reg 0 1)) = true := by
  unfold okB at h
  rw [Bool.and_eq_true] at h
  exact h.2
theorem st_of {m m' : Mo} {c : Ca} {a : An} (h : doX [] m 1 0 c = ((a, m'), 0)) : st m c = m' := by unfold st; rw [h]
theorem an_of {m m' : Mo} {c : Ca} {a : An} (h : doX [] m 1 0 c = ((a, m'), 0)) : an m c = a := by unfold an; rw [h]

set_option maxRecDepth 100000 in
set_option maxHeartbeats 8000000 in
theorem walk (holder : Int) (held : Int) (portal : Bool) (w : World) (wholder : (Lit.int .u8 holder).wf = true) (wheld : (Lit.int .u8 held).wf = true) :
    Calls Tryz.prog 11 #[.int .u8 holder, .int .u8 held, .bool portal] w fun e w' => e = .returned (.bool true) ∧ Below w.heap.size w w' := by
  have ⟨n0, n1⟩ := Held.bounds_u8 wholder
  have ⟨f0, f1⟩ := Held.bounds_u8 wheld
  obtain ⟨i, hi⟩ : ∃ i : Nat, (i : Int) = holder % 4 := ⟨(holder % 4).toNat, by omega⟩
  obtain ⟨j, hj⟩ : ∃ j : Nat, (j : Int) = held % 4 := ⟨(held % 4).toNat, by omega⟩
  have ti : Int.tmod holder 4 = holder % 4 := Int.tmod_eq_emod_of_nonneg n0
  have tj : Int.tmod held 4 = held % 4 := Int.tmod_eq_emod_of_nonneg f0
  have i4 : i < 4 := by omega
  have j4 : j < 4 := by omega
  have hi' : holder % 4 = (i : Int) := hi.symm
  have hj' : held % 4 = (j : Int) := hj.symm
  clear hi hj
  have OK := Lib.hid (ok_at i4 j4 portal)
  go_enter Tryz.func11, Tryz.ntmps11
  go_wp2_with fail
  refine (shown_any _).mono ?_
  rintro z w1 ⟨rfl, k1'⟩
  go_wp2_with fail
  refine (ms_new (bx := []) k1' (fun x hx => absurd hx List.not_mem_nil) List.nodup_nil 4 1 64 192 _ [] (rows_nil _) ok_nil (by decide) (by decide)).mono ?_
  rintro z w2 ⟨Z, rfl, h2, _⟩
  obtain ⟨m0, hm0⟩ : ∃ m0, m0 = ab i j 0 := ⟨_, rfl⟩
  have h2 : Ms w w2 Z [] 4 1 0 m0 [] := by rw [hm0]; exact h2
  replace hm0 := Lib.hid hm0
  clear wholder wheld
  go_wp2_with fail
  clear hi' hj' n0 n1 f0 f1 ti tj
  go_loopw [12] (fun t wr => ∃ (q : Nat) (m : Mo), q ≤ 4 ∧ t = .int .i64 (q : Int) ∧ Hid (m = ab i j q) ∧ Ms w wr Z [] 4 1 (5 * q) m []) (fun t _ => 4 - (intOf t).toNat)
  case atStart => exact ⟨0, m0, by omega, rfl, hm0, h2⟩
  case round =>
    obtain ⟨q, m, hq, rfl, hm, h⟩ := hrel
    by_cases hlt : q < 4
    · by_cases h0 : 0 < q
      · obtain ⟨x3, y3, L3, m3, R3⟩ := exX [] m 1 0 ⟨2, 0, 0, 0, 64, 0, 0⟩ (by decide)
        obtain ⟨x4, y4, L4, m4, R4⟩ := exX [] m3 1 0 ⟨4, 0, 0, 0, (q : Int), 0, 0⟩ (by decide)
        have P : pre m q = m4 := by
          rw [pre, if_neg (by omega), st_of R3, st_of R4]
        replace R3 := Lib.hid R3
        replace R4 := Lib.hid R4
        go_wp2_with fail
        refine (ms_as h (by omega) (c := ⟨2, 0, 0, 0, 64, 0, 0⟩) (cok (by omega) (by omega) (by omega) (by omega) (by omega) (by omega)) 0 R3.out).mono ?_
        rintro e w3 ⟨A3, c3, rfl, _, h3⟩
        go_wp2_with fail
        refine (ms_as h3 (by omega) (c := ⟨4, 0, 0, 0, (q : Int), 0, 0⟩) (cok (by omega) (by omega) (by omega) (by omega) (by omega) (by omega)) 0 R4.out).mono ?_
        rintro e w4 ⟨A4, c4, rfl, _, h4⟩
        obtain ⟨x5, y5, L5, m5, R5⟩ := exX [] m4 1 0 al (by decide)
        have B := ok_rd OK.out hlt
        rw [← hm.out, nu, P, an_of R5] at B
        obtain ⟨rfl, nn0, nn1⟩ := B
        have nn0 : 0 ≤ y5 := nn0
        have nn1 : y5 ≤ 1000000000000 := nn1
        have M5 := Lib.hid (show mid m q = m5 by unfold mid; rw [P]; exact st_of R5)
        have N5 := Lib.hid (show nu m q = y5 by unfold nu; rw [P, an_of R5])
        replace R5 := Lib.hid R5
        go_wp2_with fail
        refine (ms_as h4 (by omega) (c := al) (cok (by omega) (by omega) (by omega) (by omega) (by omega) (by omega)) 0 R5.out).mono ?_
        rintro e w5 ⟨A5, c5, rfl, _, h5⟩
        have h5 := h5.new #[.int .i64 0, .int .i64 y5, .slice A5 L5.length c5] anT
        by_cases qi : q = i
        · have di : ((q : Int) == (i : Int)) = true := by simp; omega
          obtain ⟨x7, y7, L7, m7, R7⟩ := exX [] m5 1 0 ⟨1, 0, 0, 0, y5, 0, 0⟩ (by decide)
          have S7 := Lib.hid (st_of R7)
          replace R7 := Lib.hid R7
          go_wp2_with fail
          refine (ms_as h5 (by omega) (c := ⟨1, 0, 0, 0, y5, 0, 0⟩) (cok (by omega) (by omega) (by omega) (by omega) (by omega) (by omega)) 0 R7.out).mono ?_
          rintro e w7 ⟨A7, c7, rfl, _, h7⟩
          obtain ⟨x0, x1, _⟩ := h7.cells3 0 rfl
          by_cases qj : q = j
          · have dj : ((q : Int) == (j : Int)) = true := by simp; omega
            obtain ⟨x8, y8, L8, m8, R8⟩ := exX [] m7 1 0 ⟨1, 1, 0, 0, y5, 0, 0⟩ (by decide)
            have S8 := Lib.hid (st_of R8)
            replace R8 := Lib.hid R8
            have E := Lib.hid (show m8 = ab i j (q + 1) by
              show _ = rd i j q (ab i j q)
              rw [← hm.out, rd, N5.out, M5.out, s2, s1, if_pos qi, if_pos qj, S7.out, S8.out])
            go_wp2_with fail
            refine (ms_as h7 (by omega) (c := ⟨1, 1, 0, 0, y5, 0, 0⟩) (cok (by omega) (by omega) (by omega) (by omega) (by omega) (by omega)) 0 R8.out).mono ?_
            rintro e w8 ⟨A8, c8, rfl, _, h8⟩
            go_wp2
            go_roundw
            case rel => exact ⟨q + 1, m8, by omega, by go_num, E, (h8.drop 1).mono (by omega)⟩
            case measure => simp [intOf]; omega
          · have dj : ((q : Int) == (j : Int)) = false := by simp; omega
            have E := Lib.hid (show m7 = ab i j (q + 1) by
              show _ = rd i j q (ab i j q)
              rw [← hm.out, rd, N5.out, M5.out, s2, s1, if_pos qi, if_neg qj, S7.out])
            go_wp2
            go_roundw
            case rel => exact ⟨q + 1, m7, by omega, by go_num, E, (h7.drop 1).mono (by omega)⟩
            case measure => simp [intOf]; omega
        · have di : ((q : Int) == (i : Int)) = false := by simp; omega
          by_cases qj : q = j
          · have dj : ((q : Int) == (j : Int)) = true := by simp; omega
            obtain ⟨x8, y8, L8, m8, R8⟩ := exX [] m5 1 0 ⟨1, 1, 0, 0, y5, 0, 0⟩ (by decide)
            have S8 := Lib.hid (st_of R8)
            replace R8 := Lib.hid R8
            have E := Lib.hid (show m8 = ab i j (q + 1) by
              show _ = rd i j q (ab i j q)
              rw [← hm.out, rd, N5.out, M5.out, s2, s1, if_neg qi, if_pos qj, S8.out])
            go_wp2_with fail
            refine (ms_as h5 (by omega) (c := ⟨1, 1, 0, 0, y5, 0, 0⟩) (cok (by omega) (by omega) (by omega) (by omega) (by omega) (by omega)) 0 R8.out).mono ?_
            rintro e w8 ⟨A8, c8, rfl, _, h8⟩
            go_wp2
            go_roundw
            case rel => exact ⟨q + 1, m8, by omega, by go_num, E, (h8.drop 1).mono (by omega)⟩
            case measure => simp [intOf]; omega
          · have dj : ((q : Int) == (j : Int)) = false := by simp; omega
            have E := Lib.hid (show m5 = ab i j (q + 1) by
              show _ = rd i j q (ab i j q)
              rw [← hm.out, rd, N5.out, M5.out, s2, s1, if_neg qi, if_neg qj])
            go_wp2
            go_roundw
            case rel => exact ⟨q + 1, m5, by omega, by go_num, E, (h5.drop 1).mono (by omega)⟩
            case measure => simp [intOf]; omega
      · have P : pre m q = m := if_pos (by omega)
        obtain ⟨x5, y5, L5, m5, R5⟩ := exX [] m 1 0 al (by decide)
        have B := ok_rd OK.out hlt
        rw [← hm.out, nu, P, an_of R5] at B
        obtain ⟨rfl, nn0, nn1⟩ := B
        have nn0 : 0 ≤ y5 := nn0
        have nn1 : y5 ≤ 1000000000000 := nn1
        have M5 := Lib.hid (show mid m q = m5 by unfold mid; rw [P]; exact st_of R5)
        have N5 := Lib.hid (show nu m q = y5 by unfold nu; rw [P, an_of R5])
        replace R5 := Lib.hid R5
        go_wp2_with fail
        refine (ms_as h (by omega) (c := al) (cok (by omega) (by omega) (by omega) (by omega) (by omega) (by omega)) 0 R5.out).mono ?_
        rintro e w5 ⟨A5, c5, rfl, _, h5⟩
        have h5 := h5.new #[.int .i64 0, .int .i64 y5, .slice A5 L5.length c5] anT
        by_cases qi : q = i
        · have di : ((q : Int) == (i : Int)) = true := by simp; omega
          obtain ⟨x7, y7, L7, m7, R7⟩ := exX [] m5 1 0 ⟨1, 0, 0, 0, y5, 0, 0⟩ (by decide)
          have S7 := Lib.hid (st_of R7)
          replace R7 := Lib.hid R7
          go_wp2_with fail
          refine (ms_as h5 (by omega) (c := ⟨1, 0, 0, 0, y5, 0, 0⟩) (cok (by omega) (by omega) (by omega) (by omega) (by omega) (by omega)) 0 R7.out).mono ?_
          rintro e w7 ⟨A7, c7, rfl, _, h7⟩
          obtain ⟨x0, x1, _⟩ := h7.cells3 0 rfl
          by_cases qj : q = j
          · have dj : ((q : Int) == (j : Int)) = true := by simp; omega
            obtain ⟨x8, y8, L8, m8, R8⟩ := exX [] m7 1 0 ⟨1, 1, 0, 0, y5, 0, 0⟩ (by decide)
            have S8 := Lib.hid (st_of R8)
            replace R8 := Lib.hid R8
            have E := Lib.hid (show m8 = ab i j (q + 1) by
              show _ = rd i j q (ab i j q)
              rw [← hm.out, rd, N5.out, M5.out, s2, s1, if_pos qi, if_pos qj, S7.out, S8.out])
            go_wp2_with fail
            refine (ms_as h7 (by omega) (c := ⟨1, 1, 0, 0, y5, 0, 0⟩) (cok (by omega) (by omega) (by omega) (by omega) (by omega) (by omega)) 0 R8.out).mono ?_
            rintro e w8 ⟨A8, c8, rfl, _, h8⟩
            go_wp2
            go_roundw
            case rel => exact ⟨q + 1, m8, by omega, by go_num, E, (h8.drop 1).mono (by omega)⟩
            case measure => simp [intOf]; omega
          · have dj : ((q : Int) == (j : Int)) = false := by simp; omega
            have E := Lib.hid (show m7 = ab i j (q + 1) by
              show _ = rd i j q (ab i j q)
              rw [← hm.out, rd, N5.out, M5.out, s2, s1, if_pos qi, if_neg qj, S7.out])
            go_wp2
            go_roundw
            case rel => exact ⟨q + 1, m7, by omega, by go_num, E, (h7.drop 1).mono (by omega)⟩
            case measure => simp [intOf]; omega
        · have di : ((q : Int) == (i : Int)) = false := by simp; omega
          by_cases qj : q = j
          · have dj : ((q : Int) == (j : Int)) = true := by simp; omega
            obtain ⟨x8, y8, L8, m8, R8⟩ := exX [] m5 1 0 ⟨1, 1, 0, 0, y5, 0, 0⟩ (by decide)
            have S8 := Lib.hid (st_of R8)
            replace R8 := Lib.hid R8
            have E := Lib.hid (show m8 = ab i j (q + 1) by
              show _ = rd i j q (ab i j q)
              rw [← hm.out, rd, N5.out, M5.out, s2, s1, if_neg qi, if_pos qj, S8.out])
            go_wp2_with fail
            refine (ms_as h5 (by omega) (c := ⟨1, 1, 0, 0, y5, 0, 0⟩) (cok (by omega) (by omega) (by omega) (by omega) (by omega) (by omega)) 0 R8.out).mono ?_
            rintro e w8 ⟨A8, c8, rfl, _, h8⟩
            go_wp2
            go_roundw
            case rel => exact ⟨q + 1, m8, by omega, by go_num, E, (h8.drop 1).mono (by omega)⟩
            case measure => simp [intOf]; omega
          · have dj : ((q : Int) == (j : Int)) = false := by simp; omega
            have E := Lib.hid (show m5 = ab i j (q + 1) by
              show _ = rd i j q (ab i j q)
              rw [← hm.out, rd, N5.out, M5.out, s2, s1, if_neg qi, if_neg qj])
            go_wp2
            go_roundw
            case rel => exact ⟨q + 1, m5, by omega, by go_num, E, (h5.drop 1).mono (by omega)⟩
            case measure => simp [intOf]; omega
    · obtain rfl : q = 4 := by omega
      have OF := ok_fin OK.out
      have h : Ms w wr Z [] 4 1 20 m [] := h
      clear hq hlt
      cases portal with
      | false =>
        rw [if_neg (by simp)] at OF
        by_cases hij : i < j
        · rw [if_pos hij] at OF
          obtain ⟨x5, y5, L5, m5, R5⟩ := exX [] m 1 0 ⟨9, 0, 0, 1, 0, 0, 0⟩ (by decide)
          obtain ⟨x7, y7, L7, m7, R7⟩ := exX [] m5 1 0 ⟨8, 2, 0, 0, 0, 0, 0⟩ (by decide)
          have OF := of_decide_eq_true OF
          rw [← hm.out, show pu false i = ⟨9, 0, 0, 1, 0, 0, 0⟩ from rfl, show ge false i = ⟨8, 2, 0, 0, 0, 0, 0⟩ from rfl, an_of R5, st_of R5, an_of R7, st_of R7] at OF
          obtain ⟨rfl, rfl, rfl, X4⟩ := OF
          replace R5 := Lib.hid R5
          replace R7 := Lib.hid R7
          clear OK
          go_wp2_with fail
          have h3 := (h.new (caA ⟨9, 0, 0, 1, 0, 0, 0⟩) 37).new (caA ⟨8, 2, 0, 0, 0, 0, 0⟩) 37
          simp only [World.size_alloc] at h3
          refine (ms_as h3 (by omega) (c := ⟨9, 0, 0, 1, 0, 0, 0⟩) (cok (by omega) (by omega) (by omega) (by omega) (by omega) (by omega)) 0 R5.out).mono ?_
          rintro e w5 ⟨A5, c5, rfl, _, h5⟩
          obtain ⟨g0, g1, g2, g3, g4, g5, g6⟩ := h5.cells7 0 rfl
          have h6 := h5.new #[.int .i64 22, .int .i64 y5, .slice A5 L5.length c5] anT
          obtain ⟨g0, g1, g2, g3, g4, g5, g6⟩ := h6.cells7 1 rfl
          go_wp2_with fail
          refine (ms_as h6 (by omega) (c := ⟨8, 2, 0, 0, 0, 0, 0⟩) (cok (by omega) (by omega) (by omega) (by omega) (by omega) (by omega)) 0 R7.out).mono ?_
          rintro e w7 ⟨A7, c7, rfl, _, h7⟩
          have h8 := h7.new #[.int .i64 0, .int .i64 0, .slice A7 L7.length c7] anT
          go_wp2_with fail
          refine (ms_regs h8 0 (by omega)).mono ?_
          rintro e w9 ⟨g, c9, rfl, O9, r0, r1, r2, r3, h9, _⟩
          obtain ⟨u1, hu1⟩ : ∃ u1, u1 = (m7.th 0).r 1 := ⟨_, rfl⟩
          rw [← hu1] at r1
          have X4 : (m7.th 0).r 2 = 0 := X4
          rw [X4] at r2
          clear hu1 X4
          obtain ⟨a0, a1, _⟩ := h9.cells3 1 rfl
          obtain ⟨b0, b1, _⟩ := h9.cells3 0 rfl
          have dj : decide ((i : Int) < (j : Int)) = true := by simp; omega
          go_wp2
          go_ret
          exact ⟨rfl, h9.below⟩
        · rw [if_neg hij] at OF
          obtain ⟨x5, y5, L5, m5, R5⟩ := exX [] m 1 0 ⟨9, 0, 0, 1, 0, 0, 0⟩ (by decide)
          obtain ⟨x7, y7, L7, m7, R7⟩ := exX [] m5 1 0 ⟨8, 2, 0, 0, 0, 0, 0⟩ (by decide)
          have OF := of_decide_eq_true OF
          rw [← hm.out, show pu false i = ⟨9, 0, 0, 1, 0, 0, 0⟩ from rfl, show ge false i = ⟨8, 2, 0, 0, 0, 0, 0⟩ from rfl, an_of R5, st_of R5, an_of R7, st_of R7] at OF
          obtain ⟨rfl, rfl, X4, X5⟩ := OF
          replace R5 := Lib.hid R5
          replace R7 := Lib.hid R7
          clear OK
          go_wp2_with fail
          have h3 := (h.new (caA ⟨9, 0, 0, 1, 0, 0, 0⟩) 37).new (caA ⟨8, 2, 0, 0, 0, 0, 0⟩) 37
          simp only [World.size_alloc] at h3
          refine (ms_as h3 (by omega) (c := ⟨9, 0, 0, 1, 0, 0, 0⟩) (cok (by omega) (by omega) (by omega) (by omega) (by omega) (by omega)) 0 R5.out).mono ?_
          rintro e w5 ⟨A5, c5, rfl, _, h5⟩
          obtain ⟨g0, g1, g2, g3, g4, g5, g6⟩ := h5.cells7 0 rfl
          have h6 := h5.new #[.int .i64 0, .int .i64 y5, .slice A5 L5.length c5] anT
          obtain ⟨g0, g1, g2, g3, g4, g5, g6⟩ := h6.cells7 1 rfl
          go_wp2_with fail
          refine (ms_as h6 (by omega) (c := ⟨8, 2, 0, 0, 0, 0, 0⟩) (cok (by omega) (by omega) (by omega) (by omega) (by omega) (by omega)) 0 R7.out).mono ?_
          rintro e w7 ⟨A7, c7, rfl, _, h7⟩
          have h8 := h7.new #[.int .i64 0, .int .i64 y7, .slice A7 L7.length c7] anT
          go_wp2_with fail
          refine (ms_regs h8 0 (by omega)).mono ?_
          rintro e w9 ⟨g, c9, rfl, O9, r0, r1, r2, r3, h9, _⟩
          obtain ⟨u1, hu1⟩ : ∃ u1, u1 = (m7.th 0).r 1 := ⟨_, rfl⟩
          rw [← hu1] at r1
          have X4 : (m7.th 0).r 2 = u1 := X4.trans hu1.symm
          rw [X4] at r2
          have z9 : decide (0 < u1) = true := decide_eq_true (by rw [hu1]; exact X5)
          clear hu1 X5 X4
          obtain ⟨a0, a1, _⟩ := h9.cells3 1 rfl
          obtain ⟨b0, b1, _⟩ := h9.cells3 0 rfl
          have dj : decide ((i : Int) < (j : Int)) = false := by simp; omega
          go_wp2_with fail
          go_quiet (fail)
          go_wp2
          go_ret
          exact ⟨rfl, Held.below_drewN h9.below _⟩
      | true =>
        by_cases hi0 : i = 0
        · rw [if_pos ⟨rfl, hi0⟩] at OF
          subst hi0
          obtain ⟨x5, y5, L5, m5, R5⟩ := exX [] m 1 0 ⟨11, 0, 0, 1, 0, 0, 0⟩ (by decide)
          obtain ⟨x7, y7, L7, m7, R7⟩ := exX [] m5 1 0 ⟨10, 2, 0, 0, 0, 0, 0⟩ (by decide)
          have OF := of_decide_eq_true OF
          rw [← hm.out, show pu true 0 = ⟨11, 0, 0, 1, 0, 0, 0⟩ from rfl, show ge true 0 = ⟨10, 2, 0, 0, 0, 0, 0⟩ from rfl, an_of R5, st_of R5, an_of R7] at OF
          obtain ⟨rfl, rfl⟩ := OF
          replace R5 := Lib.hid R5
          replace R7 := Lib.hid R7
          clear OK
          go_wp2_with fail
          have h3 := (h.new (caA ⟨11, 0, 0, 1, 0, 0, 0⟩) 37).new (caA ⟨10, 2, 0, 0, 0, 0, 0⟩) 37
          simp only [World.size_alloc] at h3
          refine (ms_as h3 (by omega) (c := ⟨11, 0, 0, 1, 0, 0, 0⟩) (cok (by omega) (by omega) (by omega) (by omega) (by omega) (by omega)) 0 R5.out).mono ?_
          rintro e w5 ⟨A5, c5, rfl, _, h5⟩
          obtain ⟨g0, g1, g2, g3, g4, g5, g6⟩ := h5.cells7 0 rfl
          have h6 := h5.new #[.int .i64 11, .int .i64 y5, .slice A5 L5.length c5] anT
          obtain ⟨g0, g1, g2, g3, g4, g5, g6⟩ := h6.cells7 1 rfl
          go_wp2_with fail
          refine (ms_as h6 (by omega) (c := ⟨10, 2, 0, 0, 0, 0, 0⟩) (cok (by omega) (by omega) (by omega) (by omega) (by omega) (by omega)) 0 R7.out).mono ?_
          rintro e w7 ⟨A7, c7, rfl, _, h7⟩
          have h8 := h7.new #[.int .i64 11, .int .i64 y7, .slice A7 L7.length c7] anT
          go_wp2_with fail
          refine (ms_regs h8 0 (by omega)).mono ?_
          rintro e w9 ⟨g, c9, rfl, O9, r0, r1, r2, r3, h9, _⟩
          obtain ⟨u1, hu1⟩ : ∃ u1, u1 = (m7.th 0).r 1 := ⟨_, rfl⟩
          rw [← hu1] at r1
          clear hu1
          obtain ⟨a0, a1, _⟩ := h9.cells3 1 rfl
          obtain ⟨b0, b1, _⟩ := h9.cells3 0 rfl
          go_wp2
          go_ret
          exact ⟨rfl, h9.below⟩
        · rw [if_neg (fun c => hi0 c.2)] at OF
          by_cases hij : i < j
          · rw [if_pos hij] at OF
            have i0 : ((i : Int) == 0) = false := by simp; omega
            obtain ⟨x5, y5, L5, m5, R5⟩ := exX [] m 1 0 ⟨11, 0, 0, 1, (i : Int), 0, 0⟩ (by decide)
            obtain ⟨x7, y7, L7, m7, R7⟩ := exX [] m5 1 0 ⟨10, 2, 0, 0, (i : Int), 0, 0⟩ (by decide)
            have OF := of_decide_eq_true OF
            rw [← hm.out, show pu true i = ⟨11, 0, 0, 1, (i : Int), 0, 0⟩ from rfl, show ge true i = ⟨10, 2, 0, 0, (i : Int), 0, 0⟩ from rfl, an_of R5, st_of R5, an_of R7, st_of R7] at OF
            obtain ⟨rfl, rfl, rfl, X4⟩ := OF
            replace R5 := Lib.hid R5
            replace R7 := Lib.hid R7
            clear OK
            go_wp2_with fail
            have h3 := (h.new (caA ⟨11, 0, 0, 1, (i : Int), 0, 0⟩) 37).new (caA ⟨10, 2, 0, 0, (i : Int), 0, 0⟩) 37
            simp only [World.size_alloc] at h3
            refine (ms_as h3 (by omega) (c := ⟨11, 0, 0, 1, (i : Int), 0, 0⟩) (cok (by omega) (by omega) (by omega) (by omega) (by omega) (by omega)) 0 R5.out).mono ?_
            rintro e w5 ⟨A5, c5, rfl, _, h5⟩
            obtain ⟨g0, g1, g2, g3, g4, g5, g6⟩ := h5.cells7 0 rfl
            have h6 := h5.new #[.int .i64 22, .int .i64 y5, .slice A5 L5.length c5] anT
            obtain ⟨g0, g1, g2, g3, g4, g5, g6⟩ := h6.cells7 1 rfl
            go_wp2_with fail
            refine (ms_as h6 (by omega) (c := ⟨10, 2, 0, 0, (i : Int), 0, 0⟩) (cok (by omega) (by omega) (by omega) (by omega) (by omega) (by omega)) 0 R7.out).mono ?_
            rintro e w7 ⟨A7, c7, rfl, _, h7⟩
            have h8 := h7.new #[.int .i64 0, .int .i64 0, .slice A7 L7.length c7] anT
            go_wp2_with fail
            refine (ms_regs h8 0 (by omega)).mono ?_
            rintro e w9 ⟨g, c9, rfl, O9, r0, r1, r2, r3, h9, _⟩
            obtain ⟨u1, hu1⟩ : ∃ u1, u1 = (m7.th 0).r 1 := ⟨_, rfl⟩
            rw [← hu1] at r1
            have X4 : (m7.th 0).r 2 = 0 := X4
            rw [X4] at r2
            clear hu1 X4
            obtain ⟨a0, a1, _⟩ := h9.cells3 1 rfl
            obtain ⟨b0, b1, _⟩ := h9.cells3 0 rfl
            have dj : decide ((i : Int) < (j : Int)) = true := by simp; omega
            go_wp2
            go_ret
            exact ⟨rfl, h9.below⟩
          · rw [if_neg hij] at OF
            have i0 : ((i : Int) == 0) = false := by simp; omega
            obtain ⟨x5, y5, L5, m5, R5⟩ := exX [] m 1 0 ⟨11, 0, 0, 1, (i : Int), 0, 0⟩ (by decide)
            obtain ⟨x7, y7, L7, m7, R7⟩ := exX [] m5 1 0 ⟨10, 2, 0, 0, (i : Int), 0, 0⟩ (by decide)
            have OF := of_decide_eq_true OF
            rw [← hm.out, show pu true i = ⟨11, 0, 0, 1, (i : Int), 0, 0⟩ from rfl, show ge true i = ⟨10, 2, 0, 0, (i : Int), 0, 0⟩ from rfl, an_of R5, st_of R5, an_of R7, st_of R7] at OF
            obtain ⟨rfl, rfl, X4, X5⟩ := OF
            replace R5 := Lib.hid R5
            replace R7 := Lib.hid R7
            clear OK
            go_wp2_with fail
            have h3 := (h.new (caA ⟨11, 0, 0, 1, (i : Int), 0, 0⟩) 37).new (caA ⟨10, 2, 0, 0, (i : Int), 0, 0⟩) 37
            simp only [World.size_alloc] at h3
            refine (ms_as h3 (by omega) (c := ⟨11, 0, 0, 1, (i : Int), 0, 0⟩) (cok (by omega) (by omega) (by omega) (by omega) (by omega) (by omega)) 0 R5.out).mono ?_
            rintro e w5 ⟨A5, c5, rfl, _, h5⟩
            obtain ⟨g0, g1, g2, g3, g4, g5, g6⟩ := h5.cells7 0 rfl
            have h6 := h5.new #[.int .i64 0, .int .i64 y5, .slice A5 L5.length c5] anT
            obtain ⟨g0, g1, g2, g3, g4, g5, g6⟩ := h6.cells7 1 rfl
            go_wp2_with fail
            refine (ms_as h6 (by omega) (c := ⟨10, 2, 0, 0, (i : Int), 0, 0⟩) (cok (by omega) (by omega) (by omega) (by omega) (by omega) (by omega)) 0 R7.out).mono ?_
            rintro e w7 ⟨A7, c7, rfl, _, h7⟩
            have h8 := h7.new #[.int .i64 0, .int .i64 y7, .slice A7 L7.length c7] anT
            go_wp2_with fail
            refine (ms_regs h8 0 (by omega)).mono ?_
            rintro e w9 ⟨g, c9, rfl, O9, r0, r1, r2, r3, h9, _⟩
            obtain ⟨u1, hu1⟩ : ∃ u1, u1 = (m7.th 0).r 1 := ⟨_, rfl⟩
            rw [← hu1] at r1
            have X4 : (m7.th 0).r 2 = u1 := X4.trans hu1.symm
            rw [X4] at r2
            have z9 : decide (0 < u1) = true := decide_eq_true (by rw [hu1]; exact X5)
            clear hu1 X5 X4
            obtain ⟨a0, a1, _⟩ := h9.cells3 1 rfl
            obtain ⟨b0, b1, _⟩ := h9.cells3 0 rfl
            have dj : decide ((i : Int) < (j : Int)) = false := by simp; omega
            go_wp2_with fail
            go_quiet (fail)
            go_wp2
            go_ret
            exact ⟨rfl, Held.below_drewN h9.below _⟩

set_option maxRecDepth 100000 in
theorem lifted (os : Os) (started : os.Started) (H : Type) (enc : TypeId × Value → H) :
    ReturnsInHanded {} Tryz.checked os 11 .any (Rows.modelAboveSpec.pre6 enc Tryz.prog Tryz.f11 Rows.modelAboveRow.domain false) (Rows.modelAboveSpec.post enc Tryz.prog Tryz.f11 false true false false) := by
  refine returnsInHanded_of_change (C := Tryz.checked) Args.own started (by kernel_rfl) Tryz.func11
    (ChangeSpec.witness6 (enc := enc) (C := Tryz.checked) false ⟨#[], #[.int .u8 0, .int .u8 0, .bool false], []⟩ 8 (by kernel_rfl) (by kernel_rfl) (by kernel_rfl) (by kernel_rfl)) ?_
  intro W base args ds gs before hval0 hW hcnd _
  have hval : ∀ (j : Nat) t v, Tryz.f11.params[j]? = some t → args[j]? = some v → Value.okWide Tryz.prog W .any base t v := hval0
  have hW' := hW
  obtain ⟨p, q, hA0, hV, rfl, hfz, hnd⟩ := hW
  have hA : DataW.TrodAll enc Tryz.prog W 0 (fun _ => true) true Tryz.f11.params.toList args.toList ds p := hA0
  rw [Tryz.params11] at hA hval
  obtain ⟨v0, vs0, d0, ds0, p0, q0, hargs, rfl, rfl, h0, r0⟩ := trodAll_cons hA
  obtain ⟨v1, vs1, d1, ds1, p1, q1, rfl, rfl, rfl, h1, r1⟩ := trodAll_cons r0
  obtain ⟨v2, vs2, d2, ds2, p2, q2, rfl, rfl, rfl, h2, r2⟩ := trodAll_cons r1
  obtain ⟨rfl, rfl, rfl⟩ := trodAll_nil r2
  obtain rfl : args = #[v0, v1, v2] := by cases args; simp_all
  obtain ⟨rfl, rfl⟩ := trodVars_none hV
  have lt0 := Args.trod_below h0
  obtain ⟨holder, rfl, rfl, rfl, wholder⟩ := open_int Tryz.underlying5 (hval 0 5 v0 rfl rfl) h0
  have lt1 := Args.trod_below h1
  obtain ⟨held, rfl, rfl, rfl, wheld⟩ := open_int Tryz.underlying5 (hval 1 5 v1 rfl rfl) h1
  have lt2 := Args.trod_below h2
  obtain ⟨portal, rfl⟩ := okWide_bool Tryz.underlying4 (hval 2 4 v2 rfl rfl)
  clear hA0 hval0
  refine (walk holder held portal W wholder wheld).mono fun e W' ⟨he, bel⟩ => ?_
  subst he
  exact ⟨_, rfl, _, _, _, [], _, [], hW', trodAll_mk1 (shut_bool Tryz.underlying4 _), trodAll_cons_mk (Below.trod Args.laidOut (by kernel_rfl) (of_decide_eq_true (by kernel_rfl)) h0 bel lt0) (trodAll_cons_mk (Below.trod Args.laidOut (by kernel_rfl) (of_decide_eq_true (by kernel_rfl)) h1 bel lt1) (trodAll_cons_mk (Below.trod Args.laidOut (by kernel_rfl) (of_decide_eq_true (by kernel_rfl)) h2 bel lt2) (trodAll_mk0))), rfl, bel.frame _, fun h => by cases h⟩

theorem over : Rows.modelAboveRow.holds Tryz.pinned (OpenSpec.ofChange Rows.modelAboveSpec) :=
  OpenClaim.holds_of_wide 11 Tryz.f11 rfl rfl rfl rfl rfl rfl rfl ⟨rfl, rfl, rfl, rfl, rfl⟩ rfl rfl rfl rfl rfl (by kernel_rfl) Tryz.func11 (by kernel_rfl)
    (of_decide_eq_true (by kernel_rfl)) (by unfold Func.isWrapper; rw [if_neg (of_decide_eq_false (by kernel_rfl))]; exact ⟨rfl, rfl⟩)
    (fun os started H enc _ => lifted os started H enc)

theorem proved : Rows.ModelAboveSaid :=
  over
end Go.Proofs.YtneggppfffekdaaGreat.modelAbove
