/-
  One object more of a scope whose room is known: made, or refused.
-/
import Derived.Test.YtneggppfffekdaaGreatFres
import Derived.Test.YtneggppfffekdaaGreatLaws
namespace Go.Proofs.YtneggppfffekdaaGreat.Mod
open Sco
set_option linter.unusedVariables false
set_option linter.unusedSimpArgs false
/-- Where a thread allocates, how much there is, and how much is used. -/
def MM (m : Mo) (s : Nat) (z u : Int) : Prop := ∃ (x : Cx) (a : Ar), Chain.areaV (m.ents 0) = (s : Int) ∧ m.F.R[s]? = some x ∧ m.A[s]? = some a ∧ x.z = z ∧ a.u = u
theorem in_nt {nt : Nat} (h : 0 < nt) : inN 0 nt = true := decide_eq_true (by omega)
theorem doX_alloc (FF : List (List Fina.O)) (m : Mo) {nt : Nat} (h : 0 < nt) (p b c : Int) : doX FF m nt 0 ⟨7, 0, 0, 0, p, b, c⟩ = (allocV m 0 ⟨7, 0, 0, 0, p, b, c⟩, 0) := by
  unfold doX
  rw [if_pos (in_nt h)]
  rfl
theorem alloc_bad (FF : List (List Fina.O)) (m : Mo) {nt : Nat} (h : 0 < nt) {p b : Int} (hb : Heads.mayB p b = false) : doX FF m nt 0 ⟨7, 0, 0, 0, p, b, 0⟩ = ((⟨1, 0, []⟩, m), 0) := by
  rw [doX_alloc FF m h]
  unfold allocV
  have hw : Heads.wordsV p b = ⟨0, 1⟩ := if_neg (by rw [hb]; simp)
  rw [if_pos (.inl (by show (Heads.wordsV p b).err ≠ 0; rw [hw]; decide))]
  rfl
theorem MM.step {Z : Fx} {k : Nat} {m : Mo} (v : Iv Z k m) {s : Nat} {z u : Int} (h : MM m s z u) {p b : Int} (p0 : 0 ≤ p) (p6 : p ≤ 6) (b0 : 0 ≤ b) (b6 : b ≤ 60) :
    (u + 8 * (2 + p + (b + 7) / 8) > z → doX [] m Z.nt 0 ⟨7, 0, 0, 0, p, b, 0⟩ = ((⟨17, 0, []⟩, m), 0)) ∧
    (u + 8 * (2 + p + (b + 7) / 8) ≤ z → ∃ y m', doX [] m Z.nt 0 ⟨7, 0, 0, 0, p, b, 0⟩ = ((⟨0, y, []⟩, m'), 0) ∧ MM m' s z (u + 8 * (2 + p + (b + 7) / 8))) := by
  obtain ⟨x, a, hs, hx, ha, rfl, rfl⟩ := h
  have hnt : 0 < Z.nt := by have := v.nt; omega
  rw [doX_alloc [] m hnt]
  obtain ⟨sc, sx⟩ := see_in hx
  have ea : m.ar (s : Int) = a := by
    unfold Mo.ar
    rw [Int.toNat_natCast, List.getD_eq_getElem?_getD, ha]
    rfl
  have hm : Heads.mayB p b = true := decide_eq_true (by omega)
  have hw : Heads.wordsV p b = ⟨2 + p + (b + 7) / 8, 0⟩ := if_pos hm
  have hr : roomX m (s : Int) ((2 + p + (b + 7) / 8) * 8) = if a.u + (2 + p + (b + 7) / 8) * 8 > x.z then 17 else 0 := by
    unfold roomX
    rw [ea, sx]
  refine ⟨fun hg => ?_, fun hg => ?_⟩
  · unfold allocV
    rw [hs]
    dsimp only
    rw [hw]
    dsimp only
    have h17 : roomX m (s : Int) ((2 + p + (b + 7) / 8) * 8) = 17 := hr.trans (if_pos (by omega))
    rw [if_neg (by simp), h17, if_pos (by decide)]
    rfl
  · have h0 : (allocV m 0 ⟨7, 0, 0, 0, p, b, 0⟩).1.c = 0 := by
      unfold allocV
      rw [hs]
      dsimp only
      rw [hw]
      dsimp only
      have h00 : roomX m (s : Int) ((2 + p + (b + 7) / 8) * 8) = 0 := hr.trans (if_neg (by omega))
      rw [if_neg (by simp), h00, if_neg (by decide)]
      rfl
    obtain ⟨s', x', a', q1, q2, q3, _, _, _, _, _, _, _, e⟩ := v.alloc_ok hnt h0
    have : s' = s := by omega
    subst this
    rw [hx] at q2
    rw [ha] at q3
    injection q2 with q2
    injection q3 with q3
    subst q2 q3
    refine ⟨_, _, congrArg (fun r => (r, (0 : Int))) e, x, ⟨a.g, a.u + 8 * (2 + p + (b + 7) / 8)⟩, ?_, hx, ?_, rfl, rfl⟩
    · have hl : 0 < m.T.length := by rw [v.nT]; exact hnt
      have : (Mo.setReg (putOb m ⟨s', x.e, x.a + a.u, List.replicate p.toNat 0, 0, false⟩ (8 * (2 + p + (b + 7) / 8))) 0 0 (Refs.handle s' x.e (x.a + a.u))).ents 0 = m.ents 0 := by
        show ((m.T.set 0 _).getD 0 th0).c = _
        rw [List.getD_eq_getElem?_getD, List.getElem?_set, if_pos rfl, if_pos hl]
        rfl
      rw [this]
      exact hs
    · show (m.A.set (s' : Int).toNat ⟨(m.ar (s' : Int)).g, (m.ar (s' : Int)).u + 8 * (2 + p + (b + 7) / 8)⟩)[s']? = _
      rw [ea, Int.toNat_natCast, List.getElem?_set, if_pos rfl, if_pos (List.getElem?_eq_some_iff.1 ha).1]
/-- The beginning: so many bytes, within or not. -/
def memB (n : Nat) : Bool :=
  decide ((doX [] sh0 2 0 ⟨2, 0, 0, 0, (n : Int), 0, 0⟩).1.1.n = 1) &&
  (decide (Chain.areaV ((doX [] sh0 2 0 ⟨2, 0, 0, 0, (n : Int), 0, 0⟩).1.2.ents 0) = 0) && (match (doX [] sh0 2 0 ⟨2, 0, 0, 0, (n : Int), 0, 0⟩).1.2.F.R[0]?, (doX [] sh0 2 0 ⟨2, 0, 0, 0, (n : Int), 0, 0⟩).1.2.A[0]? with | some x, some a => decide (x.z = 128 ∧ a.u = 0) | _, _ => false)) &&
  (decide ((doX [] (doX [] sh0 2 0 ⟨2, 0, 0, 0, (n : Int), 0, 0⟩).1.2 2 0 ⟨4, 0, 0, 0, 1, 0, 0⟩).1.1.c = 0) && (decide (Chain.areaV ((doX [] (doX [] sh0 2 0 ⟨2, 0, 0, 0, (n : Int), 0, 0⟩).1.2 2 0 ⟨4, 0, 0, 0, 1, 0, 0⟩).1.2.ents 0) = 1) && (match (doX [] (doX [] sh0 2 0 ⟨2, 0, 0, 0, (n : Int), 0, 0⟩).1.2 2 0 ⟨4, 0, 0, 0, 1, 0, 0⟩).1.2.F.R[1]?, (doX [] (doX [] sh0 2 0 ⟨2, 0, 0, 0, (n : Int), 0, 0⟩).1.2 2 0 ⟨4, 0, 0, 0, 1, 0, 0⟩).1.2.A[1]? with | some x, some a => decide (x.z = ((n : Int) + 7) / 8 * 8 ∧ a.u = 0) | _, _ => false)))
theorem mem_all : ((List.range 256).all fun i => memB (i + 1)) = true := by kernel_rfl
theorem mm_of {m : Mo} {s : Nat} {z : Int} (h1 : Chain.areaV (m.ents 0) = (s : Int)) (h2 : (match m.F.R[s]?, m.A[s]? with | some x, some a => decide (x.z = z ∧ a.u = 0) | _, _ => false) = true) : MM m s z 0 := by
  cases hx : m.F.R[s]? with
  | none => rw [hx] at h2; exact absurd h2 (by simp)
  | some x =>
    cases ha : m.A[s]? with
    | none => rw [hx, ha] at h2; exact absurd h2 (by simp)
    | some a =>
      rw [hx, ha] at h2
      obtain ⟨e1, e2⟩ := of_decide_eq_true h2
      exact ⟨x, a, h1, hx, ha, e1, e2⟩
theorem mem_at {n : Nat} (n1 : 1 ≤ n) (n2 : n ≤ 256) {x y x' y' : Int} {L L' : List Int} {m m' : Mo} (R : doX [] sh0 2 0 ⟨2, 0, 0, 0, (n : Int), 0, 0⟩ = ((⟨x, y, L⟩, m), 0)) (R' : doX [] m 2 0 ⟨4, 0, 0, 0, 1, 0, 0⟩ = ((⟨x', y', L'⟩, m'), 0)) :
    y = 1 ∧ MM m 0 128 0 ∧ x' = 0 ∧ MM m' 1 (((n : Int) + 7) / 8 * 8) 0 := by
  have h := List.all_eq_true.1 mem_all (n - 1) (List.mem_range.2 (by omega))
  rw [show n - 1 + 1 = n by omega] at h
  unfold memB at h
  simp only [R, R', Bool.and_eq_true] at h
  obtain ⟨⟨h1, h2, h3⟩, h4, h5, h6⟩ := h
  exact ⟨of_decide_eq_true h1, mm_of (of_decide_eq_true h2) h3, of_decide_eq_true h4, mm_of (of_decide_eq_true h5) h6⟩
end Go.Proofs.YtneggppfffekdaaGreat.Mod
