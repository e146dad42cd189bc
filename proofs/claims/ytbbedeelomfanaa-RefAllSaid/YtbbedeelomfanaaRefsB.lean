/-
  Contracts of ref.Unpack and of the document's own answers.
-/
import Derived.Test.YtbbedeelomfanaaRefs
namespace Go.Proofs.Ytbbedeelomfanaa.Refs
open Go.ChangeShapes Go.WideShapes Go.ChangeAt Go.RowKit
open Held
set_option linter.unusedVariables false

/-- What is split, packed again: the same number, another one, or none. -/
theorem un_parts (h : Int) (h1 : 0 ≤ h) (h2 : h ≤ 18446744073709551615) :
    (unV h = ⟨h / 16777216 % 8, h / 4294967296 % 16777216, h % 8192 * 8, 0⟩ ∧ packV (h / 16777216 % 8) (h / 4294967296 % 16777216) (h % 8192 * 8) = ⟨h, 0⟩) ∨
    (unV h = ⟨0, 0, 0, 18⟩ ∧ ∃ g, ¬ g = h ∧ packV (h / 16777216 % 8) (h / 4294967296 % 16777216) (h % 8192 * 8) = ⟨g, 0⟩) ∨
    (unV h = ⟨0, 0, 0, 18⟩ ∧ packV (h / 16777216 % 8) (h / 4294967296 % 16777216) (h % 8192 * 8) = ⟨0, 1⟩) := by
  by_cases hu : unB h = true
  · obtain ⟨b1, b2, b3, b4, b5, b6, b7⟩ := rbounds (show rightB _ _ _ = true from hu)
    refine .inl ⟨?_, ?_⟩
    · unfold unV
      rw [if_pos hu]
      congr 1 <;> omega
    · unfold packV
      rw [if_pos (show rightB _ _ _ = true from decide_eq_true (by omega))]
      unfold handle
      congr 1
      omega
  · have hv : unV h = ⟨0, 0, 0, 18⟩ := by unfold unV; rw [if_neg hu]
    by_cases hr : rightB (h / 16777216 % 8) (h / 4294967296 % 16777216) (h % 8192 * 8) = true
    · refine .inr (.inl ⟨hv, _, ?_, if_pos hr⟩)
      intro k
      refine hu (show rightB _ _ _ = true from decide_eq_true ?_)
      obtain ⟨b1, b2, b3, b4, b5, b6, b7⟩ := rbounds hr
      unfold handle at k
      omega
    · exact .inr (.inr ⟨hv, if_neg hr⟩)

set_option maxHeartbeats 1000000 in
theorem unpack_any (h : Int) (w : World) (h1 : 0 ≤ h) (h2 : h ≤ 18446744073709551615) :
    Calls Try.prog 11 #[.int .u64 h] w fun z w' => z = .returned (.tuple #[.agg #[.int .i64 (unV h).s, .int .i64 (unV h).e, .int .i64 (unV h).a], .int .i64 (unV h).err]) ∧ Below w.heap.size w w' := by
  have hp := un_parts h h1 h2
  generalize unV h = R at hp ⊢
  have H0 : Hid (∀ w, Calls Try.prog 15 #[.int .u64 h] w fun z w' => z = .returned (.agg #[.int .i64 (h / 16777216 % 8), .int .i64 (h / 4294967296 % 16777216), .int .i64 (h % 8192 * 8)]) ∧ Below w.heap.size w w') := Lib.hid fun w => split_any h w h1 h2
  generalize h / 16777216 % 8 = s at *
  generalize h / 4294967296 % 16777216 = e at *
  generalize h % 8192 * 8 = a at *
  rcases hp with ⟨rfl, hp⟩ | ⟨rfl, g, hg, hp⟩ | ⟨rfl, hp⟩
  · have HP := Lib.hid hp
    clear hp h1 h2
    go_enter Try.func11, Try.ntmps11
    have S0 := (St.start w).new [.int .i64 0, .int .i64 0, .int .i64 0] 23
    go_wp2_with fail
    refine (lift S0 (H0.out _)).mono ?_
    rintro z w1 ⟨rfl, S1⟩
    have S2 := S1.new [.int .i64 s, .int .i64 e, .int .i64 a] 23
    go_wp2_with fail
    refine (lift S2 (pack_any _ _ _ _)).mono ?_
    rintro z w2 ⟨rfl, S3⟩
    rw [HP.out]
    obtain ⟨ql, q0, q1, q2⟩ := S3.get3 0 rfl
    obtain ⟨pl, p0, p1, p2⟩ := S3.get3 1 rfl
    have pf : ∀ o, w2.frozen? ⟨w.heap.size, o, none⟩ = false := (S3.get 1 rfl).fz
    go_wp2
    refine bodyPost_ret (v := .tuple #[.agg #[.int .i64 s, .int .i64 e, .int .i64 a], .int .i64 0]) (by simp [results, Try.results11, go_sem, p0, p1, p2]) rfl ⟨rfl, ?_⟩
    exact ((S3.below.setCell (by simp) _).setCell (by simp) _).setCell (by simp) _
  · have HP := Lib.hid hp
    have T : (g != h) = true := by simpa using hg
    clear hp hg h1 h2
    go_enter Try.func11, Try.ntmps11
    have S0 := (St.start w).new [.int .i64 0, .int .i64 0, .int .i64 0] 23
    go_wp2_with fail
    refine (lift S0 (H0.out _)).mono ?_
    rintro z w1 ⟨rfl, S1⟩
    have S2 := S1.new [.int .i64 s, .int .i64 e, .int .i64 a] 23
    go_wp2_with fail
    refine (lift S2 (pack_any _ _ _ _)).mono ?_
    rintro z w2 ⟨rfl, S3⟩
    rw [HP.out]
    obtain ⟨ql, q0, q1, q2⟩ := S3.get3 0 rfl
    obtain ⟨pl, p0, p1, p2⟩ := S3.get3 1 rfl
    have pf : ∀ o, w2.frozen? ⟨w.heap.size, o, none⟩ = false := (S3.get 1 rfl).fz
    go_wp2
    refine bodyPost_ret (v := .tuple #[.agg #[.int .i64 0, .int .i64 0, .int .i64 0], .int .i64 18]) (by simp [results, Try.results11, go_sem, p0, p1, p2]) rfl ⟨rfl, ?_⟩
    exact ((S3.below.setCell (by simp) _).setCell (by simp) _).setCell (by simp) _
  · have HP := Lib.hid hp
    clear hp h1 h2
    go_enter Try.func11, Try.ntmps11
    have S0 := (St.start w).new [.int .i64 0, .int .i64 0, .int .i64 0] 23
    go_wp2_with fail
    refine (lift S0 (H0.out _)).mono ?_
    rintro z w1 ⟨rfl, S1⟩
    have S2 := S1.new [.int .i64 s, .int .i64 e, .int .i64 a] 23
    go_wp2_with fail
    refine (lift S2 (pack_any _ _ _ _)).mono ?_
    rintro z w2 ⟨rfl, S3⟩
    rw [HP.out]
    obtain ⟨ql, q0, q1, q2⟩ := S3.get3 0 rfl
    obtain ⟨pl, p0, p1, p2⟩ := S3.get3 1 rfl
    have pf : ∀ o, w2.frozen? ⟨w.heap.size, o, none⟩ = false := (S3.get 1 rfl).fz
    go_wp2
    refine bodyPost_ret (v := .tuple #[.agg #[.int .i64 0, .int .i64 0, .int .i64 0], .int .i64 18]) (by simp [results, Try.results11, go_sem, p0, p1, p2]) rfl ⟨rfl, ?_⟩
    exact ((S3.below.setCell (by simp) _).setCell (by simp) _).setCell (by simp) _
end Go.Proofs.Ytbbedeelomfanaa.Refs
