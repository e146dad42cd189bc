/-
  The programs of finalizers of two laws, as literals in memory.
-/
import Derived.Test.YtneggppfffekdaaGreatFixd
import Derived.Test.YtneggppfffekdaaGreatOwnl
namespace Go.Proofs.YtneggppfffekdaaGreat.Mod
open Go.ChangeShapes Go.WideShapes Go.ChangeAt Go.RowKit
open Slic Sco
set_option linter.unusedVariables false
set_option linter.unusedSimpArgs false
def fopA (o a b : Int) : List Value := [.int .u8 o, .int .i64 a, .int .i64 b]
theorem lit_f (w : World) (L : List Fina.O) (cs : Array Value) (hc : cs.toList = Fina.kF.flat L) (hl : L.length ≤ 10) (n : Nat) (hn : n = L.length) : Sr Fina.kF (w.alloc (.cells cs 86)) (.slice (some ⟨w.heap.size, 0, none⟩) n n) L := (Slic.Own.lit (K := Fina.kF) w w.heap.size (Nat.le_refl _) L cs hc (by unfold maxLen; omega) n hn).sr
def lvW (w : World) : World := (((w.alloc (.cells #[.int .u8 0, .int .i64 1, .int .i64 0] 86)).alloc (.cells #[.int .u8 0, .int .i64 2, .int .i64 0] 86)).alloc (.cells #[.int .u8 0, .int .i64 3, .int .i64 0] 86)).alloc (.cells #[.slice none 0 0, .slice (some ⟨w.heap.size, 0, none⟩) 1 1, .slice (some ⟨w.heap.size + 1, 0, none⟩) 1 1, .slice (some ⟨w.heap.size + 1 + 1, 0, none⟩) 1 1] 87)
theorem lv_rows (w : World) : Fina.Rows (lvW w) (.slice (some ⟨w.heap.size + 1 + 1 + 1, 0, none⟩) 4 4) lvF ∧ Below w.heap.size w (lvW w) := by
  obtain ⟨x1, hx1⟩ : ∃ x, x = w.alloc (.cells #[.int .u8 0, .int .i64 1, .int .i64 0] 86) := ⟨_, rfl⟩
  obtain ⟨x2, hx2⟩ : ∃ x, x = x1.alloc (.cells #[.int .u8 0, .int .i64 2, .int .i64 0] 86) := ⟨_, rfl⟩
  obtain ⟨x3, hx3⟩ : ∃ x, x = x2.alloc (.cells #[.int .u8 0, .int .i64 3, .int .i64 0] 86) := ⟨_, rfl⟩
  have s1 := lit_f w [(0, 1, 0)] #[.int .u8 0, .int .i64 1, .int .i64 0] rfl (by decide) 1 rfl
  have s2 := lit_f x1 [(0, 2, 0)] #[.int .u8 0, .int .i64 2, .int .i64 0] rfl (by decide) 1 rfl
  have s3 := lit_f x2 [(0, 3, 0)] #[.int .u8 0, .int .i64 3, .int .i64 0] rfl (by decide) 1 rfl
  rw [← hx1] at s1
  rw [← hx2] at s2
  rw [← hx3] at s3
  have z1 : x1.heap.size = w.heap.size + 1 := by rw [hx1, World.size_alloc]
  have z2 : x2.heap.size = w.heap.size + 1 + 1 := by rw [hx2, World.size_alloc, z1]
  have z3 : x3.heap.size = w.heap.size + 1 + 1 + 1 := by rw [hx3, World.size_alloc, z2]
  have k1 : Below w.heap.size w x1 := by rw [hx1]; exact below_one _ _
  have k2 : Below x1.heap.size x1 x2 := by rw [hx2]; exact below_one _ _
  have k3 : Below x2.heap.size x2 x3 := by rw [hx3]; exact below_one _ _
  rw [z1] at s2
  rw [z2] at s3
  obtain ⟨cs, hcs⟩ : ∃ cs : Array Value, cs = #[.slice none 0 0, .slice (some ⟨w.heap.size, 0, none⟩) 1 1, .slice (some ⟨w.heap.size + 1, 0, none⟩) 1 1, .slice (some ⟨w.heap.size + 1 + 1, 0, none⟩) 1 1] := ⟨_, rfl⟩
  have k4 : Below x3.heap.size x3 (x3.alloc (.cells cs 87)) := below_one _ _
  have hW : lvW w = x3.alloc (.cells cs 87) := by rw [hcs, hx3, hx2, hx1]; rfl
  have b34 := k3.trans (k4.mono k3.size)
  have b24 := k2.trans (b34.mono k2.size)
  rw [hW]
  refine ⟨⟨[(none, 0, 0), (some ⟨w.heap.size, 0, none⟩, 1, 1), (some ⟨w.heap.size + 1, 0, none⟩, 1, 1), (some ⟨w.heap.size + 1 + 1, 0, none⟩, 1, 1)], ?_, rfl, ?_⟩, k1.trans (b24.mono k1.size)⟩
  · have := (Slic.Own.lit (K := Fina.kR) x3 x3.heap.size (Nat.le_refl _) [(none, 0, 0), (some ⟨w.heap.size, 0, none⟩, 1, 1), (some ⟨w.heap.size + 1, 0, none⟩, 1, 1), (some ⟨w.heap.size + 1 + 1, 0, none⟩, 1, 1)] cs (by rw [hcs]; rfl) (by unfold maxLen; show 4 ≤ _; omega) 4 rfl).sr
    rw [z3] at this
    exact this
  · intro i h h'
    match i, h, h' with
    | 0, _, _ => exact Sr.nil _
    | 1, _, _ => exact s1.below b24
    | 2, _, _ => exact s2.below b34
    | 3, _, _ => exact s3.below k4
def hdW' (w : World) : World := ((w.alloc (.cells #[.int .u8 4, .int .i64 0, .int .i64 0, .int .u8 0, .int .i64 7, .int .i64 0] 86)).alloc (.cells #[.int .u8 1, .int .i64 0, .int .i64 0, .int .u8 0, .int .i64 8, .int .i64 0] 86)).alloc (.cells #[.slice (some ⟨w.heap.size, 0, none⟩) 2 2, .slice (some ⟨w.heap.size + 1, 0, none⟩) 2 2] 87)
theorem hd_rows (w : World) : Fina.Rows (hdW' w) (.slice (some ⟨w.heap.size + 1 + 1, 0, none⟩) 2 2) hdF ∧ Below w.heap.size w (hdW' w) := by
  obtain ⟨x1, hx1⟩ : ∃ x, x = w.alloc (.cells #[.int .u8 4, .int .i64 0, .int .i64 0, .int .u8 0, .int .i64 7, .int .i64 0] 86) := ⟨_, rfl⟩
  obtain ⟨x2, hx2⟩ : ∃ x, x = x1.alloc (.cells #[.int .u8 1, .int .i64 0, .int .i64 0, .int .u8 0, .int .i64 8, .int .i64 0] 86) := ⟨_, rfl⟩
  have s1 := lit_f w [(4, 0, 0), (0, 7, 0)] #[.int .u8 4, .int .i64 0, .int .i64 0, .int .u8 0, .int .i64 7, .int .i64 0] rfl (by decide) 2 rfl
  have s2 := lit_f x1 [(1, 0, 0), (0, 8, 0)] #[.int .u8 1, .int .i64 0, .int .i64 0, .int .u8 0, .int .i64 8, .int .i64 0] rfl (by decide) 2 rfl
  rw [← hx1] at s1
  rw [← hx2] at s2
  have z1 : x1.heap.size = w.heap.size + 1 := by rw [hx1, World.size_alloc]
  have z2 : x2.heap.size = w.heap.size + 1 + 1 := by rw [hx2, World.size_alloc, z1]
  have k1 : Below w.heap.size w x1 := by rw [hx1]; exact below_one _ _
  have k2 : Below x1.heap.size x1 x2 := by rw [hx2]; exact below_one _ _
  rw [z1] at s2
  obtain ⟨cs, hcs⟩ : ∃ cs : Array Value, cs = #[.slice (some ⟨w.heap.size, 0, none⟩) 2 2, .slice (some ⟨w.heap.size + 1, 0, none⟩) 2 2] := ⟨_, rfl⟩
  have k4 : Below x2.heap.size x2 (x2.alloc (.cells cs 87)) := below_one _ _
  have hW : hdW' w = x2.alloc (.cells cs 87) := by rw [hcs, hx2, hx1]; rfl
  have b24 := k2.trans (k4.mono k2.size)
  rw [hW]
  refine ⟨⟨[(some ⟨w.heap.size, 0, none⟩, 2, 2), (some ⟨w.heap.size + 1, 0, none⟩, 2, 2)], ?_, rfl, ?_⟩, k1.trans (b24.mono k1.size)⟩
  · have := (Slic.Own.lit (K := Fina.kR) x2 x2.heap.size (Nat.le_refl _) [(some ⟨w.heap.size, 0, none⟩, 2, 2), (some ⟨w.heap.size + 1, 0, none⟩, 2, 2)] cs (by rw [hcs]; rfl) (by unfold maxLen; show 2 ≤ _; omega) 2 rfl).sr
    rw [z2] at this
    exact this
  · intro i h h'
    match i, h, h' with
    | 0, _, _ => exact s1.below b24
    | 1, _, _ => exact s2.below k4
theorem ok_of {LL : List (List Fina.O)} (h : LL.all (fun L => L.all fun o => decide (0 ≤ o.1 ∧ o.1 ≤ 255)) = true) : Fina.okOs LL := fun L hL o ho => of_decide_eq_true (List.all_eq_true.1 (List.all_eq_true.1 h L hL) o ho)
theorem lv_ok : Fina.okOs lvF ∧ Fina.rightB lvF = true := ⟨ok_of (by decide), by decide⟩
theorem hd_ok : Fina.okOs hdF ∧ Fina.rightB hdF = true := ⟨ok_of (by decide), by decide⟩
theorem bit_of {x : Int} (h0 : 0 ≤ x) (h1 : x < 256) : bits .and .u8 x 1 = x % 2 := bits_mask .u8 8 (by decide) wraps_u8 1 (by decide) x h0 h1
theorem bit_at {wh : Int} (h0 : 0 ≤ wh) (h1 : wh ≤ 255) {V : Nat} (hV : (V : Int) = wh % 64) {j : Nat} (hj : j < 6) : bits .and .u8 (wh / 2 ^ j) 1 = ((V / 2 ^ j % 2 : Nat) : Int) := by
  rcases (show j = 0 ∨ j = 1 ∨ j = 2 ∨ j = 3 ∨ j = 4 ∨ j = 5 by omega) with rfl | rfl | rfl | rfl | rfl | rfl
  all_goals
    rw [bit_of (by omega) (by omega)]
    omega
theorem bit_at5 {wh : Int} (h0 : 0 ≤ wh) (h1 : wh ≤ 255) {V : Nat} (hV : (V : Int) = wh % 32) {j : Nat} (hj : j < 5) : bits .and .u8 (wh / 2 ^ j) 1 = ((V / 2 ^ j % 2 : Nat) : Int) := by
  obtain ⟨U, hU⟩ : ∃ U : Nat, (U : Int) = wh % 64 := ⟨(wh % 64).toNat, by omega⟩
  rw [bit_at h0 h1 hU (by omega)]
  rcases (show j = 0 ∨ j = 1 ∨ j = 2 ∨ j = 3 ∨ j = 4 by omega) with rfl | rfl | rfl | rfl | rfl <;> omega
/-- append to a row of one's own, with where it lies then. -/
theorem wpList_grow {α : Type} {K : Kd α} {w : World} {ops : Array Oper} {rest : List Oper} {o : Oper} {a : Act} {Q : Exit → Act → World → Prop} (hgd : o.guard = none) (s x : Operand)
    (ho : o.op = .call { callee := .builtin .append, args := #[s, x], argTypes := #[K.X, K.X] }) (hty : o.type = K.X) {v y : Value} {L M : List α} {base : Nat}
    (hs : a.eval s = v) (hx : a.eval x = y) (h : Slic.Own K w base v L) (hy : Sr K w y M) (hl : L.length + M.length ≤ 1000000) (hb : base ≤ w.heap.size)
    (hK : ∀ v' w', Slic.Own K w' base v' (L ++ M) → w.grownBy w' v.ownBlock → (v'.ownBlock = v.ownBlock ∨ v'.ownBlock = some w.heap.size) → wpList Tryz.prog ops Q rest (a.put o.dst v') w') : wpList Tryz.prog ops Q (o :: rest) a w := by
  obtain ⟨v', w', hrun, r1, r2, r3⟩ := Slic.app_own w h hy hl hb
  refine wpList_plain hgd fun J hJ => ?_
  unfold Oper.wp
  simp [execOp, ho, resolve, invoke, builtin, hs, hx, hty, hrun, Result.andThen]
  exact hJ _ _ (hK v' w' r1 r2 r3)
end Go.Proofs.YtneggppfffekdaaGreat.Mod
