/-
  Contract of package model: empty.
-/
import Derived.Test.YtneggppfffekdaaGreatFinW
namespace Go.Proofs.YtneggppfffekdaaGreat.Mod
open Go.ChangeShapes Go.WideShapes Go.ChangeAt Go.RowKit Go.Shelf
open Slic Sco
set_option linter.unusedVariables false
set_option linter.unusedSimpArgs false
set_option maxRecDepth 8000
attribute [local go_sem] Oper.semAt_some

/-- What the map tells when some keys were taken from it. -/
def dropF (f : Int → Option Nat) (L : List Int) (q : Int) : Option Nat := if L.contains q = true then none else f q
theorem drop_snoc (f : Int → Option Nat) (L : List Int) (x : Int) : (fun q => if q = x then none else dropF f L q) = dropF f (L ++ [x]) := by
  funext q
  unfold dropF
  by_cases e : q = x
  · rw [if_pos e, if_pos (by rw [List.contains_iff_mem]; simp [e])]
  · rw [if_neg e]
    by_cases c : L.contains q = true
    · rw [if_pos c, if_pos (by rw [List.contains_iff_mem] at c ⊢; simp [c])]
    · rw [if_neg c, if_neg (by rw [List.contains_iff_mem] at c ⊢; simp [c, e])]
def emptyV (m : Mo) (s : Int) : Mo := ⟨m.F, m.O.filter (fun o => !decide (o.s = s)), m.A.set s.toNat ar0, m.T⟩
theorem zipf_blk {P : Ob → Bool} : ∀ (O : List Ob) (M : List (Nat × Tri)) (x : Int), M.length = O.length → O.Pairwise (fun o p => o.h ≠ p.h) →
    blk (O.filter P) (((O.zip M).filter (fun y => P y.1)).map (·.2)) x = if (∃ o ∈ O, P o = false ∧ o.h = x) then none else blk O M x
  | [], M, x, _, _ => by simp [blk]
  | o :: O, [], x, h, _ => by simp at h
  | o :: O, p :: M, x, h, hd => by
    obtain ⟨d1, d2⟩ := List.pairwise_cons.1 hd
    have ih := zipf_blk (P := P) O M x (by simpa using h) d2
    rw [List.zip_cons_cons, List.filter_cons, List.filter_cons]
    cases hp : P o with
    | true =>
      simp only [if_true, List.map_cons]
      show (if o.h = x then some p.1 else blk _ _ x) = if _ then none else if o.h = x then some p.1 else blk O M x
      by_cases e : o.h = x
      · rw [if_pos e, if_pos e, if_neg]
        rintro ⟨q, hq, h1, h2⟩
        rcases List.mem_cons.1 hq with rfl | hq
        · rw [hp] at h1
          cases h1
        · exact d1 q hq (e.trans h2.symm)
      · rw [if_neg e, if_neg e, ih]
        have : (∃ q ∈ o :: O, P q = false ∧ q.h = x) ↔ ∃ q ∈ O, P q = false ∧ q.h = x := by
          constructor
          · rintro ⟨q, hq, h1, h2⟩
            rcases List.mem_cons.1 hq with rfl | hq
            · exact absurd h2 e
            · exact ⟨q, hq, h1, h2⟩
          · rintro ⟨q, hq, h1⟩
            exact ⟨q, List.mem_cons_of_mem _ hq, h1⟩
        simp only [this]
    | false =>
      simp only [Bool.false_eq_true, if_false]
      rw [ih]
      show _ = if _ then none else if o.h = x then some p.1 else blk O M x
      by_cases e : o.h = x
      · rw [if_pos (show ∃ q ∈ o :: O, P q = false ∧ q.h = x from ⟨o, List.mem_cons_self .., hp, e⟩)]
        split
        · rfl
        · exact blk_none O M x fun q hq h2 => d1 q hq (e.trans h2.symm)
      · rw [if_neg e]
        have : (∃ q ∈ o :: O, P q = false ∧ q.h = x) ↔ ∃ q ∈ O, P q = false ∧ q.h = x := by
          constructor
          · rintro ⟨q, hq, h1, h2⟩
            rcases List.mem_cons.1 hq with rfl | hq
            · exact absurd h2 e
            · exact ⟨q, hq, h1, h2⟩
          · rintro ⟨q, hq, h1⟩
            exact ⟨q, List.mem_cons_of_mem _ hq, h1⟩
        simp only [this]
theorem mem_hs {O : List Ob} {s : Nat} {x : Int} : x ∈ hs s O ↔ ∃ o ∈ O, o.s = (s : Int) ∧ o.h = x := by
  unfold hs
  rw [List.mem_map]
  constructor
  · rintro ⟨o, ho, e⟩
    obtain ⟨h1, h2⟩ := List.mem_filter.1 ho
    exact ⟨o, h1, of_decide_eq_true h2, e⟩
  · rintro ⟨o, ho, e, e2⟩
    exact ⟨o, List.mem_filter.2 ⟨ho, decide_eq_true e⟩, e2⟩
theorem hs_nodup {O : List Ob} (hd : O.Pairwise fun o p => o.h ≠ p.h) (s : Nat) : (hs s O).Nodup := by
  unfold hs
  exact List.pairwise_map.2 (hd.filter _)
theorem hs_keep (O : List Ob) (s i : Nat) : hs i (O.filter (fun o => !decide (o.s = (s : Int)))) = if i = s then [] else hs i O := by
  unfold hs
  rw [List.filter_filter]
  split
  · rename_i e
    subst e
    rw [List.filter_eq_nil_iff.2, List.map_nil]
    intro o _
    by_cases c : o.s = (i : Int) <;> simp [c]
  · rename_i e
    congr 1
    apply List.filter_congr
    intro o _
    by_cases c : o.s = (i : Int)
    · have : ¬ o.s = (s : Int) := by omega
      simp [c]
      omega
    · simp [c]
theorem len_keep (O : List Ob) (s : Nat) : (O.filter (fun o => !decide (o.s = (s : Int)))).length + (hs s O).length = O.length := by
  unfold hs
  rw [List.length_map]
  induction O with
  | nil => rfl
  | cons o O ih =>
    rw [List.filter_cons, List.filter_cons]
    by_cases c : o.s = (s : Int)
    · simp [c]
      omega
    · simp [c]
      omega
/-- Rows of what was said stay. -/
def KI (w w' : World) : Prop := ∀ (v : Value) (L : List Int), Slic.Own Fina.kI w 0 v L → Slic.Own Fina.kI w' 0 v L
section
variable {w0 w w' : World} {Z : Fx} {H : Hp} {G : Gs} {m : Mo} {bx : Bx} {k : Nat}
theorem Mh.del (h : Mh w0 w Z H G bx) {x : Int} (hx : wf64 x) (hf : (G.f x).isSome = true) (ty : TypeId) :
    ∃ w', (Builtin.delete_ #[mapt, u64t] ty #[.map (some Z.bm), .int .u64 x]).run Tryz.prog w = .ok (.tuple #[]) w' ∧ Mh w0 w' Z H ⟨G.F, G.A, G.T, G.O, fun q => if q = x then none else G.f q, G.hh, G.c - 1⟩ bx ∧ Only [Z.bm] w w' := by
  obtain ⟨w', hr, hm, hg⟩ := h.md.map.del hx hf ty
  have k : Only [Z.bm] w w' := Only.grown hg (List.mem_singleton.2 rfl)
  exact ⟨w', hr, h.step k (fun y hy => by rw [List.mem_singleton.1 hy]; exact .inr (.inr (.inr (.inr (.inl rfl))))) (h.md.mapped k hm) (fun b hb => .inl hb), k⟩
/-- All that a scope has is taken. -/
theorem Mh.emptied {f : Int → Option Nat} {c : Nat} {s : Nat} {a : Ar} (h : Mh w0 w Z H ⟨m.F, m.A, m.T, m.O, dropF (blk m.O H.om) (hs s m.O), fun i => hs i m.O, m.O.length - (hs s m.O).length⟩ bx) (hd : m.O.Pairwise fun o p => o.h ≠ p.h) (ha : m.A[s]? = some a) :
    Mw w0 (((w.setCell ⟨Z.ba, s * 3, none⟩ (.int .u64 0)).setCell ⟨Z.ba, s * 3 + 1, none⟩ (.int .i64 0)).setCell ⟨Z.ba, s * 3 + 2, none⟩ (.slice none 0 0)) Z (emptyV m (s : Int)) bx := by
  have d := (h.md.keepO (fun o => !decide (o.s = (s : Int)))).fresh s ha
  have hl : H.om.length = m.O.length := h.md.oml
  have e1 : (emptyV m (s : Int)).gs (((m.O.zip H.om).filter (fun y => !decide (y.1.s = (s : Int)))).map (·.2)) = ⟨m.F, m.A.set s ar0, m.T, m.O.filter (fun o => !decide (o.s = (s : Int))), dropF (blk m.O H.om) (hs s m.O), fun i => if i = s then [] else hs i m.O, m.O.length - (hs s m.O).length⟩ := by
    unfold Mo.gs emptyV
    simp only [Gs.mk.injEq, true_and, Int.toNat_natCast]
    refine ⟨?_, ?_, ?_⟩
    · funext x
      rw [zipf_blk (P := fun o => !decide (o.s = (s : Int))) m.O H.om x hl hd]
      unfold dropF
      have : (hs s m.O).contains x = true ↔ ∃ o ∈ m.O, (!decide (o.s = (s : Int))) = false ∧ o.h = x := by
        rw [List.contains_iff_mem, mem_hs]
        simp
      by_cases c : ∃ o ∈ m.O, (!decide (o.s = (s : Int))) = false ∧ o.h = x
      · rw [if_pos c, if_pos (this.2 c)]
      · rw [if_neg c, if_neg fun h => c (this.1 h)]
    · funext i
      exact hs_keep m.O s i
    · have := len_keep m.O s
      omega
  refine ⟨⟨H.tm, H.am.set s (none, 0, 0), ((m.O.zip H.om).filter (fun y => !decide (y.1.s = (s : Int)))).map (·.2)⟩, ?_⟩
  rw [e1]
  refine h.step (((Only.put w _ _ _ (by simp)).trans (Only.put _ _ _ _ (by simp))).trans (Only.put _ Z.ba _ _ (by simp)) : Only [Z.ba] _ _) (fun y hy => by rw [List.mem_singleton.1 hy]; exact .inr (.inr (.inr (.inl rfl)))) d fun b hb => .inl ?_
  rcases hb with e | e | e | e | e | ⟨x, hx, e⟩ | ⟨p, hp, e⟩
  · exact .inl e
  · exact .inr (.inl e)
  · exact .inr (.inr (.inl e))
  · exact .inr (.inr (.inr (.inl e)))
  · exact .inr (.inr (.inr (.inr (.inl e))))
  · obtain ⟨i, hi⟩ := List.mem_iff_getElem?.1 hx
    rcases get_setL hi with ⟨_, rfl, _⟩ | ⟨_, hi⟩
    · cases e
    · exact wr_am hi e
  · obtain ⟨y, hy, e'⟩ := List.mem_map.1 hp
    have hy := List.of_mem_zip (List.mem_filter.1 hy).1
    refine .inr (.inr (.inr (.inr (.inr (.inr ⟨p, ?_, e⟩)))))
    rw [← e']
    exact hy.2
set_option maxHeartbeats 4000000 in
theorem empty_any (h : Mw w0 w Z m bx) (v : Lv Z k m) (hk : k ≤ 10000) (s : Nat) (hs1 : s < Z.n) :
    Calls Tryz.prog 152 #[ptr Z.B, .int .i64 (s : Int)] w fun e w' => e = .returned (.tuple #[]) ∧ Mw w0 w' Z (emptyV m (s : Int)) bx ∧ KI w w' := by
  obtain ⟨H, h⟩ := h
  obtain ⟨x, ar, hx, ha⟩ := v.scope hs1
  obtain ⟨y, hy, ac0, ac1, ac2, af, oy⟩ := h.acells (s := s) (a := ar) ha
  obtain ⟨_, _, mc6, mc7⟩ := h.md.cells
  have hl0 : (hs s m.O).length ≤ k := by
    have := v.cnt
    have := len_keep m.O s
    omega
  have hn8 := v.n8
  obtain ⟨L, hL⟩ : ∃ L, hs s m.O = L := ⟨_, rfl⟩
  have HL := Lib.hid hL
  have hnd := hs_nodup v.hne s
  have hwf : ∀ x ∈ hs s m.O, wf64 x ∧ (blk m.O H.om x).isSome = true := fun x hx => by
    obtain ⟨o, ho, _, e⟩ := mem_hs.1 hx
    rw [← e]
    refine ⟨wf_handle (v.rt o ho), ?_⟩
    rw [blk_obs m.O H.om _ h.oml, find_one v.hne ho]
    rfl
  have oy : Slic.Own Fina.kU w 0 (sl3 y) (hs s m.O) := oy
  rw [hL] at hnd hwf hl0 oy
  obtain ⟨A, cp, hv, _, _⟩ : ∃ A c, sl3 y = .slice A L.length c ∧ L.length ≤ c ∧ c ≤ maxLen := (Slic.Own.sr oy).form
  rw [hv] at ac2
  go_enter Tryz.func152, Tryz.ntmps152
  go_wp2
  go_loopw [15] (fun t wr => ∃ n : Nat, n ≤ L.length ∧ t = .int .i64 (n : Int) ∧ Mh w0 wr Z H ⟨m.F, m.A, m.T, m.O, dropF (blk m.O H.om) (L.take n), fun i => hs i m.O, m.O.length - n⟩ bx ∧ KI w wr) (fun t _ => L.length - (intOf t).toNat)
  case atStart =>
    refine ⟨0, Nat.zero_le _, rfl, ?_⟩
    have : dropF (blk m.O H.om) (L.take 0) = blk m.O H.om := by
      funext q
      unfold dropF
      rw [if_neg (by simp)]
    rw [this]
    exact ⟨h, fun _ _ o => o⟩
  case round =>
    obtain ⟨n, hn, rfl, hW, hKI⟩ := hrel
    by_cases hlt : n < L.length
    · have z1 : decide ((n : Int) < (L.length : Int)) = true := decide_eq_true (by omega)
      obtain ⟨y', hy', _, _, _, _, oyW⟩ := hW.acells (s := s) (a := ar) ha
      rw [hy] at hy'
      injection hy' with hy'
      subst hy'
      have oyW : Slic.Own Fina.kU wr 0 (sl3 y) (hs s m.O) := oyW
      rw [HL.out] at oyW
      obtain ⟨g, c', hg, _, gc, gf⟩ := word_at oyW hlt
      rw [hv] at hg
      injection hg with hg _ _
      subst hg
      obtain ⟨_, _, mc6, mc7⟩ := hW.md.cells
      obtain ⟨hwx, hbs⟩ := hwf _ (List.getElem_mem hlt)
      have hfd : (dropF (blk m.O H.om) (L.take n) L[n]).isSome = true := by
        unfold dropF
        rw [if_neg, hbs]
        rw [List.contains_iff_mem]
        intro hm
        have h2 : (L.take n ++ [L[n]]).Nodup := by
          rw [← List.take_succ_eq_append_getElem hlt]
          exact hnd.sublist (List.take_sublist ..)
        exact (List.nodup_append.1 h2).2.2 _ hm _ (List.mem_singleton.2 rfl) rfl
      obtain ⟨W', hr, hW', hO'⟩ := hW.del (hwf _ (List.getElem_mem hlt)).1 hfd 0
      have e1 : dropF (blk m.O H.om) (L.take n ++ [L[n]]) = dropF (blk m.O H.om) (L.take (n + 1)) := by rw [List.take_succ_eq_append_getElem hlt]
      simp only [drop_snoc, e1] at hW'
      clear e1
      go_wp2
      go_roundw
      case rel => exact ⟨n + 1, by omega, by go_num, by rw [show m.O.length - (n + 1) = m.O.length - n - 1 by omega]; exact hW', fun v L o => own_types (hKI v L o) hO' fun x hx => by rw [List.mem_singleton.1 hx]; exact hW.md.map.noT _⟩
      case measure => simp [intOf]; omega
    · have z1 : decide ((n : Int) < (L.length : Int)) = false := decide_eq_false (by omega)
      have en : n = L.length := by omega
      subst en
      rw [List.take_length, ← HL.out] at hW
      obtain ⟨y', hy', ac0, ac1, ac2, af, oyW⟩ := hW.acells (s := s) (a := ar) ha
      obtain ⟨_, _, mc6, mc7⟩ := hW.md.cells
      have af0 := af (s * 3)
      have af1 := af (s * 3 + 1)
      have af2 := af (s * 3 + 2)
      have hOa : Only [Z.ba] wr (((wr.setCell ⟨Z.ba, s * 3, none⟩ (.int .u64 0)).setCell ⟨Z.ba, s * 3 + 1, none⟩ (.int .i64 0)).setCell ⟨Z.ba, s * 3 + 2, none⟩ (.slice none 0 0)) := ((Only.put wr _ _ _ (by simp)).trans (Only.put _ _ _ _ (by simp))).trans (Only.put _ Z.ba _ _ (by simp))
      have hE := hW.emptied (f := fun _ => none) (c := 0) v.hne ha
      go_wp2
      (go_end0; exact ⟨rfl, hE, fun v L o => own_types (hKI v L o) hOa fun x hx => by rw [List.mem_singleton.1 hx]; exact hW.md.ta.no rfl⟩)
end
end Go.Proofs.YtneggppfffekdaaGreat.Mod
