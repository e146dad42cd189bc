/-
  The document's exit in plain mathematics: what has been finalized of the last objects; what becomes of the scope; and an object of the document's finalized in memory.
-/
import Derived.Test.YtbpmnjmegffllaaGreatDx
namespace Go.Proofs.YtbpmnjmegffllaaGreat.Mod
open Go.ChangeShapes Go.WideShapes Go.ChangeAt Go.RowKit
open Slic Sco
set_option linter.unusedVariables false
set_option linter.unusedSimpArgs false
set_option maxRecDepth 8000
section
variable {w w' : World} {X : Dx} {p : Dp} {m m' : Mo} {Z : Fx} {k : Nat} {FF : List (List Fina.O)} {s : Int}

def mid (FF : List (List Fina.O)) (s : Int) (O : List Ob) (k : Nat) : List Ob := O.take k ++ (O.drop k).map (fin1 FF s)
theorem mid_len (O : List Ob) (k : Nat) : (mid FF s O k).length = O.length := by
  unfold mid
  rw [List.length_append, List.length_map, List.length_take, List.length_drop]
  omega
theorem mid_all (O : List Ob) : mid FF s O O.length = O := by
  unfold mid
  simp
theorem mid_zero (O : List Ob) : mid FF s O 0 = O.map (fin1 FF s) := by
  unfold mid
  simp
theorem mid_get {O : List Ob} {k : Nat} (h : k < O.length) : (mid FF s O (k + 1))[k]? = some O[k] := by
  unfold mid
  rw [List.getElem?_append_left (by rw [List.length_take]; omega), List.getElem?_take, if_pos (by omega), List.getElem?_eq_getElem h]
theorem mid_step {O : List Ob} {k : Nat} (h : k < O.length) : (mid FF s O (k + 1)).set k (fin1 FF s O[k]) = mid FF s O k := by
  unfold mid
  rw [List.set_append_left _ _ (by rw [List.length_take]; omega), List.take_succ_eq_append_getElem h, List.set_append_right _ _ (by rw [List.length_take]; omega), List.length_take, Nat.min_eq_left (by omega), Nat.sub_self, List.set_cons_zero]
  conv => rhs; rw [List.drop_eq_getElem_cons h, List.map_cons]
  rw [List.append_assoc]
  rfl
theorem mid_same {O : List Ob} {k : Nat} (h : k < O.length) (e : todo FF s O[k] = false) : mid FF s O (k + 1) = mid FF s O k := by
  rw [← mid_step h]
  have e1 : fin1 FF s O[k] = O[k] := by
    unfold fin1
    rw [if_neg (by rw [e]; decide)]
  rw [e1]
  have g := mid_get (FF := FF) (s := s) h
  obtain ⟨l, e2⟩ := List.getElem?_eq_some_iff.1 g
  conv => lhs; rw [← List.set_getElem_self l]
  rw [e2]
theorem todo_no {D : List Ob} {o : Ob} (e : todo FF s o = false) : todoL FF s (o :: D) = todoL FF s D := by
  unfold todoL
  rw [List.filter_cons, if_neg (by rw [e]; decide)]
theorem todo_yes {D : List Ob} {o : Ob} (e : todo FF s o = true) : todoL FF s (o :: D) = todoL FF s D ++ [o] := by
  unfold todoL
  rw [List.filter_cons, if_pos e, List.reverse_cons]
theorem todo_drop {O : List Ob} {k : Nat} (h : k < O.length) : O.drop k = O[k] :: O.drop (k + 1) := List.drop_eq_getElem_cons h
structure Fn where
  n : Nat
  said : List Int
  held : Bool
def fnV (FF : List (List Fina.O)) (s : Int) (D : List Ob) : Fn := ⟨(todoL FF s D).length, finSaid FF s D, finHeld FF s D⟩
theorem fn_nil : fnV FF s [] = ⟨0, [], false⟩ := rfl
theorem fn_no {O : List Ob} {k : Nat} (h : k < O.length) (e : todo FF s O[k] = false) : fnV FF s (O.drop k) = fnV FF s (O.drop (k + 1)) := by
  unfold fnV finSaid finHeld
  rw [todo_drop h, todo_no e]
theorem fn_yes {O : List Ob} {k : Nat} (h : k < O.length) (e : todo FF s O[k] = true) : fnV FF s (O.drop k) = ⟨(fnV FF s (O.drop (k + 1))).n + 1, (fnV FF s (O.drop (k + 1))).said ++ (Fina.walk (ops FF O[k]) 0 O[k].sl).said, (fnV FF s (O.drop (k + 1))).held || (Fina.walk (ops FF O[k]) 0 O[k].sl).held⟩ := by
  unfold fnV finSaid finHeld
  rw [todo_drop h, todo_yes e, List.length_append, List.flatMap_append, List.any_append]
  simp
theorem todo_le (D : List Ob) : (fnV FF s D).n ≤ D.length := by
  unfold fnV todoL
  rw [List.length_reverse]
  exact List.length_filter_le _ _
theorem ops_ok (ff : Fok FF) (o : Ob) : Fina.okO (ops FF o) ∧ Fina.okL (ops FF o) ∧ (ops FF o).length ≤ 8 := by
  have nil_ : Fina.okO [] ∧ Fina.okL [] ∧ ([] : List Fina.O).length ≤ 8 := ⟨fun o ho => absurd ho List.not_mem_nil, fun o ho => absurd ho List.not_mem_nil, Nat.zero_le _⟩
  unfold ops Fina.ofV
  split
  · rw [List.getD_eq_getElem?_getD]
    cases hq : FF[o.tag.toNat]? with
    | none => exact nil_
    | some L => exact ff L (List.mem_of_getElem? hq)
  · exact nil_
theorem said_le (ff : Fok FF) : ∀ D : List Ob, (finSaid FF s D).length ≤ 8 * D.length
  | [] => by simp [finSaid, todoL]
  | o :: D => by
    have ih := said_le ff D
    cases e : todo FF s o with
    | false =>
      unfold finSaid at ih ⊢
      rw [todo_no e, List.length_cons]
      omega
    | true =>
      unfold finSaid at ih ⊢
      have h1 := Fina.walk_len (ops FF o) 0 o.sl
      have h2 := (ops_ok ff o).2.2
      rw [todo_yes e, List.flatMap_append, List.length_append, List.length_cons, List.flatMap_cons, List.flatMap_nil, List.append_nil]
      omega
theorem left_fin (O : List Ob) : (O.map (fin1 FF s)).filter (fun o => !decide (o.s = s)) = O.filter (fun o => !decide (o.s = s)) := by
  induction O with
  | nil => rfl
  | cons o O ih =>
    have es : (fin1 FF s o).s = o.s := by
      unfold fin1
      split <;> rfl
    rw [List.map_cons, List.filter_cons, List.filter_cons, es, ih]
    by_cases e : o.s = s
    · rw [if_neg (by rw [decide_eq_true e]; decide), if_neg (by rw [decide_eq_true e]; decide)]
    · rw [if_pos (by rw [decide_eq_false e]; rfl), if_pos (by rw [decide_eq_false e]; rfl)]
      have : fin1 FF s o = o := by
        unfold fin1 todo
        rw [if_neg (by rw [decide_eq_false e]; simp)]
      rw [this]

theorem exit_facts (v : Iv Z k m) {t : Nat} (ht : t < Z.nt) (hp : Chain.popE (m.ents t) = 0) (hc : (Chain.lastV (m.ents t)).2 = true) :
    ∃ (n : Nat) (x : Cx), Chain.lastV (m.ents t) = ((n : Int), true) ∧ 1 ≤ n ∧ n < Z.n ∧ m.F.R[n]? = some x ∧ x.s = 2 ∧ Ctl.rightB x.s x.c x.p x.e = true := by
  have hl : 0 < (m.ents t).length := by
    rcases Nat.eq_zero_or_pos (m.ents t).length with e | e
    · rw [List.eq_nil_of_length_eq_zero e] at hp
      exact absurd hp (by decide)
    · exact e
  have hm : Chain.lastV (m.ents t) ∈ m.ents t := by
    rw [Chain.last_at hl]
    exact List.getElem_mem _
  obtain ⟨q1, q2⟩ := (v.ent _ (v.th_mem ht)).2.2 _ hm
  obtain ⟨n, hn⟩ : ∃ n : Nat, (Chain.lastV (m.ents t)).1 = (n : Int) := ⟨(Chain.lastV (m.ents t)).1.toNat, by omega⟩
  have hi : Chain.inP (m.ents t) (n : Int) := Chain.inP_iff.2 (List.any_eq_true.2 ⟨_, hm, by
    unfold Chain.hit
    rw [hc, hn]
    simp⟩)
  have hr := Chain.fits_range (v.fit ht) _ hi
  obtain ⟨x, hx, hs, _⟩ := v.par _ (v.th_mem ht) _ hi
  rw [Int.toNat_natCast] at hx
  exact ⟨n, x, Prod.ext hn hc, by omega, by omega, hx, hs, v.f.right n x hx⟩
theorem turn_of {F : Fo} {n : Nat} {x : Cx} {f : Cx → Ctl.R} (h1 : 1 ≤ n) (hx : F.R[n]? = some x) (h0 : (f x).x = 0) : turnV F (n : Int) f = ⟨0, 0, decide ((f x).s = 3), ⟨F.R.set n (x.turn (f x)), F.L⟩⟩ := by
  unfold turnV Sco.look
  rw [if_pos (by omega), Int.toNat_natCast, hx]
  dsimp only
  rw [if_pos h0]
theorem leave_more {F : Fo} {n : Nat} {x : Cx} (h1 : 1 ≤ n) (hx : F.R[n]? = some x) (hs : x.s = 2) (hr : Ctl.rightB x.s x.c x.p x.e = true) (hc : 1 < x.c) : (turnV F (n : Int) leF).x = 0 ∧ (turnV F (n : Int) leF).d = false := by
  have e : leF x = ⟨2, x.c - 1, x.p, x.e, 0⟩ := by
    unfold leF Ctl.leV
    rw [if_pos hr, if_pos hs, if_neg (by omega)]
  rw [turn_of h1 hx (by rw [e])]
  exact ⟨rfl, by rw [e]; rfl⟩
theorem leave_last {F : Fo} {n : Nat} {x : Cx} (h1 : 1 ≤ n) (hx : F.R[n]? = some x) (hs : x.s = 2) (hr : Ctl.rightB x.s x.c x.p x.e = true) (hc : ¬ 1 < x.c) : (turnV F (n : Int) leF).x = 0 ∧ (turnV F (n : Int) leF).d = true ∧ (turnV (turnV F (n : Int) leF).F (n : Int) hoF).F = F := by
  have hr' := of_decide_eq_true hr
  have c1 : x.c = 1 := by omega
  have e : leF x = ⟨3, 0, x.p, x.e, 0⟩ := by
    unfold leF Ctl.leV
    rw [if_pos hr, if_pos hs, if_pos c1]
  have l : n < F.R.length := (List.getElem?_eq_some_iff.1 hx).1
  have t1 : turnV F (n : Int) leF = ⟨0, 0, true, ⟨F.R.set n (x.turn ⟨3, 0, x.p, x.e, 0⟩), F.L⟩⟩ := by
    rw [turn_of h1 hx (by rw [e]), e]
    rfl
  rw [t1]
  refine ⟨rfl, rfl, ?_⟩
  have e2 : hoF (x.turn ⟨3, 0, x.p, x.e, 0⟩) = ⟨2, 1, x.p, x.e, 0⟩ := by
    unfold hoF Ctl.hoV Cx.turn
    dsimp only
    rw [if_pos (show Ctl.rightB 3 0 x.p x.e = true from decide_eq_true (by omega)), if_pos rfl]
  rw [turn_of (F := ⟨F.R.set n (x.turn ⟨3, 0, x.p, x.e, 0⟩), F.L⟩) h1 (by rw [List.getElem?_set, if_pos rfl, if_pos l]) (by rw [e2]), e2]
  dsimp only
  rw [List.set_set]
  have ex : (x.turn ⟨3, 0, x.p, x.e, 0⟩).turn ⟨2, 1, x.p, x.e, 0⟩ = x := by
    unfold Cx.turn
    obtain ⟨a1, a2, a3, a4, a5, a6⟩ := x
    dsimp only at hs c1 ⊢
    rw [hs, c1]
  rw [ex]
  obtain ⟨_, hxe⟩ := List.getElem?_eq_some_iff.1 hx
  rw [← hxe, List.set_getElem_self]
theorem Rm.leave (h : Rm w X p m) (i : Int) : Calls Tryz.prog 120 #[ptrD X.P, .int .i64 i] w fun e w' => e = .returned (.tuple #[.bool (turnV m.F i leF).d, .int .i64 (turnV m.F i leF).x]) ∧ Rm w' X p ⟨(turnV m.F i leF).F, m.O, m.A, m.T⟩ ∧ Only [X.P.gc] w w' :=
  (refleave_any (L := m.F.L) h.rs i).mono fun e w' ⟨a, b, c⟩ => ⟨a, h.scopes c (fun b hb => .inl (List.mem_singleton.1 hb)) b ((turn12_L _ _ _).trans h.rl), c⟩
theorem Rm.opens (h : Rm w X p m) (i : Int) : Calls Tryz.prog 123 #[ptrD X.P, .int .i64 i] w fun e w' => e = .returned (.int .i64 (turnV m.F i opF).x) ∧ Rm w' X p ⟨(turnV m.F i opF).F, m.O, m.A, m.T⟩ ∧ Only [X.P.gc] w w' :=
  (refopen_any (L := m.F.L) h.rs i).mono fun e w' ⟨a, b, c⟩ => ⟨a, h.scopes c (fun b hb => .inl (List.mem_singleton.1 hb)) b ((turn12_L _ _ _).trans h.rl), c⟩

theorem zip_set2 {α β : Type} : ∀ (A : List α) (B : List β) (i : Nat) (a : α) (b : β), (A.set i a).zip (B.set i b) = (A.zip B).set i (a, b)
  | [], B, i, a, b => by simp
  | x :: A, [], i, a, b => by simp
  | x :: A, y :: B, 0, a, b => by simp
  | x :: A, y :: B, i + 1, a, b => by simp [zip_set2 A B i a b]
theorem ap_set {S : List Tri} {ts : Tri} (h : S.Pairwise fun a b => Mod.ob a = none ∨ Mod.ob a ≠ Mod.ob b) (ap : ∀ t ∈ S, Mod.ob t = none ∨ Mod.ob t ≠ Mod.ob ts) (i : Nat) : (S.set i ts).Pairwise fun a b => Mod.ob a = none ∨ Mod.ob a ≠ Mod.ob b := by
  rw [List.pairwise_iff_getElem] at h ⊢
  intro a b ha hb hab
  rw [List.length_set] at ha hb
  rw [List.getElem_set, List.getElem_set]
  by_cases ea : i = a
  · rw [if_pos ea, if_neg (by omega)]
    rcases ap _ (List.getElem_mem hb) with e | e
    · by_cases q : Mod.ob ts = none
      · exact .inl q
      · right
        rw [e]
        exact q
    · exact .inr fun q => e q.symm
  · rw [if_neg ea]
    by_cases eb : i = b
    · rw [if_pos eb]
      exact ap _ (List.getElem_mem ha)
    · rw [if_neg eb]
      exact h a b ha hb hab
theorem Rm.finOb (h : Rm w X p m) {i : Nat} {o : Ob} {g c : Nat} {t : Tri} (ho : m.O[i]? = some o) (hp : p.s[i]? = some t) (ep : p.o = (some ⟨g, 0, none⟩, m.O.length, c)) {ts : Tri} {sl : List Int} (hs : Slic.Own Fina.kU w 0 (sl3 ts) sl) (ap : ∀ t ∈ p.s, Mod.ob t = none ∨ Mod.ob t ≠ Mod.ob ts) :
    Rm ((w.setCell ⟨g, i * 5 + 3, none⟩ (sl3 ts)).setCell ⟨g, i * 5 + 4, none⟩ (.bool true)) X ⟨p.o, p.c, p.s.set i ts, p.Y⟩ ⟨m.F, m.O.set i ⟨o.s, o.e, o.a, sl, o.tag, true⟩, m.A, m.T⟩ := by
  have q : Only [g] w ((w.setCell ⟨g, i * 5 + 3, none⟩ (sl3 ts)).setCell ⟨g, i * 5 + 4, none⟩ (.bool true)) := (Only.put _ _ _ _ (by simp)).trans (Only.put _ _ _ _ (by simp))
  have tg : isT w g 107 := own_isT h.ob (by rw [ep]; rfl)
  have nt : ∀ T, (107 == T) = false → ∀ x ∈ [g], noT w x T := fun T hT x hx => by rw [List.mem_singleton.1 hx]; exact tg.no hT
  have nb : ∀ {b : Nat} {T : TypeId}, isT w b T → (107 == T) = false → b ∉ [g] := fun hb e1 hx => (nt _ e1 _ hx).ne hb rfl
  have hz : (m.O.zip p.s)[i]? = some (o, t) := by
    rw [List.getElem?_zip_eq_some]
    exact ⟨ho, hp⟩
  refine ⟨h.hd.of_block (q.block _ h.hd.lt (nb h.tD (by decide))), h.rs.only q (nb h.rs.tD (by decide)) (nb h.rs.tc (by decide)) (nb h.rs.tx (by decide)) (nb h.rs.tC (by decide)) (nb h.rs.tw (by decide)), h.rl, ?_, by simp [h.ln], fun j o' t' h1 h2 => ?_, ap_set h.ap ap i, fun t ht => own_types (h.en t ht) q (nt _ (by decide)), h.fi.types q (nt _ (by decide)) (nt _ (by decide))⟩
  · show Slic.Own kO _ 0 (sl3 p.o) ((m.O.set i _).zip (p.s.set i ts))
    rw [zip_set2]
    have ob := h.ob
    rw [ep] at ob ⊢
    have p1 := own_put ob i 3 hz (by decide) (o, ts) (sl3 ts) rfl
    have hz2 : ((m.O.zip p.s).set i (o, ts))[i]? = some (o, ts) := by
      rw [List.getElem?_set, if_pos rfl, if_pos (List.getElem?_eq_some_iff.1 hz).1]
    have p2 := own_put p1 i 4 hz2 (by decide) ((⟨o.s, o.e, o.a, sl, o.tag, true⟩ : Ob), ts) (.bool true) rfl
    rw [List.set_set] at p2
    exact p2
  · rw [List.getElem?_set] at h1 h2
    by_cases e : i = j
    · subst e
      rw [if_pos rfl] at h1 h2
      rw [if_pos (List.getElem?_eq_some_iff.1 ho).1] at h1
      rw [if_pos (List.getElem?_eq_some_iff.1 hp).1] at h2
      injection h1 with h1
      injection h2 with h2
      subst h1 h2
      exact own_types hs q (nt _ (by decide))
    · rw [if_neg e] at h1 h2
      exact own_types (h.sl j o' t' h1 h2) q (nt _ (by decide))
end
end Go.Proofs.YtbpmnjmegffllaaGreat.Mod
