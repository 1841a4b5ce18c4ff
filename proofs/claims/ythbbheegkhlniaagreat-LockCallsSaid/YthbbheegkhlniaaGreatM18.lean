/-
  What stands for the locks behind a sweep; a transaction cut out.
-/
import Derived.Test.YthbbheegkhlniaaGreatM17
namespace Go.Proofs.YthbbheegkhlniaaGreat
open Go.RowKit Go.Lib Go.Shelf Go.Maps

theorem Rep.sweep {B tb b N : Nat} {D : Nat → Prop} {w w' : World} {l : Lk} {S S' : Sx} {t : Th} (hr : Rep l S) (hu : l.W.Pairwise fun a b => a.x ≠ b.x) (hls : S.ls t = some b) (hs : SpTo B tb N D w w' S S' t) : Rep (sweepL l t).1 S' ∧ ((swp (S.h t) [] (S.v t)).2.2.map fun o => o.1) = (sweepL l t).2 := by
  have hA := swp_of t l.W [] l.H (by simpa using hu)
  rw [show wsL [] t = [] from rfl] at hA
  have e1 : S.h t = hsL l.H t := by rw [hr.h]
  have e2 : S.v t = wsL l.W t := by rw [hr.v]
  obtain ⟨p, hp⟩ : ∃ p, p = swp (S.h t) [] (S.v t) := ⟨_, rfl⟩
  obtain ⟨q, hq⟩ : ∃ q, q = sweepGo t [] l.H l.W := ⟨_, rfl⟩
  rw [← e1, ← e2, ← hp, ← hq] at hA
  obtain ⟨s1, s2, s3, s4, s5, s6, _⟩ := hs
  rw [← hp] at s2 s3 s4 s5 s6 ⊢
  have el : sweepL l t = (⟨q.1, q.2.1⟩, q.2.2) := by unfold sweepL; rw [hq]
  rw [el]
  refine ⟨⟨?_, ?_, ?_, ?_, fun t' => ?_, fun o ho => ?_, fun o ho => ?_⟩, hA.out.symm⟩
  · rw [s2]
    funext t'
    by_cases e : t' = t
    · rw [e, upd_same]; exact hA.ht.symm
    · rw [upd_other _ _ e, hr.h]; exact (hA.ho t' e).symm
  · rw [s3]
    funext t'
    by_cases e : t' = t
    · rw [e, upd_same]; exact hA.wt.symm
    · rw [upd_other _ _ e, hr.v]
      have := hA.wo t' e
      rw [List.nil_append] at this
      exact this.symm
  · rw [s4, hr.tg, e1]
    exact hA.tg.symm
  · rw [s5, hr.wn]
    funext x
    unfold wnS wnL
    show _ = (waitL q.2.1 x).map _
    rw [hA.wn x, List.nil_append]
    split <;> rfl
  · show _ = q.1.any _
    rw [any_th, s6]
    by_cases e : t' = t
    · subst e
      rw [hA.ht]
      by_cases hn : p.1 = []
      · rw [if_pos hn, upd_same, hn]; rfl
      · rw [if_neg hn, hls]
        cases hp1 : p.1 with
        | nil => exact absurd hp1 hn
        | cons a r => rfl
    · rw [hA.ho t' e, ← any_th, ← hr.ls t']
      split
      · rw [upd_other _ _ e]
      · rfl
  · rcases hA.mh o ho with h1 | h1
    · exact hr.kh o h1
    · exact hr.kw o h1
  · have h1 := hA.mw o ho
    rw [List.nil_append] at h1
    exact hr.kw o h1
theorem wsL_cut {x : Int} : ∀ {W : List Od}, (W.Pairwise fun a b => a.x ≠ b.x) → ∀ t, wsL (cutW x W) t = (wsL W t).filter fun h => !ofP x h
  | [], _, t => rfl
  | o :: r, hu, t => by
    have hu' := List.pairwise_cons.1 hu
    rw [cutW, wsL_cons]
    by_cases e : o.x = x
    · rw [if_pos e]
      have h2 : (wsL r t).filter (fun h => !ofP x h) = wsL r t := by
        rw [List.filter_eq_self]
        intro h hh
        obtain ⟨a, ha, _, rfl⟩ := mem_wsL.1 hh
        have := hu'.1 a ha
        simp only [ofP, Bool.not_eq_true', decide_eq_false_iff_not]
        intro e2; exact this (e.trans e2.symm)
      by_cases h1 : o.th = t
      · rw [if_pos h1, List.filter_cons, if_neg (by simp [ofP, e]), h2]
      · rw [if_neg h1, h2]
    · rw [if_neg e, wsL_cons, wsL_cut hu'.2 t]
      by_cases h1 : o.th = t
      · rw [if_pos h1, if_pos h1, List.filter_cons, if_pos (by simp [ofP, e])]
      · rw [if_neg h1, if_neg h1]
theorem wnL_cut {x : Int} {W : List Od} (hu : W.Pairwise fun a b => a.x ≠ b.x) : wnL (cutW x W) = upd (wnL W) x none := by
  funext y
  induction W with
  | nil => by_cases e : y = x <;> simp [cutW, wnL, waitL, upd, e]
  | cons o r ih =>
    have hu' := List.pairwise_cons.1 hu
    rw [cutW]
    by_cases e : o.x = x
    · rw [if_pos e]
      by_cases ey : y = x
      · rw [ey, upd_same]
        unfold wnL
        rw [waitL_none.2 fun a ha hax => hu'.1 a ha (e.trans hax.symm)]
        rfl
      · rw [upd_other _ _ ey]
        unfold wnL
        rw [waitL_cons, if_neg (fun h => ey (h.symm.trans e))]
    · rw [if_neg e]
      have ih := ih hu'.2
      by_cases ey : y = x
      · rw [ey, upd_same] at ih ⊢
        unfold wnL at ih ⊢
        rw [waitL_cons, if_neg e]
        exact ih
      · rw [upd_other _ _ ey] at ih ⊢
        unfold wnL at ih ⊢
        rw [waitL_cons, waitL_cons]
        split
        · rfl
        · exact ih
theorem hsL_cut {x : Int} (H : List Od) (t : Th) : hsL (H.filter fun o => decide (o.x ≠ x)) t = (hsL H t).filter fun h => !ofP x h := by
  induction H with
  | nil => rfl
  | cons o r ih =>
    rw [List.filter_cons, hsL_cons]
    by_cases e : o.x = x
    · rw [if_neg (by simp [e]), ih]
      by_cases h1 : o.th = t
      · rw [if_pos h1, List.filter_cons, if_neg (by simp [ofP, e])]
      · rw [if_neg h1]
    · rw [if_pos (by simp [e]), hsL_cons, ih]
      by_cases h1 : o.th = t
      · rw [if_pos h1, if_pos h1, List.filter_cons, if_pos (by simp [ofP, e])]
      · rw [if_neg h1, if_neg h1]
theorem tgL_cut {x : Int} (H : List Od) : tgL (H.filter fun o => decide (o.x ≠ x)) = upd (tgL H) x [] := by
  funext y
  induction H with
  | nil => by_cases e : y = x <;> simp [tgL, upd, e]
  | cons o r ih =>
    rw [List.filter_cons]
    by_cases e : o.x = x
    · rw [if_neg (by simp [e]), ih]
      by_cases ey : y = x
      · rw [ey, upd_same, upd_same]
      · rw [upd_other _ _ ey, upd_other _ _ ey, tgL_cons, if_neg (fun h => ey (h.symm.trans e))]
    · rw [if_pos (by simp [e]), tgL_cons, ih]
      by_cases ey : y = x
      · rw [ey, upd_same, upd_same, if_neg e]
      · rw [upd_other _ _ ey, upd_other _ _ ey, tgL_cons]
theorem cutW_mem {x : Int} : ∀ {W : List Od} {u : Od}, u ∈ cutW x W → u ∈ W
  | o :: r, u, h => by
    rw [cutW] at h
    split at h
    · exact List.mem_cons_of_mem _ h
    · rcases List.mem_cons.1 h with h1 | h1
      · rw [h1]; exact List.mem_cons_self
      · exact List.mem_cons_of_mem _ (cutW_mem h1)
theorem cutW_pw {x : Int} {W : List Od} (hu : W.Pairwise fun a b => a.x ≠ b.x) : (cutW x W).Pairwise fun a b => a.x ≠ b.x := hu.sublist (cutW_sub x W)
end Go.Proofs.YthbbheegkhlniaaGreat

/-
  The program's locks: a sweep while some things' lines are still to come.
-/
namespace Go.Proofs.YthbbheegkhlniaaGreat
open Go.RowKit Go.Lib Go.Shelf Go.Maps

/-- the memory stands for these locks, but for the lines of R -/
structure RepX (R : List Th) (l : Lk) (S : Sx) : Prop where
  h : ∀ t, t ∉ R → S.h t = hsL l.H t
  v : ∀ t, t ∉ R → S.v t = wsL l.W t
  tg : S.tg = tgL l.H
  wn : S.wn = wnL l.W
  ls : ∀ t, t ∉ R → (S.ls t).isSome = l.H.any fun o => decide (o.th = t)
  kh : ∀ o ∈ l.H, o.th.Key ∧ NumI o.x
  kw : ∀ o ∈ l.W, o.th.Key ∧ NumI o.x
theorem RepX.nil {l : Lk} {S : Sx} (h : RepX [] l S) : Rep l S :=
  ⟨funext fun t => h.h t List.not_mem_nil, funext fun t => h.v t List.not_mem_nil, h.tg, h.wn, fun t => h.ls t List.not_mem_nil, h.kh, h.kw⟩
theorem Rep.x {l : Lk} {S : Sx} (h : Rep l S) (R : List Th) : RepX R l S :=
  ⟨fun t _ => by rw [h.h], fun t _ => by rw [h.v], h.tg, h.wn, fun t _ => h.ls t, h.kh, h.kw⟩
theorem RepX.bnd {B tb N : Nat} {D : Nat → Prop} {w : World} {l : Lk} {S : Sx} {R : List Th} (h : RepX R l S) (hm : Mm B D w tb S) (hz : l.H.length + l.W.length + R.length ≤ N) : Bnd N S := by
  refine ⟨⟨l.H.map (·.th) ++ R, by simp; omega, fun t ht => ?_⟩, ⟨l.H.map (·.x), by simp; omega, fun x hx => ?_⟩, ⟨l.W.map (·.x), by simp; omega, fun x hx => ?_⟩⟩
  · by_cases hR : t ∈ R
    · exact List.mem_append.2 (.inr hR)
    · rw [show (f0 S.ls t).isSome = (S.ls t).isSome by unfold f0; simp, h.ls t hR, List.any_eq_true] at ht
      obtain ⟨o, ho, e⟩ := ht
      exact List.mem_append.2 (.inl (List.mem_map.2 ⟨o, ho, of_decide_eq_true e⟩))
  · have h1 := hm.tn x hx
    rw [h.tg] at h1
    unfold tgL at h1
    cases hf : l.H.filter (fun o => decide (o.x = x)) with
    | nil => rw [hf] at h1; exact absurd rfl h1
    | cons a r =>
      have ha : a ∈ l.H.filter fun o => decide (o.x = x) := by rw [hf]; exact List.mem_cons_self
      rw [List.mem_filter] at ha
      exact List.mem_map.2 ⟨a, ha.1, of_decide_eq_true ha.2⟩
  · rw [show (f2 S.wn x).isSome = (S.wn x).isSome by unfold f2; simp, h.wn] at hx
    unfold wnL at hx
    cases hw : waitL l.W x with
    | none => rw [hw] at hx; cases hx
    | some o =>
      obtain ⟨h1, h2⟩ := mem_waitL hw
      exact List.mem_map.2 ⟨o, h1, h2⟩
/-- what a sweep leaves of the others -/
structure Elsewhere (l l' : Lk) (S S' : Sx) (t : Th) : Prop where
  lh : ∀ t', t' ≠ t → hsL l'.H t' = hsL l.H t'
  lw : ∀ t', t' ≠ t → wsL l'.W t' = wsL l.W t'
  h : ∀ t', t' ≠ t → S'.h t' = S.h t'
  v : ∀ t', t' ≠ t → S'.v t' = S.v t'
  ls : ∀ t', t' ≠ t → S'.ls t' = S.ls t'
theorem RepX.sweep {B tb b N : Nat} {D : Nat → Prop} {w w' : World} {l : Lk} {S S' : Sx} {t : Th} {R : List Th} (hr : RepX (t :: R) l S) (e1 : S.h t = hsL l.H t) (e2 : S.v t = wsL l.W t) (hu : l.W.Pairwise fun a b => a.x ≠ b.x) (hls : S.ls t = some b) (hs : SpTo B tb N D w w' S S' t) : RepX R (sweepL l t).1 S' ∧ ((swp (S.h t) [] (S.v t)).2.2.map fun o => o.1) = (sweepL l t).2 ∧ Elsewhere l (sweepL l t).1 S S' t := by
  have hA := swp_of t l.W [] l.H (by simpa using hu)
  rw [show wsL [] t = [] from rfl] at hA
  have hn' : ∀ t', t' ∉ R → t' ≠ t → t' ∉ t :: R := fun t' h1 h2 h3 => (List.mem_cons.1 h3).elim h2 h1
  obtain ⟨p, hp⟩ : ∃ p, p = swp (S.h t) [] (S.v t) := ⟨_, rfl⟩
  obtain ⟨q, hq⟩ : ∃ q, q = sweepGo t [] l.H l.W := ⟨_, rfl⟩
  rw [← e1, ← e2, ← hp, ← hq] at hA
  obtain ⟨s1, s2, s3, s4, s5, s6, _⟩ := hs
  rw [← hp] at s2 s3 s4 s5 s6 ⊢
  have el : sweepL l t = (⟨q.1, q.2.1⟩, q.2.2) := by unfold sweepL; rw [hq]
  rw [el]
  have ewo : ∀ t', t' ≠ t → wsL q.2.1 t' = wsL l.W t' := fun t' e => by
    have := hA.wo t' e
    rw [List.nil_append] at this
    exact this
  refine ⟨⟨fun t' ht' => ?_, fun t' ht' => ?_, ?_, ?_, fun t' ht' => ?_, fun o ho => ?_, fun o ho => ?_⟩, hA.out.symm, ⟨hA.ho, ewo, fun t' e => by rw [s2, upd_other _ _ e], fun t' e => by rw [s3, upd_other _ _ e], fun t' e => ?_⟩⟩
  · rw [s2]
    by_cases e : t' = t
    · rw [e, upd_same]; exact hA.ht.symm
    · rw [upd_other _ _ e, hr.h t' (hn' t' ht' e)]; exact (hA.ho t' e).symm
  · rw [s3]
    by_cases e : t' = t
    · rw [e, upd_same]; exact hA.wt.symm
    · rw [upd_other _ _ e, hr.v t' (hn' t' ht' e)]
      exact (ewo t' e).symm
  · rw [s4, hr.tg, e1]
    exact hA.tg.symm
  · rw [s5, hr.wn]
    funext x
    unfold wnS wnL
    show _ = (waitL q.2.1 x).map _
    rw [hA.wn x, List.nil_append]
    split <;> rfl
  · show _ = q.1.any _
    rw [any_th, s6]
    by_cases e : t' = t
    · subst e
      rw [hA.ht]
      by_cases hn : p.1 = []
      · rw [if_pos hn, upd_same, hn]; rfl
      · rw [if_neg hn, hls]
        cases hp1 : p.1 with
        | nil => exact absurd hp1 hn
        | cons a r => rfl
    · rw [hA.ho t' e, ← any_th, ← hr.ls t' (hn' t' ht' e)]
      split
      · rw [upd_other _ _ e]
      · rfl
  · rcases hA.mh o ho with h1 | h1
    · exact hr.kh o h1
    · exact hr.kw o h1
  · have h1 := hA.mw o ho
    rw [List.nil_append] at h1
    exact hr.kw o h1
  · rw [s6]
    split
    · rw [upd_other _ _ e]
    · rfl
theorem sweepX_any {B tb b : Nat} {D : Nat → Prop} {w : World} {l : Lk} {S : Sx} {t : Th} {R : List Th} (h : Mm B D w tb S) (hB : B ≤ w.heap.size) (hr : RepX (t :: R) l S) (e1 : S.h t = hsL l.H t) (e2 : S.v t = wsL l.W t) (hu : l.W.Pairwise fun a b => a.x ≠ b.x) (hls : S.ls t = some b) (hk : t.Key) (hz : l.H.length + l.W.length ≤ 2000) (hR : R.length ≤ 2000) :
    Calls Tryz.prog 44 #[pt tb, pt b] w fun r w' => ∃ v, r = .returned v ∧ IntsRet w (sweepL l t).2 w' v ∧ ∃ S', MTo B tb D w w' S' ∧ RepX R (sweepL l t).1 S' ∧ Elsewhere l (sweepL l t).1 S S' t := by
  have l1 := hsL_len l.H t
  have l2 := wsL_len l.W t
  refine (sweep_any (N := 5000) (T0 := 2000) h hB hls hk (by rw [e1]; omega) (by rw [e2]; omega) (fun x => by rw [hr.tg]; have := tgL_len l.H x; omega) (by omega) (fun o ho => by
    rw [e2] at ho
    obtain ⟨a, ha, _, rfl⟩ := mem_wsL.1 ho
    exact (hr.kw a ha).2) (hr.bnd h (by simp; omega)) (by omega)).mono ?_
  rintro r w' ⟨v, rfl, hi, S', hs⟩
  obtain ⟨q1, q2, q3⟩ := hr.sweep e1 e2 hu hls hs
  rw [q2] at hi
  exact ⟨v, rfl, hi, S', hs.mt, q1, q3⟩
theorem MTo.from_ {B tb : Nat} {D : Nat → Prop} {w wr w' : World} {S : Sx} (hc : Chg D w wr) (hB : B ≤ w.heap.size) (hD : ∀ q, D q → B ≤ q ∧ q < w.heap.size) (k : MTo B tb D wr w' S) : MTo B tb D w w' S := by
  have s := hc.size
  have s2 := k.2.size
  refine ⟨k.1.more (fun q hq => hq.elim .inl fun h1 => .inr ⟨by omega, h1.2⟩) fun q hq => ?_, hc.trans k.2⟩
  rcases hq with h1 | h1
  · have := hD q h1; omega
  · omega
theorem IntsRet.low_ {w w0 w' : World} {xs : List Int} {v : Value} (h : IntsRet w xs w' v) (hs : w0.heap.size ≤ w.heap.size) : IntsRet w0 xs w' v := by
  obtain ⟨A, n, c, h1, h2, h3⟩ := h
  exact ⟨A, n, c, h1, h2, own_to_lt h3 hs⟩
/-- no other thing's waiters are cut -/
theorem wsL_cut_ne {x : Int} {o : Od} {W : List Od} (hu : W.Pairwise fun a b => a.x ≠ b.x) (hw : waitL W x = some o) {t : Th} (ht : t ≠ o.th) : wsL (cutW x W) t = wsL W t := by
  rw [wsL_cut hu, List.filter_eq_self]
  intro h hh
  obtain ⟨a, ha, e, rfl⟩ := mem_wsL.1 hh
  obtain ⟨ho, hox⟩ := mem_waitL hw
  simp only [ofP, Bool.not_eq_true', decide_eq_false_iff_not]
  intro e2
  have e2 : a.x = x := e2
  have : a = o := by
    obtain ⟨p, q, hpq⟩ := List.append_of_mem ho
    rw [hpq] at hu ha
    have h1 := List.pairwise_append.1 hu
    rcases List.mem_append.1 ha with h2 | h2
    · exact absurd (e2.trans hox.symm) (h1.2.2 a h2 o List.mem_cons_self)
    · rcases List.mem_cons.1 h2 with h3 | h3
      · exact h3
      · exact absurd (hox.trans e2.symm) ((List.pairwise_cons.1 h1.2.1).1 a h3)
  rw [this] at e
  exact ht e.symm
/-- one's waiter is cut -/
theorem Rep.cut {l : Lk} {S S' : Sx} {x : Int} {o : Od} (hr : Rep l S) (hu : l.W.Pairwise fun a b => a.x ≠ b.x) (hw : waitL l.W x = some o) (h1 : S'.h = S.h) (h2 : S'.v = upd S.v o.th ((S.v o.th).filter fun h => !ofP x h)) (h3 : S'.tg = S.tg) (h4 : S'.wn = upd S.wn x none) (h5 : S'.ls = S.ls) : Rep ⟨l.H, cutW x l.W⟩ S' := by
  refine ⟨by rw [h1]; exact hr.h, ?_, by rw [h3]; exact hr.tg, ?_, fun t => by rw [h5]; exact hr.ls t, hr.kh, fun u hu' => hr.kw u (cutW_mem hu')⟩
  · rw [h2, hr.v]
    funext t
    show _ = wsL (cutW x l.W) t
    by_cases e : t = o.th
    · rw [e, upd_same, wsL_cut hu]
    · rw [upd_other _ _ e, wsL_cut_ne hu hw e]
  · rw [h4, hr.wn]
    exact (wnL_cut hu).symm
theorem wnL_some {W : List Od} {x : Int} {o : Od} (h : waitL W x = some o) : wnL W x = some (o.th, o.m) := by unfold wnL; rw [h]; rfl
theorem wnL_none {W : List Od} {x : Int} (h : waitL W x = none) : wnL W x = none := by unfold wnL; rw [h]; rfl
/-- a line is there where somebody waits -/
theorem Rep.line_ {l : Lk} {S : Sx} (hr : Rep l S) (hok : LkOk l) {o : Od} (ho : o ∈ l.W) : ∃ b, S.ls o.th = some b := by
  cases hb : S.ls o.th with
  | some b => exact ⟨b, rfl⟩
  | none =>
    have h1 := hok.held (hr.none_ hb)
    have h2 : (o.x, o.m, true) ∈ wsL l.W o.th := mem_wsL.2 ⟨o, ho, rfl, rfl⟩
    rw [h1] at h2
    cases h2
end Go.Proofs.YthbbheegkhlniaaGreat

/-
  The program's locks: Ask as mathematics.
-/
namespace Go.Proofs.YthbbheegkhlniaaGreat
open Go.RowKit Go.Lib Go.Shelf Go.Maps

/-- how many waiters at the row's beginning are holders -/
def rsN (hs ws : List Hd) : Nat := (ws.takeWhile fun h => hs.any (ofP h.1)).length
theorem rsN_le (hs ws : List Hd) : rsN hs ws ≤ ws.length := (List.takeWhile_sublist _).length_le
theorem rsN_stop {hs ws : List Hd} {k : Nat} (hk : k ≤ ws.length) (ha : ∀ j (hj : j < ws.length), j < k → hs.any (ofP ws[j].1) = true) (hs' : ∀ h : k < ws.length, hs.any (ofP ws[k].1) = false) : rsN hs ws = k := by
  induction ws generalizing k with
  | nil => simp at hk; subst hk; rfl
  | cons a r ih =>
    unfold rsN
    rw [List.takeWhile_cons]
    cases k with
    | zero =>
      have := hs' (by simp)
      rw [List.getElem_cons_zero] at this
      rw [if_neg (by simpa using this)]
      rfl
    | succ k =>
      have h0 := ha 0 (by simp) (by omega)
      rw [List.getElem_cons_zero] at h0
      rw [if_pos h0, List.length_cons]
      congr 1
      exact ih (by simpa using hk) (fun j hj hjk => by have := ha (j + 1) (by simpa using hj) (by omega); simpa using this) fun h => by have := hs' (by simpa using h); simpa using this
/-- is one a holder -/
theorem any_mode {H : List Od} (hg : ∀ o ∈ H, rgB o.m = true ∧ fitsB o.th = true) (x : Int) (t : Th) : (hsL H t).any (ofP x) = decide (modeL H x t ≠ 0) := by
  cases ha : (hsL H t).any (ofP x) with
  | true =>
    obtain ⟨h, hh, e⟩ := List.any_eq_true.1 ha
    obtain ⟨o, ho, e1, rfl⟩ := mem_hsL.1 hh
    have e2 : o.x = x := of_decide_eq_true e
    have hne : modeL H x t ≠ 0 := fun h0 => modeL_none hg h0 o ho ⟨e1, e2⟩
    rw [decide_eq_true hne]
  | false =>
    have hi : idxL (ofP x) (hsL H t) = none := by
      have := idxL_any (p := ofP x) (l := hsL H t)
      rw [ha] at this
      cases hc : idxL (ofP x) (hsL H t) with
      | none => rfl
      | some i => rw [hc] at this; cases this
    rw [mdI_none hi]
    simp
theorem placeGo_ws {H : List Od} (hg : ∀ o ∈ H, rgB o.m = true ∧ fitsB o.th = true) (t : Th) : ∀ (W : List Od) (i p : Nat), (rsN (hsL H t) (wsL W t) = 0 ∧ placeGo H t i p W = p) ∨ ∃ j, placeGo H t i p W = i + j ∧ wsL (W.take j) t = (wsL W t).take (rsN (hsL H t) (wsL W t)) ∧ j ≤ W.length
  | [], i, p => .inl ⟨rfl, rfl⟩
  | o :: r, i, p => by
    rw [placeGo, wsL_cons]
    by_cases ht : o.th = t
    · rw [if_neg (show ¬ (o.th ≠ t) from fun h => h ht), if_pos ht]
      have ha := any_mode hg o.x t
      unfold rsN
      rw [List.takeWhile_cons]
      by_cases h0 : modeL H o.x t = 0
      · rw [if_pos h0]
        refine .inl ⟨?_, rfl⟩
        rw [if_neg (by rw [ha]; simp [h0])]
        rfl
      · rw [if_neg h0, if_pos (by rw [ha]; simp [h0])]
        refine .inr ?_
        rcases placeGo_ws hg t r (i + 1) (i + 1) with ⟨h1, h2⟩ | ⟨j, h1, h2, h3⟩
        · unfold rsN at h1
          refine ⟨1, h2, ?_, by simp⟩
          rw [List.length_cons, h1, List.take_succ_cons, List.take_zero, wsL_cons, if_pos ht]
          simp [wsL]
        · unfold rsN at h2
          refine ⟨j + 1, by rw [h1]; omega, ?_, by simpa using h3⟩
          rw [List.length_cons, List.take_succ_cons, List.take_succ_cons, wsL_cons, if_pos ht, h2]
    · rw [if_pos (show o.th ≠ t from ht), if_neg ht]
      rcases placeGo_ws hg t r (i + 1) p with ⟨h1, h2⟩ | ⟨j, h1, h2, h3⟩
      · exact .inl ⟨h1, h2⟩
      · refine .inr ⟨j + 1, by rw [h1]; omega, ?_, by simpa using h3⟩
        rw [List.take_succ_cons, wsL_cons, if_neg ht, h2]
/-- where one's turn is: in all, and in the thing's row -/
structure PlaceOf (W : List Od) (t : Th) (p k : Nat) : Prop where
  tk : wsL (W.take p) t = (wsL W t).take k
  dr : wsL (W.drop p) t = (wsL W t).drop k
  kl : k ≤ (wsL W t).length
theorem PlaceOf.of {W : List Od} {t : Th} {p k : Nat} (h : wsL (W.take p) t = (wsL W t).take k) (hk : k ≤ (wsL W t).length) : PlaceOf W t p k := by
  refine ⟨h, ?_, hk⟩
  have h1 : wsL W t = wsL (W.take p) t ++ wsL (W.drop p) t := by rw [← wsL_append, List.take_append_drop]
  rw [h] at h1
  have h2 : wsL W t = (wsL W t).take k ++ (wsL W t).drop k := (List.take_append_drop _ _).symm
  exact (List.append_cancel_left (h1.symm.trans h2))
theorem placeOf_end (W : List Od) (t : Th) : PlaceOf W t W.length (wsL W t).length := PlaceOf.of (by rw [List.take_length, List.take_length]) (Nat.le_refl _)
theorem placeOf_rs {H : List Od} (hg : ∀ o ∈ H, rgB o.m = true ∧ fitsB o.th = true) (W : List Od) (t : Th) : PlaceOf W t (placeGo H t 0 0 W) (rsN (hsL H t) (wsL W t)) := by
  refine PlaceOf.of ?_ (rsN_le _ _)
  rcases placeGo_ws hg t W 0 0 with ⟨h1, h2⟩ | ⟨j, h1, h2, _⟩
  · rw [h1, h2]; rfl
  · rw [h1, Nat.zero_add, h2]
theorem PlaceOf.free {H W : List Od} {o : Od} {p k : Nat} (h : PlaceOf W o.th p k) (hw : waitL W o.x = none) (b : Bool) : freeL (o.x, o.m, b) (hsL H o.th) ((wsL W o.th).take k) = canL H (W.take p) o := by
  rw [← h.tk]
  exact freeL_canL fun a ha => waitL_none.1 hw a (List.mem_of_mem_take ha)
theorem PlaceOf.ins {W : List Od} {o : Od} {p k : Nat} (h : PlaceOf W o.th p k) : wsL (insL p o W) o.th = (wsL W o.th).take k ++ [(o.x, o.m, true)] ++ (wsL W o.th).drop k := by
  unfold insL
  rw [wsL_append, wsL_cons, if_pos rfl, h.tk, h.dr]
  simp
theorem wsL_ins_ne {W : List Od} {o : Od} {p : Nat} {t : Th} (ht : t ≠ o.th) : wsL (insL p o W) t = wsL W t := by
  unfold insL
  rw [wsL_append, wsL_cons, if_neg (fun e => ht e.symm), ← wsL_append, List.take_append_drop]
theorem wnL_ins {W : List Od} {o : Od} {p : Nat} (hw : waitL W o.x = none) : wnL (insL p o W) = upd (wnL W) o.x (some (o.th, o.m)) := by
  funext y
  have h1 : waitL (W.take p) y = none ∨ y ≠ o.x := by
    by_cases e : y = o.x
    · exact .inl (waitL_none.2 fun a ha => by rw [e]; exact waitL_none.1 hw a (List.mem_of_mem_take ha))
    · exact .inr e
  unfold insL wnL
  rw [waitL_append, waitL_cons]
  by_cases e : y = o.x
  · rw [e, upd_same, if_pos rfl, waitL_none.2 fun a ha => waitL_none.1 hw a (List.mem_of_mem_take ha)]
    rfl
  · rw [upd_other _ _ e, if_neg (fun h => e h.symm)]
    have h2 : waitL W y = (waitL (W.take p) y).or (waitL (W.drop p) y) := by rw [← waitL_append, List.take_append_drop]
    rw [h2]
/-- a line is there: nothing else is told -/
theorem Rep.more {l : Lk} {S S' : Sx} {t : Th} {b : Nat} (hr : Rep l S) (ha : Alike S S') (hl : ∀ t', t' ≠ t → S'.ls t' = S.ls t') (hb : S'.ls t = some b) (hh : hsL l.H t ≠ []) : Rep l S' := by
  refine ⟨by rw [ha.h]; exact hr.h, by rw [ha.v]; exact hr.v, by rw [ha.tg]; exact hr.tg, by rw [ha.wn]; exact hr.wn, fun t' => ?_, hr.kh, hr.kw⟩
  by_cases e : t' = t
  · rw [e, hb, any_th]
    cases h : hsL l.H t with
    | nil => exact absurd h hh
    | cons a r => rfl
  · rw [hl t' e]; exact hr.ls t'
/-- it has the lock -/
theorem Rep.give {B tb N : Nat} {D : Nat → Prop} {w w' : World} {l : Lk} {S S1 S' : Sx} {o : Od} {b : Nat} (hr : Rep l S) (ha : Alike S S1) (hl : ∀ t', t' ≠ o.th → S1.ls t' = S.ls t') (hb : S1.ls o.th = some b) (hk : o.th.Key) (hx : NumI o.x) (hg : GvTo B tb N D w w' S1 S' o.th o.x o.m) : Rep ⟨giveL o l.H, l.W⟩ S' := by
  have e1 : S1.h o.th = hsL l.H o.th := by rw [ha.h, hr.h]
  refine ⟨?_, by rw [hg.v, ha.v]; exact hr.v, ?_, by rw [hg.wn, ha.wn]; exact hr.wn, fun t => ?_, fun u hu => ?_, hr.kw⟩
  · rw [hg.h, ha.h, hr.h]
    funext t
    show _ = hsL (giveL o l.H) t
    by_cases e : t = o.th
    · rw [e, upd_same, hsL_give]
    · rw [upd_other _ _ e, hsL_give_ne o e]
  · rw [hg.tg, e1, ha.tg, hr.tg]
    exact (tgL_give o l.H).symm
  · show _ = (giveL o l.H).any _
    rw [hg.ls, any_th]
    by_cases e : t = o.th
    · rw [e, hb, hsL_give]
      cases h : giveH o.x o.m (hsL l.H o.th) with
      | nil => exact absurd h (giveH_ne _ _ _)
      | cons a r => rfl
    · rw [hl t e, hsL_give_ne o e, ← any_th]
      exact hr.ls t
  · rcases mem_give hu with h1 | h1
    · rw [h1]; exact ⟨hk, hx⟩
    · exact hr.kh u h1
/-- it waits -/
theorem Rep.wait {l : Lk} {S S' : Sx} {o : Od} {p k b : Nat} (hr : Rep l S) (hp : PlaceOf l.W o.th p k) (hw : waitL l.W o.x = none) (hk : o.th.Key) (hx : NumI o.x) (hh : hsL l.H o.th ≠ []) (h1 : S'.h = S.h) (h2 : S'.v = upd S.v o.th ((S.v o.th).take k ++ [(o.x, o.m, true)] ++ (S.v o.th).drop k)) (h3 : S'.tg = S.tg) (h4 : S'.wn = upd S.wn o.x (some (o.th, o.m))) (hl : ∀ t', t' ≠ o.th → S'.ls t' = S.ls t') (hb : S'.ls o.th = some b) : Rep ⟨l.H, insL p o l.W⟩ S' := by
  refine ⟨by rw [h1]; exact hr.h, ?_, by rw [h3]; exact hr.tg, ?_, fun t => ?_, hr.kh, fun u hu => ?_⟩
  · rw [h2, hr.v]
    funext t
    show _ = wsL (insL p o l.W) t
    by_cases e : t = o.th
    · rw [e, upd_same, hp.ins]
    · rw [upd_other _ _ e, wsL_ins_ne e]
  · rw [h4, hr.wn]
    exact (wnL_ins hw).symm
  · show _ = l.H.any _
    by_cases e : t = o.th
    · rw [e, hb, any_th]
      cases h : hsL l.H o.th with
      | nil => exact absurd h hh
      | cons a r => rfl
    · rw [hl t e]; exact hr.ls t
  · rcases insL_mem.1 hu with h9 | h9
    · rw [h9]; exact ⟨hk, hx⟩
    · exact hr.kw u h9
end Go.Proofs.YthbbheegkhlniaaGreat

/-
  The program's locks: raisers.
-/
namespace Go.Proofs.YthbbheegkhlniaaGreat
open Go.RowKit Go.Lib Go.Shelf Go.Maps

set_option maxRecDepth 100000 in
set_option maxHeartbeats 12800000 in
theorem raisers_any {w : World} {b : Nat} {A A' : Option Addr} {c c' : Nat} {hs ws : List Hd} (h3 : LnR w b 3 A c hs) (h4 : LnR w b 4 A' c' ws) (hl : hs.length ≤ 1000000) (hl' : ws.length ≤ 1000000) :
    Calls Tryz.prog 32 #[pt b] w fun e w' => e = .returned (.int .i64 (rsN hs ws)) ∧ Below w.heap.size w w' := by
  obtain ⟨n, hn⟩ : ∃ n, n = ws.length := ⟨_, rfl⟩
  have hn0 : (0 : Int) ≤ (n : Int) := Int.natCast_nonneg _
  have hn9 : n ≤ 1000000 := by omega
  have H := Lib.hid (And.intro h3 (And.intro h4 (And.intro hl hn)))
  have HB := Lib.hid (Below.refl w.heap.size w)
  clear h3 h4 hl hl' hn
  go_enter Tryz.func32, Tryz.ntmps32
  go_wp2_with fail
  go_loopw [3] (fun iv wr => ∃ k : Nat, k ≤ n ∧ iv = .int .i64 k ∧ Below w.heap.size w wr ∧ ∀ j (hj : j < ws.length), j < k → hs.any (ofP ws[j].1) = true) (fun iv _ => n - (intOf iv).toNat)
  case atStart => exact ⟨0, Nat.zero_le _, rfl, HB.out, fun j _ hj => absurd hj (by omega)⟩
  case round =>
    obtain ⟨k, hk, rfl, hb, hall⟩ := hrel
    have hk0 : (0 : Int) ≤ (k : Int) := Int.natCast_nonneg _
    have hL3 := H.out.1.below hb
    have hL4 := H.out.2.1.below hb
    have e4 := hL4.cell
    rw [← H.out.2.2.2] at e4
    have HR := Lib.hid (And.intro hb (And.intro hall (And.intro hL3 hL4)))
    clear HB hb hall hL3
    by_cases hlt : k < n
    · have hlt1 : (k : Int) < (n : Int) := by omega
      have hkl : k < ws.length := by rw [← H.out.2.2.2]; exact hlt
      obtain ⟨ad, rfl, _, a0, _, _⟩ := hdI_at hL4.row hkl
      obtain ⟨y, hy⟩ : ∃ y, y = ws[k] := ⟨_, rfl⟩
      rw [← hy] at a0
      have HY := Lib.hid hy
      clear hy hL4
      have hc := holder_any HR.out.2.2.1 H.out.2.2.1 y.1
      obtain ⟨r, hr⟩ : ∃ r, r = idxI (idxL (ofP y.1) hs) := ⟨_, rfl⟩
      rw [← hr] at hc
      have hany : hs.any (ofP y.1) = decide (0 ≤ r) := by
        rw [hr, ← idxL_any]
        cases idxL (ofP y.1) hs with
        | none => rfl
        | some i => simp [idxI]
      have HC := Lib.hid (And.intro hc hany)
      clear hc hr hany
      by_cases hr0 : 0 ≤ r
      · go_wp2_with (go_at_call 29; refine HC.out.1.mono ?_; rintro e w' ⟨rfl, hb'⟩; have HB2 := Lib.hid (HR.out.1.trans (hb'.mono HR.out.1.size)); clear hb')
        go_roundw
        case rel =>
          refine ⟨k + 1, by omega, by go_num, HB2.out, fun j hj hjk => ?_⟩
          by_cases e : j = k
          · subst e; rw [← HY.out, HC.out.2]; exact decide_eq_true hr0
          · exact HR.out.2.1 j hj (by omega)
        case measure => simp [intOf]; omega
      · go_wp2_with (go_at_call 29; refine HC.out.1.mono ?_; rintro e w' ⟨rfl, hb'⟩; have HB2 := Lib.hid (HR.out.1.trans (hb'.mono HR.out.1.size)); clear hb')
        go_ret
        refine ⟨?_, HB2.out⟩
        rw [rsN_stop (by rw [← H.out.2.2.2]; exact hk) HR.out.2.1 fun _ => by rw [← HY.out, HC.out.2]; exact decide_eq_false (by omega)]
        rfl
    · have hlt1 : ¬ (k : Int) < (n : Int) := by omega
      clear hL4
      go_wp2_with fail
      go_ret
      refine ⟨?_, HR.out.1⟩
      rw [rsN_stop (by rw [← H.out.2.2.2]; exact hk) HR.out.2.1 fun h => absurd h (by rw [← H.out.2.2.2]; exact hlt)]
      rfl
end Go.Proofs.YthbbheegkhlniaaGreat
