/-
  Whoever waited first has it first.
-/
import Derived.Test.YthbbheegkhlniaaGreatM01
namespace Go.Proofs.YthbbheegkhlniaaGreat
open Go.RowKit Go.Lib

/-- o1 stands ahead of o2 -/
def Bef (o1 o2 : Od) (L : List Od) : Prop := ∃ a b, L = a ++ b ∧ o1 ∈ a ∧ o2 ∈ b
theorem Bef.l {o1 o2 : Od} {L : List Od} (h : Bef o1 o2 L) : o1 ∈ L := by
  obtain ⟨a, b, rfl, h1, _⟩ := h
  exact List.mem_append_left _ h1
theorem Bef.r {o1 o2 : Od} {L : List Od} (h : Bef o1 o2 L) : o2 ∈ L := by
  obtain ⟨a, b, rfl, _, h2⟩ := h
  exact List.mem_append_right _ h2
/-- without another one they stand as they did -/
theorem Bef.cut {o1 o2 o : Od} {d r : List Od} (h : Bef o1 o2 (d ++ o :: r)) (h1 : o ≠ o1) (h2 : o ≠ o2) : Bef o1 o2 (d ++ r) := by
  obtain ⟨a, b, e, m1, m2⟩ := h
  rcases List.append_eq_append_iff.1 e with ⟨c, e1, e2⟩ | ⟨c, e1, e2⟩
  · -- a = d ++ c, o :: r = c ++ b
    cases c with
    | nil =>
      simp at e1 e2
      subst e1
      rw [← e2] at m2
      rcases List.mem_cons.1 m2 with h9 | m2
      · exact absurd h9.symm h2
      · exact ⟨a, r, rfl, m1, m2⟩
    | cons y c =>
      simp at e2
      obtain ⟨rfl, rfl⟩ := e2
      refine ⟨d ++ c, b, by simp, ?_, m2⟩
      rw [e1] at m1
      rcases List.mem_append.1 m1 with m1 | m1
      · exact List.mem_append_left _ m1
      · rcases List.mem_cons.1 m1 with h9 | m1
        · exact absurd h9.symm h1
        · exact List.mem_append_right _ m1
  · -- d = a ++ c, b = c ++ o :: r
    refine ⟨a, c ++ r, by rw [e1]; simp, m1, ?_⟩
    rw [e2] at m2
    rcases List.mem_append.1 m2 with m2 | m2
    · exact List.mem_append_left _ m2
    · rcases List.mem_cons.1 m2 with h9 | m2
      · exact absurd h9.symm h2
      · exact List.mem_append_right _ m2
/-- o2 has nothing, and o1 is ahead of it, or has it -/
structure Fair (o1 o2 : Od) (H W : List Od) : Prop where
  no : ∀ k ∈ H, k.x ≠ o2.x
  or : Bef o1 o2 W ∨ (o1 ∈ H ∧ o2 ∈ W ∧ ∀ u ∈ W, u.x ≠ o1.x)
theorem uni_eq {W : List Od} (hu : W.Pairwise fun a b => a.x ≠ b.x) {a b : Od} (ha : a ∈ W) (hb : b ∈ W) (e : a.x = b.x) : a = b := by
  have h1 := waitL_self hu ha
  have h2 := waitL_self hu hb
  rw [e, h2] at h1
  exact (Option.some.inj h1).symm
section
variable {o1 o2 : Od} (hth : o1.th = o2.th) (hx : o1.x ≠ o2.x) (hc : cfB o1.m o2.m = true)
include hth hx hc
theorem sweepGo_fair {t : Th} : ∀ {pend done H : List Od}, HOk H → WOk H (done ++ pend) → Fair o1 o2 H (done ++ pend) → Fair o1 o2 (sweepGo t done H pend).1 (sweepGo t done H pend).2.1
  | [], done, H, _, _, f => by rw [List.append_nil] at f; exact f
  | o :: r, done, H, h, w, f => by
    by_cases hcan : o.th = t ∧ canL H done o = true
    · have e : sweepGo t done H (o :: r) = ((sweepGo t done (giveL o H) r).1, (sweepGo t done (giveL o H) r).2.1, o.x :: (sweepGo t done (giveL o H) r).2.2) := by rw [sweepGo, if_pos hcan]
      rw [e]
      have ho : o ∈ done ++ o :: r := by simp
      have hpw := w.uni
      rw [List.pairwise_append] at hpw
      have hn := canL_true hcan.2
      refine sweepGo_fair (h.give (w.good o ho) hcan.2) (w.give h) ?_
      have hne2 : o ≠ o2 := by
        intro e2
        subst e2
        rcases f.or with hb | ⟨hb, _, _⟩
        · -- o1 ist ahead of o = o2
          obtain ⟨a, b, e3, m1, m2⟩ := hb
          have hin : o1 ∈ done := by
            rcases List.append_eq_append_iff.1 e3 with ⟨c, e4, e5⟩ | ⟨c, e4, e5⟩
            · cases c with
              | nil => simp at e4; rw [e4] at m1; exact m1
              | cons y c =>
                exfalso
                simp at e5
                obtain ⟨rfl, e6⟩ := e5
                have : o ∈ r := by rw [e6]; exact List.mem_append_right _ m2
                exact (List.pairwise_cons.1 hpw.2.1).1 o this rfl
            · rw [e4]; exact List.mem_append_left _ m1
          exact hn (.inr ⟨o1, hin, hth, hc⟩)
        · exact hn (.inl ⟨o1, hb, hth, hx, hc⟩)
      have hx2 : o.x ≠ o2.x := by
        intro e2
        have h2 : o2 ∈ done ++ o :: r := f.or.elim (fun hb => hb.r) fun hb => hb.2.1
        exact hne2 (uni_eq w.uni ho h2 e2)
      refine ⟨fun k hk => ?_, ?_⟩
      · rcases (mem_giveL h.apart).1 hk with rfl | hk
        · exact hx2
        · exact f.no k hk.1
      · by_cases h1 : o = o1
        · refine .inr ⟨(mem_giveL h.apart).2 (.inl h1.symm), ?_, fun u hu e2 => ?_⟩
          · have h2 : o2 ∈ done ++ o :: r := f.or.elim (fun hb => hb.r) fun hb => hb.2.1
            rcases List.mem_append.1 h2 with h2 | h2
            · exact List.mem_append_left _ h2
            · rcases List.mem_cons.1 h2 with h9 | h2
              · exact absurd h9.symm hne2
              · exact List.mem_append_right _ h2
          · rw [← h1] at e2
            rcases List.mem_append.1 hu with hu | hu
            · exact hpw.2.2 u hu o List.mem_cons_self e2
            · exact (List.pairwise_cons.1 hpw.2.1).1 u hu e2.symm
        · rcases f.or with hb | ⟨hb1, hb2, hb3⟩
          · exact .inl (hb.cut h1 hne2)
          · refine .inr ⟨(mem_giveL h.apart).2 (.inr ⟨hb1, fun h9 => hb3 o ho h9.2.symm⟩), ?_, fun u hu => hb3 u ?_⟩
            · rcases List.mem_append.1 hb2 with h2 | h2
              · exact List.mem_append_left _ h2
              · rcases List.mem_cons.1 h2 with h9 | h2
                · exact absurd h9.symm hne2
                · exact List.mem_append_right _ h2
            · rcases List.mem_append.1 hu with hu | hu
              · exact List.mem_append_left _ hu
              · exact List.mem_append_right _ (List.mem_cons_of_mem _ hu)
    · have e : sweepGo t done H (o :: r) = sweepGo t (done ++ [o]) H r := by rw [sweepGo, if_neg hcan]
      rw [e]
      exact sweepGo_fair h (by rw [List.append_assoc]; exact w) (by rw [List.append_assoc]; exact f)
theorem sweepAll_fair : ∀ {ts : List Th} {l : Lk}, HOk l.H → WOk l.H l.W → AllB (fun u => u ∈ ts) l.H [] l.W → Fair o1 o2 l.H l.W → Fair o1 o2 (sweepAll ts l).1.H (sweepAll ts l).1.W
  | [], l, _, _, _, f => f
  | t :: r, l, h, w, b, f => by
    have hs := sweepL_ok (t := t) h w b
    have hf := sweepGo_fair hth hx hc (t := t) (pend := l.W) (done := []) h (by simpa using w) (by simpa using f)
    exact sweepAll_fair (ts := r) (l := (sweepL l t).1) hs.h hs.w (hs.b.weak fun u hu => (List.mem_cons.1 hu.1).resolve_left hu.2) hf
theorem Fair.release {l : Lk} (h : LkOk l) (f : Fair o1 o2 l.H l.W) {x : Int} (h1 : x ≠ o1.x) (h2 : x ≠ o2.x) : Fair o1 o2 (releaseL l x).1.H (releaseL l x).1.W := by
  have hH : HOk (l.H.filter fun o => decide (o.x ≠ x)) := ⟨fun o ho => h.h.good o (List.mem_filter.1 ho).1, h.h.apart.sublist List.filter_sublist⟩
  have hW : WOk (l.H.filter fun o => decide (o.x ≠ x)) (cutW x l.W) := by
    have h1 := h.w.sub (cutW_sub x l.W)
    exact ⟨h1.good, h1.uni, fun o ho k hk => h1.more o ho k (List.mem_filter.1 hk).1⟩
  have hkeep : ∀ u : Od, u ∈ l.W → u.x ≠ x → u ∈ cutW x l.W := by
    intro u hu hux
    cases hw : waitL l.W x with
    | none => rw [cutW_none hw]; exact hu
    | some o =>
      obtain ⟨a, b, e1, e2, _⟩ := cutW_split hw
      rw [e2]
      rw [e1] at hu
      rcases List.mem_append.1 hu with hu | hu
      · exact List.mem_append_left _ hu
      · rcases List.mem_cons.1 hu with rfl | hu
        · exact absurd (mem_waitL hw).2 hux
        · exact List.mem_append_right _ hu
  have hfair : Fair o1 o2 (l.H.filter fun o => decide (o.x ≠ x)) (cutW x l.W) := by
    refine ⟨fun k hk => f.no k (List.mem_filter.1 hk).1, ?_⟩
    rcases f.or with hb | ⟨hb1, hb2, hb3⟩
    · refine .inl ?_
      cases hw : waitL l.W x with
      | none => rw [cutW_none hw]; exact hb
      | some o =>
        obtain ⟨a, b, e1, e2, _⟩ := cutW_split hw
        have hox := (mem_waitL hw).2
        rw [e2]
        rw [e1] at hb
        exact hb.cut (fun e => h1 (by rw [← hox, e])) (fun e => h2 (by rw [← hox, e]))
    · exact .inr ⟨List.mem_filter.2 ⟨hb1, decide_eq_true h1.symm⟩, hkeep o2 hb2 h2.symm, fun u hu => hb3 u ((cutW_sub x l.W).mem hu)⟩
  have hb := h.release_b x
  exact sweepAll_fair hth hx hc (l := ⟨l.H.filter fun o => decide (o.x ≠ x), cutW x l.W⟩) hH hW hb hfair
end
/-- when all others are gone, the first one has it -/
theorem Fair.last {o1 o2 : Od} {l : Lk} (h : LkOk l) (f : Fair o1 o2 l.H l.W) (hall : ∀ y, Lives l y → y = o1.x ∨ y = o2.x) : o1 ∈ l.H := by
  rcases f.or with hb | hb
  · exfalso
    obtain ⟨u, v, e, m1, m2⟩ := hb
    obtain ⟨u1, u2, e2⟩ := List.append_of_mem m1
    have e3 : l.W = u1 ++ o1 :: (u2 ++ v) := by rw [e, e2]; simp
    have hblk := h.b u1 o1 (u2 ++ v) e3 (fun h9 => h9)
    rw [List.nil_append] at hblk
    have hpw := h.w.uni
    rw [e3, List.pairwise_append] at hpw
    rcases hblk with ⟨k, hk, _, e4, _⟩ | ⟨k, hk, _, _⟩
    · rcases hall k.x (.inl ⟨k, hk, rfl⟩) with h9 | h9
      · exact e4 h9
      · exact f.no k hk h9
    · have hkw : k ∈ l.W := by rw [e3]; exact List.mem_append_left _ hk
      rcases hall k.x (.inr ⟨k, hkw, rfl⟩) with h9 | h9
      · exact hpw.2.2 k hk o1 List.mem_cons_self h9
      · exact hpw.2.2 k hk o2 (List.mem_cons_of_mem _ (List.mem_append_right _ m2)) h9
  · exact hb.1
theorem dead_mode {l : Lk} {x : Int} (h : ¬ Lives l x) (t : Th) : modeL l.H x t = 0 := by
  unfold modeL
  cases hf : l.H.find? (isOf t x) with
  | none => rfl
  | some o => exact absurd (.inl ⟨o, List.mem_of_find?_eq_some hf, (isOf_iff.1 (List.find?_some hf)).2⟩) h
/-- who has nothing asks -/
theorem ask_fresh {l : Lk} {x : Int} (h : ¬ Lives l x) {t : Th} {m : Int} (hf : fitsB t = true) (hm : rgB m = true) :
    askL l x t m = if canL l.H l.W ⟨t, x, m⟩ then (⟨giveL ⟨t, x, m⟩ l.H, l.W⟩, true, 0) else (⟨l.H, l.W ++ [⟨t, x, m⟩]⟩, false, 0) := by
  unfold askL
  rw [if_neg (by rw [hf, hm]; simp), dead_waits h, if_neg (by simp)]
  simp only [dead_mode h t]
  rw [if_neg (by simp)]
  simp only [if_true, List.take_length, insL, List.drop_length]
theorem ask_ok {l : Lk} {x : Int} {t : Th} {m : Int} (h : (askL l x t m).2.2 = 0) : fitsB t = true ∧ rgB m = true := by
  unfold askL at h
  split at h
  · exact absurd h (show ¬ (10 : Int) = 0 by decide)
  · rename_i hr
    constructor
    · cases hb : fitsB t with
      | true => rfl
      | false => exact absurd (.inl hb) hr
    · cases hb : rgB m with
      | true => rfl
      | false => exact absurd (.inr hb) hr
/-- two new ones whose modes conflict: the second one waits; and if the first one does, it stands ahead -/
theorem fair_asks {l : Lk} (h : LkOk l) {x1 x2 : Int} (hx : x1 ≠ x2) {t : Th} {m1 m2 : Int} (hc : cfB m1 m2 = true) (h1 : ¬ Lives l x1) (h2 : ¬ Lives l x2)
    (e1 : (askL l x1 t m1).2.2 = 0) (e2 : (askL (askL l x1 t m1).1 x2 t m2).2.2 = 0) :
    (askL (askL l x1 t m1).1 x2 t m2).2.1 = false ∧ ((askL l x1 t m1).2.1 = false → Fair ⟨t, x1, m1⟩ ⟨t, x2, m2⟩ (askL (askL l x1 t m1).1 x2 t m2).1.H (askL (askL l x1 t m1).1 x2 t m2).1.W) := by
  obtain ⟨g1, g2⟩ := ask_ok e1
  obtain ⟨_, g3⟩ := ask_ok e2
  have hl2 : ¬ Lives (askL l x1 t m1).1 x2 := fun hh => (ask_lives h hh).elim h2 fun e => hx e.symm
  have f2 := ask_fresh hl2 g1 g3
  have f1 := ask_fresh h1 g1 g2
  cases hc1 : canL l.H l.W ⟨t, x1, m1⟩ with
  | true =>
    rw [if_pos hc1] at f1
    have hno : canL (askL l x1 t m1).1.H (askL l x1 t m1).1.W ⟨t, x2, m2⟩ = false := by
      rw [f1]
      exact canL_false.2 (.inl ⟨⟨t, x1, m1⟩, (mem_giveL h.h.apart).2 (.inl rfl), rfl, hx, hc⟩)
    rw [hno, if_neg (by decide)] at f2
    rw [f2]
    refine ⟨rfl, fun h9 => ?_⟩
    rw [f1] at h9
    cases h9
  | false =>
    rw [hc1, if_neg (by decide)] at f1
    have hno : canL (askL l x1 t m1).1.H (askL l x1 t m1).1.W ⟨t, x2, m2⟩ = false := by
      rw [f1]
      exact canL_false.2 (.inr ⟨⟨t, x1, m1⟩, by simp, rfl, hc⟩)
    rw [hno, if_neg (by decide)] at f2
    rw [f2]
    refine ⟨rfl, fun _ => ⟨fun k hk e => ?_, .inl ?_⟩⟩
    · exact hl2 (.inl ⟨k, hk, e⟩)
    · rw [f1]
      exact ⟨l.W ++ [⟨t, x1, m1⟩], [⟨t, x2, m2⟩], rfl, by simp, by simp⟩
end Go.Proofs.YthbbheegkhlniaaGreat

/-
  Who asks again for less; who is alone; how many are there at all.
-/
namespace Go.Proofs.YthbbheegkhlniaaGreat
open Go.RowKit Go.Lib

theorem ask_more {l : Lk} (h : LkOk l) {x : Int} {t : Th} {m : Int} (hm : ¬ modeL l.H x t = 0) (hw : waitL l.W x = none) (hc : cvB (modeL l.H x t) m = true) : askL l x t m = (l, true, 0) := by
  have hf : fitsB t = true := by
    unfold modeL at hm
    cases hf : l.H.find? (isOf t x) with
    | none => rw [hf] at hm; exact absurd rfl hm
    | some o =>
      have h1 := (h.h.good o (List.mem_of_find?_eq_some hf)).2
      rw [(isOf_iff.1 (List.find?_some hf)).1] at h1
      exact h1
  unfold askL
  rw [if_neg (by rw [hf, cv_r hc]; simp), hw, if_neg (by simp)]
  simp only
  rw [if_pos ⟨hm, hc⟩]
/-- one transaction alone holds; nobody waits -/
structure Alone (x : Int) (n : Nat) (l : Lk) : Prop where
  ok : LkOk l
  w : l.W = []
  one : ∀ k ∈ l.H, k.x = x
  len : l.H.length ≤ n
theorem giveL_len (o : Od) : ∀ H : List Od, (giveL o H).length ≤ H.length + 1
  | [] => by simp [giveL]
  | h :: r => by
    rw [giveL]
    split
    · simp
    · have := giveL_len o r
      simp only [List.length_cons]
      omega
theorem Alone.ask {x : Int} {n : Nat} {l : Lk} (h : Alone x n l) (t : Th) (m : Int) :
    Alone x (n + 1) (askL l x t m).1 ∧ (((askL l x t m).2.1 = true ∧ (askL l x t m).2.2 = 0 ∧ cvB (modeL (askL l x t m).1.H x t) m = true) ∨ ((askL l x t m).2.1 = false ∧ (askL l x t m).2.2 = 10)) := by
  have hok := h.ok.ask x t m
  have hself : Alone x (n + 1) l := ⟨h.ok, h.w, h.one, by have := h.len; omega⟩
  unfold askL at hok ⊢
  split
  · exact ⟨hself, .inr ⟨rfl, rfl⟩⟩
  · rename_i hr
    have hm : rgB m = true := by cases hb : rgB m with | true => rfl | false => exact absurd (.inr hb) hr
    rw [if_neg hr] at hok
    have hw : waitL l.W x = none := by rw [h.w]; rfl
    rw [hw] at hok ⊢
    rw [if_neg (by simp)] at hok ⊢
    simp only at hok ⊢
    split
    · rename_i hc
      exact ⟨hself, .inl ⟨rfl, rfl, hc.2⟩⟩
    · rename_i hc
      obtain ⟨g1, g2, g3⟩ := to_have h.ok.h (x := x) (t := t) hm
      rw [if_neg hc] at hok
      generalize (if modeL l.H x t = 0 then m else jnI (modeL l.H x t) m) = m' at g1 g2 g3 hok ⊢
      generalize (if modeL l.H x t = 0 then l.W.length else placeGo l.H t 0 0 l.W) = p at hok ⊢
      have hcan : canL l.H (l.W.take p) ⟨t, x, m'⟩ = true := by
        cases hb : canL l.H (l.W.take p) ⟨t, x, m'⟩ with
        | true => rfl
        | false =>
          rcases canL_false.1 hb with ⟨k, hk, _, e, _⟩ | ⟨a, ha, _⟩
          · exact absurd (h.one k hk) e
          · rw [h.w] at ha; simp at ha
      rw [if_pos hcan] at hok ⊢
      refine ⟨⟨hok, h.w, fun k hk => ?_, ?_⟩, .inl ⟨rfl, rfl, ?_⟩⟩
      · rcases (mem_giveL h.ok.h.apart).1 hk with rfl | hk
        · rfl
        · exact h.one k hk.1
      · have := giveL_len ⟨t, x, m'⟩ l.H
        have := h.len
        simp only
        omega
      · have h9 := modeL_some hok.h.apart ((mem_giveL (o := ⟨t, x, m'⟩) h.ok.h.apart).2 (.inl rfl))
        simp only at h9 ⊢
        rw [h9]
        exact g2
theorem sweepAll_empty : ∀ (ts : List Th) (H : List Od), sweepAll ts ⟨H, []⟩ = (⟨H, []⟩, [])
  | [], _ => rfl
  | t :: r, H => by
    have e : sweepAll (t :: r) ⟨H, []⟩ = ((sweepAll r (sweepL ⟨H, []⟩ t).1).1, (sweepL ⟨H, []⟩ t).2 ++ (sweepAll r (sweepL ⟨H, []⟩ t).1).2) := rfl
    have e2 : sweepL ⟨H, []⟩ t = (⟨H, []⟩, []) := rfl
    rw [e, e2]
    simp only
    rw [sweepAll_empty r H]
    rfl
theorem Alone.release {x : Int} {n : Nat} {l : Lk} (h : Alone x n l) : releaseL l x = (⟨[], []⟩, []) := by
  unfold releaseL
  have hw : waitL l.W x = none := by rw [h.w]; rfl
  have hH : (l.H.filter fun o => decide (o.x ≠ x)) = [] := by
    rw [List.filter_eq_nil_iff]
    intro k hk
    simp [h.one k hk]
  rw [hw, hH, h.w]
  simp only [cutW]
  exact sweepAll_empty _ _
theorem putGo_len {α : Type} (lt : α → α → Bool) (t : α) : ∀ (b : Bool) (l : List α), (putGo lt t b l).length ≤ l.length + (if b then 0 else 1)
  | false, [] => by simp [putGo]
  | true, [] => by simp [putGo]
  | false, u :: r => by
    rw [putGo]
    split
    · have := putGo_len lt t true r
      simp at this ⊢
      omega
    · have := putGo_len lt t false r
      simp at this ⊢
      omega
  | true, u :: r => by
    rw [putGo]
    have := putGo_len lt t true r
    simp at this ⊢
    omega
theorem putL_len {α : Type} [DecidableEq α] (lt : α → α → Bool) (l : List α) (t : α) : (putL lt l t).length ≤ l.length + 1 := by
  unfold putL
  split
  · omega
  · have := putGo_len lt t false l
    simpa using this
theorem fold_len {α β : Type} [DecidableEq α] (lt : α → α → Bool) (f : β → α) : ∀ (l : List β) (init : List α), (l.foldl (fun acc b => putL lt acc (f b)) init).length ≤ init.length + l.length
  | [], init => by simp
  | b :: r, init => by
    rw [List.foldl_cons]
    have h1 := fold_len lt f r (putL lt init (f b))
    have h2 := putL_len lt init (f b)
    simp only [List.length_cons]
    omega
theorem thingsL_len (H : List Od) (x : Int) : (thingsL H x).length ≤ H.length := by
  unfold thingsL putT
  have h1 := fold_len belowT (fun o : Od => o.th) (H.filter fun o => decide (o.x = x)) []
  have h2 := List.length_filter_le (fun o : Od => decide (o.x = x)) H
  simp only [List.length_nil] at h1
  omega
/-! ### how many there are -/
def liveB (l : Lk) (x : Int) : Bool := l.H.any (fun k => decide (k.x = x)) || l.W.any fun k => decide (k.x = x)
theorem liveB_iff {l : Lk} {x : Int} : liveB l x = true ↔ Lives l x := by
  unfold liveB Lives
  simp [List.any_eq_true]
def cntL (l : Lk) (xs : List Int) : Nat := (xs.filter (liveB l)).length
theorem cnt_le {l l' : Lk} (h : ∀ y, Lives l' y → Lives l y) : ∀ xs, cntL l' xs ≤ cntL l xs
  | [] => Nat.le_refl _
  | y :: r => by
    have ih := cnt_le h r
    unfold cntL at ih ⊢
    rw [List.filter_cons, List.filter_cons]
    split
    · rename_i h1
      rw [if_pos (liveB_iff.2 (h y (liveB_iff.1 h1)))]
      simp only [List.length_cons]
      omega
    · split
      · simp only [List.length_cons]
        omega
      · exact ih
theorem cnt_lt {l l' : Lk} (h : ∀ y, Lives l' y → Lives l y) {x : Int} (h1 : Lives l x) (h2 : ¬ Lives l' x) : ∀ {xs}, x ∈ xs → cntL l' xs < cntL l xs
  | y :: r, hx => by
    have hle := cnt_le h r
    unfold cntL at hle ⊢
    rw [List.filter_cons, List.filter_cons]
    rcases List.mem_cons.1 hx with rfl | hx
    · rw [if_pos (liveB_iff.2 h1), if_neg fun h9 => h2 (liveB_iff.1 h9)]
      simp only [List.length_cons]
      omega
    · have ih := cnt_lt h h1 h2 hx
      unfold cntL at ih
      split
      · rename_i h3
        rw [if_pos (liveB_iff.2 (h y (liveB_iff.1 h3)))]
        simp only [List.length_cons]
        omega
      · split
        · simp only [List.length_cons]
          omega
        · exact ih
theorem cnt_len (l : Lk) (xs : List Int) : cntL l xs ≤ xs.length := List.length_filter_le _ _
/-- nobody is there: nobody has a blocker -/
theorem cnt_zero {l : Lk} {xs : List Int} (h : cntL l xs = 0) (ha : ∀ y, Lives l y → y ∈ xs) (y : Int) : ¬ Lives l y := fun hy => by
  unfold cntL at h
  have h1 := List.eq_nil_of_length_eq_zero h
  rw [List.filter_eq_nil_iff] at h1
  exact h1 y (ha y hy) (liveB_iff.2 hy)
/-- at rest the least of all waits for nobody -/
theorem LkOk.rest {l : Lk} (h : LkOk l) {xs : List Int} (ha : ∀ y, Lives l y → y ∈ xs) (hq : ∀ t ∈ xs, ∀ y ∈ blockL l t, ¬ t < y) {t : Int} (ht : t ∈ xs) (hmin : ∀ y ∈ xs, t ≤ y) : waitL l.W t = none := by
  cases hw : waitL l.W t with
  | none => rfl
  | some o =>
    exfalso
    obtain ⟨ho, hx⟩ := mem_waitL hw
    have hb := h.blocked ho
    rw [hx] at hb
    obtain ⟨y, hy⟩ := List.exists_mem_of_ne_nil _ hb
    obtain ⟨hne, hl⟩ := blockL_other hy
    have h1 := hmin y (ha y hl)
    exact hq t ht y hy (by omega)
end Go.Proofs.YthbbheegkhlniaaGreat

/-
  What is done with some things makes no difference to the others.
-/
namespace Go.Proofs.YthbbheegkhlniaaGreat
open Go.RowKit Go.Lib

/-- the things of P, and what is done with them -/
def onP (P : Th → Bool) (o : Od) : Bool := P o.th
def Lk.on (P : Th → Bool) (l : Lk) : Lk := ⟨l.H.filter (onP P), l.W.filter (onP P)⟩
/-- transactions of Q are at the things of P, the others at the others -/
def Sep (P : Th → Bool) (Q : Int → Bool) (L : List Od) : Prop := ∀ o ∈ L, P o.th = Q o.x
section
variable {P : Th → Bool} {Q : Int → Bool}
theorem find_on {f : Od → Bool} : ∀ {L : List Od}, (∀ o ∈ L, f o = true → onP P o = true) → (L.filter (onP P)).find? f = L.find? f
  | [], _ => rfl
  | o :: r, h => by
    have ih := find_on (L := r) fun u hu => h u (List.mem_cons_of_mem _ hu)
    rw [List.filter_cons]
    cases hf : f o with
    | true =>
      rw [if_pos (h o List.mem_cons_self hf), List.find?_cons, hf, List.find?_cons, hf]
    | false =>
      rw [List.find?_cons, hf]
      split
      · rw [List.find?_cons, hf]; exact ih
      · exact ih
theorem modeL_on {H : List Od} {x : Int} {t : Th} (ht : P t = true) : modeL (H.filter (onP P)) x t = modeL H x t := by
  unfold modeL
  rw [find_on fun o _ hf => by unfold onP; rw [(isOf_iff.1 hf).1]; exact ht]
theorem waitL_on {W : List Od} (hs : Sep P Q W) {x : Int} (hx : Q x = true) : waitL (W.filter (onP P)) x = waitL W x := by
  unfold waitL
  rw [find_on fun o ho hf => by unfold onP; rw [hs o ho, of_decide_eq_true hf]; exact hx]
theorem any_on {f : Od → Bool} : ∀ {L : List Od}, (∀ o ∈ L, f o = true → onP P o = true) → (L.filter (onP P)).any f = L.any f
  | [], _ => rfl
  | o :: r, h => by
    have ih := any_on (L := r) fun u hu => h u (List.mem_cons_of_mem _ hu)
    rw [List.filter_cons]
    split
    · rw [List.any_cons, List.any_cons, ih]
    · rename_i hp
      rw [List.any_cons, ih]
      cases hf : f o with
      | true => exact absurd (h o List.mem_cons_self hf) hp
      | false => rfl
theorem canL_on {H A : List Od} {o : Od} (ho : P o.th = true) : canL (H.filter (onP P)) (A.filter (onP P)) o = canL H A o := by
  unfold canL
  rw [any_on fun u _ hf => by unfold onP; rw [(inWay_iff.1 hf).1]; exact ho, any_on fun u _ hf => by unfold onP; rw [(ahead_iff.1 hf).1]; exact ho]
theorem giveL_on {o : Od} (ho : P o.th = true) : ∀ H : List Od, (giveL o H).filter (onP P) = giveL o (H.filter (onP P))
  | [] => by simp [giveL, onP, ho]
  | h :: r => by
    rw [giveL]
    split
    · rename_i hi
      have hp : onP P h = true := by unfold onP; rw [(isOf_iff.1 hi).1]; exact ho
      have ho' : onP P o = true := ho
      rw [List.filter_cons, if_pos ho', List.filter_cons, if_pos hp, giveL, if_pos hi]
    · rename_i hi
      rw [List.filter_cons, List.filter_cons, giveL_on ho r]
      split
      · rw [giveL, if_neg hi]
      · rfl
theorem giveL_off {o : Od} (ho : P o.th = false) : ∀ H : List Od, (giveL o H).filter (onP P) = H.filter (onP P)
  | [] => by simp [giveL, onP, ho]
  | h :: r => by
    have ho' : onP P o = false := ho
    rw [giveL]
    split
    · rename_i hi
      have hp : onP P h = false := by unfold onP; rw [(isOf_iff.1 hi).1]; exact ho
      rw [List.filter_cons, List.filter_cons, ho', hp]
      rfl
    · rw [List.filter_cons, List.filter_cons, giveL_off ho r]
theorem place_on {H : List Od} {t : Th} (ht : P t = true) : ∀ (r pre : List Od) (p p' : Nat), p ≤ pre.length → ((pre.filter (onP P)).take p' = (pre.take p).filter (onP P) ∧ p' ≤ (pre.filter (onP P)).length) →
    ((pre ++ r).filter (onP P)).take (placeGo (H.filter (onP P)) t (pre.filter (onP P)).length p' (r.filter (onP P))) = ((pre ++ r).take (placeGo H t pre.length p r)).filter (onP P)
  | [], pre, p, p', hp, h => by
    rw [List.append_nil]
    exact h.1
  | o :: r, pre, p, p', hp, h => by
    have hsnoc : (pre ++ [o]) ++ r = pre ++ o :: r := by simp
    have hstop : ((pre ++ o :: r).filter (onP P)).take p' = ((pre ++ o :: r).take p).filter (onP P) := by
      rw [List.filter_append, List.take_append_of_le_length h.2, List.take_append_of_le_length hp]
      exact h.1
    have hkeep : ((pre ++ [o]).filter (onP P)).take p' = ((pre ++ [o]).take p).filter (onP P) := by
      rw [List.filter_append, List.take_append_of_le_length h.2, List.take_append_of_le_length hp]
      exact h.1
    by_cases e : o.th = t
    · have hpo : onP P o = true := by unfold onP; rw [e]; exact ht
      have hne : ¬ (o.th ≠ t) := fun h9 => h9 e
      rw [List.filter_cons, if_pos hpo, placeGo, if_neg hne, placeGo, if_neg hne, modeL_on ht]
      split
      · exact hstop
      · have hl : ((pre ++ [o]).filter (onP P)).length = (pre.filter (onP P)).length + 1 := by rw [List.filter_append, List.filter_cons, if_pos hpo]; simp
        have h1 := place_on (H := H) ht r (pre ++ [o]) (pre.length + 1) ((pre.filter (onP P)).length + 1) (by simp) ⟨by rw [← hl, List.take_length, List.take_of_length_le (by simp)], by omega⟩
        rw [hl, hsnoc] at h1
        simpa using h1
    · rw [placeGo, if_pos e]
      by_cases hpo : onP P o = true
      · rw [List.filter_cons, if_pos hpo, placeGo, if_pos e]
        have hl : ((pre ++ [o]).filter (onP P)).length = (pre.filter (onP P)).length + 1 := by rw [List.filter_append, List.filter_cons, if_pos hpo]; simp
        have h1 := place_on (H := H) ht r (pre ++ [o]) p p' (by simp; omega) ⟨hkeep, by omega⟩
        rw [hl, hsnoc] at h1
        simpa using h1
      · rw [List.filter_cons, if_neg hpo]
        have hl : (pre ++ [o]).filter (onP P) = pre.filter (onP P) := by rw [List.filter_append, List.filter_cons, if_neg hpo]; simp
        have h1 := place_on (H := H) ht r (pre ++ [o]) p p' (by simp; omega) ⟨hkeep, by rw [hl]; exact h.2⟩
        rw [hl, hsnoc] at h1
        simpa using h1
theorem take_drop_on {W : List Od} {p p' : Nat} (h : (W.filter (onP P)).take p' = (W.take p).filter (onP P)) : (W.filter (onP P)).drop p' = (W.drop p).filter (onP P) := by
  have h1 : W.filter (onP P) = (W.take p).filter (onP P) ++ (W.drop p).filter (onP P) := by rw [← List.filter_append, List.take_append_drop]
  have h2 : W.filter (onP P) = (W.filter (onP P)).take p' ++ (W.filter (onP P)).drop p' := (List.take_append_drop _ _).symm
  rw [h] at h2
  rw [h1] at h2
  exact (List.append_cancel_left h2).symm ▸ by rw [← h1]
/-- Ask at a thing of P -/
theorem ask_on {l : Lk} {x : Int} {t : Th} (m : Int) (ht : P t = true) (hw : waitL (l.W.filter (onP P)) x = waitL l.W x) : askL (l.on P) x t m = ((askL l x t m).1.on P, (askL l x t m).2) := by
  have hmode := modeL_on (H := l.H) (x := x) ht
  have hpl := place_on (H := l.H) ht l.W [] 0 0 (Nat.le_refl _) ⟨rfl, Nat.le_refl _⟩
  simp only [List.nil_append, List.filter_nil, List.length_nil] at hpl
  unfold askL Lk.on
  simp only [hmode, hw]
  split
  · rfl
  · split
    · rfl
    · split
      · rfl
      · generalize hM : (if modeL l.H x t = 0 then m else jnI (modeL l.H x t) m) = m'
        have hp : (l.W.filter (onP P)).take (if modeL l.H x t = 0 then (l.W.filter (onP P)).length else placeGo (l.H.filter (onP P)) t 0 0 (l.W.filter (onP P))) = (l.W.take (if modeL l.H x t = 0 then l.W.length else placeGo l.H t 0 0 l.W)).filter (onP P) := by
          split
          · rw [List.take_length, List.take_length]
          · exact hpl
        generalize (if modeL l.H x t = 0 then (l.W.filter (onP P)).length else placeGo (l.H.filter (onP P)) t 0 0 (l.W.filter (onP P))) = p' at hp ⊢
        generalize (if modeL l.H x t = 0 then l.W.length else placeGo l.H t 0 0 l.W) = p at hp ⊢
        rw [hp, canL_on (o := ⟨t, x, m'⟩) ht]
        split
        · simp only [giveL_on (o := ⟨t, x, m'⟩) ht]
        · have ho : onP P ⟨t, x, m'⟩ = true := ht
          simp only [insL, List.filter_append, List.filter_cons, if_pos ho, hp, take_drop_on hp]
/-- Ask at another thing -/
theorem ask_off {l : Lk} {x : Int} {t : Th} (m : Int) (ht : P t = false) : (askL l x t m).1.on P = l.on P := by
  unfold askL
  split
  · rfl
  · split
    · rfl
    · simp only
      split
      · rfl
      · generalize (if modeL l.H x t = 0 then m else jnI (modeL l.H x t) m) = m'
        generalize (if modeL l.H x t = 0 then l.W.length else placeGo l.H t 0 0 l.W) = p
        have ho : onP P ⟨t, x, m'⟩ = false := ht
        split
        · unfold Lk.on
          simp only [giveL_off (o := ⟨t, x, m'⟩) ht]
        · unfold Lk.on insL
          simp only [List.filter_append, List.filter_cons, ho]
          rw [if_neg (by decide), ← List.filter_append, List.take_append_drop]
theorem sweepGo_on {t : Th} (ht : P t = true) : ∀ (pend done H : List Od), sweepGo t (done.filter (onP P)) (H.filter (onP P)) (pend.filter (onP P)) = ((sweepGo t done H pend).1.filter (onP P), (sweepGo t done H pend).2.1.filter (onP P), (sweepGo t done H pend).2.2)
  | [], _, _ => rfl
  | o :: r, done, H => by
    by_cases e : o.th = t
    · have hpo : onP P o = true := by unfold onP; rw [e]; exact ht
      rw [List.filter_cons, if_pos hpo, sweepGo, sweepGo, canL_on (by rw [e]; exact ht)]
      split
      · simp only
        rw [← giveL_on (by rw [e]; exact ht), sweepGo_on ht r done (giveL o H)]
      · have h1 : done.filter (onP P) ++ [o] = (done ++ [o]).filter (onP P) := by rw [List.filter_append, List.filter_cons, if_pos hpo]; simp
        rw [h1]
        exact sweepGo_on ht r (done ++ [o]) H
    · rw [sweepGo, if_neg (fun h9 => e h9.1), ← sweepGo_on ht r (done ++ [o]) H, List.filter_cons]
      split
      · rename_i hpo
        rw [sweepGo, if_neg (fun h9 => e h9.1)]
        have h1 : done.filter (onP P) ++ [o] = (done ++ [o]).filter (onP P) := by rw [List.filter_append, List.filter_cons, if_pos hpo]; simp
        rw [h1]
      · rename_i hpo
        have h1 : (done ++ [o]).filter (onP P) = done.filter (onP P) := by rw [List.filter_append, List.filter_cons, if_neg hpo]; simp
        rw [h1]
theorem sweepGo_off {t : Th} (ht : P t = false) : ∀ (pend done H : List Od), (sweepGo t done H pend).1.filter (onP P) = H.filter (onP P) ∧ (sweepGo t done H pend).2.1.filter (onP P) = (done ++ pend).filter (onP P)
  | [], done, H => by simp [sweepGo]
  | o :: r, done, H => by
    rw [sweepGo]
    split
    · rename_i hc
      have ho : P o.th = false := by rw [hc.1]; exact ht
      have ih := sweepGo_off ht r done (giveL o H)
      rw [giveL_off ho] at ih
      refine ⟨ih.1, ih.2.trans ?_⟩
      have ho' : onP P o = false := ho
      rw [List.filter_append, List.filter_append, List.filter_cons, ho']
      rfl
    · have ih := sweepGo_off ht r (done ++ [o]) H
      rw [List.append_assoc] at ih
      exact ih
theorem sweepL_on {l : Lk} {t : Th} (ht : P t = true) : sweepL (l.on P) t = ((sweepL l t).1.on P, (sweepL l t).2) := by
  have h := sweepGo_on ht l.W [] l.H
  unfold sweepL Lk.on
  simp only
  rw [List.filter_nil] at h
  rw [h]
theorem sweepL_off {l : Lk} {t : Th} (ht : P t = false) : (sweepL l t).1.on P = l.on P := by
  have h := sweepGo_off ht l.W [] l.H
  unfold sweepL Lk.on
  simp only
  rw [h.1, h.2]
  rfl
theorem sweepAll_on : ∀ {ts : List Th} {l : Lk}, (∀ t ∈ ts, P t = true) → sweepAll ts (l.on P) = ((sweepAll ts l).1.on P, (sweepAll ts l).2)
  | [], _, _ => rfl
  | t :: r, l, h => by
    have e : ∀ k : Lk, sweepAll (t :: r) k = ((sweepAll r (sweepL k t).1).1, (sweepL k t).2 ++ (sweepAll r (sweepL k t).1).2) := fun _ => rfl
    rw [e, e, sweepL_on (h t List.mem_cons_self)]
    simp only
    rw [sweepAll_on fun u hu => h u (List.mem_cons_of_mem _ hu)]
theorem sweepAll_off : ∀ {ts : List Th} {l : Lk}, (∀ t ∈ ts, P t = false) → (sweepAll ts l).1.on P = l.on P
  | [], _, _ => rfl
  | t :: r, l, h => by
    have e : sweepAll (t :: r) l = ((sweepAll r (sweepL l t).1).1, (sweepL l t).2 ++ (sweepAll r (sweepL l t).1).2) := rfl
    rw [e]
    simp only
    rw [sweepAll_off fun u hu => h u (List.mem_cons_of_mem _ hu), sweepL_off (h t List.mem_cons_self)]
theorem cutW_on {x : Int} (hx : Q x = true) : ∀ {W : List Od}, Sep P Q W → cutW x (W.filter (onP P)) = (cutW x W).filter (onP P)
  | [], _ => rfl
  | o :: r, hs => by
    have ih := cutW_on hx (W := r) fun u hu => hs u (List.mem_cons_of_mem _ hu)
    rw [cutW]
    split
    · rename_i e
      have hpo : onP P o = true := by unfold onP; rw [hs o List.mem_cons_self, e]; exact hx
      rw [List.filter_cons, if_pos hpo, cutW, if_pos e]
    · rename_i e
      rw [List.filter_cons, List.filter_cons]
      split
      · rw [cutW, if_neg e, ih]
      · exact ih
theorem cutW_off {x : Int} (hx : Q x = false) : ∀ {W : List Od}, Sep P Q W → (cutW x W).filter (onP P) = W.filter (onP P)
  | [], _ => rfl
  | o :: r, hs => by
    have ih := cutW_off hx (W := r) fun u hu => hs u (List.mem_cons_of_mem _ hu)
    rw [cutW]
    split
    · rename_i e
      have hpo : onP P o = false := by unfold onP; rw [hs o List.mem_cons_self, e]; exact hx
      rw [List.filter_cons, hpo]
      rfl
    · rw [List.filter_cons, List.filter_cons, ih]
structure SepL (P : Th → Bool) (Q : Int → Bool) (l : Lk) : Prop where
  h : Sep P Q l.H
  w : Sep P Q l.W
theorem cancel_on {l : Lk} (hs : SepL P Q l) {x : Int} (hx : Q x = true) : cancelL (l.on P) x = ((cancelL l x).1.on P, (cancelL l x).2) := by
  unfold cancelL
  have hw : waitL (l.on P).W x = waitL l.W x := waitL_on hs.w hx
  rw [hw]
  cases h1 : waitL l.W x with
  | none => rfl
  | some o =>
    have ho := mem_waitL h1
    have hpo : P o.th = true := by rw [hs.w o ho.1, ho.2]; exact hx
    have e : (⟨(l.on P).H, cutW x (l.on P).W⟩ : Lk) = (⟨l.H, cutW x l.W⟩ : Lk).on P := by
      unfold Lk.on
      simp only
      rw [cutW_on hx hs.w]
    simp only
    rw [e, sweepL_on hpo]
theorem cancel_off {l : Lk} (hs : SepL P Q l) {x : Int} (hx : Q x = false) : (cancelL l x).1.on P = l.on P := by
  unfold cancelL
  cases h1 : waitL l.W x with
  | none => rfl
  | some o =>
    have ho := mem_waitL h1
    have hpo : P o.th = false := by rw [hs.w o ho.1, ho.2]; exact hx
    simp only
    rw [sweepL_off hpo]
    unfold Lk.on
    simp only
    rw [cutW_off hx hs.w]
theorem things_on {H : List Od} (hs : Sep P Q H) {x : Int} (hx : Q x = true) : thingsL (H.filter (onP P)) x = thingsL H x := by
  unfold thingsL
  rw [List.filter_filter]
  congr 1
  refine List.filter_congr fun o ho => ?_
  cases hd : decide (o.x = x) with
  | false => rfl
  | true =>
    have : onP P o = true := by unfold onP; rw [hs o ho, of_decide_eq_true hd]; exact hx
    rw [this]
    rfl
theorem release_on {l : Lk} (hs : SepL P Q l) {x : Int} (hx : Q x = true) : releaseL (l.on P) x = ((releaseL l x).1.on P, (releaseL l x).2) := by
  unfold releaseL
  have hw : waitL (l.on P).W x = waitL l.W x := waitL_on hs.w hx
  have ht : thingsL (l.on P).H x = thingsL l.H x := things_on hs.h hx
  rw [hw, ht]
  have e : (⟨(l.on P).H.filter fun o => decide (o.x ≠ x), cutW x (l.on P).W⟩ : Lk) = (⟨l.H.filter fun o => decide (o.x ≠ x), cutW x l.W⟩ : Lk).on P := by
    unfold Lk.on
    simp only
    rw [cutW_on hx hs.w, List.filter_filter, List.filter_filter]
    congr 1
    exact List.filter_congr fun o _ => Bool.and_comm _ _
  simp only
  rw [e]
  refine sweepAll_on fun t hu => ?_
  rcases mem_all.1 hu with ⟨o, ho, h1, h2⟩ | ⟨o, h1, h2⟩
  · rw [← h2, hs.h o ho, h1]; exact hx
  · have ho := mem_waitL h1
    rw [← h2, hs.w o ho.1, ho.2]; exact hx
theorem release_off {l : Lk} (hs : SepL P Q l) {x : Int} (hx : Q x = false) : (releaseL l x).1.on P = l.on P := by
  unfold releaseL
  simp only
  rw [sweepAll_off fun t hu => ?_]
  · unfold Lk.on
    simp only
    rw [cutW_off hx hs.w, List.filter_filter]
    congr 1
    refine List.filter_congr fun o ho => ?_
    cases hp : onP P o with
    | false => rfl
    | true =>
      have h1 : Q o.x = true := by rw [← hs.h o ho]; exact hp
      have h2 : o.x ≠ x := fun e => by rw [e, hx] at h1; cases h1
      rw [decide_eq_true h2]
      rfl
  · rcases mem_all.1 hu with ⟨o, ho, h1, h2⟩ | ⟨o, h1, h2⟩
    · rw [← h2, hs.h o ho, h1]; exact hx
    · have ho := mem_waitL h1
      rw [← h2, hs.w o ho.1, ho.2]; exact hx
theorem state_on {l : Lk} {t : Th} (ht : P t = true) : stateL (l.on P) t = stateL l t := by
  have h : ∀ L : List Od, (L.filter (onP P)).filter (fun o => decide (o.th = t)) = L.filter fun o => decide (o.th = t) := fun L => by
    rw [List.filter_filter]
    refine List.filter_congr fun o _ => ?_
    cases hd : decide (o.th = t) with
    | false => rfl
    | true =>
      have : onP P o = true := by unfold onP; rw [of_decide_eq_true hd]; exact ht
      rw [this]
      rfl
  unfold stateL Lk.on
  simp only [h]
theorem SepL.ask {l : Lk} (h : SepL P Q l) (hok : LkOk l) {x : Int} {t : Th} {m : Int} (ht : P t = Q x) : SepL P Q (askL l x t m).1 := by
  unfold askL
  split
  · exact h
  · split
    · exact h
    · simp only
      split
      · exact h
      · generalize (if modeL l.H x t = 0 then m else jnI (modeL l.H x t) m) = m'
        generalize (if modeL l.H x t = 0 then l.W.length else placeGo l.H t 0 0 l.W) = p
        split
        · refine ⟨fun o ho => ?_, h.w⟩
          rcases (mem_giveL hok.h.apart).1 ho with rfl | ho
          · exact ht
          · exact h.h o ho.1
        · refine ⟨h.h, fun o ho => ?_⟩
          rcases insL_mem.1 ho with rfl | ho
          · exact ht
          · exact h.w o ho
theorem SepL.cancel {l : Lk} (h : SepL P Q l) (hok : LkOk l) (x : Int) : SepL P Q (cancelL l x).1 := by
  unfold cancelL
  cases hw : waitL l.W x with
  | none => exact h
  | some o =>
    obtain ⟨a, b, h1, h2, _⟩ := cutW_split hw
    have hb : AllB (fun u => u = o.th) l.H [] (cutW x l.W) := by
      rw [h2]
      exact AllB.cut (by rw [← h1]; exact hok.b.weak fun u hu => hu.elim) rfl
    have hs := sweepL_ok (l := ⟨l.H, cutW x l.W⟩) (t := o.th) hok.h (hok.w.sub (cutW_sub x l.W)) hb
    have hsub := cutW_sub x l.W
    refine ⟨fun u hu => ?_, fun u hu => h.w u (hsub.mem (by simpa using hs.wx u hu))⟩
    rcases hs.hx u hu with hu | ⟨q, hq, _, e2⟩
    · exact h.h u hu
    · exact h.w u (hsub.mem (e2 ▸ hq))
theorem SepL.release {l : Lk} (h : SepL P Q l) (hok : LkOk l) (x : Int) : SepL P Q (releaseL l x).1 := by
  have hf := hok.release x
  refine ⟨fun u hu => ?_, fun u hu => h.w u (hf.wx u hu).1⟩
  rcases (hf.hx u hu).1 with hu | hu
  · exact h.h u hu
  · exact h.w u hu
end
end Go.Proofs.YthbbheegkhlniaaGreat
