/-
  Locks as mathematics: holders and waiters as two lists, as the document tells; what holds behind every call. Imports nothing of the program.
-/
import Derived.Test.YthbbheegkhlniaaGreatM00
import Derived.Lib.Bytealg
namespace Go.Proofs.YthbbheegkhlniaaGreat
open Go.RowKit Go.Lib

instance : DecidableEq Th := fun a b => decidable_of_iff (a.k = b.k ∧ a.t = b.t ∧ a.y = b.y) ⟨fun h => by cases a; cases b; simp_all, fun h => by subst h; exact ⟨rfl, rfl, rfl⟩⟩
/-- a transaction that holds, or waits for, a thing -/
structure Od where
  th : Th
  x : Int
  m : Int
structure Lk where
  H : List Od
  W : List Od
/-- this one's -/
def isOf (t : Th) (x : Int) (o : Od) : Bool := decide (o.th = t) && decide (o.x = x)
def modeL (H : List Od) (x : Int) (t : Th) : Int := match H.find? (isOf t x) with
  | some o => o.m
  | none => 0
def waitL (W : List Od) (x : Int) : Option Od := W.find? fun o => decide (o.x = x)
/-- a holder that is in o's way -/
def inWay (o h : Od) : Bool := decide (h.th = o.th) && decide (h.x ≠ o.x) && cfB h.m o.m
/-- a waiter ahead that is in o's way -/
def ahead (o a : Od) : Bool := decide (a.th = o.th) && cfB a.m o.m
def canL (H A : List Od) (o : Od) : Bool := !(H.any (inWay o)) && !(A.any (ahead o))
def giveL (o : Od) : List Od → List Od
  | [] => [o]
  | h :: r => if isOf o.th o.x h then o :: r else h :: giveL o r
/-- where a holder's turn is, i seen, p so far -/
def placeGo (H : List Od) (t : Th) : Nat → Nat → List Od → Nat
  | _, p, [] => p
  | i, p, o :: r => if o.th ≠ t then placeGo H t (i + 1) p r else if modeL H o.x t = 0 then p else placeGo H t (i + 1) (i + 1) r
def insL (p : Nat) (o : Od) (W : List Od) : List Od := W.take p ++ o :: W.drop p
/-- Ask: the locks, whether it has it, and the error's number -/
def askL (l : Lk) (x : Int) (t : Th) (m : Int) : Lk × Bool × Int :=
  if fitsB t = false ∨ rgB m = false then (l, false, 10)
  else if (waitL l.W x).isSome then (l, false, 21)
  else
    let h := modeL l.H x t
    if h ≠ 0 ∧ cvB h m = true then (l, true, 0)
    else
      let p := if h = 0 then l.W.length else placeGo l.H t 0 0 l.W
      let o : Od := ⟨t, x, if h = 0 then m else jnI h m⟩
      if canL l.H (l.W.take p) o then (⟨giveL o l.H, l.W⟩, true, 0) else (⟨l.H, insL p o l.W⟩, false, 0)
/-- a sweep: done stay, pend are still to be asked: the holders, the waiters, who came to it -/
def sweepGo (t : Th) (done H : List Od) : List Od → List Od × List Od × List Int
  | [] => (H, done, [])
  | o :: r => if o.th = t ∧ canL H done o = true then
      let q := sweepGo t done (giveL o H) r
      (q.1, q.2.1, o.x :: q.2.2)
    else sweepGo t (done ++ [o]) H r
def sweepL (l : Lk) (t : Th) : Lk × List Int := let q := sweepGo t [] l.H l.W; (⟨q.1, q.2.1⟩, q.2.2)
def cutW (x : Int) : List Od → List Od
  | [] => []
  | o :: r => if o.x = x then r else o :: cutW x r
def cancelL (l : Lk) (x : Int) : Lk × List Int := match waitL l.W x with
  | some o => sweepL ⟨l.H, cutW x l.W⟩ o.th
  | none => (l, [])
def sweepAll : List Th → Lk → Lk × List Int
  | [], l => (l, [])
  | t :: r, l => let q := sweepL l t; let s := sweepAll r q.1; (s.1, q.2 ++ s.2)
def cmpS (s t : ByteArray) : Int := compareBytes s.data.toList t.data.toList
/-- is a thing ahead of another one in order? -/
def belowT (a b : Th) : Bool := if a.k ≠ b.k then decide (a.k < b.k) else if cmpS a.t b.t ≠ 0 then decide (cmpS a.t b.t < 0) else decide (cmpS a.y b.y < 0)
/-- in order, with one more -/
def putGo {α : Type} (lt : α → α → Bool) (t : α) : Bool → List α → List α
  | false, [] => [t]
  | true, [] => []
  | false, u :: r => if lt t u then t :: u :: putGo lt t true r else u :: putGo lt t false r
  | true, u :: r => u :: putGo lt t true r
def putL {α : Type} [DecidableEq α] (lt : α → α → Bool) (l : List α) (t : α) : List α := if t ∈ l then l else putGo lt t false l
def putT (l : List Th) (t : Th) : List Th := putL belowT l t
def putN (l : List Int) (n : Int) : List Int := putL (fun a b => decide (a < b)) l n
def thingsL (H : List Od) (x : Int) : List Th := (H.filter fun o => decide (o.x = x)).foldl (fun l o => putT l o.th) []
def releaseL (l : Lk) (x : Int) : Lk × List Int :=
  let all := match waitL l.W x with
    | some o => putT (thingsL l.H x) o.th
    | none => thingsL l.H x
  sweepAll all ⟨l.H.filter fun o => decide (o.x ≠ x), cutW x l.W⟩
def blockL (l : Lk) (x : Int) : List Int := match waitL l.W x with
  | none => []
  | some o => ((l.W.takeWhile fun a => decide (a.x ≠ x)).filter (ahead o)).foldl (fun l a => putN l a.x) ((l.H.filter (inWay o)).foldl (fun l h => putN l h.x) [])
def stateL (l : Lk) (t : Th) : List (Int × Int × Bool) := (l.H.filter fun o => decide (o.th = t)).map (fun o => (o.x, o.m, false)) ++ (l.W.filter fun o => decide (o.th = t)).map fun o => (o.x, o.m, true)

theorem mem_putGo {α : Type} {lt : α → α → Bool} {t u : α} : ∀ {b : Bool} {l : List α}, u ∈ putGo lt t b l ↔ u ∈ l ∨ (b = false ∧ u = t)
  | false, [] => by simp [putGo]
  | true, [] => by simp [putGo]
  | false, v :: r => by
    rw [putGo]
    split
    · simp only [List.mem_cons, mem_putGo (b := true) (l := r)]
      constructor
      · rintro (h | h | h | h)
        · exact .inr ⟨trivial, h⟩
        · exact .inl (.inl h)
        · exact .inl (.inr h)
        · exact absurd h.1 (by decide)
      · rintro ((h | h) | h)
        · exact .inr (.inl h)
        · exact .inr (.inr (.inl h))
        · exact .inl h.2
    · simp only [List.mem_cons, mem_putGo (b := false) (l := r)]
      constructor
      · rintro (h | h | h)
        · exact .inl (.inl h)
        · exact .inl (.inr h)
        · exact .inr h
      · rintro ((h | h) | h)
        · exact .inl h
        · exact .inr (.inl h)
        · exact .inr (.inr h)
  | true, v :: r => by
    rw [putGo]
    simp only [List.mem_cons, mem_putGo (b := true) (l := r)]
    constructor
    · rintro (h | h | h)
      · exact .inl (.inl h)
      · exact .inl (.inr h)
      · exact absurd h.1 (by decide)
    · rintro ((h | h) | h)
      · exact .inl h
      · exact .inr (.inl h)
      · exact absurd h.1 (by decide)
theorem mem_putL {α : Type} [DecidableEq α] {lt : α → α → Bool} {l : List α} {t u : α} : u ∈ putL lt l t ↔ u ∈ l ∨ u = t := by
  unfold putL
  split
  · rename_i h
    constructor
    · exact .inl
    · rintro (h1 | rfl)
      · exact h1
      · exact h
  · rw [mem_putGo]
    simp
theorem mem_fold_putL {α β : Type} [DecidableEq α] {lt : α → α → Bool} {f : β → α} {u : α} : ∀ {l : List β} {init : List α}, u ∈ l.foldl (fun acc b => putL lt acc (f b)) init ↔ u ∈ init ∨ ∃ b ∈ l, f b = u
  | [], init => by simp
  | b :: r, init => by
    rw [List.foldl_cons, mem_fold_putL, mem_putL]
    constructor
    · rintro ((h | h) | ⟨c, hc, h⟩)
      · exact .inl h
      · exact .inr ⟨b, List.mem_cons_self, h.symm⟩
      · exact .inr ⟨c, List.mem_cons_of_mem _ hc, h⟩
    · rintro (h | ⟨c, hc, h⟩)
      · exact .inl (.inl h)
      · rcases List.mem_cons.1 hc with rfl | hc
        · exact .inl (.inr h.symm)
        · exact .inr ⟨c, hc, h⟩
theorem mem_thingsL {H : List Od} {x : Int} {t : Th} : t ∈ thingsL H x ↔ ∃ o ∈ H, o.x = x ∧ o.th = t := by
  unfold thingsL putT
  rw [mem_fold_putL]
  constructor
  · rintro (h | ⟨o, ho, h⟩)
    · cases h
    · rw [List.mem_filter] at ho
      exact ⟨o, ho.1, of_decide_eq_true ho.2, h⟩
  · rintro ⟨o, ho, hx, h⟩
    exact .inr ⟨o, List.mem_filter.2 ⟨ho, decide_eq_true hx⟩, h⟩
theorem mem_waitL {W : List Od} {x : Int} {o : Od} (h : waitL W x = some o) : o ∈ W ∧ o.x = x := ⟨List.mem_of_find?_eq_some h, by have := List.find?_some h; simpa using this⟩
theorem waitL_none {W : List Od} {x : Int} : waitL W x = none ↔ ∀ o ∈ W, o.x ≠ x := by
  unfold waitL
  rw [List.find?_eq_none]
  simp
end Go.Proofs.YthbbheegkhlniaaGreat

/-
  What holds behind every call on locks: holders of a thing are apart, whoever waits has a blocker.
-/
namespace Go.Proofs.YthbbheegkhlniaaGreat
open Go.RowKit Go.Lib

/-- somebody is in o's way: a holder, or one of the waiters ahead -/
def Blkd (H A : List Od) (o : Od) : Prop := (∃ h ∈ H, h.th = o.th ∧ h.x ≠ o.x ∧ cfB h.m o.m = true) ∨ (∃ a ∈ A, a.th = o.th ∧ cfB a.m o.m = true)
theorem inWay_iff {o h : Od} : inWay o h = true ↔ h.th = o.th ∧ h.x ≠ o.x ∧ cfB h.m o.m = true := by
  unfold inWay
  simp [and_assoc]
theorem ahead_iff {o a : Od} : ahead o a = true ↔ a.th = o.th ∧ cfB a.m o.m = true := by
  unfold ahead
  simp
theorem canL_false {H A : List Od} {o : Od} : canL H A o = false ↔ Blkd H A o := by
  unfold canL Blkd
  rw [Bool.and_eq_false_iff]
  simp only [Bool.not_eq_false', List.any_eq_true, inWay_iff, ahead_iff]
theorem canL_true {H A : List Od} {o : Od} (h : canL H A o = true) : ¬ Blkd H A o := fun hb => by
  rw [canL_false.2 hb] at h
  cases h
/-- holders: right ones, of one thing apart -/
structure HOk (H : List Od) : Prop where
  good : ∀ o ∈ H, rgB o.m = true ∧ fitsB o.th = true
  apart : H.Pairwise fun a b => a.th = b.th → a.x ≠ b.x ∧ cfB a.m b.m = false
/-- waiters: right ones, each waits once, for no less than it holds -/
structure WOk (H W : List Od) : Prop where
  good : ∀ o ∈ W, rgB o.m = true ∧ fitsB o.th = true
  uni : W.Pairwise fun a b => a.x ≠ b.x
  more : ∀ o ∈ W, ∀ h ∈ H, h.th = o.th → h.x = o.x → cvB o.m h.m = true
/-- all that wait, but for things of S, have somebody in their way -/
def AllB (S : Th → Prop) (H A W : List Od) : Prop := ∀ a o b, W = a ++ o :: b → ¬ S o.th → Blkd H (A ++ a) o
structure LkOk (l : Lk) : Prop where
  h : HOk l.H
  w : WOk l.H l.W
  b : AllB (fun _ => False) l.H [] l.W
/-- whoever is a holder is one still, in no less a mode -/
def HLe (H H' : List Od) : Prop := ∀ h ∈ H, ∃ h' ∈ H', h'.th = h.th ∧ h'.x = h.x ∧ ∀ m, cfB h.m m = true → cfB h'.m m = true
theorem HLe.refl (H : List Od) : HLe H H := fun h hh => ⟨h, hh, rfl, rfl, fun _ => id⟩
theorem HLe.trans {H1 H2 H3 : List Od} (a : HLe H1 H2) (b : HLe H2 H3) : HLe H1 H3 := fun h hh => by
  obtain ⟨h2, hh2, e1, e2, f⟩ := a h hh
  obtain ⟨h3, hh3, e3, e4, g⟩ := b h2 hh2
  exact ⟨h3, hh3, e3.trans e1, e4.trans e2, fun m hm => g m (f m hm)⟩
theorem Blkd.mono {H H' A A' : List Od} {o : Od} (h : Blkd H A o) (hH : HLe H H') (hA : ∀ a ∈ A, a ∈ A') : Blkd H' A' o := by
  rcases h with ⟨h, hh, e1, e2, e3⟩ | ⟨a, ha, e1, e2⟩
  · obtain ⟨h', hh', f1, f2, f3⟩ := hH h hh
    exact .inl ⟨h', hh', f1.trans e1, by rw [f2]; exact e2, f3 _ e3⟩
  · exact .inr ⟨a, hA a ha, e1, e2⟩
theorem isOf_iff {t : Th} {x : Int} {o : Od} : isOf t x o = true ↔ o.th = t ∧ o.x = x := by
  unfold isOf
  simp
theorem mem_giveL {o u : Od} : ∀ {H : List Od}, (H.Pairwise fun a b => a.th = b.th → a.x ≠ b.x ∧ cfB a.m b.m = false) → (u ∈ giveL o H ↔ u = o ∨ (u ∈ H ∧ ¬ (u.th = o.th ∧ u.x = o.x)))
  | [], _ => by simp [giveL]
  | h :: r, hp => by
    have hp' := List.pairwise_cons.1 hp
    rw [giveL]
    split
    · rename_i hi
      have hi' := isOf_iff.1 hi
      simp only [List.mem_cons]
      constructor
      · rintro (e | hu)
        · exact .inl e
        · refine .inr ⟨.inr hu, fun e => ?_⟩
          have := (hp'.1 u hu (hi'.1.trans e.1.symm)).1
          exact this (hi'.2.trans e.2.symm)
      · rintro (e | ⟨e | hu, hn⟩)
        · exact .inl e
        · exact absurd (by rw [e]; exact hi') hn
        · exact .inr hu
    · rename_i hi
      rw [List.mem_cons, mem_giveL hp'.2, List.mem_cons]
      constructor
      · rintro (e | e | ⟨hu, hn⟩)
        · exact .inr ⟨.inl e, fun h9 => hi (isOf_iff.2 (by rw [← e]; exact h9))⟩
        · exact .inl e
        · exact .inr ⟨.inr hu, hn⟩
      · rintro (e | ⟨e | hu, hn⟩)
        · exact .inr (.inl e)
        · exact .inl e
        · exact .inr (.inr ⟨hu, hn⟩)
theorem giveL_apart {o : Od} : ∀ {H : List Od}, (H.Pairwise fun a b => a.th = b.th → a.x ≠ b.x ∧ cfB a.m b.m = false) → (∀ h ∈ H, h.th = o.th → h.x ≠ o.x → cfB h.m o.m = false) → (giveL o H).Pairwise fun a b => a.th = b.th → a.x ≠ b.x ∧ cfB a.m b.m = false
  | [], _, _ => List.pairwise_singleton _ _
  | h :: r, hp, hc => by
    have hp' := List.pairwise_cons.1 hp
    rw [giveL]
    split
    · rename_i hi
      have hi' := isOf_iff.1 hi
      refine List.pairwise_cons.2 ⟨fun b hb e => ?_, hp'.2⟩
      have h1 := (hp'.1 b hb (hi'.1.trans e)).1
      have h2 : o.x ≠ b.x := by rw [← hi'.2]; exact h1
      exact ⟨h2, by rw [cf_sym]; exact hc b (List.mem_cons_of_mem _ hb) e.symm h2.symm⟩
    · rename_i hi
      refine List.pairwise_cons.2 ⟨fun b hb e => ?_, giveL_apart hp'.2 fun h' hh => hc h' (List.mem_cons_of_mem _ hh)⟩
      rcases (mem_giveL hp'.2).1 hb with rfl | ⟨hb, _⟩
      · have hx : h.x ≠ b.x := fun e2 => hi (isOf_iff.2 ⟨e, e2⟩)
        exact ⟨hx, hc h List.mem_cons_self e hx⟩
      · exact hp'.1 b hb e
theorem giveL_le {o : Od} {H : List Od} (hp : H.Pairwise fun a b => a.th = b.th → a.x ≠ b.x ∧ cfB a.m b.m = false) (hc : ∀ h ∈ H, h.th = o.th → h.x = o.x → cvB o.m h.m = true) : HLe H (giveL o H) := fun h hh => by
  by_cases e : h.th = o.th ∧ h.x = o.x
  · exact ⟨o, (mem_giveL hp).2 (.inl rfl), e.1.symm, e.2.symm, fun m hm => cv_cf (hc h hh e.1 e.2) hm⟩
  · exact ⟨h, (mem_giveL hp).2 (.inr ⟨hh, e⟩), rfl, rfl, fun _ => id⟩
theorem HOk.give {H A : List Od} {o : Od} (h : HOk H) (hg : rgB o.m = true ∧ fitsB o.th = true) (hc : canL H A o = true) : HOk (giveL o H) := by
  have hn := canL_true hc
  refine ⟨fun u hu => ?_, giveL_apart h.apart fun k hk e1 e2 => ?_⟩
  · rcases (mem_giveL h.apart).1 hu with rfl | hu
    · exact hg
    · exact h.good u hu.1
  · cases e3 : cfB k.m o.m with
    | false => rfl
    | true => exact absurd (.inl ⟨k, hk, e1, e2, e3⟩) hn
theorem AllB.tail {S : Th → Prop} {H A W : List Od} {o : Od} (h : AllB S H A (o :: W)) : AllB S H (A ++ [o]) W := fun a u b e hs => by
  have := h (o :: a) u b (by rw [e]; rfl) hs
  rwa [List.append_assoc]
theorem AllB.mono {S : Th → Prop} {H H' A W : List Od} (h : AllB S H A W) (hH : HLe H H') : AllB S H' A W := fun a u b e hs => (h a u b e hs).mono hH fun _ hx => hx
theorem AllB.snoc {S : Th → Prop} {H A W : List Od} {o : Od} (h : AllB S H A W) (ho : ¬ S o.th → Blkd H (A ++ W) o) : AllB S H A (W ++ [o]) := fun a u b e hs => by
  rcases List.append_eq_append_iff.1 e with ⟨c, hc1, hc2⟩ | ⟨c, hc1, hc2⟩
  · cases c with
    | nil =>
      simp at hc1 hc2
      obtain ⟨rfl, rfl⟩ := hc2
      rw [hc1]
      exact ho hs
    | cons d c => simp at hc2
  · cases c with
    | nil =>
      simp at hc1 hc2
      obtain ⟨rfl, rfl⟩ := hc2
      rw [← hc1]
      exact ho hs
    | cons d c =>
      simp at hc2
      obtain ⟨rfl, rfl⟩ := hc2
      exact h a u c hc1 hs
/-- a sweep: whoever waits for t has somebody in its way then; the others as they were -/
structure Swept (S : Th → Prop) (t : Th) (done H pend : List Od) (q : List Od × List Od × List Int) : Prop where
  h : HOk q.1
  w : WOk q.1 q.2.1
  b : AllB (fun u => S u ∧ u ≠ t) q.1 [] q.2.1
  le : HLe H q.1
  hx : ∀ u ∈ q.1, u ∈ H ∨ ∃ o ∈ pend, o.x = u.x ∧ o = u
  wx : ∀ u ∈ q.2.1, u ∈ done ++ pend
  ox : ∀ x ∈ q.2.2, ∃ o ∈ pend, o.x = x
theorem WOk.give {H done r : List Od} {o : Od} (h : WOk H (done ++ o :: r)) (hp : HOk H) : WOk (giveL o H) (done ++ r) := by
  have hsub : (done ++ r).Sublist (done ++ o :: r) := List.Sublist.append (List.Sublist.refl _) (List.sublist_cons_self _ _)
  refine ⟨fun u hu => h.good u (hsub.mem hu), h.uni.sublist hsub, fun u hu k hk e1 e2 => ?_⟩
  rcases (mem_giveL hp.apart).1 hk with rfl | ⟨hk, _⟩
  · have hne : k.x ≠ u.x := by
      have hpw := h.uni
      rw [List.pairwise_append] at hpw
      rcases List.mem_append.1 hu with hu | hu
      · exact fun e => hpw.2.2 u hu k List.mem_cons_self e.symm
      · exact fun e => (List.pairwise_cons.1 hpw.2.1).1 u hu e
    exact absurd e2 hne
  · exact h.more u (hsub.mem hu) k hk e1 e2
theorem sweepGo_ok {S : Th → Prop} {t : Th} : ∀ {pend done H : List Od}, HOk H → WOk H (done ++ pend) → AllB (fun u => S u ∧ u ≠ t) H [] done → AllB S H done pend → Swept S t done H pend (sweepGo t done H pend)
  | [], done, H, h, w, bd, _ => by
    rw [List.append_nil] at w
    exact ⟨h, w, bd, HLe.refl _, fun u hu => .inl hu, fun u hu => by simpa [sweepGo] using hu, fun x hx => by cases hx⟩
  | o :: r, done, H, h, w, bd, bp => by
    have hgo := w.good o (by simp)
    by_cases hc : o.th = t ∧ canL H done o = true
    · have e : sweepGo t done H (o :: r) = ((sweepGo t done (giveL o H) r).1, (sweepGo t done (giveL o H) r).2.1, o.x :: (sweepGo t done (giveL o H) r).2.2) := by rw [sweepGo, if_pos hc]
      have hle := giveL_le h.apart fun k hk e1 e2 => w.more o (by simp) k hk e1 e2
      have hw' := w.give h
      have ih := sweepGo_ok (S := S) (t := t) (pend := r) (done := done) (H := giveL o H) (h.give hgo hc.2) hw' (bd.mono hle) (fun a u b es hs => by
        have h1 := bp (o :: a) u b (by rw [es]; rfl) hs
        rcases h1 with h1 | ⟨k, hk, e1, e2⟩
        · exact Blkd.mono (.inl h1) hle fun _ hx => hx
        · rcases List.mem_append.1 hk with hk | hk
          · exact .inr ⟨k, List.mem_append_left _ hk, e1, e2⟩
          · rcases List.mem_cons.1 hk with rfl | hk
            · have hne : k.x ≠ u.x := by
                have hpw := w.uni
                rw [List.pairwise_append] at hpw
                exact (List.pairwise_cons.1 hpw.2.1).1 u (by rw [es]; simp)
              exact .inl ⟨k, (mem_giveL h.apart).2 (.inl rfl), e1, hne, e2⟩
            · exact .inr ⟨k, List.mem_append_right _ hk, e1, e2⟩)
      rw [e]
      refine ⟨ih.h, ih.w, ih.b, hle.trans ih.le, fun u hu => ?_, fun u hu => ?_, fun x hx => ?_⟩
      · rcases ih.hx u hu with hu | ⟨k, hk, e1⟩
        · rcases (mem_giveL h.apart).1 hu with rfl | hu
          · exact .inr ⟨u, List.mem_cons_self, rfl, rfl⟩
          · exact .inl hu.1
        · exact .inr ⟨k, List.mem_cons_of_mem _ hk, e1⟩
      · rcases List.mem_append.1 (ih.wx u hu) with hu | hu
        · exact List.mem_append_left _ hu
        · exact List.mem_append_right _ (List.mem_cons_of_mem _ hu)
      · rcases List.mem_cons.1 hx with rfl | hx
        · exact ⟨o, List.mem_cons_self, rfl⟩
        · obtain ⟨k, hk, e1⟩ := ih.ox x hx
          exact ⟨k, List.mem_cons_of_mem _ hk, e1⟩
    · have e : sweepGo t done H (o :: r) = sweepGo t (done ++ [o]) H r := by rw [sweepGo, if_neg hc]
      have hbo : ¬ (S o.th ∧ o.th ≠ t) → Blkd H ([] ++ done) o := fun hs => by
        rw [List.nil_append]
        by_cases e1 : o.th = t
        · refine canL_false.1 ?_
          cases h2 : canL H done o with
          | false => rfl
          | true => exact absurd ⟨e1, h2⟩ hc
        · have := bp [] o r rfl fun h9 => hs ⟨h9, e1⟩
          rwa [List.append_nil] at this
      have ih := sweepGo_ok (S := S) (t := t) (pend := r) (done := done ++ [o]) (H := H) h (by rw [List.append_assoc]; exact w) (bd.snoc hbo) bp.tail
      rw [e]
      refine ⟨ih.h, ih.w, ih.b, ih.le, fun u hu => ?_, fun u hu => ?_, fun x hx => ?_⟩
      · rcases ih.hx u hu with hu | ⟨k, hk, e1⟩
        · exact .inl hu
        · exact .inr ⟨k, List.mem_cons_of_mem _ hk, e1⟩
      · have := ih.wx u hu
        rwa [List.append_assoc] at this
      · obtain ⟨k, hk, e1⟩ := ih.ox x hx
        exact ⟨k, List.mem_cons_of_mem _ hk, e1⟩
end Go.Proofs.YthbbheegkhlniaaGreat

/-
  Ask, Cancel and Release keep what holds.
-/
namespace Go.Proofs.YthbbheegkhlniaaGreat
open Go.RowKit Go.Lib

theorem AllB.weak {S S' : Th → Prop} {H A W : List Od} (h : AllB S H A W) (hS : ∀ u, S u → S' u) : AllB S' H A W := fun a o b e hs => h a o b e fun h9 => hs (hS _ h9)
theorem AllB.ins {S : Th → Prop} {H a0 b0 : List Od} {o : Od} (h : AllB S H [] (a0 ++ b0)) (ho : Blkd H a0 o) : AllB S H [] (a0 ++ o :: b0) := fun a u b e hs => by
  rw [List.nil_append]
  rcases List.append_eq_append_iff.1 e with ⟨c, hc1, hc2⟩ | ⟨c, hc1, hc2⟩
  · -- a = a0 ++ c, o :: b0 = c ++ u :: b
    cases c with
    | nil =>
      simp at hc1 hc2
      obtain ⟨rfl, rfl⟩ := hc2
      rw [hc1]
      exact ho
    | cons d c =>
      simp at hc2
      obtain ⟨rfl, rfl⟩ := hc2
      have h1 := h (a0 ++ c) u b (by simp) hs
      rw [List.nil_append] at h1
      exact h1.mono (HLe.refl _) fun x hx => by rw [hc1]; simp only [List.mem_append, List.mem_cons] at hx ⊢; rcases hx with hx | hx <;> simp [hx]
  · -- a0 = a ++ c, u :: b = c ++ o :: b0
    cases c with
    | nil =>
      simp at hc1 hc2
      obtain ⟨rfl, rfl⟩ := hc2
      rw [← hc1]
      exact ho
    | cons d c =>
      simp at hc2
      obtain ⟨rfl, rfl⟩ := hc2
      have h1 := h a u (c ++ b0) (by rw [hc1]; simp) hs
      rwa [List.nil_append] at h1
theorem modeL_some {H : List Od} (hp : H.Pairwise fun a b => a.th = b.th → a.x ≠ b.x ∧ cfB a.m b.m = false) {k : Od} (hk : k ∈ H) : modeL H k.x k.th = k.m := by
  unfold modeL
  cases hf : H.find? (isOf k.th k.x) with
  | none =>
    have := List.find?_eq_none.1 hf k hk
    simp [isOf] at this
  | some o =>
    have h1 := List.mem_of_find?_eq_some hf
    have h2 := isOf_iff.1 (List.find?_some hf)
    by_cases e : o = k
    · rw [e]
    · exfalso
      have key : ∀ {l : List Od}, (l.Pairwise fun a b => a.th = b.th → a.x ≠ b.x ∧ cfB a.m b.m = false) → o ∈ l → k ∈ l → False := by
        intro l
        induction l with
        | nil => intro _ ho; cases ho
        | cons y r ih =>
          intro hp ho hk
          have hp' := List.pairwise_cons.1 hp
          rcases List.mem_cons.1 ho with e1 | ho2
          · rcases List.mem_cons.1 hk with e2 | hk2
            · exact e (e1.trans e2.symm)
            · exact (hp'.1 k hk2 (by rw [← e1]; exact h2.1)).1 (by rw [← e1]; exact h2.2)
          · rcases List.mem_cons.1 hk with e2 | hk2
            · exact (hp'.1 o ho2 (by rw [← e2]; exact h2.1.symm)).1 (by rw [← e2]; exact h2.2.symm)
            · exact ih hp'.2 ho2 hk2
      exact key hp h1 hk
theorem modeL_none {H : List Od} (hg : ∀ o ∈ H, rgB o.m = true ∧ fitsB o.th = true) {x : Int} {t : Th} (h : modeL H x t = 0) : ∀ k ∈ H, ¬ (k.th = t ∧ k.x = x) := by
  intro k hk e
  unfold modeL at h
  cases hf : H.find? (isOf t x) with
  | none =>
    have := List.find?_eq_none.1 hf k hk
    rw [isOf_iff.2 e] at this
    exact this rfl
  | some o =>
    rw [hf] at h
    simp only at h
    have h1 := (hg o (List.mem_of_find?_eq_some hf)).1
    rw [h] at h1
    exact absurd h1 (by decide)
theorem modeL_rg {H : List Od} (hg : ∀ o ∈ H, rgB o.m = true ∧ fitsB o.th = true) {x : Int} {t : Th} (h : ¬ modeL H x t = 0) : rgB (modeL H x t) = true := by
  unfold modeL at h ⊢
  cases hf : H.find? (isOf t x) with
  | none => rw [hf] at h; exact absurd rfl h
  | some o => exact (hg o (List.mem_of_find?_eq_some hf)).1
/-- what a transaction that asks is to have covers what it holds, and what it asks for -/
theorem to_have {H : List Od} (hH : HOk H) {x : Int} {t : Th} {m : Int} (hm : rgB m = true) :
    rgB (if modeL H x t = 0 then m else jnI (modeL H x t) m) = true ∧ cvB (if modeL H x t = 0 then m else jnI (modeL H x t) m) m = true ∧ ∀ k ∈ H, k.th = t → k.x = x → cvB (if modeL H x t = 0 then m else jnI (modeL H x t) m) k.m = true := by
  by_cases h : modeL H x t = 0
  · simp only [if_pos h]
    exact ⟨hm, (cv_rf hm).1, fun k hk e1 e2 => absurd ⟨e1, e2⟩ (modeL_none hH.good h k hk)⟩
  · simp only [if_neg h]
    have hj := jn_ok (modeL_rg hH.good h) hm
    refine ⟨cv_l hj.1, hj.2.1, fun k hk e1 e2 => ?_⟩
    have := modeL_some hH.apart hk
    rw [e1, e2] at this
    rw [← this]
    exact hj.1
theorem insL_mem {p : Nat} {o u : Od} {W : List Od} : u ∈ insL p o W ↔ u = o ∨ u ∈ W := by
  unfold insL
  rw [List.mem_append, List.mem_cons]
  constructor
  · rintro (h | h | h)
    · exact .inr (List.mem_of_mem_take h)
    · exact .inl h
    · exact .inr (List.mem_of_mem_drop h)
  · rintro (h | h)
    · exact .inr (.inl h)
    · rw [← List.take_append_drop p W, List.mem_append] at h
      rcases h with h | h
      · exact .inl h
      · exact .inr (.inr h)
theorem LkOk.ask {l : Lk} (h : LkOk l) (x : Int) (t : Th) (m : Int) : LkOk (askL l x t m).1 := by
  unfold askL
  split
  · exact h
  · rename_i hr
    split
    · exact h
    · rename_i hw
      have hfit : fitsB t = true := by cases hb : fitsB t with | true => rfl | false => exact absurd (.inl hb) hr
      have hm : rgB m = true := by cases hb : rgB m with | true => rfl | false => exact absurd (.inr hb) hr
      have hnw : ∀ o ∈ l.W, o.x ≠ x := waitL_none.1 (by cases hb : waitL l.W x with | none => rfl | some o => rw [hb] at hw; exact absurd rfl hw)
      simp only
      split
      · exact h
      · obtain ⟨g1, g2, g3⟩ := to_have h.h (x := x) (t := t) hm
        generalize (if modeL l.H x t = 0 then m else jnI (modeL l.H x t) m) = m' at g1 g2 g3 ⊢
        generalize (if modeL l.H x t = 0 then l.W.length else placeGo l.H t 0 0 l.W) = p
        split
        · rename_i hc
          refine ⟨h.h.give ⟨g1, hfit⟩ hc, ⟨h.w.good, h.w.uni, fun u hu k hk e1 e2 => ?_⟩, h.b.mono (giveL_le h.h.apart fun k hk e1 e2 => g3 k hk e1 e2)⟩
          rcases (mem_giveL h.h.apart).1 hk with rfl | ⟨hk, _⟩
          · exact absurd e2.symm (hnw u hu)
          · exact h.w.more u hu k hk e1 e2
        · rename_i hc
          have hb := canL_false.1 (Bool.eq_false_iff.2 hc)
          refine ⟨h.h, ⟨fun u hu => ?_, ?_, fun u hu k hk e1 e2 => ?_⟩, ?_⟩
          · rcases insL_mem.1 hu with rfl | hu
            · exact ⟨g1, hfit⟩
            · exact h.w.good u hu
          · unfold insL
            have hpw := h.w.uni
            rw [← List.take_append_drop p l.W, List.pairwise_append] at hpw
            refine List.pairwise_append.2 ⟨hpw.1, List.pairwise_cons.2 ⟨fun b hb9 => fun e => hnw b (List.mem_of_mem_drop hb9) e.symm, hpw.2.1⟩, fun a ha b hb9 => ?_⟩
            rcases List.mem_cons.1 hb9 with rfl | hb9
            · exact hnw a (List.mem_of_mem_take ha)
            · exact hpw.2.2 a ha b hb9
          · rcases insL_mem.1 hu with rfl | hu
            · exact g3 k hk e1 e2
            · exact h.w.more u hu k hk e1 e2
          · unfold insL
            exact AllB.ins (by rw [List.take_append_drop]; exact h.b) hb
theorem cutW_split {x : Int} {o : Od} : ∀ {W : List Od}, waitL W x = some o → ∃ a b, W = a ++ o :: b ∧ cutW x W = a ++ b ∧ ∀ u ∈ a, u.x ≠ x
  | [], h => by cases h
  | y :: r, h => by
    unfold waitL at h
    rw [List.find?_cons] at h
    by_cases e : y.x = x
    · rw [decide_eq_true e] at h
      obtain rfl := Option.some.inj h
      exact ⟨[], r, rfl, by rw [cutW, if_pos e]; rfl, fun u hu => by cases hu⟩
    · rw [decide_eq_false e] at h
      obtain ⟨a, b, h1, h2, h3⟩ := cutW_split (W := r) h
      refine ⟨y :: a, b, by rw [h1]; rfl, by rw [cutW, if_neg e, h2]; rfl, fun u hu => ?_⟩
      rcases List.mem_cons.1 hu with rfl | hu
      · exact e
      · exact h3 u hu
theorem cutW_none {x : Int} : ∀ {W : List Od}, waitL W x = none → cutW x W = W
  | [], _ => rfl
  | y :: r, h => by
    have h' := waitL_none.1 h
    rw [cutW, if_neg (h' y List.mem_cons_self), cutW_none (waitL_none.2 fun o ho => h' o (List.mem_cons_of_mem _ ho))]
theorem cutW_sub (x : Int) : ∀ W : List Od, (cutW x W).Sublist W
  | [] => List.Sublist.refl _
  | y :: r => by
    rw [cutW]
    split
    · exact List.sublist_cons_self _ _
    · exact (cutW_sub x r).cons_cons _
theorem cutW_free {x : Int} {W : List Od} (hu : W.Pairwise fun a b => a.x ≠ b.x) : ∀ u ∈ cutW x W, u.x ≠ x := by
  induction W with
  | nil => intro u hu; cases hu
  | cons y r ih =>
    have hp := List.pairwise_cons.1 hu
    intro u h
    rw [cutW] at h
    split at h
    · rename_i e
      rw [← e]
      exact fun e2 => hp.1 u h e2.symm
    · rename_i e
      rcases List.mem_cons.1 h with rfl | h
      · exact e
      · exact ih hp.2 u h
/-- without one of the waiters the others, but for its thing's, are as they were -/
theorem AllB.cut {S : Th → Prop} {H a b : List Od} {o : Od} (h : AllB S H [] (a ++ o :: b)) (hS : S o.th) : AllB S H [] (a ++ b) := fun c u d e hs => by
  rw [List.nil_append]
  rcases List.append_eq_append_iff.1 e with ⟨k, hk1, hk2⟩ | ⟨k, hk1, hk2⟩
  · -- c = a ++ k, b = k ++ u :: d
    have h1 := h (a ++ o :: k) u d (by rw [hk2]; simp) hs
    rw [List.nil_append] at h1
    rcases h1 with h1 | ⟨y, hy, e1, e2⟩
    · exact .inl h1
    · refine .inr ⟨y, ?_, e1, e2⟩
      rw [hk1]
      rcases List.mem_append.1 hy with hy | hy
      · exact List.mem_append_left _ hy
      · rcases List.mem_cons.1 hy with rfl | hy
        · exact absurd (e1 ▸ hS) hs
        · exact List.mem_append_right _ hy
  · cases k with
    | nil =>
      simp at hk1 hk2
      have h1 := h (a ++ [o]) u d (by rw [← hk2]; simp) hs
      rw [List.nil_append] at h1
      rcases h1 with h1 | ⟨y, hy, e1, e2⟩
      · exact .inl h1
      · refine .inr ⟨y, ?_, e1, e2⟩
        rw [← hk1]
        rcases List.mem_append.1 hy with hy | hy
        · exact hy
        · rcases List.mem_singleton.1 hy with rfl
          exact absurd (e1 ▸ hS) hs
    | cons z k =>
      simp at hk2
      obtain ⟨rfl, rfl⟩ := hk2
      have h1 := h c u (k ++ o :: b) (by rw [hk1]; simp) hs
      rwa [List.nil_append] at h1
theorem WOk.sub {H W W' : List Od} (h : WOk H W) (hs : W'.Sublist W) : WOk H W' := ⟨fun o ho => h.good o (hs.mem ho), h.uni.sublist hs, fun o ho => h.more o (hs.mem ho)⟩
theorem sweepL_ok {S : Th → Prop} {l : Lk} {t : Th} (h : HOk l.H) (w : WOk l.H l.W) (b : AllB S l.H [] l.W) : Swept S t [] l.H l.W ((sweepL l t).1.H, (sweepL l t).1.W, (sweepL l t).2) := by
  have := sweepGo_ok (S := S) (t := t) (pend := l.W) (done := []) h (by simpa using w) (fun a o b e => by simp at e) b
  exact this
theorem LkOk.cancel {l : Lk} (h : LkOk l) (x : Int) : LkOk (cancelL l x).1 := by
  unfold cancelL
  cases hw : waitL l.W x with
  | none => exact h
  | some o =>
    obtain ⟨a, b, h1, h2, _⟩ := cutW_split hw
    have hb : AllB (fun u => u = o.th) l.H [] (cutW x l.W) := by
      rw [h2]
      exact AllB.cut (by rw [← h1]; exact h.b.weak fun u hu => hu.elim) rfl
    have hs := sweepL_ok (l := ⟨l.H, cutW x l.W⟩) (t := o.th) h.h (h.w.sub (cutW_sub x l.W)) hb
    exact ⟨hs.h, hs.w, hs.b.weak fun u hu => hu.2 hu.1⟩
/-- sweeps of several things -/
structure SweptAll (l : Lk) (q : Lk × List Int) : Prop where
  ok : LkOk q.1
  hx : ∀ u ∈ q.1.H, u ∈ l.H ∨ u ∈ l.W
  wx : ∀ u ∈ q.1.W, u ∈ l.W
  ox : ∀ x ∈ q.2, ∃ o ∈ l.W, o.x = x
  le : HLe l.H q.1.H
theorem sweepAll_ok : ∀ {ts : List Th} {l : Lk}, HOk l.H → WOk l.H l.W → AllB (fun u => u ∈ ts) l.H [] l.W → SweptAll l (sweepAll ts l)
  | [], l, h, w, b => ⟨⟨h, w, b.weak fun u hu => by cases hu⟩, fun u hu => .inl hu, fun u hu => hu, fun x hx => (by cases hx), HLe.refl _⟩
  | t :: r, l, h, w, b => by
    have hs := sweepL_ok (t := t) h w b
    have ih := sweepAll_ok (ts := r) (l := (sweepL l t).1) hs.h hs.w (hs.b.weak fun u hu => (List.mem_cons.1 hu.1).resolve_left hu.2)
    have e : sweepAll (t :: r) l = ((sweepAll r (sweepL l t).1).1, (sweepL l t).2 ++ (sweepAll r (sweepL l t).1).2) := rfl
    rw [e]
    refine ⟨ih.ok, fun u hu => ?_, fun u hu => ?_, fun x hx => ?_, hs.le.trans ih.le⟩
    · rcases ih.hx u hu with hu | hu
      · rcases hs.hx u hu with hu | ⟨o, ho, _, e2⟩
        · exact .inl hu
        · exact .inr (e2 ▸ ho)
      · exact .inr (by simpa using hs.wx u hu)
    · simpa using hs.wx u (ih.wx u hu)
    · rcases List.mem_append.1 hx with hx | hx
      · exact hs.ox x hx
      · obtain ⟨o, ho, e1⟩ := ih.ox x hx
        exact ⟨o, by simpa using hs.wx o ho, e1⟩
theorem mem_all {l : Lk} {x : Int} {t : Th} : t ∈ (match waitL l.W x with | some o => putT (thingsL l.H x) o.th | none => thingsL l.H x) ↔ (∃ o ∈ l.H, o.x = x ∧ o.th = t) ∨ ∃ o, waitL l.W x = some o ∧ o.th = t := by
  cases hw : waitL l.W x with
  | none => simp [mem_thingsL]
  | some o =>
    unfold putT
    simp only [mem_putL, mem_thingsL, Option.some.injEq, exists_eq_left']
    constructor
    · rintro (h | h)
      · exact .inl h
      · exact .inr h.symm
    · rintro (h | h)
      · exact .inl h
      · exact .inr h.symm
/-- Release: what is left of it is nothing, the others keep what they have -/
structure Freed (l : Lk) (x : Int) (q : Lk × List Int) : Prop where
  ok : LkOk q.1
  hx : ∀ u ∈ q.1.H, (u ∈ l.H ∨ u ∈ l.W) ∧ u.x ≠ x
  wx : ∀ u ∈ q.1.W, u ∈ l.W ∧ u.x ≠ x
  ox : ∀ y ∈ q.2, ∃ o ∈ l.W, o.x = y ∧ o.x ≠ x
  le : HLe (l.H.filter fun o => decide (o.x ≠ x)) q.1.H
theorem LkOk.release_b {l : Lk} (h : LkOk l) (x : Int) : AllB (fun u => u ∈ (match waitL l.W x with | some o => putT (thingsL l.H x) o.th | none => thingsL l.H x)) (l.H.filter fun o => decide (o.x ≠ x)) [] (cutW x l.W) := by
  have hb1 : AllB (fun u => u ∈ (match waitL l.W x with | some o => putT (thingsL l.H x) o.th | none => thingsL l.H x)) l.H [] (cutW x l.W) := by
    have hall := h.b.weak (S' := fun u => u ∈ (match waitL l.W x with | some o => putT (thingsL l.H x) o.th | none => thingsL l.H x)) fun u hu => hu.elim
    cases hw : waitL l.W x with
    | none =>
      rw [cutW_none hw]
      rw [hw] at hall
      exact hall
    | some o =>
      obtain ⟨a, b, h1, h2, _⟩ := cutW_split hw
      rw [h2]
      rw [hw] at hall
      have hmem : o.th ∈ putT (thingsL l.H x) o.th := mem_putL.2 (.inr rfl)
      exact AllB.cut (by rw [← h1]; exact hall) hmem
  intro a o b e hs
  rcases hb1 a o b e hs with ⟨k, hk, e1, e2, e3⟩ | h1
  · refine .inl ⟨k, List.mem_filter.2 ⟨hk, decide_eq_true fun e4 => hs ?_⟩, e1, e2, e3⟩
    exact mem_all.2 (.inl ⟨k, hk, e4, e1⟩)
  · exact .inr h1
theorem LkOk.release {l : Lk} (h : LkOk l) (x : Int) : Freed l x (releaseL l x) := by
  have hH : HOk (l.H.filter fun o => decide (o.x ≠ x)) := ⟨fun o ho => h.h.good o ((List.mem_filter.1 ho).1), h.h.apart.sublist List.filter_sublist⟩
  have hW : WOk (l.H.filter fun o => decide (o.x ≠ x)) (cutW x l.W) := by
    have h1 := h.w.sub (cutW_sub x l.W)
    exact ⟨h1.good, h1.uni, fun o ho k hk => h1.more o ho k ((List.mem_filter.1 hk).1)⟩
  have hb := h.release_b x
  have hs := sweepAll_ok (l := ⟨l.H.filter fun o => decide (o.x ≠ x), cutW x l.W⟩) hH hW hb
  have e : releaseL l x = sweepAll (match waitL l.W x with | some o => putT (thingsL l.H x) o.th | none => thingsL l.H x) ⟨l.H.filter fun o => decide (o.x ≠ x), cutW x l.W⟩ := rfl
  rw [e]
  have hfree := cutW_free (x := x) h.w.uni
  have hsub := cutW_sub x l.W
  refine ⟨hs.ok, fun u hu => ?_, fun u hu => ?_, fun y hy => ?_, hs.le⟩
  · rcases hs.hx u hu with hu | hu
    · have := List.mem_filter.1 hu
      exact ⟨.inl this.1, of_decide_eq_true this.2⟩
    · exact ⟨.inr (hsub.mem hu), hfree u hu⟩
  · have := hs.wx u hu
    exact ⟨hsub.mem this, hfree u this⟩
  · obtain ⟨o, ho, e1⟩ := hs.ox y hy
    exact ⟨o, hsub.mem ho, e1, hfree o ho⟩
theorem LkOk.nil : LkOk ⟨[], []⟩ := ⟨⟨fun o ho => (by cases ho), List.Pairwise.nil⟩, ⟨fun o ho => (by cases ho), List.Pairwise.nil, fun o ho => (by cases ho)⟩, fun a o b e => (by simp at e)⟩
end Go.Proofs.YthbbheegkhlniaaGreat

/-
  Whoever waits has a blocker, and is none itself; what a row of calls leaves; Release of all leaves nothing.
-/
namespace Go.Proofs.YthbbheegkhlniaaGreat
open Go.RowKit Go.Lib

theorem waitL_self {W : List Od} (hu : W.Pairwise fun a b => a.x ≠ b.x) {o : Od} (ho : o ∈ W) : waitL W o.x = some o := by
  induction W with
  | nil => cases ho
  | cons y r ih =>
    have hp := List.pairwise_cons.1 hu
    unfold waitL
    rw [List.find?_cons]
    rcases List.mem_cons.1 ho with rfl | h
    · simp
    · rw [decide_eq_false (fun e => hp.1 o h e)]
      exact ih hp.2 h
theorem split_while {W : List Od} {o : Od} {a b : List Od} (e : W = a ++ o :: b) (ha : ∀ u ∈ a, u.x ≠ o.x) : W.takeWhile (fun u => decide (u.x ≠ o.x)) = a := by
  subst e
  induction a with
  | nil => simp
  | cons y r ih =>
    rw [List.cons_append, List.takeWhile_cons, if_pos (decide_eq_true (ha y List.mem_cons_self)), ih fun u hu => ha u (List.mem_cons_of_mem _ hu)]
theorem mem_blockL {l : Lk} {x y : Int} {o : Od} (h : waitL l.W x = some o) : y ∈ blockL l x ↔ (∃ k ∈ l.H, inWay o k = true ∧ k.x = y) ∨ ∃ a ∈ l.W.takeWhile (fun a => decide (a.x ≠ x)), ahead o a = true ∧ a.x = y := by
  unfold blockL putN
  rw [h]
  simp only
  rw [mem_fold_putL, mem_fold_putL]
  constructor
  · rintro ((h1 | ⟨k, hk, e⟩) | ⟨a, ha, e⟩)
    · cases h1
    · have := List.mem_filter.1 hk
      exact .inl ⟨k, this.1, this.2, e⟩
    · have := List.mem_filter.1 ha
      exact .inr ⟨a, this.1, this.2, e⟩
  · rintro (⟨k, hk, e1, e2⟩ | ⟨a, ha, e1, e2⟩)
    · exact .inl (.inr ⟨k, List.mem_filter.2 ⟨hk, e1⟩, e2⟩)
    · exact .inr ⟨a, List.mem_filter.2 ⟨ha, e1⟩, e2⟩
theorem blockL_none {l : Lk} {x : Int} (h : waitL l.W x = none) : blockL l x = [] := by unfold blockL; rw [h]
theorem takeWhile_ne {W : List Od} {x : Int} : ∀ u ∈ W.takeWhile (fun a => decide (a.x ≠ x)), u.x ≠ x := by
  induction W with
  | nil => intro u hu; cases hu
  | cons y r ih =>
    intro u hu
    rw [List.takeWhile_cons] at hu
    split at hu
    · rename_i e
      rcases List.mem_cons.1 hu with rfl | hu
      · exact of_decide_eq_true e
      · exact ih u hu
    · cases hu
/-- a blocker of somebody: it holds or waits, and is another one -/
theorem blockL_other {l : Lk} {x y : Int} (h : y ∈ blockL l x) : y ≠ x ∧ ((∃ k ∈ l.H, k.x = y) ∨ ∃ a ∈ l.W, a.x = y) := by
  cases hw : waitL l.W x with
  | none => rw [blockL_none hw] at h; cases h
  | some o =>
    have hx := (mem_waitL hw).2
    rcases (mem_blockL hw).1 h with ⟨k, hk, e1, e2⟩ | ⟨a, ha, e1, e2⟩
    · have := inWay_iff.1 e1
      exact ⟨by rw [← e2, ← hx]; exact this.2.1, .inl ⟨k, hk, e2⟩⟩
    · exact ⟨by rw [← e2]; exact takeWhile_ne a ha, .inr ⟨a, (List.takeWhile_sublist _).mem ha, e2⟩⟩
theorem LkOk.blocked {l : Lk} (h : LkOk l) {o : Od} (ho : o ∈ l.W) : blockL l o.x ≠ [] := by
  have hw := waitL_self h.w.uni ho
  obtain ⟨a, b, e⟩ := List.append_of_mem ho
  have hpw := h.w.uni
  rw [e, List.pairwise_append] at hpw
  have ha : ∀ u ∈ a, u.x ≠ o.x := fun u hu => hpw.2.2 u hu o List.mem_cons_self
  have htw := split_while e ha
  have hb := h.b a o b e (fun h9 => h9)
  rw [List.nil_append] at hb
  intro h0
  rcases hb with ⟨k, hk, e1⟩ | ⟨k, hk, e1⟩
  · have : k.x ∈ blockL l o.x := (mem_blockL hw).2 (.inl ⟨k, hk, inWay_iff.2 e1, rfl⟩)
    rw [h0] at this; cases this
  · have : k.x ∈ blockL l o.x := (mem_blockL hw).2 (.inr ⟨k, by rw [htw]; exact hk, ahead_iff.2 e1, rfl⟩)
    rw [h0] at this; cases this
/-- the transactions of some locks -/
def Lives (l : Lk) (x : Int) : Prop := (∃ k ∈ l.H, k.x = x) ∨ ∃ a ∈ l.W, a.x = x
theorem ask_lives {l : Lk} (h : LkOk l) {x y : Int} {t : Th} {m : Int} (hy : Lives (askL l x t m).1 y) : Lives l y ∨ y = x := by
  unfold askL at hy
  split at hy
  · exact .inl hy
  · split at hy
    · exact .inl hy
    · simp only at hy
      split at hy
      · exact .inl hy
      · generalize (if modeL l.H x t = 0 then m else jnI (modeL l.H x t) m) = m' at hy
        generalize (if modeL l.H x t = 0 then l.W.length else placeGo l.H t 0 0 l.W) = p at hy
        split at hy
        · rcases hy with ⟨k, hk, e⟩ | hy
          · rcases (mem_giveL h.h.apart).1 hk with rfl | hk
            · exact .inr e.symm
            · exact .inl (.inl ⟨k, hk.1, e⟩)
          · exact .inl (.inr hy)
        · rcases hy with hy | ⟨a, ha, e⟩
          · exact .inl (.inl hy)
          · rcases insL_mem.1 ha with rfl | ha
            · exact .inr e.symm
            · exact .inl (.inr ⟨a, ha, e⟩)
theorem cancel_lives {l : Lk} (h : LkOk l) {x y : Int} (hy : Lives (cancelL l x).1 y) : Lives l y := by
  unfold cancelL at hy
  cases hw : waitL l.W x with
  | none => rw [hw] at hy; exact hy
  | some o =>
    rw [hw] at hy
    obtain ⟨a, b, h1, h2, _⟩ := cutW_split hw
    have hb : AllB (fun u => u = o.th) l.H [] (cutW x l.W) := by
      rw [h2]
      exact AllB.cut (by rw [← h1]; exact h.b.weak fun u hu => hu.elim) rfl
    have hs := sweepL_ok (l := ⟨l.H, cutW x l.W⟩) (t := o.th) h.h (h.w.sub (cutW_sub x l.W)) hb
    have hsub := cutW_sub x l.W
    rcases hy with ⟨k, hk, e⟩ | ⟨a, ha, e⟩
    · rcases hs.hx k hk with hk | ⟨q, hq, _, e2⟩
      · exact .inl ⟨k, hk, e⟩
      · exact .inr ⟨k, hsub.mem (e2 ▸ hq), e⟩
    · exact .inr ⟨a, hsub.mem (by simpa using hs.wx a ha), e⟩
theorem release_lives {l : Lk} (h : LkOk l) {x y : Int} (hy : Lives (releaseL l x).1 y) : Lives l y ∧ y ≠ x := by
  have hf := h.release x
  rcases hy with ⟨k, hk, e⟩ | ⟨a, ha, e⟩
  · have := hf.hx k hk
    refine ⟨?_, by rw [← e]; exact this.2⟩
    rcases this.1 with h1 | h1
    · exact .inl ⟨k, h1, e⟩
    · exact .inr ⟨k, h1, e⟩
  · have := hf.wx a ha
    exact ⟨.inr ⟨a, this.1, e⟩, by rw [← e]; exact this.2⟩
theorem dead_waits {l : Lk} {x : Int} (h : ¬ Lives l x) : waitL l.W x = none := waitL_none.2 fun o ho e => h (.inr ⟨o, ho, e⟩)
theorem dead_things {l : Lk} {x : Int} (h : ¬ Lives l x) : thingsL l.H x = [] := by
  rw [List.eq_nil_iff_forall_not_mem]
  intro t ht
  obtain ⟨o, ho, e, _⟩ := mem_thingsL.1 ht
  exact h (.inl ⟨o, ho, e⟩)
theorem dead_state {l : Lk} (h : ∀ x, ¬ Lives l x) (t : Th) : stateL l t = [] := by
  have h1 : l.H = [] := List.eq_nil_iff_forall_not_mem.2 fun o ho => h o.x (.inl ⟨o, ho, rfl⟩)
  have h2 : l.W = [] := List.eq_nil_iff_forall_not_mem.2 fun o ho => h o.x (.inr ⟨o, ho, rfl⟩)
  unfold stateL
  rw [h1, h2]
  rfl
end Go.Proofs.YthbbheegkhlniaaGreat
