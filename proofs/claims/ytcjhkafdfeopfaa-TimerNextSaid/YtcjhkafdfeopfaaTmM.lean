/-
  Timers as plain mathematics: ids with their times, in order. Imports nothing of the program.
-/
import Derived.Test.YtcjhkafdfeopfaaChg
namespace Go.Proofs.Ytcjhkafdfeopfaa
open Go.RowKit Go.Lib

/-- an id and its time -/
structure On where
  i : Int
  t : Int
def ltO (a b : On) : Prop := a.t < b.t ∨ (a.t = b.t ∧ a.i < b.i)
instance (a b : On) : Decidable (ltO a b) := by unfold ltO; exact inferInstance
theorem ltO_trans {a b c : On} (h : ltO a b) (k : ltO b c) : ltO a c := by
  unfold ltO at *
  omega
theorem ltO_irr (a : On) : ¬ ltO a a := by
  unfold ltO
  omega
/-- of two with unlike ids one is below the other -/
theorem ltO_tot {a b : On} (h : a.i ≠ b.i) : ltO a b ∨ ltO b a := by
  unfold ltO
  omega
def atO (id : Int) : List On → Option Int
  | [] => none
  | a :: r => if a.i = id then some a.t else atO id r
def dropO (id : Int) : List On → List On
  | [] => []
  | a :: r => if a.i = id then r else a :: dropO id r
def plO (x : On) : List On → Nat
  | [] => 0
  | a :: r => if ltO a x then plO x r + 1 else 0
def insO (x : On) (l : List On) : List On := l.take (plO x l) ++ [x] ++ l.drop (plO x l)
def setO (x : On) (l : List On) : List On := insO x (dropO x.i l)
def nextO : List On → Option Int
  | [] => none
  | a :: _ => some a.t
def dueO (now : Int) (l : List On) : List On := l.takeWhile fun a => decide (a.t ≤ now)
def restO (now : Int) (l : List On) : List On := l.dropWhile fun a => decide (a.t ≤ now)
/-- in order, each id once -/
structure OkO (l : List On) : Prop where
  srt : l.Pairwise ltO
  uni : l.Pairwise fun a b => a.i ≠ b.i
theorem plO_le (x : On) : ∀ l, plO x l ≤ l.length
  | [] => Nat.le_refl _
  | a :: r => by
    unfold plO
    split
    · have := plO_le x r; simp; omega
    · exact Nat.zero_le _
theorem mem_dropO {id : Int} : ∀ {l : List On}, (l.Pairwise fun a b => a.i ≠ b.i) → ∀ {x : On}, x ∈ dropO id l ↔ x ∈ l ∧ x.i ≠ id
  | [], _, x => by simp [dropO]
  | a :: r, hu, x => by
    have hp := List.pairwise_cons.1 hu
    unfold dropO
    split
    · rename_i ha
      constructor
      · intro hx
        exact ⟨List.mem_cons_of_mem _ hx, fun e => hp.1 x hx (by rw [ha, e])⟩
      · rintro ⟨hx, hne⟩
        rcases List.mem_cons.1 hx with rfl | hx
        · exact absurd ha hne
        · exact hx
    · rename_i ha
      rw [List.mem_cons, List.mem_cons, mem_dropO hp.2]
      constructor
      · rintro (rfl | h)
        · exact ⟨.inl rfl, ha⟩
        · exact ⟨.inr h.1, h.2⟩
      · rintro ⟨rfl | h, hne⟩
        · exact .inl rfl
        · exact .inr ⟨h, hne⟩
theorem dropO_sub (id : Int) : ∀ l : List On, (dropO id l).Sublist l
  | [] => List.Sublist.slnil
  | a :: r => by
    unfold dropO
    split
    · exact List.sublist_cons_self _ _
    · exact (dropO_sub id r).cons_cons a
theorem OkO.drop {l : List On} (h : OkO l) (id : Int) : OkO (dropO id l) := ⟨h.srt.sublist (dropO_sub id l), h.uni.sublist (dropO_sub id l)⟩
theorem dropO_len (id : Int) : ∀ l : List On, (dropO id l).length = l.length - (if (atO id l).isSome then 1 else 0)
  | [] => by simp [dropO]
  | a :: r => by
    unfold dropO atO
    split
    · simp
    · rw [List.length_cons, dropO_len id r, List.length_cons]
      have h1 : (atO id r).isSome → 0 < r.length := by
        cases r with
        | nil => simp [atO]
        | cons b q => simp
      split
      · rename_i h; have := h1 h; omega
      · omega
theorem atO_some {id t : Int} : ∀ {l : List On}, (l.Pairwise fun a b => a.i ≠ b.i) → (atO id l = some t ↔ (⟨id, t⟩ : On) ∈ l)
  | [], _ => by simp [atO]
  | a :: r, hu => by
    have hp := List.pairwise_cons.1 hu
    unfold atO
    split
    · rename_i ha
      constructor
      · intro h
        obtain rfl := Option.some.inj h
        rw [← ha]
        exact List.mem_cons_self
      · intro h
        rcases List.mem_cons.1 h with h | h
        · rw [← h]
        · exact absurd ha (hp.1 _ h)
    · rename_i ha
      rw [atO_some hp.2, List.mem_cons]
      constructor
      · exact .inr
      · rintro (h | h)
        · exact absurd (by rw [← h]) ha
        · exact h
theorem atO_none {id : Int} : ∀ {l : List On}, atO id l = none ↔ ∀ x ∈ l, x.i ≠ id
  | [] => by simp [atO]
  | a :: r => by
    unfold atO
    split
    · rename_i ha
      constructor
      · intro h; cases h
      · intro h; exact absurd ha (h a List.mem_cons_self)
    · rename_i ha
      rw [atO_none]
      constructor
      · intro h x hx
        rcases List.mem_cons.1 hx with rfl | hx
        · exact ha
        · exact h x hx
      · intro h x hx
        exact h x (List.mem_cons_of_mem _ hx)
theorem plO_lt {x : On} : ∀ {l : List On} {q : Nat} (h : q < l.length), q < plO x l → ltO l[q] x
  | a :: r, 0, h, hq => by
    unfold plO at hq
    split at hq
    · rename_i ha; exact ha
    · exact absurd hq (Nat.lt_irrefl _)
  | a :: r, q + 1, h, hq => by
    unfold plO at hq
    split at hq
    · exact plO_lt (l := r) (q := q) (by simpa using h) (by omega)
    · exact absurd hq (by omega)
theorem plO_ge {x : On} : ∀ {l : List On} (h : plO x l < l.length), ¬ ltO l[plO x l] x
  | a :: r, h => by
    by_cases ha : ltO a x
    · have e : plO x (a :: r) = plO x r + 1 := by rw [plO, if_pos ha]
      have h2 : plO x r < r.length := by rw [e] at h; simpa using h
      have h3 := plO_ge (x := x) (l := r) h2
      intro h4
      apply h3
      have : (a :: r)[plO x (a :: r)] = r[plO x r] := by simp [e]
      rw [this] at h4
      exact h4
    · have e : plO x (a :: r) = 0 := by rw [plO, if_neg ha]
      intro h4
      apply ha
      have : (a :: r)[plO x (a :: r)] = a := by simp [e]
      rw [this] at h4
      exact h4
theorem mem_insO {x y : On} {l : List On} : y ∈ insO x l ↔ y ∈ l ∨ y = x := by
  unfold insO
  have h := List.take_append_drop (plO x l) l
  have h2 : y ∈ l ↔ y ∈ l.take (plO x l) ∨ y ∈ l.drop (plO x l) := by
    conv => lhs; rw [← h]
    exact List.mem_append
  rw [h2]
  simp only [List.mem_append, List.mem_singleton]
  constructor
  · rintro ((h | h) | h)
    · exact .inl (.inl h)
    · exact .inr h
    · exact .inl (.inr h)
  · rintro ((h | h) | h)
    · exact .inl (.inl h)
    · exact .inr h
    · exact .inl (.inr h)
theorem insO_len (x : On) (l : List On) : (insO x l).length = l.length + 1 := by
  have := plO_le x l
  unfold insO
  simp
  omega
/-- put in where its id is not there -/
theorem OkO.ins {l : List On} (h : OkO l) {x : On} (hx : ∀ y ∈ l, y.i ≠ x.i) : OkO (insO x l) := by
  have hle := plO_le x l
  have hs := h.srt
  rw [← List.take_append_drop (plO x l) l] at hs
  obtain ⟨s1, s2, s3⟩ := List.pairwise_append.1 hs
  have hu := h.uni
  rw [← List.take_append_drop (plO x l) l] at hu
  obtain ⟨u1, u2, u3⟩ := List.pairwise_append.1 hu
  have low : ∀ y ∈ l.take (plO x l), ltO y x := fun y hy => by
    obtain ⟨q, hq, rfl⟩ := List.mem_iff_getElem.1 hy
    rw [List.length_take] at hq
    rw [List.getElem_take]
    exact plO_lt (by omega) (by omega)
  have high : ∀ y ∈ l.drop (plO x l), ltO x y := fun y hy => by
    rcases Nat.lt_or_ge (plO x l) l.length with hlt | hge
    · have h1 := plO_ge hlt
      have h2 : ltO x l[plO x l] := (ltO_tot (hx _ (List.getElem_mem hlt))).elim (fun h => absurd h h1) id
      rw [List.drop_eq_getElem_cons hlt] at hy s2
      rcases List.mem_cons.1 hy with rfl | hy
      · exact h2
      · exact ltO_trans h2 ((List.pairwise_cons.1 s2).1 y hy)
    · rw [List.drop_eq_nil_of_le hge] at hy
      cases hy
  have mt : ∀ y ∈ l.take (plO x l), y ∈ l := fun y hy => List.mem_of_mem_take hy
  have md : ∀ y ∈ l.drop (plO x l), y ∈ l := fun y hy => List.mem_of_mem_drop hy
  unfold insO
  rw [List.append_assoc, List.singleton_append]
  refine ⟨List.pairwise_append.2 ⟨s1, List.pairwise_cons.2 ⟨high, s2⟩, fun a ha b hb => ?_⟩, List.pairwise_append.2 ⟨u1, List.pairwise_cons.2 ⟨fun y hy => (hx y (md y hy)).symm, u2⟩, fun a ha b hb => ?_⟩⟩
  · rcases List.mem_cons.1 hb with rfl | hb
    · exact low a ha
    · exact s3 a ha b hb
  · rcases List.mem_cons.1 hb with rfl | hb
    · exact hx a (mt a ha)
    · exact u3 a ha b hb
theorem OkO.set {l : List On} (h : OkO l) (x : On) : OkO (setO x l) := (h.drop x.i).ins fun _ hy => ((mem_dropO h.uni).1 hy).2
theorem mem_setO {x y : On} {l : List On} (h : OkO l) : y ∈ setO x l ↔ (y ∈ l ∧ y.i ≠ x.i) ∨ y = x := by
  unfold setO
  rw [mem_insO, mem_dropO h.uni]
theorem OkO.nil : OkO [] := ⟨List.Pairwise.nil, List.Pairwise.nil⟩
theorem OkO.rest {l : List On} (h : OkO l) (now : Int) : OkO (restO now l) := ⟨h.srt.sublist (List.dropWhile_sublist _), h.uni.sublist (List.dropWhile_sublist _)⟩
theorem due_rest (now : Int) (l : List On) : dueO now l ++ restO now l = l := List.takeWhile_append_dropWhile
/-- in order, what is due is what has a time that has come -/
theorem mem_dueO {now : Int} : ∀ {l : List On}, l.Pairwise ltO → ∀ {x : On}, x ∈ dueO now l ↔ x ∈ l ∧ x.t ≤ now
  | [], _, x => by simp [dueO]
  | a :: r, hs, x => by
    have hp := List.pairwise_cons.1 hs
    unfold dueO
    rw [List.takeWhile_cons]
    split
    · rename_i ha
      have ha' : a.t ≤ now := of_decide_eq_true ha
      rw [List.mem_cons, List.mem_cons]
      have ih := mem_dueO (now := now) hp.2 (x := x)
      unfold dueO at ih
      rw [ih]
      constructor
      · rintro (rfl | h)
        · exact ⟨.inl rfl, ha'⟩
        · exact ⟨.inr h.1, h.2⟩
      · rintro ⟨rfl | h, h2⟩
        · exact .inl rfl
        · exact .inr ⟨h, h2⟩
    · rename_i ha
      have ha' : ¬ a.t ≤ now := fun h => ha (decide_eq_true h)
      constructor
      · intro h; cases h
      · rintro ⟨h, h2⟩
        rcases List.mem_cons.1 h with rfl | h
        · exact absurd h2 ha'
        · have h3 := hp.1 x h
          unfold ltO at h3
          omega
theorem mem_restO {now : Int} : ∀ {l : List On}, l.Pairwise ltO → ∀ {x : On}, x ∈ restO now l ↔ x ∈ l ∧ now < x.t
  | [], _, x => by simp [restO]
  | a :: r, hs, x => by
    have hp := List.pairwise_cons.1 hs
    unfold restO
    rw [List.dropWhile_cons]
    split
    · rename_i ha
      have ha' : a.t ≤ now := of_decide_eq_true ha
      have ih := mem_restO (now := now) hp.2 (x := x)
      unfold restO at ih
      rw [ih, List.mem_cons]
      constructor
      · rintro ⟨h, h2⟩
        exact ⟨.inr h, h2⟩
      · rintro ⟨rfl | h, h2⟩
        · omega
        · exact ⟨h, h2⟩
    · rename_i ha
      have ha' : ¬ a.t ≤ now := fun h => ha (decide_eq_true h)
      constructor
      · intro h
        refine ⟨h, ?_⟩
        rcases List.mem_cons.1 h with rfl | h
        · omega
        · have h3 := hp.1 x h
          unfold ltO at h3
          omega
      · exact fun h => h.1
theorem dueO_le {now : Int} : ∀ {l : List On}, ∀ x ∈ dueO now l, x.t ≤ now
  | [], x, hx => by cases hx
  | a :: r, x, hx => by
    unfold dueO at hx
    rw [List.takeWhile_cons] at hx
    split at hx
    · rename_i ha
      rcases List.mem_cons.1 hx with rfl | hx
      · exact of_decide_eq_true ha
      · exact dueO_le (l := r) x hx
    · cases hx
end Go.Proofs.Ytcjhkafdfeopfaa
