/-
  Plain mathematics for layer 6: a page's bytes as a list of slots. Imports nothing of the program.
-/
import Derived.Test.YtdnegfjddpdmhaaDoorWords
namespace Go.Proofs.YtdnegfjddpdmhaaDoor
open Go.RowKit Go.Lib

abbrev Slot := Option (List Int)
def mkS : Slot → Int
  | none => 0
  | some b => (b.length : Int) + 1
def bsS : Slot → List Int
  | none => []
  | some b => b
def marksP (s : List Slot) : List Int := s.map mkS
def rowsP : List Slot → List Int
  | [] => []
  | o :: r => rowsP r ++ bsS o
def wtP (s : List Slot) : Nat := (rowsP s).length
def imgP (s : List Slot) : List Int := (s.length : Int) :: (marksP s ++ (List.replicate (255 - s.length - wtP s) 0 ++ rowsP s))
def sumN : List Int → Nat
  | [] => 0
  | m :: r => (m - 1).toNat + sumN r

/-- no slot of more than 200 bytes; all fit in a page -/
structure Fit (s : List Slot) : Prop where
  byt : ∀ o ∈ s, IsBytes (bsS o)
  len : ∀ o ∈ s, (bsS o).length ≤ 200
  room : 1 + s.length + wtP s ≤ 256
def TrimP (s : List Slot) : Prop := s.getLast? ≠ some none
structure IsPg (p : List Int) (s : List Slot) : Prop where
  fit : Fit s
  trim : TrimP s
  img : p = imgP s

theorem mkS_pos (o : Slot) : 0 ≤ mkS o := by cases o <;> simp [mkS]; omega
theorem mkS_zero {o : Slot} : mkS o = 0 ↔ o = none := by
  cases o with
  | none => simp [mkS]
  | some b => simp [mkS]; omega
theorem mkS_bs (o : Slot) : (mkS o - 1).toNat = (bsS o).length := by cases o <;> simp [mkS, bsS]
theorem mkS_some {o : Slot} (h : o ≠ none) : mkS o = (bsS o).length + 1 := by
  cases o with
  | none => exact absurd rfl h
  | some b => rfl
theorem some_bs {o : Slot} (h : o ≠ none) : o = some (bsS o) := by
  cases o with
  | none => exact absurd rfl h
  | some b => rfl

theorem marks_len (s : List Slot) : (marksP s).length = s.length := by simp [marksP]
theorem marks_append (a b : List Slot) : marksP (a ++ b) = marksP a ++ marksP b := by simp [marksP]
theorem marks_take (s : List Slot) (k : Nat) : (marksP s).take k = marksP (s.take k) := by simp [marksP]
theorem marks_at (s : List Slot) (k : Nat) : (marksP s)[k]? = (s[k]?).map mkS := by simp [marksP]
theorem marks_none (k : Nat) : marksP (List.replicate k none) = List.replicate k 0 := by simp [marksP, mkS]
theorem rows_append (a b : List Slot) : rowsP (a ++ b) = rowsP b ++ rowsP a := by
  induction a with
  | nil => simp [rowsP]
  | cons o a ih => simp [rowsP, ih]
theorem rows_none (k : Nat) : rowsP (List.replicate k none) = [] := by
  induction k with
  | zero => rfl
  | succ k ih => simp [List.replicate_succ, rowsP, ih, bsS]
theorem wt_append (a b : List Slot) : wtP (a ++ b) = wtP a + wtP b := by simp [wtP, rows_append]; omega
theorem wt_cons (o : Slot) (r : List Slot) : wtP (o :: r) = (bsS o).length + wtP r := by simp [wtP, rowsP]; omega
theorem wt_nil : wtP [] = 0 := rfl
theorem wt_none (k : Nat) : wtP (List.replicate k none) = 0 := by simp [wtP, rows_none]
theorem wt_take_le (s : List Slot) (k : Nat) : wtP (s.take k) ≤ wtP s := by
  conv => rhs; rw [← List.take_append_drop k s, wt_append]
  omega
theorem sum_marks (s : List Slot) : sumN (marksP s) = wtP s := by
  induction s with
  | nil => rfl
  | cons o r ih =>
    show (mkS o - 1).toNat + sumN (marksP r) = _
    rw [wt_cons, mkS_bs, ih]
theorem sum_append (a b : List Int) : sumN (a ++ b) = sumN a + sumN b := by
  induction a with
  | nil => simp [sumN]
  | cons m a ih => simp [sumN, ih]; omega
theorem split_at {s : List Slot} {k : Nat} {o : Slot} (h : s[k]? = some o) : s = s.take k ++ o :: s.drop (k + 1) := by
  obtain ⟨hk, rfl⟩ := List.getElem?_eq_some_iff.1 h
  rw [← List.drop_eq_getElem_cons hk, List.take_append_drop]
theorem take_succ_at {s : List Slot} {k : Nat} {o : Slot} (h : s[k]? = some o) : s.take (k + 1) = s.take k ++ [o] := by
  rw [List.take_add_one, h]; rfl
theorem wt_take_succ {s : List Slot} {k : Nat} {o : Slot} (h : s[k]? = some o) : wtP (s.take (k + 1)) = wtP (s.take k) + (bsS o).length := by
  rw [take_succ_at h, wt_append, wt_cons, wt_nil]; omega
theorem rows_split {s : List Slot} {k : Nat} {o : Slot} (h : s[k]? = some o) : rowsP s = rowsP (s.drop (k + 1)) ++ (bsS o ++ rowsP (s.take k)) := by
  conv => lhs; rw [split_at h, rows_append]
  simp [rowsP]
theorem rows_cut (s : List Slot) (k : Nat) : rowsP s = rowsP (s.drop k) ++ rowsP (s.take k) := by
  conv => lhs; rw [← List.take_append_drop k s, rows_append]

theorem Fit.img_len {s : List Slot} (h : Fit s) : (imgP s).length = 256 := by
  have := h.room
  simp [imgP, marks_len]
  have : wtP s = (rowsP s).length := rfl
  omega
theorem rows_bytes {s : List Slot} (h : ∀ o ∈ s, IsBytes (bsS o)) : IsBytes (rowsP s) := by
  induction s with
  | nil => exact .nil
  | cons o r ih => exact .append (ih fun x hx => h x (by simp [hx])) (h o (by simp))
theorem Fit.img_bytes {s : List Slot} (h : Fit s) : IsBytes (imgP s) := by
  refine .cons (by have := h.room; omega) (.append ?_ (.append ?_ (rows_bytes h.byt)))
  · intro x hx
    simp only [marksP, List.mem_map] at hx
    obtain ⟨o, ho, rfl⟩ := hx
    have := h.len o ho
    cases o with
    | none => simp [mkS]
    | some b => simp only [mkS, bsS] at this ⊢; omega
  · intro x hx
    have := List.eq_of_mem_replicate hx
    omega
theorem Fit.nil : Fit [] := ⟨fun _ h => (by cases h), fun _ h => (by cases h), by simp [wtP, rowsP]⟩
theorem TrimP.nil : TrimP [] := by simp [TrimP]

/-- slots out of marks and bytes -/
def readP : List Int → List Int → List Slot
  | [], _ => []
  | m :: ms, body => if m = 0 then none :: readP ms body
    else some (body.drop (body.length - (m - 1).toNat)) :: readP ms (body.take (body.length - (m - 1).toNat))

theorem read_of (s : List Slot) : readP (marksP s) (rowsP s) = s := by
  induction s with
  | nil => rfl
  | cons o r ih =>
    show readP (mkS o :: marksP r) (rowsP r ++ bsS o) = _
    rw [readP]
    cases o with
    | none => simp [mkS, bsS, ih]
    | some b =>
      rw [if_neg (by simp only [mkS]; omega)]
      simp only [mkS, bsS]
      rw [show (((b.length : Int) + 1) - 1).toNat = b.length by omega]
      simp [ih]
theorem read_marks (ms : List Int) : ∀ body, (∀ m ∈ ms, 0 ≤ m) → sumN ms ≤ body.length → marksP (readP ms body) = ms ∧ rowsP (readP ms body) = body.drop (body.length - sumN ms) := by
  induction ms with
  | nil => intro body _ _; simp [readP, marksP, rowsP, sumN]
  | cons m ms ih =>
    intro body hp hs
    have hm := hp m (by simp)
    simp only [sumN] at hs
    rw [readP]
    split
    · rename_i h0
      subst h0
      obtain ⟨h1, h2⟩ := ih body (fun x hx => hp x (by simp [hx])) (by omega)
      simp only [marksP, List.map_cons, mkS] at h1 ⊢
      refine ⟨by rw [h1], ?_⟩
      simp only [rowsP, bsS, h2, sumN]
      simp
    · rename_i h0
      have hl : (body.take (body.length - (m - 1).toNat)).length = body.length - (m - 1).toNat := by simp
      obtain ⟨h1, h2⟩ := ih (body.take (body.length - (m - 1).toNat)) (fun x hx => hp x (by simp [hx])) (by omega)
      simp only [marksP, List.map_cons, mkS] at h1 ⊢
      refine ⟨by rw [h1]; congr 1; simp; omega, ?_⟩
      simp only [rowsP, bsS, h2, sumN, hl]
      have e1 : body.drop (body.length - ((m - 1).toNat + sumN ms)) = (body.drop (body.length - (m - 1).toNat - sumN ms)) := by congr 1; omega
      rw [e1]
      rw [← List.drop_append_of_le_length (l₂ := body.drop (body.length - (m - 1).toNat)) (by rw [hl]; omega), List.take_append_drop]
theorem read_len (ms body : List Int) : (readP ms body).length = ms.length := by
  induction ms generalizing body with
  | nil => rfl
  | cons m ms ih => rw [readP]; split <;> simp [ih]

theorem Fit.unique {s s' : List Slot} (h : imgP s = imgP s') : s = s' := by
  simp only [imgP, List.cons.injEq] at h
  obtain ⟨h1, h2⟩ := h
  have hl : s.length = s'.length := by omega
  obtain ⟨h3, h4⟩ := List.append_inj h2 (by rw [marks_len, marks_len, hl])
  have hw : wtP s = wtP s' := by rw [← sum_marks, ← sum_marks, h3]
  rw [hl, hw] at h4
  have h5 := List.append_cancel_left h4
  rw [← read_of s, ← read_of s', h3, h5]
theorem IsPg.unique {p : List Int} {s s' : List Slot} (h : IsPg p s) (h' : IsPg p s') : s = s' := Fit.unique (h.img.symm.trans h'.img)

section
variable {p : List Int} {s : List Slot}
theorem IsPg.len (h : IsPg p s) : p.length = 256 := by rw [h.img]; exact h.fit.img_len
theorem IsPg.bytes (h : IsPg p s) : IsBytes p := by rw [h.img]; exact h.fit.img_bytes
theorem IsPg.head (h : IsPg p s) : p[0]? = some (s.length : Int) := by rw [h.img]; rfl
theorem IsPg.slots (h : IsPg p s) : s.length + wtP s ≤ 255 := by have := h.fit.room; omega
theorem IsPg.marks (h : IsPg p s) : (p.drop 1).take s.length = marksP s := by
  rw [h.img, imgP]
  simp [List.take_append, marks_len]
theorem IsPg.mark (h : IsPg p s) {k : Nat} {o : Slot} (ho : s[k]? = some o) : p[1 + k]? = some (mkS o) := by
  have hk : k < s.length := (List.getElem?_eq_some_iff.1 ho).1
  rw [h.img, imgP, Nat.add_comm, List.getElem?_cons_succ, List.getElem?_append_left (by rw [marks_len]; exact hk), marks_at, ho]
  rfl
/-- the bytes of the slots ahead of k, at the page's end -/
theorem IsPg.tail (h : IsPg p s) (k : Nat) : p.drop (256 - wtP (s.take k)) = rowsP (s.take k) := by
  have h1 := h.len
  have hw := wt_take_le s k
  have h2 := h.slots
  have hp : p = ((s.length : Int) :: (marksP s ++ (List.replicate (255 - s.length - wtP s) 0 ++ rowsP (s.drop k)))) ++ rowsP (s.take k) := by
    conv => lhs; rw [h.img, imgP, rows_cut s k]
    simp
  have hl : ((s.length : Int) :: (marksP s ++ (List.replicate (255 - s.length - wtP s) 0 ++ rowsP (s.drop k)))).length = 256 - wtP (s.take k) := by
    have := congrArg List.length hp
    rw [List.length_append, h1] at this
    have e : (rowsP (s.take k)).length = wtP (s.take k) := rfl
    omega
  conv => lhs; rw [hp, ← hl]
  exact List.drop_left
theorem IsPg.mid (h : IsPg p s) (k : Nat) : (p.drop (256 - wtP s)).take (wtP s - wtP (s.take k)) = rowsP (s.drop k) := by
  have h0 := h.tail s.length
  rw [List.take_length] at h0
  rw [h0, rows_cut s k]
  have e : (rowsP s).length = wtP s := rfl
  have e2 := congrArg List.length (rows_cut s k)
  rw [List.length_append] at e2
  have e3 : (rowsP (s.take k)).length = wtP (s.take k) := rfl
  exact List.take_left' (by omega)
theorem IsPg.got (h : IsPg p s) {k : Nat} {o : Slot} (ho : s[k]? = some o) : (p.drop (256 - wtP (s.take (k + 1)))).take ((bsS o).length) = bsS o := by
  rw [h.tail (k + 1), take_succ_at ho, rows_append]
  simp [rowsP]
end

/-! ### what a slot is set to -/
def padP (s : List Slot) (m : Nat) : List Slot := s ++ List.replicate (m - s.length) none
def setP (s : List Slot) (k : Nat) (o : Slot) : List Slot := (padP s (k + 1)).set k o
def ownP (s : List Slot) (k : Nat) : Nat := (bsS ((s[k]?).getD none)).length

theorem pad_len (s : List Slot) (m : Nat) : (padP s m).length = max s.length m := by simp [padP]; omega
theorem set_len (s : List Slot) (k : Nat) (o : Slot) : (setP s k o).length = max s.length (k + 1) := by simp [setP, pad_len]
theorem pad_wt (s : List Slot) (m : Nat) : wtP (padP s m) = wtP s := by simp [padP, wt_append, wt_none]
theorem pad_at (s : List Slot) (m k : Nat) (hk : k < m) : (padP s m)[k]? = some ((s[k]?).getD none) := by
  unfold padP
  rcases Nat.lt_or_ge k s.length with h | h
  · rw [List.getElem?_append_left h, List.getElem?_eq_getElem h]; rfl
  · rw [List.getElem?_append_right h, List.getElem?_replicate, if_pos (by omega), List.getElem?_eq_none h]; rfl
theorem set_form (s : List Slot) (k : Nat) (o : Slot) : setP s k o = (padP s (k + 1)).take k ++ o :: (padP s (k + 1)).drop (k + 1) := by
  unfold setP
  rw [List.set_eq_take_append_cons_drop, if_pos (by rw [pad_len]; omega)]
theorem pad_take (s : List Slot) (m k : Nat) : ∃ j, (padP s m).take k = s.take k ++ List.replicate j none := by
  refine ⟨min (k - s.length) (m - s.length), ?_⟩
  simp [padP, List.take_append, List.take_replicate]
theorem pad_drop (s : List Slot) (m k : Nat) (hm : m ≤ k) : (padP s m).drop k = s.drop k := by
  simp [padP, List.drop_append]
  omega
theorem pad_rows_take (s : List Slot) (m k : Nat) : rowsP ((padP s m).take k) = rowsP (s.take k) := by
  obtain ⟨j, h⟩ := pad_take s m k
  rw [h, rows_append, rows_none]; rfl
theorem set_rows (s : List Slot) (k : Nat) (o : Slot) : rowsP (setP s k o) = rowsP (s.drop (k + 1)) ++ (bsS o ++ rowsP (s.take k)) := by
  rw [set_form, rows_append, pad_drop _ _ _ (Nat.le_refl _)]
  simp only [rowsP, List.append_assoc, pad_rows_take]
theorem wt_parts (s : List Slot) (k : Nat) : wtP s = wtP (s.drop (k + 1)) + ownP s k + wtP (s.take k) := by
  unfold ownP
  rcases Nat.lt_or_ge k s.length with h | h
  · have e := List.getElem?_eq_getElem h
    conv => lhs; rw [split_at e, wt_append, wt_cons]
    rw [e]
    simp only [Option.getD_some]
    omega
  · rw [List.getElem?_eq_none h, List.take_of_length_le h, List.drop_eq_nil_of_le (by omega)]
    simp [bsS, wt_nil]
theorem set_wt (s : List Slot) (k : Nat) (o : Slot) : wtP (setP s k o) + ownP s k = wtP s + (bsS o).length := by
  have h1 : wtP (setP s k o) = wtP (s.drop (k + 1)) + ((bsS o).length + wtP (s.take k)) := by
    rw [wtP, set_rows]; simp [wtP]
  have := wt_parts s k
  omega
theorem set_at (s : List Slot) (k : Nat) (o : Slot) : (setP s k o)[k]? = some o := by
  unfold setP
  rw [List.getElem?_set_self (by rw [pad_len]; omega)]
theorem set_far (s : List Slot) (k : Nat) (o : Slot) (j : Nat) (h : j ≠ k) : ((setP s k o)[j]?).getD none = (s[j]?).getD none := by
  unfold setP
  rw [List.getElem?_set_ne (fun e => h e.symm)]
  rcases Nat.lt_or_ge j (k + 1) with h1 | h1
  · rw [pad_at s _ j h1]; rfl
  · unfold padP
    rcases Nat.lt_or_ge j s.length with h2 | h2
    · rw [List.getElem?_append_left h2]
    · rw [List.getElem?_append_right h2, List.getElem?_replicate, if_neg (by omega), List.getElem?_eq_none h2]
theorem pad_mem {s : List Slot} {m : Nat} {o : Slot} (h : o ∈ padP s m) : o ∈ s ∨ o = none := by
  rcases List.mem_append.1 h with h | h
  · exact .inl h
  · exact .inr (List.eq_of_mem_replicate h)
theorem set_mem {s : List Slot} {k : Nat} {o x : Slot} (h : x ∈ setP s k o) : x ∈ s ∨ x = none ∨ x = o := by
  rcases List.mem_or_eq_of_mem_set h with h | h
  · rcases pad_mem h with h | h
    · exact .inl h
    · exact .inr (.inl h)
  · exact .inr (.inr h)
theorem set_trim {s : List Slot} {k : Nat} {b : List Int} (h : TrimP s) : TrimP (setP s k (some b)) := by
  unfold TrimP
  rw [List.getLast?_eq_getElem?, set_len]
  rcases Nat.lt_or_ge k (s.length - 1) with h1 | h1
  · have e : (setP s k (some b))[max s.length (k + 1) - 1]? = s[s.length - 1]? := by
      rw [show max s.length (k + 1) = s.length by omega]
      unfold setP
      rw [List.getElem?_set_ne (by omega)]
      unfold padP
      rw [List.getElem?_append_left (by omega)]
    rw [e, ← List.getLast?_eq_getElem?]
    exact h
  · rw [show max s.length (k + 1) - 1 = k by omega, set_at]
    simp
/-- how many bytes may be put in slot k at most -/
def roomP (s : List Slot) (k : Nat) : Int := min 200 ((256 - wtP s : Int) + ownP s k - 1 - (max s.length (k + 1) : Nat))
theorem set_fit {s : List Slot} {k : Nat} {b : List Int} (h : Fit s) (hb : IsBytes b) (hr : (b.length : Int) ≤ roomP s k) : Fit (setP s k (some b)) := by
  have hw := set_wt s k (some b)
  simp only [bsS] at hw
  unfold roomP at hr
  refine ⟨fun o ho => ?_, fun o ho => ?_, ?_⟩
  · rcases set_mem ho with h1 | rfl | rfl
    · exact h.byt o h1
    · exact .nil
    · exact hb
  · rcases set_mem ho with h1 | rfl | rfl
    · exact h.len o h1
    · simp [bsS]
    · simp only [bsS]; omega
  · rw [set_len]; omega
theorem set_room {s : List Slot} {k : Nat} {b : List Int} (h : Fit (setP s k (some b))) : (b.length : Int) ≤ roomP s k := by
  have hw := set_wt s k (some b)
  have h1 := h.room
  have h2 := h.len (some b) (by have := set_at s k (some b); exact List.mem_of_getElem? this)
  rw [set_len] at h1
  simp only [bsS] at hw h2
  unfold roomP
  omega

/-! ### free slots at the end -/
def trimP : List Slot → List Slot
  | [] => []
  | o :: r => if o = none ∧ trimP r = [] then [] else o :: trimP r
theorem trim_split (t : List Slot) : ∃ j, t = trimP t ++ List.replicate j none := by
  induction t with
  | nil => exact ⟨0, rfl⟩
  | cons o r ih =>
    obtain ⟨j, hj⟩ := ih
    rw [trimP]
    split
    · rename_i h
      refine ⟨j + 1, ?_⟩
      rw [h.2] at hj
      conv => lhs; rw [h.1, hj]
      simp [List.replicate_succ]
    · refine ⟨j, ?_⟩
      conv => lhs; rw [hj]
      rfl
theorem trim_trim (t : List Slot) : TrimP (trimP t) := by
  induction t with
  | nil => exact .nil
  | cons o r ih =>
    rw [trimP]
    split
    · exact .nil
    · rename_i h
      unfold TrimP at ih ⊢
      rw [List.getLast?_cons]
      cases hr : (trimP r).getLast? with
      | none =>
        have : trimP r = [] := List.getLast?_eq_none_iff.1 hr
        simp only [Option.getD_none]
        intro e
        exact h ⟨Option.some.inj e, this⟩
      | some x =>
        rw [hr] at ih
        simpa using ih
theorem trim_id {t : List Slot} (h : TrimP t) : trimP t = t := by
  obtain ⟨j, hj⟩ := trim_split t
  rcases Nat.eq_zero_or_pos j with rfl | h0
  · conv => rhs; rw [hj]
    simp
  · exfalso
    unfold TrimP at h
    rw [hj] at h
    obtain ⟨j, rfl⟩ : ∃ i, j = i + 1 := ⟨j - 1, by omega⟩
    rw [List.replicate_succ', ← List.append_assoc] at h
    simp at h
theorem trim_eq {a : List Slot} {j : Nat} (h : TrimP a) : trimP (a ++ List.replicate j none) = a := by
  induction a with
  | nil =>
    induction j with
    | zero => rfl
    | succ j ih => simp only [List.replicate_succ, List.nil_append] at ih ⊢; rw [trimP, ih]; simp
  | cons o a ih =>
    have ha : TrimP a := by
      unfold TrimP at h ⊢
      rw [List.getLast?_cons] at h
      intro e
      rw [e] at h
      exact h rfl
    rw [List.cons_append, trimP, ih ha]
    rw [if_neg]
    rintro ⟨rfl, rfl⟩
    exact h rfl
theorem trim_fit {t : List Slot} (h : Fit t) : Fit (trimP t) := by
  obtain ⟨j, hj⟩ := trim_split t
  have hm : ∀ o ∈ trimP t, o ∈ t := fun o ho => by rw [hj]; exact List.mem_append.2 (.inl ho)
  refine ⟨fun o ho => h.byt o (hm o ho), fun o ho => h.len o (hm o ho), ?_⟩
  have h1 := h.room
  rw [hj, wt_append, List.length_append] at h1
  omega
/-- the bytes of the slots without the free ones at the end: but for the first byte the same -/
theorem trim_img {t : List Slot} (h : Fit t) : imgP (trimP t) = ((trimP t).length : Int) :: (imgP t).drop 1 := by
  obtain ⟨j, hj⟩ := trim_split t
  have h1 := h.room
  have hw : wtP t = wtP (trimP t) := by conv => lhs; rw [hj, wt_append, wt_none]
                                        rfl
  have hr : rowsP t = rowsP (trimP t) := by conv => lhs; rw [hj, rows_append, rows_none]
                                            rfl
  have hm : marksP t = marksP (trimP t) ++ List.replicate j 0 := by conv => lhs; rw [hj, marks_append, marks_none]
  have hl : t.length = (trimP t).length + j := by conv => lhs; rw [hj]
                                                  simp
  simp only [imgP, List.drop_succ_cons, List.drop_zero]
  rw [hm, hr, hw, List.append_assoc, ← List.append_assoc (List.replicate j 0), List.replicate_append_replicate]
  congr 5
  omega
theorem cut_fit {s : List Slot} {k : Nat} (h : Fit s) (hk : k < s.length) : Fit (setP s k none) := by
  have hw := set_wt s k none
  have h1 := h.room
  simp only [bsS, List.length_nil] at hw
  refine ⟨fun o ho => ?_, fun o ho => ?_, ?_⟩
  · rcases set_mem ho with h1 | rfl | rfl
    · exact h.byt o h1
    · exact .nil
    · exact .nil
  · rcases set_mem ho with h1 | rfl | rfl
    · exact h.len o h1
    · simp [bsS]
    · simp [bsS]
  · rw [set_len]; omega

/-! ### which bytes are a page -/
theorem right_of {p : List Int} (hp : p.length = 256) (hb : IsBytes p) (n : Nat) (hn : p[0]? = some (n : Int))
    (hm : ∀ m ∈ (p.drop 1).take n, m ≤ 201) (hl : ((p.drop 1).take n).getLast? ≠ some 0) (hs : 1 + n + sumN ((p.drop 1).take n) ≤ 256)
    (hz : ∀ j, 1 + n ≤ j → j < 256 - sumN ((p.drop 1).take n) → p[j]? = some 0) :
    IsPg p (readP ((p.drop 1).take n) (p.drop (256 - sumN ((p.drop 1).take n)))) := by
  generalize hms : (p.drop 1).take n = ms at *
  have hml : ms.length = n := by rw [← hms]; simp; omega
  have hmb : IsBytes ms := by rw [← hms]; exact (hb.drop 1).take n
  have hbl : (p.drop (256 - sumN ms)).length = sumN ms := by simp; omega
  obtain ⟨h1, h2⟩ := read_marks ms (p.drop (256 - sumN ms)) (fun m h => (hmb m h).1) (by omega)
  rw [hbl, Nat.sub_self, List.drop_zero] at h2
  have h3 := read_len ms (p.drop (256 - sumN ms))
  generalize readP ms (p.drop (256 - sumN ms)) = s at *
  have hw : wtP s = sumN ms := by rw [← sum_marks, h1]
  have hrb : IsBytes (rowsP s) := by rw [h2]; exact hb.drop _
  have hbyt : ∀ (s : List Slot), IsBytes (rowsP s) → ∀ o ∈ s, IsBytes (bsS o) := by
    intro s
    induction s with
    | nil => intro _ o h; cases h
    | cons x r ih =>
      intro hr o ho
      rcases List.mem_cons.1 ho with rfl | ho
      · exact fun y hy => hr y (by simp [rowsP, hy])
      · exact ih (fun y hy => hr y (by simp [rowsP, hy])) o ho
  refine ⟨⟨hbyt s hrb, fun o ho => ?_, by omega⟩, ?_, ?_⟩
  · have := hm (mkS o) (by rw [← h1]; exact List.mem_map_of_mem ho)
    have h4 := mkS_bs o
    omega
  · intro e
    apply hl
    rw [← h1, marksP, List.getLast?_map, e]
    rfl
  · apply List.ext_getElem?
    intro j
    rw [imgP]
    rcases Nat.eq_zero_or_pos j with rfl | hj
    · rw [hn, h3, hml]; rfl
    · obtain ⟨j, rfl⟩ : ∃ i, j = i + 1 := ⟨j - 1, by omega⟩
      rw [List.getElem?_cons_succ, h1]
      rcases Nat.lt_or_ge j n with h4 | h4
      · rw [List.getElem?_append_left (by omega), ← hms, List.getElem?_take, if_pos h4, List.getElem?_drop, Nat.add_comm]
      · rw [List.getElem?_append_right (by omega)]
        rcases Nat.lt_or_ge j (255 - sumN ms) with h5 | h5
        · rw [List.getElem?_append_left (by simp; omega), List.getElem?_replicate, if_pos (by omega)]
          exact hz (j + 1) (by omega) (by omega)
        · rw [List.getElem?_append_right (by simp; omega), h2, List.getElem?_drop]
          congr 1
          simp
          omega
theorem right_only {p : List Int} {s : List Slot} (h : IsPg p s) :
    (∀ m ∈ marksP s, m ≤ 201) ∧ (marksP s).getLast? ≠ some 0 ∧ (∀ j, 1 + s.length ≤ j → j < 256 - wtP s → p[j]? = some 0) := by
  refine ⟨fun m hm => ?_, fun e => ?_, fun j h1 h2 => ?_⟩
  · simp only [marksP, List.mem_map] at hm
    obtain ⟨o, ho, rfl⟩ := hm
    have := h.fit.len o ho
    cases o with
    | none => simp [mkS]
    | some b => simp only [mkS, bsS] at this ⊢; omega
  · apply h.trim
    rw [marksP, List.getLast?_map] at e
    cases hl : s.getLast? with
    | none => rw [hl] at e; cases e
    | some o =>
      rw [hl] at e
      rw [mkS_zero.1 (Option.some.inj e)]
  · obtain ⟨j, rfl⟩ : ∃ i, j = i + 1 := ⟨j - 1, by omega⟩
    rw [h.img, imgP, List.getElem?_cons_succ, List.getElem?_append_right (by rw [marks_len]; omega), List.getElem?_append_left (by simp [marks_len]; omega), List.getElem?_replicate, if_pos (by rw [marks_len]; omega)]

#print axioms right_of
#print axioms right_only
#print axioms trim_img
#print axioms set_fit
end Go.Proofs.YtdnegfjddpdmhaaDoor
