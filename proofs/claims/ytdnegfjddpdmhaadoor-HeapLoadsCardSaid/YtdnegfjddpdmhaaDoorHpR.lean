/-
  What is done and undone: plain mathematics.
-/
import Derived.Test.YtdnegfjddpdmhaaDoorHpQ
namespace Go.Proofs.YtdnegfjddpdmhaaDoor
open Go.RowKit Go.Lib

theorem trim_at (t : List Slot) (j : Nat) : ((trimP t)[j]?).getD none = (t[j]?).getD none := by
  obtain ⟨q, hq⟩ := trim_split t
  generalize trimP t = u at *
  subst hq
  rcases Nat.lt_or_ge j u.length with h | h
  · rw [List.getElem?_append_left h]
  · rw [List.getElem?_append_right h, List.getElem?_eq_none h, List.getElem?_replicate]
    split <;> rfl
theorem slots_ext {a b : List Slot} (ha : TrimP a) (hb : TrimP b) (h : ∀ j : Nat, (a[j]?).getD none = (b[j]?).getD none) : a = b := by
  have key : ∀ {x y : List Slot}, TrimP y → (∀ j : Nat, (x[j]?).getD none = (y[j]?).getD none) → y.length ≤ x.length := by
    intro x y hy hxy
    rcases Nat.lt_or_ge x.length y.length with h1 | h1
    · exfalso
      have h2 := hxy (y.length - 1)
      rw [List.getElem?_eq_none (by omega), List.getElem?_eq_getElem (show y.length - 1 < y.length by omega)] at h2
      apply hy
      rw [List.getLast?_eq_getElem?, List.getElem?_eq_getElem (by omega)]
      simpa using h2.symm
    · exact h1
  have hl : a.length = b.length := Nat.le_antisymm (key (x := b) (y := a) ha fun j => (h j).symm) (key (x := a) (y := b) hb h)
  apply List.ext_getElem hl
  intro i h1 h2
  have := h i
  rwa [List.getElem?_eq_getElem h1, List.getElem?_eq_getElem h2] at this
theorem ff_free (s : List Slot) : (s[ffP s]?).getD none = none := by
  induction s with
  | nil => rfl
  | cons o r ih =>
    rw [ffP]
    split
    · rename_i h; simp [h]
    · simpa using ih
/-- a slot that was free, put and freed -/
theorem put_cut {s t : List Slot} {k : Nat} {b : List Int} (hs : TrimP s) (hf : (s[k]?).getD none = none) (ht : t = setP s k (some b)) : trimP (setP t k none) = s := by
  subst ht
  refine slots_ext (trim_trim _) hs fun j => ?_
  rw [trim_at]
  by_cases hj : j = k
  · subst hj
    rw [set_at, hf]; rfl
  · rw [set_far _ _ _ _ hj, set_far _ _ _ _ hj]
theorem taken_is {s : List Slot} {k : Nat} : takenP s (k : Int) = ((s[k]?).getD none).isSome := by simp [takenP]
theorem getH_none {ps : Pgs} {p : Nat} {k : Nat} (h : getH ps p k = none) : ((pgAt ps p)[k]?).getD none = none := by
  unfold getH at h
  split at h
  · rw [Int.toNat_natCast] at h
    simp only [getP] at h
    split at h
    · cases h
    · rename_i h1
      rw [taken_is] at h1
      cases hh : ((pgAt ps p)[k]?).getD none with
      | none => rfl
      | some x => rw [hh] at h1; simp at h1
  · rename_i h0
    rw [pgAt_ge (by omega)]
    rfl
theorem getH_is {ps : Pgs} {p k : Nat} {b : List Int} (hp : p < ps.length) (h : ((pgAt ps p)[k]?).getD none = some b) : getH ps p k = some b := by
  rw [getH, if_pos (by omega), Int.toNat_natCast]
  have hk : (pgAt ps p)[k]? = some (some b) := by
    cases hh : (pgAt ps p)[k]? with
    | none => rw [hh] at h; cases h
    | some x => rw [hh] at h; exact congrArg some h
  exact (taken_at hk).2
theorem undo_put {ps : Pgs} {p k : Nat} {b : List Int} {t : List Slot} (hok : HOk ps) (hp : p ≤ 255) (hb : IsBytes b) (hf : ((pgAt ps p)[k]?).getD none = none) (ht : putS (pgAt ps p) (k : Int) b = some t) :
    getH (setH ps p t) p k = some b ∧ cutE (setH ps p t) p k = 0 ∧ cutN (setH ps p t) p k = ps := by
  obtain ⟨_, _, _, e, hg, h0⟩ := put_some ht (hok.at_ p) hb
  rw [Int.toNat_natCast] at e
  have hget : getH (setH ps p t) p k = some b := getH_is (by rw [setH_len]; omega) (by rw [pgAt_set, e, set_at]; rfl)
  refine ⟨hget, by rw [cutE, hget]; rfl, ?_⟩
  rw [cutN, hget]
  simp only [Option.isSome_some, if_true, Int.toNat_natCast]
  rw [pgAt_set, put_cut (hok.at_ p).trim hf e]
  refine pgs_ext (trimH_last _) hok.last fun j => ?_
  rw [pgAt_trim, setH_setH]
  by_cases hj : j = p
  · subst hj; rw [pgAt_set]
  · rw [pgAt_far _ _ _ hj]
theorem undo_add {ps : Pgs} {b : List Int} (hok : HOk ps) (hb : IsBytes b) (h : addE ps b = 0) : cutE (addN ps b) (addPg ps b) (addSl ps b) = 0 ∧ cutN (addN ps b) (addPg ps b) (addSl ps b) = ps := by
  obtain ⟨h1, h2, e1, e2, e3⟩ := add_done h
  rw [e1, e2, e3]
  exact (undo_put hok (by omega) hb (ff_free _) (add_put (fitH_fits (ps := ps) (by omega)))).2
theorem undo_res {ps : Pgs} {p k : Int} {b : List Int} (hok : HOk ps) (hb : IsBytes b) (h : resE ps p k b = 0) : getH ps p k = none ∧ cutE (resN ps p k b) p k = 0 ∧ cutN (resN ps p k b) p k = ps := by
  obtain ⟨h0, h1, h2, h3, h4, h5⟩ := resE_zero h
  refine ⟨h0, ?_⟩
  obtain ⟨q, rfl⟩ : ∃ q : Nat, p = q := ⟨p.toNat, by omega⟩
  obtain ⟨j, rfl⟩ : ∃ j : Nat, k = j := ⟨k.toNat, by omega⟩
  rw [Int.toNat_natCast] at h5
  obtain ⟨t, ht⟩ := Option.isSome_iff_exists.1 h5
  have e : resN ps (q : Int) (j : Int) b = setH ps q t := by rw [resN, if_pos h, Int.toNat_natCast, ht]
  rw [e]
  exact (undo_put hok (by omega) hb (getH_none h0) ht).2
/-- what a row that is there looks like -/
theorem getH_there {ps : Pgs} {p k : Int} {b : List Int} (hok : HOk ps) (h : getH ps p k = some b) : ∃ q j : Nat, p = q ∧ k = j ∧ q < ps.length ∧ (pgAt ps q)[j]? = some (some b) ∧ IsBytes b := by
  obtain ⟨h0, h1, h2⟩ := getH_some (by rw [h]; rfl)
  obtain ⟨q, rfl⟩ : ∃ q : Nat, p = q := ⟨p.toNat, by omega⟩
  rw [Int.toNat_natCast] at h1 h2
  obtain ⟨j, rfl, c, hc⟩ := taken_some h2
  have h3 : getH ps (q : Int) (j : Int) = some c := getH_is h1 (by rw [hc]; rfl)
  rw [h] at h3
  cases h3
  exact ⟨q, j, rfl, rfl, h1, hc, (hok.at_ q).fit.byt _ (List.mem_of_getElem? hc)⟩
theorem set_in {s : List Slot} {k : Nat} {o : Slot} (h : k < s.length) : setP s k o = s.set k o := by
  unfold setP padP
  rw [Nat.sub_eq_zero_of_le (by omega)]
  simp
theorem set_back {s : List Slot} {k : Nat} {b : List Int} {o : Slot} (h : s[k]? = some (some b)) : setP (setP s k o) k (some b) = s := by
  obtain ⟨hk, e⟩ := List.getElem?_eq_some_iff.1 h
  rw [set_in hk, set_in (by rw [List.length_set]; exact hk), List.set_set, ← e]
  exact List.set_getElem_self hk
/-- the bytes may be put where they were -/
theorem put_back {s t : List Slot} {k : Nat} {b : List Int} (hs : GoodP s) (hk : k ≤ 250) (h : setP t k (some b) = s) : putS t (k : Int) b = some s := by
  have h1 : (b.length : Int) ≤ roomP t k := set_room (by rw [h]; exact hs.fit)
  rw [putS, if_pos (by rw [roomI, if_neg (by omega), Int.toNat_natCast]; exact h1), Int.toNat_natCast, h]
theorem undo_putput {ps : Pgs} {p k : Int} {b old : List Int} (hok : HOk ps) (hb : IsBytes b) (hold : getH ps p k = some old) (h : putE ps p k b = 0) : putE (putN ps p k b) p k old = 0 ∧ putN (putN ps p k b) p k old = ps := by
  obtain ⟨q, j, rfl, rfl, hq, hs, hbo⟩ := getH_there hok hold
  have hj : (getH ps (q : Int) (j : Int)).isSome = true := by rw [hold]; rfl
  rw [putE, if_pos hj, Int.toNat_natCast] at h
  have h5 : (putS (pgAt ps q) (j : Int) b).isSome = true := by
    by_cases hh : (putS (pgAt ps q) (j : Int) b).isSome = true
    · exact hh
    · rw [if_neg hh] at h; omega
  obtain ⟨t, ht⟩ := Option.isSome_iff_exists.1 h5
  obtain ⟨_, hk250, _, e, hg, h0⟩ := put_some ht (hok.at_ q) hb
  rw [Int.toNat_natCast] at e
  have en : putN ps (q : Int) (j : Int) b = setH ps q t := by rw [putN, if_pos hj, Int.toNat_natCast, ht]
  have hget : getH (setH ps q t) q j = some b := getH_is (by rw [setH_len]; omega) (by rw [pgAt_set, e, set_at]; rfl)
  have hpb : putS t (j : Int) old = some (pgAt ps q) := put_back (hok.at_ q) (by omega) (by rw [e]; exact set_back hs)
  rw [en]
  constructor
  · rw [putE, hget, Int.toNat_natCast, pgAt_set, hpb]; rfl
  · rw [putN, hget, Int.toNat_natCast, pgAt_set, hpb]
    show setH (setH ps q t) q (pgAt ps q) = ps
    rw [setH_setH, setH_same hq]
theorem undo_cut {ps : Pgs} {p k : Int} {old : List Int} (hok : HOk ps) (hlen : ps.length ≤ 255) (hsm : ∀ s ∈ ps, s.length ≤ 251) (hold : getH ps p k = some old) : resE (cutN ps p k) p k old = 0 ∧ resN (cutN ps p k) p k old = ps := by
  obtain ⟨q, j, rfl, rfl, hq, hs, hbo⟩ := getH_there hok hold
  have hj : (getH ps (q : Int) (j : Int)).isSome = true := by rw [hold]; rfl
  have hjl : j < (pgAt ps q).length := (List.getElem?_eq_some_iff.1 hs).1
  have hj251 : (pgAt ps q).length ≤ 251 := by rw [pgAt_lt hq]; exact hsm _ (List.getElem_mem hq)
  obtain ⟨c, hc⟩ : ∃ c, c = trimP (setP (pgAt ps q) j none) := ⟨_, rfl⟩
  have en : cutN ps (q : Int) (j : Int) = trimH (setH ps q c) := by rw [cutN, if_pos hj, Int.toNat_natCast, Int.toNat_natCast, ← hc]
  obtain ⟨hcp, hnt⟩ := cut_put hs (hok.at_ q).trim
  rw [← hc] at hcp hnt
  have hat : pgAt (trimH (setH ps q c)) q = c := by rw [pgAt_trim, pgAt_set]
  have hnone : getH (trimH (setH ps q c)) q j = none := by
    rw [getH]
    split
    · rw [Int.toNat_natCast, hat]
      simp only [getP]
      rw [if_neg hnt]
    · rfl
  have hpb : putS c (j : Int) old = some (pgAt ps q) := put_back (hok.at_ q) (by omega) hcp
  have he : resE (trimH (setH ps q c)) q j old = 0 := by
    rw [resE, hnone, Int.toNat_natCast, hat, hpb]
    simp
    omega
  rw [en]
  refine ⟨he, ?_⟩
  rw [resN, if_pos he, Int.toNat_natCast, hat, hpb]
  show setH (trimH (setH ps q c)) q (pgAt ps q) = ps
  have hne : pgAt ps q ≠ [] := fun h => by rw [h] at hjl; simp at hjl
  have hcg : GoodP c := by rw [hc]; exact ⟨trim_fit (cut_fit (hok.at_ q).fit hjl), trim_trim _⟩
  refine pgs_ext ((hok.cut hcg hq).set (hok.at_ q) hne (by omega)).last hok.last fun i => ?_
  by_cases hi : i = q
  · subst hi; rw [pgAt_set]
  · rw [pgAt_far _ _ _ hi, pgAt_trim, pgAt_far _ _ _ hi]
theorem putN_fail {ps : Pgs} {p k : Int} {b : List Int} (h : putE ps p k b ≠ 0) : putN ps p k b = ps := by
  unfold putE at h
  unfold putN
  split
  · rename_i h1
    rw [if_pos h1] at h
    cases hs : putS (pgAt ps p.toNat) k b with
    | none => rfl
    | some t => rw [hs] at h; simp at h
  · rfl
theorem cutN_fail {ps : Pgs} {p k : Int} (h : cutE ps p k ≠ 0) : cutN ps p k = ps := by
  unfold cutE at h
  unfold cutN
  split
  · rename_i h1; rw [if_pos h1] at h; exact absurd rfl h
  · rfl
theorem resN_fail {ps : Pgs} {p k : Int} {b : List Int} (h : resE ps p k b ≠ 0) : resN ps p k b = ps := by rw [resN, if_neg h]
theorem addN_fail {ps : Pgs} {b : List Int} (h : addE ps b ≠ 0) : addN ps b = ps := by rw [addN, if_neg h]
theorem put_there {ps : Pgs} {p k : Int} {b : List Int} (h : putE ps p k b = 0) : ∃ old, getH ps p k = some old := by
  unfold putE at h
  split at h
  · rename_i h1; exact Option.isSome_iff_exists.1 h1
  · omega
theorem cut_there {ps : Pgs} {p k : Int} (h : cutE ps p k = 0) : ∃ old, getH ps p k = some old := by
  unfold cutE at h
  split at h
  · rename_i h1; exact Option.isSome_iff_exists.1 h1
  · omega
/-- pages of few slots -/
theorem addN_slots {ps : Pgs} {b : List Int} (hb : IsBytes b) (hok : HOk ps) (h : ∀ s ∈ ps, s.length ≤ 251) : ∀ s ∈ addN ps b, s.length ≤ 251 := by
  by_cases he : addE ps b = 0
  · obtain ⟨h1, h2, e1, e2, e3⟩ := add_done he
    obtain ⟨_, h250, _, _⟩ := put_some (add_put (fitH_fits (ps := ps) (b := b) (by omega))) (hok.at_ _) hb
    rw [e3]
    intro s hs
    rcases setH_mem hs with hs | rfl | rfl
    · exact h s hs
    · simp
    · rw [set_len]
      have h5 : (pgAt ps (fitH b ps)).length ≤ 251 := by
        rcases Nat.lt_or_ge (fitH b ps) ps.length with h6 | h6
        · rw [pgAt_lt h6]; exact h _ (List.getElem_mem h6)
        · rw [pgAt_ge h6]; simp
      omega
  · rw [addN_fail he]; exact h
end Go.Proofs.YtdnegfjddpdmhaaDoor
