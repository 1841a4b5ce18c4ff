/-
  Plain mathematics for layer 7: pages as lists of slots, places, what each call answers and leaves.
-/
import Derived.Test.YtdnegfjddpdmhaaDoorPgK
namespace Go.Proofs.YtdnegfjddpdmhaaDoor
open Go.RowKit Go.Lib

abbrev Pgs := List (List Slot)
/-- page k, or one without slots -/
def pgAt (ps : Pgs) (k : Nat) : List Slot := (ps[k]?).getD []
def padH (ps : Pgs) (m : Nat) : Pgs := ps ++ List.replicate (m - ps.length) []
def setH (ps : Pgs) (k : Nat) (s : List Slot) : Pgs := (padH ps (k + 1)).set k s
def trimH : Pgs → Pgs
  | [] => []
  | s :: r => if s = [] ∧ trimH r = [] then [] else s :: trimH r
structure GoodP (s : List Slot) : Prop where
  fit : Fit s
  trim : TrimP s
structure HOk (ps : Pgs) : Prop where
  pg : ∀ s ∈ ps, GoodP s
  few : ps.length ≤ 256
  last : ps.getLast? ≠ some []
theorem GoodP.pg {s : List Slot} (h : GoodP s) : IsPg (imgP s) s := ⟨h.fit, h.trim, rfl⟩
theorem GoodP.nil : GoodP [] := ⟨Fit.nil, TrimP.nil⟩
theorem HOk.nil : HOk [] := ⟨fun _ h => (by cases h), by simp, by simp⟩
theorem pgAt_lt {ps : Pgs} {k : Nat} (h : k < ps.length) : pgAt ps k = ps[k] := by simp [pgAt, h]
theorem pgAt_ge {ps : Pgs} {k : Nat} (h : ps.length ≤ k) : pgAt ps k = [] := by simp [pgAt, List.getElem?_eq_none h]
theorem pgAt_good {ps : Pgs} (h : ∀ s ∈ ps, GoodP s) (k : Nat) : GoodP (pgAt ps k) := by
  rcases Nat.lt_or_ge k ps.length with h1 | h1
  · rw [pgAt_lt h1]; exact h _ (List.getElem_mem h1)
  · rw [pgAt_ge h1]; exact GoodP.nil
theorem padH_len (ps : Pgs) (m : Nat) : (padH ps m).length = max ps.length m := by simp [padH]; omega
theorem padH_at (ps : Pgs) (m k : Nat) (hk : k < max ps.length m) : (padH ps m)[k]? = some (pgAt ps k) := by
  unfold padH pgAt
  rcases Nat.lt_or_ge k ps.length with h | h
  · rw [List.getElem?_append_left h, List.getElem?_eq_getElem h]; rfl
  · rw [List.getElem?_append_right h, List.getElem?_replicate, if_pos (by omega), List.getElem?_eq_none h]; rfl
theorem padH_le {ps : Pgs} {m : Nat} (h : m ≤ ps.length) : padH ps m = ps := by simp [padH, Nat.sub_eq_zero_of_le h]
theorem padH_mem {ps : Pgs} {m : Nat} {s : List Slot} (h : s ∈ padH ps m) : s ∈ ps ∨ s = [] := by
  rcases List.mem_append.1 h with h | h
  · exact .inl h
  · exact .inr (List.eq_of_mem_replicate h)
theorem setH_len (ps : Pgs) (k : Nat) (s : List Slot) : (setH ps k s).length = max ps.length (k + 1) := by simp [setH, padH_len]
theorem setH_at (ps : Pgs) (k : Nat) (s : List Slot) : (setH ps k s)[k]? = some s := by
  unfold setH
  rw [List.getElem?_set_self (by rw [padH_len]; omega)]
theorem pgAt_set (ps : Pgs) (k : Nat) (s : List Slot) : pgAt (setH ps k s) k = s := by rw [pgAt, setH_at]; rfl
theorem pgAt_far (ps : Pgs) (k : Nat) (s : List Slot) {j : Nat} (h : j ≠ k) : pgAt (setH ps k s) j = pgAt ps j := by
  unfold setH pgAt
  rw [List.getElem?_set_ne (fun e => h e.symm)]
  rcases Nat.lt_or_ge j (max ps.length (k + 1)) with h1 | h1
  · rw [padH_at ps _ j h1]; rfl
  · rw [List.getElem?_eq_none (by rw [padH_len]; exact h1), List.getElem?_eq_none (by omega)]
theorem setH_mem {ps : Pgs} {k : Nat} {s x : List Slot} (h : x ∈ setH ps k s) : x ∈ ps ∨ x = [] ∨ x = s := by
  rcases List.mem_or_eq_of_mem_set h with h | h
  · rcases padH_mem h with h | h
    · exact .inl h
    · exact .inr (.inl h)
  · exact .inr (.inr h)
theorem setH_same {ps : Pgs} {k : Nat} (h : k < ps.length) : setH ps k (pgAt ps k) = ps := by
  unfold setH
  rw [padH_le (by omega), pgAt_lt h]
  exact List.set_getElem_self h
theorem setH_setH {ps : Pgs} {k : Nat} {s t : List Slot} : setH (setH ps k s) k t = setH ps k t := by
  unfold setH
  rw [padH_le (ps := (padH ps (k + 1)).set k s) (by rw [List.length_set, padH_len]; omega), List.set_set]
theorem setH_lt {ps : Pgs} {k : Nat} {s : List Slot} (h : k < ps.length) : setH ps k s = ps.set k s := by
  unfold setH; rw [padH_le (by omega)]

theorem trimH_split (t : Pgs) : ∃ j, t = trimH t ++ List.replicate j [] := by
  induction t with
  | nil => exact ⟨0, rfl⟩
  | cons o r ih =>
    obtain ⟨j, hj⟩ := ih
    rw [trimH]
    split
    · rename_i h
      refine ⟨j + 1, ?_⟩
      rw [h.2] at hj
      conv => lhs; rw [h.1, hj]
      simp [List.replicate_succ]
    · refine ⟨j, ?_⟩
      conv => lhs; rw [hj]
      rfl
theorem trimH_last (t : Pgs) : (trimH t).getLast? ≠ some [] := by
  induction t with
  | nil => simp [trimH]
  | cons o r ih =>
    rw [trimH]
    split
    · simp
    · rename_i h
      rw [List.getLast?_cons]
      cases hr : (trimH r).getLast? with
      | none =>
        have : trimH r = [] := List.getLast?_eq_none_iff.1 hr
        simp only [Option.getD_none]
        intro e
        exact h ⟨Option.some.inj e, this⟩
      | some x =>
        rw [hr] at ih
        simpa using ih
theorem trimH_eq {a : Pgs} {j : Nat} (h : a.getLast? ≠ some []) : trimH (a ++ List.replicate j []) = a := by
  induction a with
  | nil =>
    induction j with
    | zero => rfl
    | succ j ih => simp only [List.replicate_succ, List.nil_append] at ih ⊢; rw [trimH, ih]; simp
  | cons o a ih =>
    have ha : a.getLast? ≠ some [] := by
      rw [List.getLast?_cons] at h
      intro e
      rw [e] at h
      exact h rfl
    rw [List.cons_append, trimH, ih ha]
    rw [if_neg]
    rintro ⟨rfl, rfl⟩
    exact h rfl
theorem trimH_id {t : Pgs} (h : t.getLast? ≠ some []) : trimH t = t := by
  have := trimH_eq (j := 0) h
  simpa using this
theorem trimH_len (t : Pgs) : (trimH t).length ≤ t.length := by
  obtain ⟨j, hj⟩ := trimH_split t
  conv => rhs; rw [hj]
  simp
theorem trimH_mem {t : Pgs} {s : List Slot} (h : s ∈ trimH t) : s ∈ t := by
  obtain ⟨j, hj⟩ := trimH_split t
  rw [hj]
  exact List.mem_append.2 (.inl h)
theorem pgAt_trim (t : Pgs) (k : Nat) : pgAt (trimH t) k = pgAt t k := by
  obtain ⟨j, hj⟩ := trimH_split t
  generalize trimH t = u at *
  subst hj
  unfold pgAt
  rcases Nat.lt_or_ge k u.length with h | h
  · rw [List.getElem?_append_left h]
  · rw [List.getElem?_append_right h, List.getElem?_eq_none h, List.getElem?_replicate]
    split <;> rfl
/-- lists of pages without one without slots at the end are told by their pages -/
theorem pgs_ext {a b : Pgs} (ha : a.getLast? ≠ some []) (hb : b.getLast? ≠ some []) (h : ∀ k, pgAt a k = pgAt b k) : a = b := by
  have key : ∀ {x y : Pgs}, y.getLast? ≠ some [] → (∀ k, pgAt x k = pgAt y k) → y.length ≤ x.length := by
    intro x y hy hxy
    rcases Nat.lt_or_ge x.length y.length with h1 | h1
    · exfalso
      have h2 := hxy (y.length - 1)
      rw [pgAt_ge (by omega), pgAt_lt (by omega)] at h2
      apply hy
      rw [List.getLast?_eq_getElem?, List.getElem?_eq_getElem (by omega), ← h2]
    · exact h1
  have hl : a.length = b.length := Nat.le_antisymm (key (x := b) (y := a) ha (fun k => (h k).symm)) (key (x := a) (y := b) hb h)
  apply List.ext_getElem hl
  intro i h1 h2
  have := h i
  rwa [pgAt_lt h1, pgAt_lt h2] at this

theorem HOk.at_ {ps : Pgs} (h : HOk ps) (k : Nat) : GoodP (pgAt ps k) := pgAt_good h.pg k
theorem HOk.set {ps : Pgs} (h : HOk ps) {k : Nat} {s : List Slot} (hs : GoodP s) (h0 : s ≠ []) (hk : k ≤ 255) : HOk (setH ps k s) := by
  have hf := h.few
  refine ⟨fun x hx => ?_, by rw [setH_len]; omega, ?_⟩
  · rcases setH_mem hx with h1 | rfl | rfl
    · exact h.pg x h1
    · exact GoodP.nil
    · exact hs
  · rw [List.getLast?_eq_getElem?, setH_len]
    rcases Nat.lt_or_ge (k + 1) ps.length with h1 | h1
    · rw [Nat.max_eq_left (by omega), setH_lt (by omega), List.getElem?_set_ne (by omega), ← List.getLast?_eq_getElem?]
      exact h.last
    · rw [Nat.max_eq_right (by omega), Nat.add_sub_cancel, setH_at]
      simpa using h0
theorem HOk.cut {ps : Pgs} (h : HOk ps) {k : Nat} {s : List Slot} (hs : GoodP s) (hk : k < ps.length) : HOk (trimH (setH ps k s)) := by
  have hf := h.few
  refine ⟨fun x hx => ?_, ?_, trimH_last _⟩
  · rcases setH_mem (trimH_mem hx) with h1 | rfl | rfl
    · exact h.pg x h1
    · exact GoodP.nil
    · exact hs
  · have := trimH_len (setH ps k s)
    rw [setH_len] at this
    omega

/-! ### what the calls answer, and what they leave -/
def getH (ps : Pgs) (p k : Int) : Option (List Int) := if 0 ≤ p ∧ p < (ps.length : Int) then getP (some (pgAt ps p.toNat)) k else none
/-- is there room for so many bytes in a page? -/
def fitsP (s : List Slot) (b : List Int) : Bool := decide ((b.length : Int) ≤ roomI s (ffP s))
def fitH (b : List Int) : Pgs → Nat
  | [] => 0
  | s :: r => if fitsP s b then 0 else fitH b r + 1
def addE (ps : Pgs) (b : List Int) : Int := if 200 < b.length then 41 else if 256 ≤ fitH b ps then 36 else 0
def addPg (ps : Pgs) (b : List Int) : Int := if addE ps b = 0 then (fitH b ps : Int) else 0
def addSl (ps : Pgs) (b : List Int) : Int := if addE ps b = 0 then (ffP (pgAt ps (fitH b ps)) : Int) else 0
def addN (ps : Pgs) (b : List Int) : Pgs := if addE ps b = 0 then setH ps (fitH b ps) (setP (pgAt ps (fitH b ps)) (ffP (pgAt ps (fitH b ps))) (some b)) else ps
/-- what Put leaves of a page -/
def putS (s : List Slot) (k : Int) (b : List Int) : Option (List Slot) := if (b.length : Int) ≤ roomI s k then some (setP s k.toNat (some b)) else none
def cutS (s : List Slot) (k : Int) : Option (List Slot) := if takenP s k then some (trimP (setP s k.toNat none)) else none
def putE (ps : Pgs) (p k : Int) (b : List Int) : Int := if (getH ps p k).isSome then (if (putS (pgAt ps p.toNat) k b).isSome then 0 else 36) else 13
def putN (ps : Pgs) (p k : Int) (b : List Int) : Pgs := if (getH ps p k).isSome then match putS (pgAt ps p.toNat) k b with | some s => setH ps p.toNat s | none => ps else ps
def cutE (ps : Pgs) (p k : Int) : Int := if (getH ps p k).isSome then 0 else 13
def cutN (ps : Pgs) (p k : Int) : Pgs := if (getH ps p k).isSome then trimH (setH ps p.toNat (trimP (setP (pgAt ps p.toNat) k.toNat none))) else ps
def resE (ps : Pgs) (p k : Int) (b : List Int) : Int := if (getH ps p k).isSome then 12 else if p < 0 ∨ 255 < p ∨ k < 0 ∨ 250 < k then 41 else if (putS (pgAt ps p.toNat) k b).isSome then 0 else 36
def resN (ps : Pgs) (p k : Int) (b : List Int) : Pgs := if resE ps p k b = 0 then match putS (pgAt ps p.toNat) k b with | some s => setH ps p.toNat s | none => ps else ps
/-- all places, by page, then slot -/
def allH (ps : Pgs) : List (Int × Int) := (List.range ps.length).flatMap fun i => (slotsN (pgAt ps i) (pgAt ps i).length).map fun k => ((i : Int), k)
def behind (p k : Int) (x : Int × Int) : Bool := decide (p < x.1) || (decide (x.1 = p) && decide (k < x.2))
def aftH (ps : Pgs) (p k most : Int) : List (Int × Int) := ((allH ps).filter (behind p k)).take most.toNat

theorem fitH_le (b : List Int) (ps : Pgs) : fitH b ps ≤ ps.length := by
  induction ps with
  | nil => simp [fitH]
  | cons s r ih => rw [fitH]; split <;> simp <;> omega
theorem fitH_no {b : List Int} {ps : Pgs} {j : Nat} (h : j < fitH b ps) : fitsP (pgAt ps j) b = false := by
  induction ps generalizing j with
  | nil => simp [fitH] at h
  | cons s r ih =>
    rw [fitH] at h
    split at h
    · omega
    · rename_i h0
      match j with
      | 0 => simpa [pgAt] using h0
      | j + 1 => exact ih (j := j) (by omega)
theorem fitH_yes {b : List Int} {ps : Pgs} (h : fitH b ps < ps.length) : fitsP (pgAt ps (fitH b ps)) b = true := by
  induction ps with
  | nil => simp at h
  | cons s r ih =>
    rw [fitH] at h ⊢
    split
    · rename_i h0; simpa [pgAt] using h0
    · rename_i h0
      rw [if_neg h0] at h
      simp only [List.length_cons] at h
      exact ih (by omega)
theorem fits_nil {b : List Int} (h : b.length ≤ 200) : fitsP [] b = true := by
  have : roomI [] (ffP []) = 200 := by decide
  simp only [fitsP, this, decide_eq_true_eq]
  omega
theorem fitH_fits {b : List Int} {ps : Pgs} (h : b.length ≤ 200) : fitsP (pgAt ps (fitH b ps)) b = true := by
  rcases Nat.lt_or_ge (fitH b ps) ps.length with h1 | h1
  · exact fitH_yes h1
  · rw [pgAt_ge h1]; exact fits_nil h
/-- found by the first page that has room -/
theorem fitH_is {b : List Int} {ps : Pgs} {k : Nat} (hk : k ≤ ps.length) (hno : ∀ j, j < k → fitsP (pgAt ps j) b = false) (hyes : k < ps.length → fitsP (pgAt ps k) b = true) : fitH b ps = k := by
  rcases Nat.lt_trichotomy (fitH b ps) k with h | h | h
  · have h1 := fitH_yes (b := b) (ps := ps) (by omega)
    rw [hno _ h] at h1
    cases h1
  · exact h
  · have h1 := fitH_no h
    have := fitH_le b ps
    rw [hyes (by omega)] at h1
    cases h1

theorem put_some {s t : List Slot} {k : Int} {b : List Int} (h : putS s k b = some t) (hs : GoodP s) (hb : IsBytes b) : 0 ≤ k ∧ k ≤ 250 ∧ (b.length : Int) ≤ roomP s k.toNat ∧ t = setP s k.toNat (some b) ∧ GoodP t ∧ t ≠ [] := by
  simp only [putS] at h
  split at h
  · rename_i hr
    have hk : 0 ≤ k ∧ k ≤ 250 := by
      by_cases hk : k < 0 ∨ 250 < k
      · rw [roomI, if_pos hk] at hr; omega
      · omega
    rw [roomI, if_neg (by omega)] at hr
    have e := (Option.some.inj h).symm
    refine ⟨hk.1, hk.2, hr, e, ?_, ?_⟩
    · rw [e]; exact ⟨set_fit hs.fit hb hr, set_trim hs.trim⟩
    · intro h0
      have := congrArg List.length (e.symm.trans h0)
      rw [set_len] at this
      simp at this
  · cases h
theorem cut_good {s : List Slot} {k : Int} (hs : GoodP s) (h : takenP s k = true) : GoodP (trimP (setP s k.toNat none)) := by
  obtain ⟨j, rfl, b, hb⟩ := taken_some h
  have hj := (List.getElem?_eq_some_iff.1 hb).1
  exact ⟨trim_fit (cut_fit hs.fit (by simpa using hj)), trim_trim _⟩
theorem getH_some {ps : Pgs} {p k : Int} (h : (getH ps p k).isSome = true) : 0 ≤ p ∧ p.toNat < ps.length ∧ takenP (pgAt ps p.toNat) k = true := by
  unfold getH at h
  split at h
  · rename_i h0
    refine ⟨h0.1, by omega, ?_⟩
    simp only [getP] at h
    split at h
    · assumption
    · cases h
  · cases h
theorem add_put {s : List Slot} {b : List Int} (h : fitsP s b = true) : putS s (ffP s) b = some (setP s (ffP s) (some b)) := by
  simp only [fitsP, decide_eq_true_eq] at h
  rw [putS, if_pos h, Int.toNat_natCast]
theorem addN_ok {ps : Pgs} {b : List Int} (h : HOk ps) (hb : IsBytes b) : HOk (addN ps b) := by
  unfold addN
  split
  · rename_i h0
    unfold addE at h0
    split at h0
    · omega
    · split at h0
      · omega
      · obtain ⟨_, _, _, _, h5, h6⟩ := put_some (add_put (fitH_fits (ps := ps) (b := b) (by omega))) (h.at_ _) hb
        exact h.set h5 h6 (by omega)
  · exact h
theorem putN_ok {ps : Pgs} {p k : Int} {b : List Int} (h : HOk ps) (hb : IsBytes b) : HOk (putN ps p k b) := by
  unfold putN
  split
  · rename_i h0
    split
    · rename_i s hs
      obtain ⟨_, _, _, _, h5, h6⟩ := put_some hs (h.at_ _) hb
      have := h.few
      obtain ⟨_, h7, _⟩ := getH_some h0
      exact h.set h5 h6 (by omega)
    · exact h
  · exact h
theorem cutN_ok {ps : Pgs} {p k : Int} (h : HOk ps) : HOk (cutN ps p k) := by
  unfold cutN
  split
  · rename_i h0
    obtain ⟨_, h7, h8⟩ := getH_some h0
    exact h.cut (cut_good (h.at_ _) h8) h7
  · exact h
theorem resE_zero {ps : Pgs} {p k : Int} {b : List Int} (h : resE ps p k b = 0) : getH ps p k = none ∧ 0 ≤ p ∧ p ≤ 255 ∧ 0 ≤ k ∧ k ≤ 250 ∧ (putS (pgAt ps p.toNat) k b).isSome = true := by
  unfold resE at h
  split at h
  · omega
  · rename_i h0
    split at h
    · omega
    · split at h
      · rename_i h1
        exact ⟨by simpa using h0, by omega, by omega, by omega, by omega, h1⟩
      · omega
theorem resN_ok {ps : Pgs} {p k : Int} {b : List Int} (h : HOk ps) (hb : IsBytes b) : HOk (resN ps p k b) := by
  unfold resN
  split
  · rename_i h0
    obtain ⟨_, h1, h2, _⟩ := resE_zero h0
    split
    · rename_i s hs
      obtain ⟨_, _, _, _, h5, h6⟩ := put_some hs (h.at_ _) hb
      exact h.set h5 h6 (by omega)
    · exact h
  · exact h
end Go.Proofs.YtdnegfjddpdmhaaDoor
