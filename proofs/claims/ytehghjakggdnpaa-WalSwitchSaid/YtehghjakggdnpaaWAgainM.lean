/-
  A log that goes on behind crashes, as plain data: what may stand behind its records.
-/
import Derived.Test.YtehghjakggdnpaaWKeepC
namespace Go.Proofs.Ytehghjakggdnpaa
open Go.RowKit Go.Lib

theorem bodyM_congr {C C' : List (List Int)} {k : Nat} : ∀ m : Nat, (∀ i, i < m → C'.getD (k + i) [] = C.getD (k + i) []) → bodyM C' k m = bodyM C k m := by
  intro m
  induction m with
  | zero => intro _; rfl
  | succ m ih => intro h; simp only [bodyM]; rw [ih (fun i hi => h i (by omega)), h m (by omega)]
theorem stampsM_congr {C C' : List (List Int)} {k : Nat} {x : Int} : ∀ m : Nat, (∀ i, i < m → C'.getD (k + i) [] = C.getD (k + i) []) → stampsM C' k x m = stampsM C k x m := by
  intro m
  induction m with
  | zero => intro _; rfl
  | succ m ih => intro h; simp only [stampsM]; rw [ih (fun i hi => h i (by omega)), h m (by omega)]
theorem nextRec_congr {C C' : List (List Int)} {k room : Nat} {least : Int} (h : ∀ i, i < secsOf (lenAt (C.getD k [])) → C'.getD (k + i) [] = C.getD (k + i) []) : nextRec C' k room least = nextRec C k room least := by
  have h0 := h 0 (by unfold secsOf; omega)
  rw [Nat.add_zero] at h0
  unfold nextRec
  rw [h0, stampsM_congr _ h, bodyM_congr _ h]
/-- these records are read from sector k on, and then the next one is looked for at k' -/
def PreM (C : List (List Int)) : List (List Int) → (k room : Nat) → Int → (k' room' : Nat) → Int → Prop
  | [], k, room, least, k', room', least' => k' = k ∧ room' = room ∧ least' = least
  | r :: W, k, room, least, k', room', least' => ∃ first, room ≠ 0 ∧ lenAt (C.getD k []) = r.length ∧ nextRec C k room least = some (r, first) ∧ PreM C W (k + secsOf r.length) (room - secsOf r.length) (first + secsOf r.length) k' room' least'
theorem PreM.le {C : List (List Int)} {W : List (List Int)} : ∀ {k room : Nat} {least : Int} {k' room' : Nat} {least' : Int}, PreM C W k room least k' room' least' → k' = k + totalM W := by
  induction W with
  | nil => intro _ _ _ _ _ _ h; exact h.1
  | cons r W ih =>
    intro _ _ _ _ _ _ h
    obtain ⟨first, _, _, _, h⟩ := h
    rw [ih h]; simp only [totalM]; omega
theorem PreM.congr {C C' : List (List Int)} {W : List (List Int)} : ∀ {k room : Nat} {least : Int} {k' room' : Nat} {least' : Int}, PreM C W k room least k' room' least' → (∀ j, j < k' → C'.getD j [] = C.getD j []) → PreM C' W k room least k' room' least' := by
  induction W with
  | nil => intro _ _ _ _ _ _ h _; exact h
  | cons r W ih =>
    intro k _ _ k' _ _ h hc
    obtain ⟨first, h1, h2, h3, h⟩ := h
    have hle := h.le
    have hs : 1 ≤ secsOf r.length := by unfold secsOf; omega
    exact ⟨first, h1, by rw [hc k (by omega)]; exact h2, by rw [nextRec_congr (C := C) (fun i hi => hc _ (by rw [h2] at hi; omega))]; exact h3, ih h hc⟩
theorem PreM.snoc {C : List (List Int)} {r : List Int} {x : Int} {W : List (List Int)} : ∀ {k room : Nat} {least : Int} {k' room' : Nat} {least' : Int}, PreM C W k room least k' room' least' → room' ≠ 0 → lenAt (C.getD k' []) = r.length → nextRec C k' room' least' = some (r, x) → PreM C (W ++ [r]) k room least (k' + secsOf r.length) (room' - secsOf r.length) (x + secsOf r.length) := by
  induction W with
  | nil =>
    intro _ _ _ _ _ _ h h1 h2 h3
    obtain ⟨rfl, rfl, rfl⟩ := h
    exact ⟨x, h1, h2, h3, rfl, rfl, rfl⟩
  | cons q W ih =>
    intro _ _ _ _ _ _ h h1 h2 h3
    obtain ⟨first, a, b, c, h⟩ := h
    exact ⟨first, a, b, c, ih h h1 h2 h3⟩
theorem recs_pre {C : List (List Int)} {W : List (List Int)} : ∀ {fuel k room : Nat} {least : Int} {k' room' : Nat} {least' : Int}, PreM C W k room least k' room' least' → (room' = 0 ∨ nextRec C k' room' least' = none) → room < fuel → recsM C fuel k room least = (W, totalM W) := by
  induction W with
  | nil =>
    intro fuel k room least _ _ _ h hn hf
    obtain ⟨rfl, rfl, rfl⟩ := h
    match fuel, hf with
    | f + 1, _ =>
      unfold recsM
      split
      · rfl
      · rcases hn with e | e
        · contradiction
        · rw [e]; rfl
  | cons r W ih =>
    intro fuel k room least _ _ _ h hn hf
    obtain ⟨first, a, b, c, h⟩ := h
    have hs : 1 ≤ secsOf r.length := by unfold secsOf; omega
    match fuel, hf with
    | f + 1, hf =>
      unfold recsM
      rw [if_neg a, c]
      show (r :: _, secsOf r.length + _) = _
      rw [ih h hn (by omega)]
      rfl
theorem great4_ge {C : List (List Int)} {a : Nat} : ∀ {m j : Nat}, j < m → num4 (C.getD (a + j) []) 0 ≤ great4 C a m := by
  intro m
  induction m with
  | zero => intro j h; omega
  | succ m ih =>
    intro j h
    simp only [great4]
    by_cases e : j = m
    · subst e; omega
    · have := ih (j := j) (by omega); omega
theorem great4_le {C : List (List Int)} {a : Nat} {M : Int} (h0 : 0 ≤ M) : ∀ {m : Nat}, (∀ j, j < m → num4 (C.getD (a + j) []) 0 ≤ M) → great4 C a m ≤ M := by
  intro m
  induction m with
  | zero => intro _; exact h0
  | succ m ih =>
    intro h
    simp only [great4]
    have h1 := ih (fun j hj => h j (by omega))
    have h2 := h m (by omega)
    omega
theorem great4_congr {C C' : List (List Int)} (h : ∀ j, C'.getD j [] = C.getD j []) (a m : Nat) : great4 C' a m = great4 C a m := by
  induction m with
  | zero => rfl
  | succ m ih => simp only [great4]; rw [ih, h]
/-- the greatest number of the areas -/
def gr (C : List (List Int)) : Int := great4 C 2 398
theorem gr_ge {C : List (List Int)} (hl : C.length = 400) (hb : AllBytes C) {j : Nat} (hj : 2 ≤ j) : num4 (C.getD j []) 0 ≤ gr C := by
  by_cases h : j < 400
  · have := great4_ge (C := C) (a := 2) (m := 398) (j := j - 2) (by omega)
    rwa [show 2 + (j - 2) = j by omega] at this
  · rw [List.getD_eq_getElem?_getD, List.getElem?_eq_none (by omega)]
    have := (great4_bd hb 2 398).1
    exact Int.le_trans (Int.le_of_eq (num_nil 0)) this
/-- what stands on the disk of a log with the records W -/
structure AgInv (C : List (List Int)) (W : List (List Int)) (B : Nat) : Prop where
  len : C.length = 400
  is : AllBytes C
  h0 : C.getD 0 [] = zeros
  h1 : C.getD 1 [] = headB 1 0 1
  big : gr C ≤ B
  n60 : ∀ k, 2 ≤ k → num4 (C.getD k []) 60 ≤ gr C
  few : totalM W ≤ B
  pre : ∃ least, least ≤ gr C + 1 ∧ PreM C W 2 199 1 (2 + totalM W) (199 - totalM W) least ∧ (199 - totalM W = 0 ∨ nextRec C (2 + totalM W) (199 - totalM W) least = none)
/-- C' is C with the first k sectors of a record at U, the next one perhaps torn -/
structure AppC (C C' : List (List Int)) (U : Nat) (r : List Int) (k : Nat) : Prop where
  len : C'.length = 400
  is : AllBytes C'
  le : k ≤ secsOf r.length
  far : ∀ j, j < 2 + U ∨ 2 + U + k < j → C'.getD j [] = C.getD j []
  whole : ∀ i, i < k → C'.getD (2 + U + i) [] = secB (chunkOf (recBody r) i) (gr C + 1 + i)
  all : k = secsOf r.length → C'.getD (2 + U + k) [] = C.getD (2 + U + k) []
  torn : k < secsOf r.length → C'.getD (2 + U + k) [] = C.getD (2 + U + k) [] ∨ (num4 (C'.getD (2 + U + k) []) 60 = num4 (C.getD (2 + U + k) []) 60 ∧ num4 (C'.getD (2 + U + k) []) 0 = gr C + 1 + k)
theorem AppC.inv {C C' : List (List Int)} {W : List (List Int)} {B k : Nat} {r : List Int} (h : AgInv C W B) (a : AppC C C' (totalM W) r k) (hr : r.length ≤ 4096) (hroom : totalM W + secsOf r.length ≤ 199) (hB : B + secsOf r.length < 250) :
    AgInv C' (if k = secsOf r.length then W ++ [r] else W) (B + secsOf r.length) := by
  have hs : 1 ≤ secsOf r.length := by unfold secsOf; omega
  have hG0 : 0 ≤ gr C := (great4_bd h.is 2 398).1
  have hbig := h.big
  have hfew := h.few
  have hkn := a.le
  obtain ⟨least, hl1, hl2, hl3⟩ := h.pre
  have hsec : ∀ i, i < k → num4 (C'.getD (2 + totalM W + i) []) 0 = gr C + 1 + i ∧ num4 (C'.getD (2 + totalM W + i) []) 60 = gr C + 1 + i := fun i hi => by
    rw [a.whole i hi]
    exact ⟨secB_num0 (chunk_len _ _) (by omega), secB_num60 (chunk_len _ _) (by omega)⟩
  have hcase : ∀ j, 2 ≤ j → C'.getD j [] = C.getD j [] ∨ (∃ i, i < k ∧ j = 2 + totalM W + i) ∨ (k < secsOf r.length ∧ j = 2 + totalM W + k ∧ num4 (C'.getD j []) 60 = num4 (C.getD j []) 60 ∧ num4 (C'.getD j []) 0 = gr C + 1 + k) := fun j hj => by
    by_cases h1 : j < 2 + totalM W ∨ 2 + totalM W + k < j
    · exact .inl (a.far j h1)
    by_cases h2 : j = 2 + totalM W + k
    · by_cases h3 : k = secsOf r.length
      · rw [h2]; exact .inl (a.all h3)
      · rcases a.torn (by omega) with e | ⟨e1, e2⟩
        · rw [h2]; exact .inl e
        · exact .inr (.inr ⟨by omega, h2, by rw [h2]; exact e1, by rw [h2]; exact e2⟩)
    · exact .inr (.inl ⟨j - (2 + totalM W), by omega, by omega⟩)
  have hle' : ∀ j, 2 ≤ j → num4 (C'.getD j []) 0 ≤ gr C + secsOf r.length := fun j hj => by
    rcases hcase j hj with e | ⟨i, hi, e⟩ | ⟨hk, e, _, e0⟩
    · rw [e]; have := gr_ge h.len h.is hj; omega
    · rw [e, (hsec i hi).1]; omega
    · rw [e0]; omega
  have hG' : gr C' ≤ gr C + secsOf r.length := great4_le (by omega) fun j _ => hle' (2 + j) (by omega)
  have hge : gr C ≤ gr C' := by
    refine great4_le (M := gr C') (great4_bd a.is 2 398).1 fun j hj => ?_
    have h1 := gr_ge a.len a.is (j := 2 + j) (by omega)
    have h2 := gr_ge h.len h.is (j := 2 + j) (by omega)
    rcases hcase (2 + j) (by omega) with e | ⟨i, hi, e⟩ | ⟨hk, e, _, e0⟩
    · rw [← e]; exact h1
    · rw [e] at h1 h2 ⊢; have h3 := (hsec i hi).1; omega
    · omega
  have hn60 : ∀ j, 2 ≤ j → num4 (C'.getD j []) 60 ≤ gr C' := fun j hj => by
    rcases hcase j hj with e | ⟨i, hi, e⟩ | ⟨hk, e, e60, e0⟩
    · rw [e]; have := h.n60 j hj; omega
    · have h1 := gr_ge a.len a.is hj
      rw [e] at h1 ⊢; rw [(hsec i hi).2]; rw [(hsec i hi).1] at h1; exact h1
    · rw [e60]; have := h.n60 j hj; omega
  have hp := hl2.congr (C' := C') (fun j hj => a.far j (.inl hj))
  have h00 : C'.getD 0 [] = zeros := by rw [a.far 0 (by omega)]; exact h.h0
  have h11 : C'.getD 1 [] = headB 1 0 1 := by rw [a.far 1 (by omega)]; exact h.h1
  have hX : gr C + 1 = gr C + 1 + ((0 : Nat) : Int) := by omega
  by_cases hk : k = secsOf r.length
  · rw [if_pos hk]
    have htot : totalM (W ++ [r]) = totalM W + secsOf r.length := by rw [total_append]; simp only [totalM]; omega
    have hHas : Has C' (2 + totalM W) r (gr C + 1) (secsOf r.length) := fun i hi => a.whole i (by omega)
    have hnx := has_next (room := 199 - totalM W) (least := least) hr (by omega) (by omega) hl1 (by omega) hHas
    have hp2 := hp.snoc (r := r) (x := gr C + 1) (by omega) (has_len hs hHas) hnx
    have hlast := gr_ge a.len a.is (j := 2 + totalM W + (secsOf r.length - 1)) (by omega)
    rw [(hsec (secsOf r.length - 1) (by omega)).1] at hlast
    refine ⟨a.len, a.is, h00, h11, by omega, hn60, by omega, gr C + 1 + secsOf r.length, by omega, ?_, ?_⟩
    · rw [htot, show 2 + (totalM W + secsOf r.length) = 2 + totalM W + secsOf r.length by omega, show 199 - (totalM W + secsOf r.length) = 199 - totalM W - secsOf r.length by omega]
      exact hp2
    · right
      unfold nextRec
      rw [if_pos]
      left
      rw [htot, show 2 + (totalM W + secsOf r.length) = 2 + totalM W + k by omega, a.all hk]
      have := gr_ge h.len h.is (j := 2 + totalM W + k) (by omega)
      omega
  · rw [if_neg hk]
    refine ⟨a.len, a.is, h00, h11, by omega, hn60, by omega, least, by omega, hp, .inr ?_⟩
    have hno : stampedB (C'.getD (2 + totalM W + k) []) (gr C + 1 + k) = false := by
      have h60 : num4 (C'.getD (2 + totalM W + k) []) 60 ≤ gr C := by
        have h1 := h.n60 (2 + totalM W + k) (by omega)
        rcases a.torn (by omega) with e | ⟨e, _⟩
        · rw [e]; exact h1
        · rw [e]; exact h1
      unfold stampedB
      rw [decide_eq_false (p := num4 (C'.getD (2 + totalM W + k) []) 60 = _) (by omega)]
      simp
    by_cases hk0 : k = 0
    · subst hk0
      rw [Nat.add_zero] at hno
      rcases a.torn (by omega) with e | ⟨_, e⟩
      · have hsame : ∀ j, C'.getD j [] = C.getD j [] := fun j => by
          by_cases h1 : j = 2 + totalM W
          · rw [h1]; exact e
          · exact a.far j (by omega)
        rw [nextRec_congr (C := C) fun i _ => hsame _]
        rcases hl3 with e | e
        · omega
        · exact e
      · rw [Nat.add_zero, ← hX] at e
        unfold nextRec
        split
        · rfl
        · rw [e, stamps_no (k := 2 + totalM W) (x := gr C + 1) _ 0 (by unfold secsOf; omega) (by rw [Nat.add_zero]; exact hno)]
          rfl
    · have h0 := (hsec 0 (by omega)).1
      rw [Nat.add_zero, ← hX] at h0
      have hlen : lenAt (C'.getD (2 + totalM W) []) = r.length := has_len (m := 1) (x := gr C + 1) (by omega) (fun i hi => a.whole i (by omega))
      unfold nextRec
      split
      · rfl
      · rw [h0, hlen, stamps_no _ k (by omega) hno]
        rfl
end Go.Proofs.Ytehghjakggdnpaa
