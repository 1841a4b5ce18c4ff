/-
  What a crash leaves of records that were appended, as plain data.
-/
import Derived.Test.YtehghjakggdnpaaWApp
import Derived.Test.YtehghjakggdnpaaWRecs
namespace Go.Proofs.Ytehghjakggdnpaa

theorem getD_set' (l : List Int) (i j : Nat) (a d : Int) : (l.set i a).getD j d = if i = j ∧ j < l.length then a else l.getD j d := by
  rw [List.getD_eq_getElem?_getD, List.getD_eq_getElem?_getD, List.getElem?_set]
  by_cases h : i = j
  · subst h
    by_cases h2 : i < l.length
    · simp [h2]
    · simp [h2, List.getElem?_eq_none (by omega : l.length ≤ i)]
  · simp [h]
theorem put4_eq (b : List Int) (i : Nat) (n : Int) : put4 b i n = (((b.set i (n % 256)).set (i + 1) (n / 256 % 256)).set (i + 2) (n / 65536 % 256)).set (i + 3) (n / 16777216 % 256) := rfl
theorem put4_far {b : List Int} {i j : Nat} {n : Int} (h : j < i ∨ i + 4 ≤ j) : (put4 b i n)[j]? = b[j]? := by
  rw [put4_eq, List.getElem?_set_ne (by omega), List.getElem?_set_ne (by omega), List.getElem?_set_ne (by omega), List.getElem?_set_ne (by omega)]
theorem put4_at {b : List Int} {i : Nat} {n : Int} (h : i + 4 ≤ b.length) : (put4 b i n)[i]? = some (n % 256) ∧ (put4 b i n)[i + 1]? = some (n / 256 % 256) ∧ (put4 b i n)[i + 2]? = some (n / 65536 % 256) ∧ (put4 b i n)[i + 3]? = some (n / 16777216 % 256) := by
  rw [put4_eq]
  refine ⟨?_, ?_, ?_, ?_⟩
  · rw [List.getElem?_set_ne (by omega), List.getElem?_set_ne (by omega), List.getElem?_set_ne (by omega), List.getElem?_set_self (by omega)]
  · rw [List.getElem?_set_ne (by omega), List.getElem?_set_ne (by omega), List.getElem?_set_self (by simp; omega)]
  · rw [List.getElem?_set_ne (by omega), List.getElem?_set_self (by simp; omega)]
  · rw [List.getElem?_set_self (by simp; omega)]
theorem num4_put4 {b : List Int} {i : Nat} {n : Int} (h : i + 4 ≤ b.length) (hn : 0 ≤ n ∧ n < 4294967296) : num4 (put4 b i n) i = n := by
  obtain ⟨h0, h1, h2, h3⟩ := put4_at (n := n) h
  unfold num4
  simp only [List.getD_eq_getElem?_getD, h0, h1, h2, h3, Option.getD_some]
  omega
theorem num4_congr {a b : List Int} {i j : Nat} (h : ∀ k, k < 4 → a[i + k]? = b[j + k]?) : num4 a i = num4 b j := by
  have h0 := h 0 (by omega)
  rw [Nat.add_zero, Nat.add_zero] at h0
  unfold num4
  simp only [List.getD_eq_getElem?_getD, h0, h 1 (by omega), h 2 (by omega), h 3 (by omega)]
theorem num4_put4_far {b : List Int} {i j : Nat} {n : Int} (h : j + 4 ≤ i ∨ i + 4 ≤ j) : num4 (put4 b i n) j = num4 b j :=
  num4_congr fun k hk => put4_far (by omega)
/-- a sector's bytes ahead of its stamp -/
def padB (p : List Int) : List Int := zeros.take 4 ++ p ++ zeros.drop (4 + p.length)
theorem padB_len {p : List Int} (h : p.length ≤ 56) : (padB p).length = 64 := by unfold padB zeros; simp; omega
theorem secB_len {p : List Int} {x : Int} (h : p.length ≤ 56) : (secB p x).length = 64 := by
  unfold secB; rw [stampL_len]; exact padB_len h
theorem secB_num0 {p : List Int} {x : Int} (h : p.length ≤ 56) (hx : 0 ≤ x ∧ x < 4294967296) : num4 (secB p x) 0 = x := by
  have hl := padB_len h
  unfold secB stampL
  rw [num4_put4_far (by omega), num4_put4 (by show 0 + 4 ≤ (padB p).length; omega) hx]
theorem secB_num60 {p : List Int} {x : Int} (h : p.length ≤ 56) (hx : 0 ≤ x ∧ x < 4294967296) : num4 (secB p x) 60 = x := by
  have hl := padB_len h
  unfold secB stampL
  rw [num4_put4 (by rw [put4_len]; show 60 + 4 ≤ (padB p).length; omega) hx]
theorem secB_mid {p : List Int} {x : Int} {j : Nat} (h : 4 ≤ j ∧ j < 60) : (secB p x)[j]? = (padB p)[j]? := by
  unfold secB stampL
  rw [put4_far (by omega), put4_far (by omega)]; rfl
theorem padB_at {p : List Int} {j : Nat} (h : p.length ≤ 56) (hj : j < 56) : (padB p)[4 + j]? = if j < p.length then p[j]? else some 0 := by
  unfold padB zeros
  by_cases h1 : j < p.length
  · rw [if_pos h1, List.append_assoc, List.getElem?_append_right (by simp), List.getElem?_append_left (by simp; omega)]
    simp
  · rw [if_neg h1, List.getElem?_append_right (by simp; omega)]
    simp only [List.length_append, List.length_take, List.length_replicate, List.getElem?_drop, List.getElem?_replicate]
    rw [if_pos (by omega)]
theorem secB_body {p : List Int} {x : Int} (h : p.length ≤ 56) : ((secB p x).drop 4).take 56 = p ++ List.replicate (56 - p.length) 0 := by
  apply List.ext_getElem?
  intro j
  rw [List.getElem?_take]
  by_cases hj : j < 56
  · rw [if_pos hj, List.getElem?_drop, secB_mid (by omega), padB_at h hj]
    by_cases h1 : j < p.length
    · rw [if_pos h1, List.getElem?_append_left h1]
    · rw [if_neg h1, List.getElem?_append_right (by omega), List.getElem?_replicate, if_pos (by omega)]
  · rw [if_neg hj, List.getElem?_eq_none (by simp; omega)]
theorem recBody_len (r : List Int) : (recBody r).length = 2 + r.length := by simp [recBody]; omega
theorem chunk_len (b : List Int) (k : Nat) : (chunkOf b k).length ≤ 56 := by unfold chunkOf; simp; omega
/-- C has, from sector k on, the m first sectors of a record whose first stamp is x -/
def Has (C : List (List Int)) (k : Nat) (r : List Int) (x : Int) (m : Nat) : Prop := ∀ i, i < m → C.getD (k + i) [] = secB (chunkOf (recBody r) i) (x + i)
theorem chunk_pad (b : List Int) (k N : Nat) (hN : 56 * (k + 1) ≤ b.length + N) : ((b ++ List.replicate N 0).drop (56 * k)).take 56 = chunkOf b k ++ List.replicate (56 - (chunkOf b k).length) 0 := by
  apply List.ext_getElem?
  intro j
  have hcl : (chunkOf b k).length = min 56 (b.length - 56 * k) := by unfold chunkOf; simp
  rw [List.getElem?_take]
  by_cases hj : j < 56
  · rw [if_pos hj, List.getElem?_drop]
    by_cases h1 : 56 * k + j < b.length
    · rw [List.getElem?_append_left h1, List.getElem?_append_left (by omega)]
      unfold chunkOf
      rw [List.getElem?_take, if_pos hj, List.getElem?_drop]
    · rw [List.getElem?_append_right (by omega), List.getElem?_append_right (by omega), List.getElem?_replicate, List.getElem?_replicate, if_pos (by omega), if_pos (by omega)]
  · rw [if_neg hj, List.getElem?_eq_none (by simp; omega)]
theorem has_body {C : List (List Int)} {k : Nat} {r : List Int} {x : Int} : ∀ m : Nat, m ≤ secsOf r.length → Has C k r x m → bodyM C k m = (recBody r ++ List.replicate 4200 0).take (56 * m) := by
  intro m
  induction m with
  | zero => intro _ _; rfl
  | succ m ih =>
    intro hm h
    rw [bodyM, ih (by omega) (fun i hi => h i (by omega)), h m (by omega), secB_body (chunk_len _ _), ← chunk_pad _ _ 4200 (by rw [recBody_len]; unfold secsOf at hm; omega)]
    rw [show 56 * (m + 1) = 56 * m + 56 by omega, List.take_add]
theorem has_stamps {C : List (List Int)} {k : Nat} {r : List Int} {x : Int} (hx : 0 ≤ x) : ∀ m : Nat, x + m ≤ 2147483648 → Has C k r x m → stampsM C k x m = true := by
  intro m
  induction m with
  | zero => intro _ _; rfl
  | succ m ih =>
    intro hm h
    simp only [stampsM]
    rw [ih (by omega) (fun i hi => h i (by omega)), h m (by omega)]
    unfold stampedB
    rw [secB_num0 (chunk_len _ _) (by omega), secB_num60 (chunk_len _ _) (by omega)]
    simp; omega
theorem has_len {C : List (List Int)} {k : Nat} {r : List Int} {x : Int} {m : Nat} (hm : 1 ≤ m) (h : Has C k r x m) : lenAt (C.getD k []) = r.length := by
  have h0 := h 0 (by omega)
  rw [Nat.add_zero] at h0
  rw [h0]
  have hc : (chunkOf (recBody r) 0).length = min 56 (2 + r.length) := by unfold chunkOf; simp [recBody_len]
  have hb : ∀ j, j < 2 → (secB (chunkOf (recBody r) 0) (x + (0 : Nat))).getD (4 + j) 0 = (recBody r).getD j 0 := by
    intro j hj
    rw [List.getD_eq_getElem?_getD, secB_mid (by omega), padB_at (chunk_len _ _) (by omega), if_pos (by omega)]
    unfold chunkOf
    rw [List.getElem?_take, if_pos (by omega), List.getElem?_drop, List.getD_eq_getElem?_getD]
    simp
  unfold lenAt
  rw [hb 0 (by omega), hb 1 (by omega)]
  simp only [recBody, List.cons_append, List.nil_append, List.getD_cons_zero, List.getD_cons_succ]
  omega
theorem has_next {C : List (List Int)} {k room : Nat} {r : List Int} {x least : Int} (hr : r.length ≤ 4096) (hx : 0 ≤ x) (hx2 : x + secsOf r.length ≤ 2147483648) (hl : least ≤ x) (hroom : secsOf r.length ≤ room) (h : Has C k r x (secsOf r.length)) :
    nextRec C k room least = some (r, x) := by
  have hs1 : 1 ≤ secsOf r.length := by unfold secsOf; omega
  have h0 := h 0 (by omega)
  rw [Nat.add_zero] at h0
  have hn : num4 (C.getD k []) 0 = x := by rw [h0, secB_num0 (chunk_len _ _) (by omega)]; omega
  unfold nextRec
  rw [has_len hs1 h, hn, if_neg (by omega), has_stamps hx _ hx2 h, if_pos rfl, has_body _ (Nat.le_refl _) h]
  have hb : ((((recBody r ++ List.replicate 4200 0).take (56 * secsOf r.length)).drop 2).take r.length) = r := by
    have e : (recBody r ++ List.replicate 4200 0).take (56 * secsOf r.length) = [(r.length : Int) % 256, (r.length : Int) / 256] ++ (r ++ List.replicate (56 * secsOf r.length - 2 - r.length) 0) := by
      unfold recBody
      rw [List.append_assoc, List.take_append, List.take_append, List.take_replicate, List.take_of_length_le (by simp; omega), List.take_of_length_le (by simp; unfold secsOf; omega)]
      congr 2
      simp only [List.length_cons, List.length_nil]
      congr 1
      unfold secsOf; omega
    rw [e]
    show List.take r.length (r ++ _) = r
    exact List.take_left' rfl
  rw [hb]
theorem stamps_no {C : List (List Int)} {k : Nat} {x : Int} : ∀ m i : Nat, i < m → stampedB (C.getD (k + i) []) (x + i) = false → stampsM C k x m = false := by
  intro m
  induction m with
  | zero => intro i h; omega
  | succ m ih =>
    intro i hi h
    simp only [stampsM]
    by_cases he : i = m
    · subst he; rw [h, Bool.and_false]
    · rw [ih i (by omega) h, Bool.false_and]
theorem next_no {C : List (List Int)} {k room i : Nat} {least : Int} (hl : 1 ≤ least) (hi : i < secsOf (lenAt (C.getD k []))) (hz : num4 (C.getD (k + i) []) 60 = 0) : nextRec C k room least = none := by
  unfold nextRec
  split
  · rfl
  · rename_i h
    rw [stamps_no _ i hi (by unfold stampedB; rw [hz, decide_eq_false (p := (0 : Int) = _) (by omega)]; simp)]
    simp
/-- as far as T sectors, C has these records from sector u of the first area on -/
def Placed (C : List (List Int)) (T : Nat) : Nat → List (List Int) → Prop
  | _, [] => True
  | u, r :: R => (∀ i, i < secsOf r.length → u + i < T → C.getD (2 + u + i) [] = secB (chunkOf (recBody r) i) ((u : Int) + 1 + i)) ∧ Placed C T (u + secsOf r.length) R
/-- how many sectors records take -/
def totalM : List (List Int) → Nat
  | [] => 0
  | r :: R => secsOf r.length + totalM R
theorem total_append (a b : List (List Int)) : totalM (a ++ b) = totalM a + totalM b := by
  induction a with
  | nil => simp [totalM]
  | cons r a ih => simp only [List.cons_append, totalM]; omega
theorem recs_front {C : List (List Int)} {T : Nat} (hz : ∀ i, T ≤ i → num4 (C.getD (2 + i) []) 60 = 0) : ∀ (R : List (List Int)) (u fuel : Nat), Placed C T u R → u + totalM R ≤ 149 → T ≤ u + totalM R → (∀ r ∈ R, r.length ≤ 4096) → totalM R < fuel →
    ∃ m, m ≤ R.length ∧ (recsM C fuel (2 + u) (149 - u) ((u : Int) + 1)).1 = R.take m ∧ ∀ n, n ≤ R.length → u + totalM (R.take n) ≤ T → n ≤ m := by
  intro R
  induction R with
  | nil =>
    intro u fuel _ hu hT _ hf
    refine ⟨0, by omega, ?_, fun n hn _ => hn⟩
    match fuel, hf with
    | f + 1, _ =>
      simp only [totalM] at hT hu
      unfold recsM
      split
      · rfl
      · rw [next_no (i := 0) (by omega) (by unfold secsOf; omega) (by rw [Nat.add_zero]; exact hz u (by omega))]
        rfl
  | cons r R ih =>
    intro u fuel hp hu hT hr hf
    obtain ⟨p1, p2⟩ := hp
    have hs1 : 1 ≤ secsOf r.length := by unfold secsOf; omega
    simp only [totalM] at hu hT hf
    match fuel, hf with
    | f + 1, hf =>
      unfold recsM
      rw [if_neg (by omega)]
      by_cases hw : u + secsOf r.length ≤ T
      · have hn := has_next (C := C) (k := 2 + u) (room := 149 - u) (r := r) (x := (u : Int) + 1) (least := (u : Int) + 1) (hr r (by simp)) (by omega) (by omega) (by omega) (by omega) (fun i hi => p1 i hi (by omega))
        rw [hn]
        obtain ⟨m, hm, e, hall⟩ := ih (u + secsOf r.length) f p2 (by omega) (by omega) (fun q hq => hr q (by simp [hq])) (by omega)
        refine ⟨m + 1, by simp; omega, ?_, ?_⟩
        · show r :: _ = _
          rw [List.take_succ_cons, show 2 + u + secsOf r.length = 2 + (u + secsOf r.length) by omega, show 149 - u - secsOf r.length = 149 - (u + secsOf r.length) by omega, show (u : Int) + 1 + (secsOf r.length : Nat) = ((u + secsOf r.length : Nat) : Int) + 1 by omega, e]
        · intro n hn1 hn2
          match n, hn1, hn2 with
          | 0, _, _ => omega
          | n + 1, hn1, hn2 =>
            rw [List.take_succ_cons] at hn2
            simp only [totalM] at hn2
            have := hall n (by simp at hn1; omega) (by omega)
            omega
      · have hno : nextRec C (2 + u) (149 - u) ((u : Int) + 1) = none := by
          by_cases h1 : T ≤ u
          · exact next_no (i := 0) (by omega) (by unfold secsOf; omega) (by rw [Nat.add_zero]; exact hz u h1)
          · have hl : lenAt (C.getD (2 + u) []) = r.length := has_len (m := 1) (x := (u : Int) + 1) (by omega) (fun i hi => p1 i (by omega) (by omega))
            refine next_no (i := T - u) (by omega) (by rw [hl]; omega) ?_
            rw [show 2 + u + (T - u) = 2 + T by omega]
            exact hz T (by omega)
        rw [hno]
        refine ⟨0, by omega, rfl, ?_⟩
        intro n hn1 hn2
        match n, hn1, hn2 with
        | 0, _, _ => omega
        | n + 1, hn1, hn2 =>
          rw [List.take_succ_cons] at hn2
          simp only [totalM] at hn2
          omega
end Go.Proofs.Ytehghjakggdnpaa
