/-
  A disk of New, formatted, with records appended to it: its state, and what a crash leaves of it, as plain data.
-/
import Derived.Test.YtehghjakggdnpaaWKeepM
import Derived.Test.YtehghjakggdnpaaWForm
namespace Go.Proofs.Ytehghjakggdnpaa
open Go.RowKit Go.Lib

/-- what New makes -/
def newS (m : Nat) : DS := ⟨secs [] m, []⟩
theorem newS_nil {m : Nat} : ∀ b ∈ (newS m).cur, ∀ i, b.getD i 0 = 0 := by
  intro b hb i
  have h1 : (newS m).cur = secs [] m := rfl
  rw [h1, secs_nil] at hb
  rw [List.eq_of_mem_replicate hb, List.getD_eq_getElem?_getD, List.getElem?_replicate]
  split <;> rfl
theorem great4_zero {C : List (List Int)} (h : ∀ b ∈ C, ∀ i, b.getD i 0 = 0) (k m : Nat) : great4 C k m = 0 := by
  induction m with
  | zero => rfl
  | succ m ih =>
    unfold great4
    have hz : ∀ i, (C.getD (k + m) []).getD i 0 = 0 := by
      intro i
      rw [List.getD_eq_getElem?_getD (l := C)]
      by_cases hk : k + m < C.length
      · rw [List.getElem?_eq_getElem hk]; exact h _ (List.getElem_mem hk) i
      · rw [List.getElem?_eq_none (by omega)]; simp
    have h1 : num4 (C.getD (k + m) []) 0 = 0 := by
      unfold num4
      rw [hz, hz, hz, hz]; rfl
    rw [ih, h1]
    rfl
theorem newS_bytes (m : Nat) : AllBytes (newS m).cur := by
  intro b hb x hx
  have h1 : (newS m).cur = secs [] m := rfl
  rw [h1, secs_nil] at hb
  rw [List.eq_of_mem_replicate hb] at hx
  rw [List.eq_of_mem_replicate hx]
  omega
/-- what Format leaves of it -/
def fmtS (m : Nat) : DS := ((newS m).write 1 (headB 1 0 1)).flush
theorem fmtS_len (m : Nat) : (fmtS m).last.length = m := by
  show (lay _ _).length = m
  rw [lay_len]
  show (secs [] m).length = m
  rw [secs_len]
theorem format_new {w0 w : World} {g : Nat} {F : Nat → Prop} {m : Nat} (h : DiskAt w g F (newS m)) (lo : ∀ k, F k → w0.heap.size ≤ k) (b0 : Below w0.heap.size w0 w) (h10 : 10 ≤ m) :
    Calls Try.prog 12 #[.pointer (some ⟨g, 0, none⟩)] w (FormRet w0 g (fmtS m) 1 1) := by
  have hl : (newS m).last.length = m := secs_len [] m
  have hz := newS_nil (m := m)
  exact format_any h lo b0 (newS_bytes m) (by rw [hl]; exact h10) (by show 0 < 1000000; omega) 0 1 (great4_zero hz 0 2).symm (by rw [great4_zero hz]; rfl) (by omega) (by omega)
theorem appS_last (s : DS) (area : Int) (u : Nat) (next : Int) (r : List Int) : (appS s area u next r).last = s.last := rfl
theorem appS_wr (s : DS) (area : Int) (u : Nat) (next : Int) (r : List Int) : (appS s area u next r).wr.length = s.wr.length + secsOf r.length := by
  unfold appS; simp [putWs_len]


theorem getD_set_ne {l : List (List Int)} {i j : Nat} {a : List Int} (h : i ≠ j) : (l.set i a).getD j [] = l.getD j [] := by
  rw [List.getD_eq_getElem?_getD, List.getD_eq_getElem?_getD, List.getElem?_set_ne h]
theorem getD_set_self {l : List (List Int)} {i : Nat} {a : List Int} (h : i < l.length) : (l.set i a).getD i [] = a := by
  rw [List.getD_eq_getElem?_getD, List.getElem?_set_self h]; rfl
/-- sectors that are written one behind the other -/
def wsAt (k : Nat) (l : List (List Int)) : List (Nat × List Int) := l.zipIdx.map fun p => (k + p.2, p.1)
theorem wsAt_append (k : Nat) (a b : List (List Int)) : wsAt k (a ++ b) = wsAt k a ++ wsAt (k + a.length) b := by
  unfold wsAt
  rw [List.zipIdx_append, List.map_append, Nat.zero_add]
  congr 1
  rw [List.zipIdx_eq_map_add, List.map_map]
  apply List.map_congr_left
  intro p _
  simp; omega
theorem wsAt_len (k : Nat) (l : List (List Int)) : (wsAt k l).length = l.length := by simp [wsAt]
theorem wsAt_one (k : Nat) (b : List Int) : wsAt k [b] = [(k, b)] := by simp [wsAt]
theorem wsAt_mem {k : Nat} {l : List (List Int)} {p : Nat × List Int} (h : p ∈ wsAt k l) : p.2 ∈ l := by
  unfold wsAt at h
  obtain ⟨q, hq, rfl⟩ := List.mem_map.1 h
  obtain ⟨_, _, e⟩ := List.mem_zipIdx hq
  rw [e]
  exact List.getElem_mem _
theorem lay_app (L : List (List Int)) (a b : List (Nat × List Int)) : lay L (a ++ b) = lay (lay L a) b := by simp [lay, List.foldl_append]
theorem lay_ws {L : List (List Int)} {k : Nat} (l : List (List Int)) : k + l.length ≤ L.length → ∀ j, (lay L (wsAt k l)).getD j [] = if k ≤ j ∧ j < k + l.length then l.getD (j - k) [] else L.getD j [] := by
  refine snoc_ind (P := fun l => k + l.length ≤ L.length → ∀ j, (lay L (wsAt k l)).getD j [] = if k ≤ j ∧ j < k + l.length then l.getD (j - k) [] else L.getD j []) ?_ ?_ l
  · intro _ j
    rw [if_neg (by simp)]; rfl
  · intro l a ih hl j
    rw [List.length_append, List.length_singleton] at hl
    rw [wsAt_append, wsAt_one, lay_snoc]
    have hi := ih (by omega) j
    by_cases h1 : k + l.length = j
    · rw [← h1, getD_set_self (by rw [lay_len]; omega), if_pos (by simp), show k + l.length - k = l.length by omega, List.getD_eq_getElem?_getD, List.getElem?_append_right (by omega)]
      simp
    · rw [getD_set_ne h1, hi]
      by_cases h2 : k ≤ j ∧ j < k + l.length
      · rw [if_pos h2, if_pos (by rw [List.length_append]; omega), List.getD_eq_getElem?_getD, List.getD_eq_getElem?_getD, List.getElem?_append_left (by omega)]
      · rw [if_neg h2, if_neg (by rw [List.length_append, List.length_singleton]; omega)]
/-- the sectors of a record whose first stamp is u + 1 -/
def recS (u : Nat) (r : List Int) : List (List Int) := (List.range (secsOf r.length)).map fun i => secB (chunkOf (recBody r) i) ((u : Int) + 1 + i)
theorem recS_len (u : Nat) (r : List Int) : (recS u r).length = secsOf r.length := by simp [recS]
theorem putWs_range (b : List Int) (sec : Nat) (x : Int) (m : Nat) : putWs b sec x (List.range m) = wsAt sec ((List.range m).map fun i => secB (chunkOf b i) (x + i)) := by
  induction m with
  | zero => rfl
  | succ m ih =>
    rw [List.range_succ, putWs_snoc, ih, List.map_append, wsAt_append, List.map_singleton, wsAt_one]
    simp
theorem putWs_rec (u k : Nat) (r : List Int) : putWs (recBody r) k ((u : Int) + 1) (List.range (secsOf r.length)) = wsAt k (recS u r) := putWs_range _ _ _ _
/-- the sectors of records -/
def sectsM : Nat → List (List Int) → List (List Int)
  | _, [] => []
  | u, r :: R => recS u r ++ sectsM (u + secsOf r.length) R
theorem sects_len (u : Nat) (R : List (List Int)) : (sectsM u R).length = totalM R := by
  induction R generalizing u with
  | nil => rfl
  | cons r R ih => simp only [sectsM, totalM, List.length_append, recS_len, ih]
theorem sects_append (u : Nat) (a b : List (List Int)) : sectsM u (a ++ b) = sectsM u a ++ sectsM (u + totalM a) b := by
  induction a generalizing u with
  | nil => rfl
  | cons r a ih => simp only [List.cons_append, sectsM, totalM, ih, List.append_assoc, Nat.add_assoc]
theorem sects_one (u : Nat) (r : List Int) : sectsM u [r] = recS u r := by simp [sectsM]
theorem sects_mem {u : Nat} {R : List (List Int)} {b : List Int} (h : b ∈ sectsM u R) : ∃ r ∈ R, ∃ i x : Nat, u + 1 ≤ x ∧ x ≤ u + totalM R ∧ b = secB (chunkOf (recBody r) i) x := by
  induction R generalizing u with
  | nil => simp [sectsM] at h
  | cons r R ih =>
    rcases List.mem_append.1 (show b ∈ recS u r ++ sectsM (u + secsOf r.length) R from h) with h | h
    · obtain ⟨i, hi, rfl⟩ := List.mem_map.1 h
      have hi := List.mem_range.1 hi
      exact ⟨r, by simp, i, u + 1 + i, by omega, by simp only [totalM]; omega, by push_cast; rfl⟩
    · obtain ⟨q, hq, i, x, h1, h2, e⟩ := ih h
      exact ⟨q, by simp [hq], i, x, by omega, by simp only [totalM]; omega, e⟩
theorem placed_of {C : List (List Int)} {T : Nat} (R : List (List Int)) : ∀ u, (∀ i, i < totalM R → u + i < T → C.getD (2 + u + i) [] = (sectsM u R).getD i []) → Placed C T u R := by
  induction R with
  | nil => intro _ _; trivial
  | cons r R ih =>
    intro u h
    refine ⟨fun i hi hT => ?_, ih _ fun i hi hT => ?_⟩
    · rw [h i (by simp only [totalM]; omega) hT, List.getD_eq_getElem?_getD]
      show (recS u r ++ _)[i]?.getD [] = _
      rw [List.getElem?_append_left (by rw [recS_len]; exact hi)]
      unfold recS
      rw [List.getElem?_map, List.getElem?_range hi]
      rfl
    · have := h (secsOf r.length + i) (by simp only [totalM]; omega) (by omega)
      rw [show 2 + (u + secsOf r.length) + i = 2 + u + (secsOf r.length + i) by omega, this, List.getD_eq_getElem?_getD]
      show (recS u r ++ _)[secsOf r.length + i]?.getD [] = _
      rw [List.getElem?_append_right (by rw [recS_len]; omega), recS_len, Nat.add_sub_cancel_left, List.getD_eq_getElem?_getD]
end Go.Proofs.Ytehghjakggdnpaa
