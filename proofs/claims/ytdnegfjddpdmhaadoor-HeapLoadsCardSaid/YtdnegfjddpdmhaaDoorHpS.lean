/-
  The places in order, and the batches that are told: plain mathematics.
-/
import Derived.Test.YtdnegfjddpdmhaaDoorHpR
namespace Go.Proofs.YtdnegfjddpdmhaaDoor
open Go.RowKit Go.Lib

def ltP (x y : Pl) : Prop := x.1 < y.1 ∨ x.1 = y.1 ∧ x.2 < y.2
theorem behind_lt (x y : Pl) : behind x.1 x.2 y = true ↔ ltP x y := by
  simp only [behind, ltP, Bool.or_eq_true, Bool.and_eq_true, decide_eq_true_eq]
  constructor
  · rintro (h | ⟨h1, h2⟩)
    · exact .inl h
    · exact .inr ⟨h1.symm, h2⟩
  · rintro (h | ⟨h1, h2⟩)
    · exact .inl h
    · exact .inr ⟨h1.symm, h2⟩
theorem slotsN_sorted (s : List Slot) (n : Nat) : (slotsN s n).Pairwise (· < ·) := by
  unfold slotsN
  rw [List.pairwise_map]
  have h1 : (List.range n).Pairwise (· < ·) := List.pairwise_lt_range
  exact (h1.filter _).imp fun h => by omega
theorem slotsN_nat {s : List Slot} {n : Nat} {z : Int} (h : z ∈ slotsN s n) : 0 ≤ z := by
  simp only [slotsN, List.mem_map] at h
  obtain ⟨i, _, rfl⟩ := h
  omega
theorem upH_sorted (ps : Pgs) : ∀ k, (upH ps k).Pairwise ltP ∧ ∀ x ∈ upH ps k, 0 ≤ x.1 ∧ x.1 < (k : Int) ∧ 0 ≤ x.2 := by
  intro k
  induction k with
  | zero => exact ⟨by simp [upH], fun x hx => by simp [upH] at hx⟩
  | succ k ih =>
    rw [upH_succ]
    refine ⟨List.pairwise_append.2 ⟨ih.1, ?_, fun x hx y hy => ?_⟩, fun x hx => ?_⟩
    · rw [List.pairwise_map]
      exact (slotsN_sorted _ _).imp fun h => .inr ⟨rfl, h⟩
    · obtain ⟨z, _, rfl⟩ := List.mem_map.1 hy
      exact .inl (ih.2 x hx).2.1
    · rcases List.mem_append.1 hx with hx | hx
      · have := ih.2 x hx; omega
      · obtain ⟨z, hz, rfl⟩ := List.mem_map.1 hx
        have h9 := slotsN_nat hz
        exact ⟨by simp, by simp; omega, h9⟩
theorem filter_sorted {l : List Pl} (h : l.Pairwise ltP) {j : Nat} (hj : j < l.length) : l.filter (behind l[j].1 l[j].2) = l.drop (j + 1) := by
  have e : ∀ f : Pl → Bool, l.filter f = (l.take (j + 1)).filter f ++ (l.drop (j + 1)).filter f := fun f => by rw [← List.filter_append, List.take_append_drop]
  have h1 : (l.take (j + 1)).filter (behind l[j].1 l[j].2) = [] := by
    rw [List.filter_eq_nil_iff]
    intro x hx hb
    rw [behind_lt] at hb
    obtain ⟨i, hi, rfl⟩ := List.mem_iff_getElem.1 hx
    rw [List.getElem_take] at hb
    simp at hi
    rcases Nat.lt_or_ge i j with h2 | h2
    · have h3 := List.pairwise_iff_getElem.1 h i j (by omega) hj h2
      unfold ltP at hb h3
      omega
    · have h4 : i = j := by omega
      subst h4
      unfold ltP at hb
      omega
  have h2 : (l.drop (j + 1)).filter (behind l[j].1 l[j].2) = l.drop (j + 1) := by
    rw [List.filter_eq_self]
    intro x hx
    rw [behind_lt]
    obtain ⟨i, hi, rfl⟩ := List.mem_iff_getElem.1 hx
    rw [List.getElem_drop]
    simp at hi
    exact List.pairwise_iff_getElem.1 h j (j + 1 + i) hj (by omega) (by omega)
  rw [e, h1, h2, List.nil_append]
/-- where the batches stand: j places have been told -/
def AtJ (l : List Pl) (j : Nat) (p k : Int) : Prop := (j = 0 ∧ p = 0 ∧ k = -1) ∨ ∃ h : j - 1 < l.length, 0 < j ∧ p = l[j - 1].1 ∧ k = l[j - 1].2
theorem aft_at {ps : Pgs} {j : Nat} {p k most : Int} (h : AtJ (allH ps) j p k) : aftH ps p k most = ((allH ps).drop j).take most.toNat := by
  unfold aftH
  congr 1
  have hs := upH_sorted ps ps.length
  rw [upH_all] at hs
  rcases h with ⟨rfl, rfl, rfl⟩ | ⟨hj, h0, rfl, rfl⟩
  · rw [List.drop_zero, List.filter_eq_self]
    intro x hx
    have := hs.2 x hx
    simp only [behind, Bool.or_eq_true, Bool.and_eq_true, decide_eq_true_eq]
    omega
  · have := filter_sorted hs.1 hj
    rwa [Nat.sub_add_cancel h0] at this
theorem load_own {ps : Pgs} (h : HOk ps) : loadH (ps.map imgP) = some ps := by
  have h1 : ldP (ps.map imgP) = some ps := by
    unfold ldP
    have hof : ∀ s ∈ ps, ofP (imgP s) = some s := fun s hs => ofP_pg (h.pg s hs).pg
    rw [if_pos (fun l hl => by obtain ⟨s, hs, rfl⟩ := List.mem_map.1 hl; rw [hof s hs]; rfl)]
    congr 1
    rw [List.map_map]
    conv => rhs; rw [← List.map_id ps]
    exact List.map_congr_left fun s hs => by simp [hof s hs]
  unfold loadH
  rw [h1]
  simp only
  rw [if_neg (by have := h.few; omega), if_neg (by rw [trimH_id h.last]; omega)]
end Go.Proofs.YtdnegfjddpdmhaaDoor
