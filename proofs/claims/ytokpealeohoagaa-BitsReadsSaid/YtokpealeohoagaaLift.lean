/-
  Arguments opened: a slice of numbers, a slice of texts, as the cells that they hold.
-/
import Derived.Test.YtokpealeohoagaaAlive
import Derived.ProofKit
import Derived.OpenShut
import Derived.ShutString
import Derived.ChangeOld
import Derived.SliceStrings
namespace Go.Proofs.Ytokpealeohoagaa
open Go.ChangeShapes Go.WideShapes Go.ChangeAt Go.RowKit
open Go.ChangeMaps (open_string shut_string)

theorem own : ownKnob Try.prog.godebug = none := by kernel_rfl
theorem laidOut : laidOutB Try.prog = true := by kernel_rfl

section
variable {P : Program} {H : Type} {enc : TypeId × Value → H} {W : World} {B : Nat}
theorem rd_of_ints {t e : TypeId} {k : IntKind} {a : Option Addr} {len cap : Nat} {d : DataW H} {p : List MemPlace} (ht : P.underlying t = some (.slice e)) (he : P.underlying e = some (.int k)) (hc : P.cellsOf e = 1)
    (h : DataW.Trod enc P W B (fun _ => true) true t (.slice a len cap) d p) :
    ∃ zs : List Int, Rd W W.heap.size a len (zs.map (Value.int k)) ∧ (∀ z ∈ zs, (Lit.int k z).wf = true) ∧ zs.length = len ∧ len ≤ cap ∧ cap ≤ maxLen := by
  obtain ⟨fuel, hf⟩ := h
  rcases open_ints ht he hc hf with ⟨hcs, _⟩ | ⟨x, l, c, zs, hcs, _, hl, hm, hz, _, hcell, hwz⟩
  · simp [Value.cells] at hcs
    obtain ⟨rfl, rfl, rfl⟩ := hcs
    exact ⟨[], Rd.empty, fun z hz => by simp at hz, rfl, Nat.le_refl _, by simp [maxLen]⟩
  · simp [Value.cells] at hcs
    obtain ⟨rfl, rfl, rfl⟩ := hcs
    have hzl : zs.length = cap := by simpa using hz
    refine ⟨zs.take len, ⟨by simp; omega, fun h0 => ⟨x, rfl, ?_, ?_⟩⟩, fun z hz => hwz z (List.mem_of_mem_take hz), by simp; omega, hl, hm⟩
    · have h1 := World.block_lt_of_cell? _ _ (hcell 0 (by omega))
      rwa [addr_block] at h1
    · intro j u hu
      have hj : j < len := by
        have := (List.getElem?_eq_some_iff.1 hu).1
        simp at this
        omega
      have hjz : j < zs.length := by omega
      rw [hcell j hjz]
      simp only [List.getElem?_map, List.getElem?_take, if_pos hj, List.getElem?_eq_getElem hjz] at hu
      simpa [List.getD, hjz] using hu

theorem rd_of_strs {t e : TypeId} {a : Option Addr} {len cap : Nat} {d : DataW H} {p : List MemPlace} (ht : P.underlying t = some (.slice e)) (he : P.underlying e = some .string) (hc : P.cellsOf e = 1)
    (h : DataW.Trod enc P W B (fun _ => true) true t (.slice a len cap) d p) :
    ∃ ss : List ByteArray, Rd W W.heap.size a len (Ytokpealeohoagaa.strs ss) ∧ (∀ s ∈ ss, s.size ≤ maxLen) ∧ ss.length = len ∧ len ≤ cap ∧ cap ≤ maxLen := by
  obtain ⟨fuel, hf⟩ := h
  rcases open_strings ht he hc hf with ⟨hcs, _⟩ | ⟨x, l, c, zs, hcs, _, hl, hm, hz, _, hcell, hwz⟩
  · simp [Value.cells] at hcs
    obtain ⟨rfl, rfl, rfl⟩ := hcs
    exact ⟨[], Rd.empty, fun z hz => by simp at hz, rfl, Nat.le_refl _, by simp [maxLen]⟩
  · simp [Value.cells] at hcs
    obtain ⟨rfl, rfl, rfl⟩ := hcs
    have hzl : zs.length = cap := by simpa using hz
    refine ⟨zs.take len, ⟨by simp [Ytokpealeohoagaa.strs]; omega, fun h0 => ⟨x, rfl, ?_, ?_⟩⟩, fun z hz => hwz z (List.mem_of_mem_take hz), by simp; omega, hl, hm⟩
    · have h1 := World.block_lt_of_cell? _ _ (hcell 0 (by omega))
      rwa [addr_block] at h1
    · intro j u hu
      have hj : j < len := by
        have := (List.getElem?_eq_some_iff.1 hu).1
        simp [Ytokpealeohoagaa.strs] at this
        omega
      have hjz : j < zs.length := by omega
      rw [hcell j hjz]
      simp only [Ytokpealeohoagaa.strs, List.getElem?_map, List.getElem?_take, if_pos hj, List.getElem?_eq_getElem hjz] at hu
      simpa [List.getD, hjz] using hu
end

theorem bytes_wf {l : List Int} (h : ∀ z ∈ l, (Lit.int .u8 z).wf = true) : IsBytes l := fun x hx => by
  have := bounds_u8 (h x hx)
  omega

/-- all texts ahead of the k-th are short, and it is -/
theorem short_succ {ss : List ByteArray} {k : Nat} (hlt : k < ss.length) (H : ∀ j (h : j < ss.length), j < k → ss[j].size ≤ 5000) (h5 : ¬ 5000 < ss[k].size) : ∀ j (h : j < ss.length), j < k + 1 → ss[j].size ≤ 5000 := by
  intro j hj hjk
  rcases Nat.lt_or_ge j k with h | h
  · exact H j hj h
  · obtain rfl : j = k := by omega
    omega
theorem short_all {ss : List ByteArray} (H : ∀ j (h : j < ss.length), j < ss.length → ss[j].size ≤ 5000) : ∀ s ∈ ss, s.size ≤ 5000 := by
  intro s hs
  obtain ⟨j, hj, rfl⟩ := List.mem_iff_getElem.1 hs
  exact H j hj hj

end Go.Proofs.Ytokpealeohoagaa
