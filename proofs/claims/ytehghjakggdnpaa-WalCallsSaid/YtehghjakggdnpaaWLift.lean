/-
  Arguments opened: rows of bytes, numbers.
-/
import Derived.Test.YtehghjakggdnpaaWRecs
import Derived.ProofKit
import Derived.OpenShut
import Derived.ChangeOld
import Derived.Deep.Slices
import Derived.SizedLaws
namespace Go.Proofs.Ytehghjakggdnpaa
open Go.ChangeShapes Go.WideShapes Go.ChangeAt Go.RowKit

theorem own : ownKnob Try.prog.godebug = none := by kernel_rfl
theorem laidOut : laidOutB Try.prog = true := by kernel_rfl

section
variable {P : Program} {H : Type} {enc : TypeId × Value → H} {W : World} {B : Nat}
theorem rd_of_ints {t e : TypeId} {k : IntKind} {a : Option Addr} {len cap : Nat} {d : DataW H} {p : List MemPlace} (ht : P.underlying t = some (.slice e)) (he : P.underlying e = some (.int k)) (hc : P.cellsOf e = 1)
    (h : DataW.Trod enc P W B (fun _ => true) true t (.slice a len cap) d p) :
    ∃ zs : List Int, Rd W W.heap.size a len (zs.map (Value.int k)) ∧ (∀ z ∈ zs, (Lit.int k z).wf = true) ∧ zs.length = len ∧ len ≤ cap ∧ cap ≤ maxLen := by
  obtain ⟨fuel, hf⟩ := h
  rcases open_ints ht he hc hf with ⟨hcs, _⟩ | ⟨x, l, c, zs, hcs, _, hl, hm, hz, _, hcell, hwz⟩
  · simp [Value.cells] at hcs
    obtain ⟨rfl, rfl, rfl⟩ := hcs
    exact ⟨[], Rd.empty, fun z hz => by simp at hz, rfl, Nat.le_refl _, by simp [maxLen]⟩
  · simp [Value.cells] at hcs
    obtain ⟨rfl, rfl, rfl⟩ := hcs
    have hzl : zs.length = cap := by simpa using hz
    refine ⟨zs.take len, ⟨by simp; omega, fun h0 => ⟨x, rfl, ?_, ?_⟩⟩, fun z hz => hwz z (List.mem_of_mem_take hz), by simp; omega, hl, hm⟩
    · have h1 := World.block_lt_of_cell? _ _ (hcell 0 (by omega))
      rwa [addr_block] at h1
    · intro j u hu
      have hj : j < len := by
        have := (List.getElem?_eq_some_iff.1 hu).1
        simp at this
        omega
      have hjz : j < zs.length := by omega
      rw [hcell j hjz]
      simp only [List.getElem?_map, List.getElem?_take, if_pos hj, List.getElem?_eq_getElem hjz] at hu
      simpa [List.getD, hjz] using hu

theorem bytes_of_trod {fuel : Nat} {t e : TypeId} {cs : List Value} {x : DataW H × List MemPlace} (ht : P.underlying t = some (.slice e)) (he : P.underlying e = some (.int .u8)) (hc : P.cellsOf e = 1) (hby : P.bytesOf e = 1)
    (h : DataW.trod enc P W B (fun _ => true) true fuel t cs = some x) : ∃ A n c zs, cs = [.slice A n c] ∧ Rd W W.heap.size A n (cells zs) ∧ n ≤ c ∧ c ≤ maxLen ∧ IsBytes zs ∧ (n = 0 ∨ ∃ q ∈ x.1.weights P t, n ≤ q) := by
  rcases open_ints ht he hc h with ⟨rfl, _⟩ | ⟨a, l, c, zs, rfl, _, hlc, _, hzs, hx, _⟩
  · exact ⟨none, 0, 0, [], rfl, Rd.empty, Nat.le_refl _, by simp [maxLen], IsBytes.nil, .inl rfl⟩
  · have hw : l ≤ zs.length := by simp at hzs; omega
    have hq : l = 0 ∨ ∃ q ∈ x.1.weights P t, l ≤ q := by
      refine .inr ⟨zs.length, ?_, hw⟩
      rw [hx]
      simp only [DataW.weights, ht, hby, Nat.mul_one]
      refine List.mem_cons.2 (.inl ?_)
      simp [lits]; omega
    obtain ⟨zs', h1, h2, _, h4, h5⟩ := rd_of_ints (a := some a) (len := l) (cap := c) (d := x.1) (p := x.2) ht he hc ⟨fuel, by simpa [Value.cells] using h⟩
    exact ⟨some a, l, c, zs', rfl, h1, h4, h5, fun z hz => by
      have := h2 z hz
      simp [Lit.wf, IntKind.min, IntKind.max, IntKind.bits, IntKind.signed] at this
      omega, hq⟩
theorem weights_all {e : TypeId} {d : DataW H} {q : Nat} : ∀ {l : List (DataW H)}, d ∈ l → q ∈ d.weights P e → q ∈ DataW.weightsAll P e l := by
  intro l
  induction l with
  | nil => intro h; simp at h
  | cons x l ih =>
    intro h hq
    simp only [DataW.weightsAll]
    rcases List.mem_cons.1 h with rfl | h
    · exact List.mem_append.2 (.inl hq)
    · exact List.mem_append.2 (.inr (ih h hq))

theorem rd_of_lists {t e eb : TypeId} {a : Option Addr} {len cap : Nat} {d : DataW H} {p : List MemPlace} (ht : P.underlying t = some (.slice e)) (he : P.underlying e = some (.slice eb)) (hc : P.cellsOf e = 1) (hb : P.underlying eb = some (.int .u8)) (hcb : P.cellsOf eb = 1) (hby : P.bytesOf eb = 1)
    (h : DataW.Trod enc P W B (fun _ => true) true t (.slice a len cap) d p) :
    ∃ xs : List Sl, Rd W W.heap.size a len (vals xs) ∧ SlsIn W W.heap.size xs ∧ (∀ x ∈ xs, IsBytes x.l) ∧ xs.length = len ∧ len ≤ cap ∧ cap ≤ maxLen ∧ (∀ x ∈ xs, x.n = 0 ∨ ∃ q ∈ d.weights P t, x.n ≤ q) := by
  obtain ⟨fuel, hf⟩ := h
  rcases Go.Deep.open_slice ht hf with ⟨hcs, _⟩ | ⟨x, l, c, m, n, D, Pl, hcs, _, hl, hm, hmm, hx, hel⟩
  · simp [Value.cells] at hcs
    obtain ⟨rfl, rfl, rfl⟩ := hcs
    exact ⟨[], Rd.empty, fun x hx => by simp at hx, fun x hx => by simp at hx, rfl, Nat.le_refl _, by simp [maxLen], fun x hx => by simp at hx⟩
  · simp [Value.cells] at hcs
    obtain ⟨rfl, rfl, rfl⟩ := hcs
    obtain rfl : m = cap := by simpa using hmm
    have hone : ∀ i, i < len → ∃ y : Sl, (Rd W W.heap.size y.A y.n (cells y.l) ∧ y.n ≤ y.c ∧ y.c ≤ maxLen) ∧ IsBytes y.l ∧ W.cell? (x.add i) = some y.val ∧ (y.n = 0 ∨ ∃ q ∈ (D i).weights P e, y.n ≤ q) := by
      intro i hi
      obtain ⟨cs', hc', ht'⟩ := hel i (by omega)
      rw [hc] at hc'
      obtain ⟨_, hcl, hat⟩ := World.cells?_some hc'
      obtain ⟨A, k, c3, zs, hz3, r1, r2, r3, r4, r5⟩ := bytes_of_trod he hb hcb hby ht'
      refine ⟨⟨A, k, c3, zs⟩, ⟨r1, r2, r3⟩, r4, ?_, r5⟩
      have h0 := hat 0 (by omega)
      rw [hz3, addr_zero, Nat.mul_one] at h0
      exact h0
    refine ⟨(List.finRange len).map fun i => Classical.choose (hone i.1 i.2), ⟨by simp [vals], fun h0 => ⟨x, rfl, ?_, ?_⟩⟩, ?_, ?_, by simp, hl, hm, ?_⟩
    · have h1 := World.block_lt_of_cell? _ _ (Classical.choose_spec (hone 0 h0)).2.2.1
      rwa [addr_block] at h1
    · intro j u hu
      have hj : j < len := by
        have := (List.getElem?_eq_some_iff.1 hu).1
        simpa [vals] using this
      have h1 := (Classical.choose_spec (hone j hj)).2.2.1
      rw [h1]
      rw [← hu]
      simp [vals, hj]
    · intro y hy
      obtain ⟨i, _, rfl⟩ := List.mem_map.1 hy
      exact (Classical.choose_spec (hone i.1 i.2)).1
    · intro y hy
      obtain ⟨i, _, rfl⟩ := List.mem_map.1 hy
      exact (Classical.choose_spec (hone i.1 i.2)).2.1
    · have hd : d = .slice ((List.range len).map D) ((List.range (m - len)).map fun j => D (len + j)) := by
        simp only [Prod.mk.injEq] at hx
        exact hx.1
      intro y hy
      obtain ⟨i, _, rfl⟩ := List.mem_map.1 hy
      refine (Classical.choose_spec (hone i.1 i.2)).2.2.2.imp id fun ⟨q, hq, hle⟩ => ⟨q, ?_, hle⟩
      rw [hd]
      simp only [DataW.weights, ht]
      refine List.mem_cons.2 (.inr (List.mem_append.2 (.inl (weights_all ?_ hq))))
      exact List.mem_map.2 ⟨i.1, List.mem_range.2 i.2, rfl⟩
end
end Go.Proofs.Ytehghjakggdnpaa
