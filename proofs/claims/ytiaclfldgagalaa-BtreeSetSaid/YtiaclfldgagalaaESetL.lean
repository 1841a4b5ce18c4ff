/-
  BtreeSet's arguments opened: entries whose keys a machine can hold; ints.
-/
import Derived.Test.YtiaclfldgagalaaESet
namespace Go.Proofs.Ytiaclfldgagalaa
open Go.ChangeShapes Go.WideShapes Go.ChangeAt Go.RowKit

section
variable {P : Program} {H : Type} {enc : TypeId × Value → H} {W : World} {B : Nat}
theorem weights_all {e : TypeId} {d : DataW H} {q : Nat} : ∀ {l : List (DataW H)}, d ∈ l → q ∈ d.weights P e → q ∈ DataW.weightsAll P e l := by
  intro l
  induction l with
  | nil => intro h; simp at h
  | cons x l ih =>
    intro h hq
    simp only [DataW.weightsAll]
    rcases List.mem_cons.1 h with rfl | h
    · exact List.mem_append.2 (.inl hq)
    · exact List.mem_append.2 (.inr (ih h hq))
theorem enw_of_trod {fuel : Nat} {e : TypeId} {f0 f1 g0 g1 : Field} {cs : List Value} {x : DataW H × List MemPlace} (he : P.underlying e = some (.struct #[f0, f1])) (hlen : cs.length = 3)
    (o0 : f0.offset = 0 ∧ P.cellsOf f0.type = 1 ∧ P.underlying f0.type = some .string) (o1 : f1.offset = 1 ∧ P.cellsOf f1.type = 2 ∧ P.underlying f1.type = some (.struct #[g0, g1]))
    (q0 : g0.offset = 0 ∧ P.cellsOf g0.type = 1 ∧ P.underlying g0.type = some (.int .i64)) (q1 : g1.offset = 1 ∧ P.cellsOf g1.type = 1 ∧ P.underlying g1.type = some (.int .i64))
    (h : DataW.trod enc P W B (fun _ => true) true fuel e cs = some x) : ∃ y : En, (y.In ∧ ∃ q ∈ x.1.weights P e, y.s.size ≤ q) ∧ cs = y.vs := by
  obtain ⟨y, hy, hcs⟩ := en_of_trod he hlen o0 o1 q0 q1 h
  refine ⟨y, ⟨hy, ?_⟩, hcs⟩
  obtain ⟨ys, n', _, hD, hl, _, hfl⟩ := DataW.trod_struct he h
  have hD' := congrArg Prod.fst hD
  simp only at hD'
  have k0 := hfl 0 f0 rfl
  rw [o0.1, o0.2.1, hcs] at k0
  have hys : 0 < ys.length := by
    have : ys.length = 2 := by assumption
    omega
  obtain ⟨y0, e0⟩ : ∃ y0, ys[0]? = some y0 := ⟨_, List.getElem?_eq_getElem hys⟩
  obtain ⟨s, hs, hx, _⟩ := DataW.trod_string o0.2.2 (k0.trans e0)
  change [Value.string y.s] = [Value.string s] at hs
  injection hs with hs
  injection hs with hs
  subst hs
  refine ⟨y.s.data.toList.length, ?_, Nat.le_of_eq (Array.length_toList (xs := y.s.data)).symm⟩
  rw [hD']
  simp only [DataW.weights, he]
  refine DataW.weights_mem_each (j := 0) (t := f0.type) (d := y0.1) rfl (by rw [List.getElem?_map, e0]; rfl) _ ?_
  rw [hx]
  simp [DataW.weights]
theorem rows_of_trodW {α : Type} (cell : α → List Value) (In : α → Prop) (sz : α → Nat) (S : Nat) (hS : ∀ y, (cell y).length = S) (h0S : 0 < S) {t e : TypeId} {a : Option Addr} {len cap : Nat} {d : DataW H} {p : List MemPlace} (ht : P.underlying t = some (.slice e)) (hc : P.cellsOf e = S)
    (one : ∀ fuel cs (x : DataW H × List MemPlace), cs.length = S → DataW.trod enc P W B (fun _ => true) true fuel e cs = some x → ∃ y, (In y ∧ ∃ q ∈ x.1.weights P e, sz y ≤ q) ∧ cs = cell y)
    (h : DataW.Trod enc P W B (fun _ => true) true t (.slice a len cap) d p) : ∃ vs : List α, vs.length = len ∧ len ≤ cap ∧ cap ≤ maxLen ∧ (∀ x ∈ vs, In x ∧ ∃ q ∈ d.weights P t, sz x ≤ q) ∧ RowG cell S W W.heap.size a vs := by
  obtain ⟨fuel, hf⟩ := h
  rcases Go.Deep.open_slice ht hf with ⟨hcs, _⟩ | ⟨x, l, c, m, n, D, Pl, hcs, _, hl, hm, hmm, hx, hel⟩
  · simp [Value.cells] at hcs
    obtain ⟨rfl, rfl, rfl⟩ := hcs
    exact ⟨[], rfl, Nat.le_refl _, by simp [maxLen], fun x hx => by simp at hx, fun h => absurd h (by simp), fun i hi => by simp at hi⟩
  · simp [Value.cells] at hcs
    obtain ⟨rfl, rfl, rfl⟩ := hcs
    obtain rfl : m = cap := by simpa using hmm
    have hone : ∀ i, i < len → ∃ y : α, (In y ∧ ∃ q ∈ (D i).weights P e, sz y ≤ q) ∧ ∀ j u, (cell y)[j]? = some u → W.cell? (x.add (i * S + j)) = some u := by
      intro i hi
      obtain ⟨cs', hc', ht'⟩ := hel i (by omega)
      rw [hc] at hc'
      obtain ⟨_, hcl, hat⟩ := World.cells?_some hc'
      obtain ⟨y, hy, rfl⟩ := one _ _ _ hcl ht'
      refine ⟨y, hy, fun j u hu => ?_⟩
      have hj : j < S := by have := (List.getElem?_eq_some_iff.1 hu).1; rwa [hS] at this
      rw [← addr_add, hat j hj]
      exact hu
    have hd : d = .slice ((List.range len).map D) ((List.range (m - len)).map fun j => D (len + j)) := by
      simp only [Prod.mk.injEq] at hx
      exact hx.1
    refine ⟨(List.finRange len).map fun i => Classical.choose (hone i.1 i.2), by simp, hl, hm, fun y hy => ?_, fun h0 => ⟨x, rfl, ?_⟩, fun i hi j u hu => ⟨x, rfl, ?_⟩⟩
    · obtain ⟨i, _, rfl⟩ := List.mem_map.1 hy
      obtain ⟨h1, q, hq, hle⟩ := (Classical.choose_spec (hone i.1 i.2)).1
      refine ⟨h1, q, ?_, hle⟩
      rw [hd]
      simp only [DataW.weights, ht]
      refine List.mem_cons.2 (.inr (List.mem_append.2 (.inl (weights_all ?_ hq))))
      exact List.mem_map.2 ⟨i.1, List.mem_range.2 i.2, rfl⟩
    · have h0' : 0 < len := by simpa using h0
      obtain ⟨u, hu⟩ : ∃ u, (cell (Classical.choose (hone 0 h0')))[0]? = some u := ⟨_, List.getElem?_eq_getElem (by rw [hS]; exact h0S)⟩
      have h1 := World.block_lt_of_cell? _ _ ((Classical.choose_spec (hone 0 h0')).2 0 _ hu)
      rwa [addr_block] at h1
    · have hi' : i < len := by simpa using hi
      simp only [List.getElem_map, List.getElem_finRange] at hu
      exact (Classical.choose_spec (hone i hi')).2 j u hu
def InC (_ : Int) : Prop := True
def intC (z : Int) : List Value := [.int .i64 z]
theorem int_of_trod {fuel : Nat} {e : TypeId} {cs : List Value} {x : DataW H × List MemPlace} (he : P.underlying e = some (.int .i64)) (_hlen : cs.length = 1) (h : DataW.trod enc P W B (fun _ => true) true fuel e cs = some x) : ∃ y : Int, InC y ∧ cs = intC y := by
  obtain ⟨z, hz, _, _⟩ := DataW.trod_int he h
  exact ⟨z, trivial, hz⟩
end
end Go.Proofs.Ytiaclfldgagalaa
