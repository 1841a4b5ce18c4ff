/-
  Layer 9's arguments opened: rows of calls, rows of ints.
-/
import Derived.Test.YtcjhkafdfeopfaaTmL
import Derived.ProofKit
import Derived.OpenShut
import Derived.ChangeOld
import Derived.Deep.Slices
import Derived.SizedLaws
namespace Go.Proofs.Ytcjhkafdfeopfaa
open Go.ChangeShapes Go.WideShapes Go.ChangeAt Go.RowKit

theorem own : ownKnob Try.prog.godebug = none := by kernel_rfl
theorem laidOut : laidOutB Try.prog = true := by kernel_rfl

theorem addr_field (a : Addr) {j : Nat} (hj : 0 < j) : (⟨a.block, a.off + j, none⟩ : Addr) = a.add j := by unfold Addr.add; rw [if_neg (by omega)]
section
variable {P : Program} {H : Type} {enc : TypeId × Value → H} {W : World} {B : Nat}
theorem rows_of_trod {α : Type} (cell : α → List Value) (In : α → Prop) (S : Nat) (hS : ∀ y, (cell y).length = S) (h0S : 0 < S) {t e : TypeId} {a : Option Addr} {len cap : Nat} {d : DataW H} {p : List MemPlace} (ht : P.underlying t = some (.slice e)) (hc : P.cellsOf e = S)
    (one : ∀ fuel cs (x : DataW H × List MemPlace), cs.length = S → DataW.trod enc P W B (fun _ => true) true fuel e cs = some x → ∃ y, In y ∧ cs = cell y)
    (h : DataW.Trod enc P W B (fun _ => true) true t (.slice a len cap) d p) : ∃ vs : List α, vs.length = len ∧ len ≤ cap ∧ cap ≤ maxLen ∧ (∀ x ∈ vs, In x) ∧ RowG cell S W W.heap.size a vs := by
  obtain ⟨fuel, hf⟩ := h
  rcases Go.Deep.open_slice ht hf with ⟨hcs, _⟩ | ⟨x, l, c, m, n, D, Pl, hcs, _, hl, hm, hmm, hx, hel⟩
  · simp [Value.cells] at hcs
    obtain ⟨rfl, rfl, rfl⟩ := hcs
    exact ⟨[], rfl, Nat.le_refl _, by simp [maxLen], fun x hx => by simp at hx, fun h => absurd h (by simp), fun i hi => by simp at hi⟩
  · simp [Value.cells] at hcs
    obtain ⟨rfl, rfl, rfl⟩ := hcs
    obtain rfl : m = cap := by simpa using hmm
    have hone : ∀ i, i < len → ∃ y : α, In y ∧ ∀ j u, (cell y)[j]? = some u → W.cell? (x.add (i * S + j)) = some u := by
      intro i hi
      obtain ⟨cs', hc', ht'⟩ := hel i (by omega)
      rw [hc] at hc'
      obtain ⟨_, hcl, hat⟩ := World.cells?_some hc'
      obtain ⟨y, hy, rfl⟩ := one _ _ _ hcl ht'
      refine ⟨y, hy, fun j u hu => ?_⟩
      have hj : j < S := by have := (List.getElem?_eq_some_iff.1 hu).1; rwa [hS] at this
      rw [← addr_add, hat j hj]
      exact hu
    refine ⟨(List.finRange len).map fun i => Classical.choose (hone i.1 i.2), by simp, hl, hm, fun y hy => ?_, fun h0 => ⟨x, rfl, ?_⟩, fun i hi j u hu => ⟨x, rfl, ?_⟩⟩
    · obtain ⟨i, _, rfl⟩ := List.mem_map.1 hy
      exact (Classical.choose_spec (hone i.1 i.2)).1
    · have h0' : 0 < len := by simpa using h0
      obtain ⟨u, hu⟩ : ∃ u, (cell (Classical.choose (hone 0 h0')))[0]? = some u := ⟨_, List.getElem?_eq_getElem (by rw [hS]; exact h0S)⟩
      have h1 := World.block_lt_of_cell? _ _ ((Classical.choose_spec (hone 0 h0')).2 0 _ hu)
      rwa [addr_block] at h1
    · have hi' : i < len := by simpa using hi
      simp only [List.getElem_map, List.getElem_finRange] at hu
      exact (Classical.choose_spec (hone i hi')).2 j u hu
theorem numI_of_wf {z : Int} (h : (Lit.int .i64 z).wf = true) : NumI z := by
  obtain ⟨h1, h2⟩ := bounds_i64 h
  exact ⟨h1, h2⟩
theorem int_of_trod {fuel : Nat} {e : TypeId} {cs : List Value} {x : DataW H × List MemPlace} (he : P.underlying e = some (.int .i64)) (_hlen : cs.length = 1) (h : DataW.trod enc P W B (fun _ => true) true fuel e cs = some x) : ∃ y : Int, NumI y ∧ cs = intV y := by
  obtain ⟨z, hz, _, hw⟩ := DataW.trod_int he h
  exact ⟨z, numI_of_wf hw, hz⟩
theorem call9_of_trod {fuel : Nat} {e : TypeId} {f0 f1 f2 : Field} {cs : List Value} {x : DataW H × List MemPlace} (he : P.underlying e = some (.struct #[f0, f1, f2])) (hlen : cs.length = 3)
    (o0 : f0.offset = 0 ∧ P.cellsOf f0.type = 1 ∧ P.underlying f0.type = some (.int .i64)) (o1 : f1.offset = 1 ∧ P.cellsOf f1.type = 1 ∧ P.underlying f1.type = some (.int .i64)) (o2 : f2.offset = 2 ∧ P.cellsOf f2.type = 1 ∧ P.underlying f2.type = some (.int .i64))
    (h : DataW.trod enc P W B (fun _ => true) true fuel e cs = some x) : ∃ y : C9, y.In ∧ cs = c9cell y := by
  obtain ⟨ys, n', _, hD, _, _, hfl⟩ := DataW.trod_struct he h
  match cs, hlen with
  | [u0, u1, u2], _ =>
    have k0 := hfl 0 f0 rfl
    have k1 := hfl 1 f1 rfl
    have k2 := hfl 2 f2 rfl
    rw [o0.1, o0.2.1] at k0
    rw [o1.1, o1.2.1] at k1
    rw [o2.1, o2.2.1] at k2
    have some_of : ∀ {k : Nat} {α : Type} {l : List α}, k < l.length → ∃ y, l[k]? = some y := fun h => ⟨_, List.getElem?_eq_getElem h⟩
    have hys : ys.length = 3 := by assumption
    obtain ⟨y0, e0⟩ := some_of (k := 0) (l := ys) (by omega)
    obtain ⟨y1, e1⟩ := some_of (k := 1) (l := ys) (by omega)
    obtain ⟨y2, e2⟩ := some_of (k := 2) (l := ys) (by omega)
    obtain ⟨z0, hz0, _, _⟩ := DataW.trod_int o0.2.2 (k0.trans e0)
    obtain ⟨z1, hz1, _, w1⟩ := DataW.trod_int o1.2.2 (k1.trans e1)
    obtain ⟨z2, hz2, _, w2⟩ := DataW.trod_int o2.2.2 (k2.trans e2)
    simp at hz0 hz1 hz2
    subst hz0 hz1 hz2
    exact ⟨⟨z0, z1, z2⟩, ⟨numI_of_wf w1, numI_of_wf w2⟩, rfl⟩
end
end Go.Proofs.Ytcjhkafdfeopfaa
