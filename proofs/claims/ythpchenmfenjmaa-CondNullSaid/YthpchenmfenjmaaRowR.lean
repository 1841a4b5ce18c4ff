/-
  Rows of structs that are read.
-/
import Derived.Test.YthpchenmfenjmaaRowK
namespace Go.Proofs.Ythpchenmfenjmaa
open Go.RowKit Go.Lib

/-- a row of structs that is read -/
structure RowG {α : Type} (cell : α → List Value) (S : Nat) (w : World) (B : Nat) (A : Option Addr) (vs : List α) : Prop where
  lo : 0 < vs.length → ∃ ad, A = some ad ∧ ad.block < B
  cell : ∀ i (hi : i < vs.length) j u, (cell vs[i])[j]? = some u → ∃ ad, A = some ad ∧ w.cell? (ad.add (i * S + j)) = some u
theorem RowG.below {α : Type} {cell : α → List Value} {S : Nat} {w w' : World} {B C : Nat} {A : Option Addr} {vs : List α} (h : RowG cell S w B A vs) (hb : Below C w w') (hC : B ≤ C) : RowG cell S w' B A vs := by
  refine ⟨h.lo, fun i hi j u hu => ?_⟩
  obtain ⟨ad, rfl, hc⟩ := h.cell i hi j u hu
  obtain ⟨ad', e, hlt⟩ := h.lo (by omega)
  obtain rfl := Option.some.inj e
  exact ⟨ad, rfl, (hb.cell (p := ad.add (i * S + j)) (by rw [addr_block]; omega)).trans hc⟩
theorem RowG.more {α : Type} {cell : α → List Value} {S : Nat} {w : World} {B C : Nat} {A : Option Addr} {vs : List α} (h : RowG cell S w B A vs) (hC : B ≤ C) : RowG cell S w C A vs :=
  ⟨fun h0 => by obtain ⟨ad, e, hlt⟩ := h.lo h0; exact ⟨ad, e, by omega⟩, h.cell⟩

theorem flat_cell {α : Type} {cell : α → List Value} {S : Nat} (hS : ∀ a, (cell a).length = S) : ∀ (vs : List α) (i j : Nat) (hi : i < vs.length), j < S → (vs.flatMap cell)[i * S + j]? = (cell vs[i])[j]?
  | a :: vs, 0, j, _, hj => by
    rw [List.flatMap_cons, Nat.zero_mul, Nat.zero_add, List.getElem?_append_left (by rw [hS]; exact hj)]
    rfl
  | a :: vs, i + 1, j, hi, hj => by
    have hi' : i < vs.length := by simpa using hi
    rw [List.flatMap_cons, List.getElem?_append_right (by rw [hS, Nat.add_mul]; omega), hS, show (i + 1) * S + j - S = i * S + j by rw [Nat.add_mul]; omega, flat_cell hS vs i j hi' hj]
    rfl
theorem RowG.of_rows {α : Type} {cell : α → List Value} {S : Nat} {w : World} {base : Nat} {e : TypeId} {A : Option Addr} {n c : Nat} {vs : List α} (hS : ∀ a, (cell a).length = S) (h : w.ownsRow base e S (.slice A n c) n (vs.flatMap cell)) (hn : n = vs.length) : RowG cell S w w.heap.size A vs := by
  refine ⟨fun h0 => ?_, fun i hi j u hu => ?_⟩
  · obtain ⟨g, rfl⟩ := own_form' h (by omega)
    exact ⟨_, rfl, (h.lt g rfl).2⟩
  · obtain ⟨g, rfl⟩ := own_form' h (by omega)
    refine ⟨_, rfl, ?_⟩
    have hj : j < S := by
      have := (List.getElem?_eq_some_iff.1 hu).1
      rwa [hS] at this
    rw [World.ownsRow.cells h rfl (i * S + j) u (by rw [flat_cell hS vs i j hi hj]; exact hu)]
end Go.Proofs.Ythpchenmfenjmaa
