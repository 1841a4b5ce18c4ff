/-
  Layer 12's arguments opened: conditions, columns, values; rows of them.
-/
import Derived.Test.YthpchenmfenjmaaLcS
import Derived.ProofKit
import Derived.OpenShut
import Derived.ChangeOld
import Derived.Deep.Slices
import Derived.SizedLaws
namespace Go.Proofs.Ythpchenmfenjmaa
open Go.ChangeShapes Go.WideShapes Go.ChangeAt Go.RowKit

theorem own : ownKnob Try.prog.godebug = none := by kernel_rfl
theorem laidOut : laidOutB Try.prog = true := by kernel_rfl
section
variable {P : Program} {H : Type} {enc : TypeId × Value → H} {W : World} {B : Nat}
/-- a slice of structs: its elements, and how many bytes it takes -/
theorem rows_of_trod {α : Type} (cell : α → List Value) (In : α → Prop) (S : Nat) (hS : ∀ y, (cell y).length = S) (h0S : 0 < S) {t e : TypeId} {a : Option Addr} {len cap : Nat} {d : DataW H} {p : List MemPlace} (ht : P.underlying t = some (.slice e)) (hc : P.cellsOf e = S)
    (one : ∀ fuel cs (x : DataW H × List MemPlace), cs.length = S → DataW.trod enc P W B (fun _ => true) true fuel e cs = some x → ∃ y, In y ∧ cs = cell y)
    (h : DataW.Trod enc P W B (fun _ => true) true t (.slice a len cap) d p) : ∃ vs : List α, vs.length = len ∧ (∀ x ∈ vs, In x) ∧ RowG cell S W W.heap.size a vs ∧ (a = none → len = 0) ∧ (len = 0 ∨ ∃ q ∈ d.weights P t, len * P.bytesOf e ≤ q) := by
  obtain ⟨fuel, hf⟩ := h
  rcases Go.Deep.open_slice ht hf with ⟨hcs, _⟩ | ⟨x, l, c, m, n, D, Pl, hcs, _, hl, hm, hmm, hx, hel⟩
  · simp [Value.cells] at hcs
    obtain ⟨rfl, rfl, rfl⟩ := hcs
    exact ⟨[], rfl, fun x hx => by simp at hx, ⟨fun h => absurd h (by simp), fun i hi => by simp at hi⟩, fun _ => rfl, .inl rfl⟩
  · simp [Value.cells] at hcs
    obtain ⟨rfl, rfl, rfl⟩ := hcs
    obtain rfl : m = cap := by simpa using hmm
    have hone : ∀ i, i < len → ∃ y : α, In y ∧ ∀ j u, (cell y)[j]? = some u → W.cell? (x.add (i * S + j)) = some u := by
      intro i hi
      obtain ⟨cs', hc', ht'⟩ := hel i (by omega)
      rw [hc] at hc'
      obtain ⟨_, hcl, hat⟩ := World.cells?_some hc'
      obtain ⟨y, hy, rfl⟩ := one _ _ _ hcl ht'
      refine ⟨y, hy, fun j u hu => ?_⟩
      have hj : j < S := by have := (List.getElem?_eq_some_iff.1 hu).1; rwa [hS] at this
      rw [← addr_add, hat j hj]
      exact hu
    have hd : d = .slice ((List.range len).map D) ((List.range (m - len)).map fun j => D (len + j)) := by
      simp only [Prod.mk.injEq] at hx
      exact hx.1
    refine ⟨(List.finRange len).map fun i => Classical.choose (hone i.1 i.2), by simp, fun y hy => ?_, ⟨fun h0 => ⟨x, rfl, ?_⟩, fun i hi j u hu => ⟨x, rfl, ?_⟩⟩, (fun h => by cases h), .inr ⟨_, (by rw [hd]; simp only [DataW.weights, ht]; exact List.mem_cons_self), ?_⟩⟩
    · obtain ⟨i, _, rfl⟩ := List.mem_map.1 hy
      exact (Classical.choose_spec (hone i.1 i.2)).1
    · have h0' : 0 < len := by simpa using h0
      obtain ⟨u, hu⟩ : ∃ u, (cell (Classical.choose (hone 0 h0')))[0]? = some u := ⟨_, List.getElem?_eq_getElem (by rw [hS]; exact h0S)⟩
      have h1 := World.block_lt_of_cell? _ _ ((Classical.choose_spec (hone 0 h0')).2 0 _ hu)
      rwa [addr_block] at h1
    · have hi' : i < len := by simpa using hi
      simp only [List.getElem_map, List.getElem_finRange] at hu
      exact (Classical.choose_spec (hone i hi')).2 j u hu
    · simp only [List.length_map, List.length_range]
      exact Nat.mul_le_mul_right _ (Nat.le_add_right _ _)
theorem some_of {α : Type} {k : Nat} {l : List α} (h : k < l.length) : ∃ y, l[k]? = some y := ⟨_, List.getElem?_eq_getElem h⟩
theorem va_of_trod {fuel : Nat} {e : TypeId} {f0 f1 f2 : Field} {cs : List Value} {x : DataW H × List MemPlace} (he : P.underlying e = some (.struct #[f0, f1, f2])) (hlen : cs.length = 3)
    (o0 : f0.offset = 0 ∧ P.cellsOf f0.type = 1 ∧ P.underlying f0.type = some (.int .i64)) (o1 : f1.offset = 1 ∧ P.cellsOf f1.type = 1 ∧ P.underlying f1.type = some (.int .i64)) (o2 : f2.offset = 2 ∧ P.cellsOf f2.type = 1 ∧ P.underlying f2.type = some .string)
    (h : DataW.trod enc P W B (fun _ => true) true fuel e cs = some x) : ∃ y : Va, y.In ∧ cs = vcell y := by
  cases fuel with
  | zero => simp [DataW.trod] at h
  | succ fuel =>
  obtain ⟨ys, n', _, _, _, hys, hfl⟩ := DataW.trod_struct he h
  replace hys : ys.length = 3 := hys
  match cs, hlen with
  | [u0, u1, u2], _ =>
    have g0 := hfl 0 f0 rfl
    have g1 := hfl 1 f1 rfl
    have g2 := hfl 2 f2 rfl
    rw [o0.1, o0.2.1] at g0
    rw [o1.1, o1.2.1] at g1
    rw [o2.1, o2.2.1] at g2
    obtain ⟨y0, e0⟩ := some_of (k := 0) (l := ys) (by omega)
    obtain ⟨y1, e1⟩ := some_of (k := 1) (l := ys) (by omega)
    obtain ⟨y2, e2⟩ := some_of (k := 2) (l := ys) (by omega)
    obtain ⟨z0, hz0, _, w0⟩ := DataW.trod_int o0.2.2 (g0.trans e0)
    obtain ⟨z1, hz1, _, w1⟩ := DataW.trod_int o1.2.2 (g1.trans e1)
    obtain ⟨s2, hs2, _, _⟩ := DataW.trod_string o2.2.2 (g2.trans e2)
    simp at hz0 hz1 hs2
    subst hz0 hz1 hs2
    exact ⟨⟨z0, z1, s2⟩, ⟨bounds_i64 w0, bounds_i64 w1⟩, rfl⟩
theorem co_of_trod {fuel : Nat} {e : TypeId} {f0 f1 f2 : Field} {cs : List Value} {x : DataW H × List MemPlace} (he : P.underlying e = some (.struct #[f0, f1, f2])) (hlen : cs.length = 3)
    (o0 : f0.offset = 0 ∧ P.cellsOf f0.type = 1 ∧ P.underlying f0.type = some .string) (o1 : f1.offset = 1 ∧ P.cellsOf f1.type = 1 ∧ P.underlying f1.type = some (.int .i64)) (o2 : f2.offset = 2 ∧ P.cellsOf f2.type = 1 ∧ P.underlying f2.type = some .bool)
    (h : DataW.trod enc P W B (fun _ => true) true fuel e cs = some x) : ∃ y : Co, y.In ∧ cs = coC y := by
  cases fuel with
  | zero => simp [DataW.trod] at h
  | succ fuel =>
  obtain ⟨ys, n', _, _, _, hys, hfl⟩ := DataW.trod_struct he h
  replace hys : ys.length = 3 := hys
  match cs, hlen with
  | [u0, u1, u2], _ =>
    have g0 := hfl 0 f0 rfl
    have g1 := hfl 1 f1 rfl
    have g2 := hfl 2 f2 rfl
    rw [o0.1, o0.2.1] at g0
    rw [o1.1, o1.2.1] at g1
    rw [o2.1, o2.2.1] at g2
    obtain ⟨y0, e0⟩ := some_of (k := 0) (l := ys) (by omega)
    obtain ⟨y1, e1⟩ := some_of (k := 1) (l := ys) (by omega)
    obtain ⟨y2, e2⟩ := some_of (k := 2) (l := ys) (by omega)
    obtain ⟨s0, hs0, _, _⟩ := DataW.trod_string o0.2.2 (g0.trans e0)
    obtain ⟨z1, hz1, _, w1⟩ := DataW.trod_int o1.2.2 (g1.trans e1)
    obtain ⟨b2, hb2, _⟩ := DataW.trod_bool o2.2.2 (g2.trans e2)
    simp at hs0 hz1 hb2
    subst hs0 hz1 hb2
    exact ⟨⟨s0, z1, b2⟩, bounds_i64 w1, rfl⟩
theorem cd_of_trod {fuel : Nat} {e : TypeId} {f0 f1 f2 g0 g1 g2 : Field} {cs : List Value} {x : DataW H × List MemPlace} (he : P.underlying e = some (.struct #[f0, f1, f2])) (hlen : cs.length = 5)
    (o0 : f0.offset = 0 ∧ P.cellsOf f0.type = 1 ∧ P.underlying f0.type = some .string) (o1 : f1.offset = 1 ∧ P.cellsOf f1.type = 1 ∧ P.underlying f1.type = some (.int .i64))
    (o2 : f2.offset = 2 ∧ P.cellsOf f2.type = 3 ∧ P.underlying f2.type = some (.struct #[g0, g1, g2]))
    (q0 : g0.offset = 0 ∧ P.cellsOf g0.type = 1 ∧ P.underlying g0.type = some (.int .i64)) (q1 : g1.offset = 1 ∧ P.cellsOf g1.type = 1 ∧ P.underlying g1.type = some (.int .i64)) (q2 : g2.offset = 2 ∧ P.cellsOf g2.type = 1 ∧ P.underlying g2.type = some .string)
    (h : DataW.trod enc P W B (fun _ => true) true fuel e cs = some x) : ∃ y : Cd, y.In ∧ cs = cdC y := by
  cases fuel with
  | zero => simp [DataW.trod] at h
  | succ fuel =>
  obtain ⟨ys, n', _, _, _, hys, hfl⟩ := DataW.trod_struct he h
  replace hys : ys.length = 3 := hys
  match cs, hlen with
  | [u0, u1, u2, u3, u4], _ =>
    have k0 := hfl 0 f0 rfl
    have k1 := hfl 1 f1 rfl
    have k2 := hfl 2 f2 rfl
    rw [o0.1, o0.2.1] at k0
    rw [o1.1, o1.2.1] at k1
    rw [o2.1, o2.2.1] at k2
    obtain ⟨y0, e0⟩ := some_of (k := 0) (l := ys) (by omega)
    obtain ⟨y1, e1⟩ := some_of (k := 1) (l := ys) (by omega)
    obtain ⟨y2, e2⟩ := some_of (k := 2) (l := ys) (by omega)
    obtain ⟨s0, hs0, _, _⟩ := DataW.trod_string o0.2.2 (k0.trans e0)
    obtain ⟨z1, hz1, _, w1⟩ := DataW.trod_int o1.2.2 (k1.trans e1)
    obtain ⟨v, hv, hc⟩ := va_of_trod o2.2.2 (by rfl) q0 q1 q2 (k2.trans e2)
    simp [vcell] at hs0 hz1 hc
    obtain ⟨rfl, rfl, rfl⟩ := hc
    subst hs0 hz1
    exact ⟨⟨s0, z1, v⟩, ⟨bounds_i64 w1, hv.1, hv.2⟩, rfl⟩
theorem cd_of_wide {t : TypeId} {f0 f1 f2 g0 g1 g2 : Field} {v : Value} {d : DataW H} {p : List MemPlace} {W' : World} {r : Reach} {b0 : Nat} (ht : P.underlying t = some (.struct #[f0, f1, f2])) (hc : P.cellsOf t = 5)
    (o0 : f0.offset = 0 ∧ P.cellsOf f0.type = 1 ∧ P.underlying f0.type = some .string) (o1 : f1.offset = 1 ∧ P.cellsOf f1.type = 1 ∧ P.underlying f1.type = some (.int .i64))
    (o2 : f2.offset = 2 ∧ P.cellsOf f2.type = 3 ∧ P.underlying f2.type = some (.struct #[g0, g1, g2]))
    (q0 : g0.offset = 0 ∧ P.cellsOf g0.type = 1 ∧ P.underlying g0.type = some (.int .i64)) (q1 : g1.offset = 1 ∧ P.cellsOf g1.type = 1 ∧ P.underlying g1.type = some (.int .i64)) (q2 : g2.offset = 2 ∧ P.cellsOf g2.type = 1 ∧ P.underlying g2.type = some .string)
    (hval : Value.okWide P W' r b0 t v) (h : DataW.Trod enc P W B (fun _ => true) true t v d p) : ∃ y : Cd, y.In ∧ v = cdV y := by
  obtain ⟨cs, rfl, hs⟩ := okWide_struct ht hval
  obtain ⟨fuel, hf⟩ := h
  obtain ⟨y, hy, e⟩ := cd_of_trod ht (by show cs.toList.length = 5; rw [Array.length_toList, hs, hc]) o0 o1 o2 q0 q1 q2 hf
  refine ⟨y, hy, ?_⟩
  have e' : cs.toList = [.string y.col, .int .i64 y.op, .int .i64 y.w.k, .int .i64 y.w.n, .string y.w.s] := e
  rw [show cs = [Value.string y.col, .int .i64 y.op, .int .i64 y.w.k, .int .i64 y.w.n, .string y.w.s].toArray by rw [← e']]
end
end Go.Proofs.Ythpchenmfenjmaa
