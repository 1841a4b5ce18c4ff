/-
  Layer 11's arguments opened: things, wants, rows of calls.
-/
import Derived.Test.YthbbheegkhlniaaGreatM22
import Derived.ProofKit
import Derived.OpenShut
import Derived.ChangeOld
import Derived.Deep.Slices
import Derived.SizedLaws
namespace Go.Proofs.YthbbheegkhlniaaGreat
open Go.ChangeShapes Go.WideShapes Go.ChangeAt Go.RowKit

theorem own : ownKnob Tryz.prog.godebug = none := by kernel_rfl
theorem laidOut : laidOutB Tryz.prog = true := by kernel_rfl
section
variable {P : Program} {H : Type} {enc : TypeId × Value → H} {W : World} {B : Nat}
theorem weights_all {e : TypeId} {d : DataW H} {q : Nat} : ∀ {l : List (DataW H)}, d ∈ l → q ∈ d.weights P e → q ∈ DataW.weightsAll P e l := by
  intro l
  induction l with
  | nil => intro h; simp at h
  | cons x l ih =>
    intro h hq
    simp only [DataW.weightsAll]
    rcases List.mem_cons.1 h with rfl | h
    · exact List.mem_append.2 (.inl hq)
    · exact List.mem_append.2 (.inr (ih h hq))
/-- a text that is no longer than one of these numbers -/
def Wt (ws : List Nat) (s : ByteArray) : Prop := ∃ q ∈ ws, s.size ≤ q
theorem Wt.mono {ws ws' : List Nat} {s : ByteArray} (h : Wt ws s) (hw : ∀ q ∈ ws, q ∈ ws') : Wt ws' s := by
  obtain ⟨q, hq, hle⟩ := h
  exact ⟨q, hw q hq, hle⟩
theorem Wt.room {ws : List Nat} {s : ByteArray} (h : Wt ws s) (hw : ∀ q ∈ ws, q ≤ reachBytes) : s.size ≤ roomLen := by
  obtain ⟨q, hq, hle⟩ := h
  have := hw q hq
  unfold reachBytes at this
  unfold roomLen
  omega
def ThW (ws : List Nat) (x : Th) : Prop := NumI x.k ∧ Wt ws x.t ∧ Wt ws x.y
def ClW (c : Cl) (ws : List Nat) : Prop := NumI c.w ∧ NumI c.x ∧ ThW ws c.th ∧ NumI c.m
theorem ThW.mono {ws ws' : List Nat} {x : Th} (h : ThW ws x) (hw : ∀ q ∈ ws, q ∈ ws') : ThW ws' x := ⟨h.1, h.2.1.mono hw, h.2.2.mono hw⟩
theorem ThW.room {ws : List Nat} {x : Th} (h : ThW ws x) (hw : ∀ q ∈ ws, q ≤ reachBytes) : x.In := ⟨h.1, h.2.1.room hw, h.2.2.room hw⟩
theorem ClW.mono (y : Cl) (ws ws' : List Nat) (hw : ∀ q ∈ ws, q ∈ ws') (h : ClW y ws) : ClW y ws' := ⟨h.1, h.2.1, h.2.2.1.mono hw, h.2.2.2⟩
theorem ClW.room {y : Cl} {ws : List Nat} (h : ClW y ws) (hw : ∀ q ∈ ws, q ≤ reachBytes) : y.In := ⟨h.1, h.2.1, h.2.2.1.room hw, h.2.2.2⟩
theorem rows_of_trod {α : Type} (cell : α → List Value) (In : α → List Nat → Prop) (hmono : ∀ y ws ws', (∀ q ∈ ws, q ∈ ws') → In y ws → In y ws') (S : Nat) (hS : ∀ y, (cell y).length = S) (h0S : 0 < S) {t e : TypeId} {a : Option Addr} {len cap : Nat} {d : DataW H} {p : List MemPlace} (ht : P.underlying t = some (.slice e)) (hc : P.cellsOf e = S)
    (one : ∀ fuel cs (x : DataW H × List MemPlace), cs.length = S → DataW.trod enc P W B (fun _ => true) true fuel e cs = some x → ∃ y, In y (x.1.weights P e) ∧ cs = cell y)
    (h : DataW.Trod enc P W B (fun _ => true) true t (.slice a len cap) d p) : ∃ vs : List α, vs.length = len ∧ len ≤ cap ∧ cap ≤ maxLen ∧ (∀ x ∈ vs, In x (d.weights P t)) ∧ RowG cell S W W.heap.size a vs := by
  obtain ⟨fuel, hf⟩ := h
  rcases Go.Deep.open_slice ht hf with ⟨hcs, _⟩ | ⟨x, l, c, m, n, D, Pl, hcs, _, hl, hm, hmm, hx, hel⟩
  · simp [Value.cells] at hcs
    obtain ⟨rfl, rfl, rfl⟩ := hcs
    exact ⟨[], rfl, Nat.le_refl _, by simp [maxLen], fun x hx => by simp at hx, fun h => absurd h (by simp), fun i hi => by simp at hi⟩
  · simp [Value.cells] at hcs
    obtain ⟨rfl, rfl, rfl⟩ := hcs
    obtain rfl : m = cap := by simpa using hmm
    have hone : ∀ i, i < len → ∃ y : α, In y ((D i).weights P e) ∧ ∀ j u, (cell y)[j]? = some u → W.cell? (x.add (i * S + j)) = some u := by
      intro i hi
      obtain ⟨cs', hc', ht'⟩ := hel i (by omega)
      rw [hc] at hc'
      obtain ⟨_, hcl, hat⟩ := World.cells?_some hc'
      obtain ⟨y, hy, rfl⟩ := one _ _ _ hcl ht'
      refine ⟨y, hy, fun j u hu => ?_⟩
      have hj : j < S := by have := (List.getElem?_eq_some_iff.1 hu).1; rwa [hS] at this
      rw [← addr_add, hat j hj]
      exact hu
    have hd : d = .slice ((List.range len).map D) ((List.range (m - len)).map fun j => D (len + j)) := by
      simp only [Prod.mk.injEq] at hx
      exact hx.1
    refine ⟨(List.finRange len).map fun i => Classical.choose (hone i.1 i.2), by simp, hl, hm, fun y hy => ?_, fun h0 => ⟨x, rfl, ?_⟩, fun i hi j u hu => ⟨x, rfl, ?_⟩⟩
    · obtain ⟨i, _, rfl⟩ := List.mem_map.1 hy
      refine hmono _ _ _ (fun q hq => ?_) (Classical.choose_spec (hone i.1 i.2)).1
      rw [hd]
      simp only [DataW.weights, ht]
      refine List.mem_cons.2 (.inr (List.mem_append.2 (.inl (weights_all ?_ hq))))
      exact List.mem_map.2 ⟨i.1, List.mem_range.2 i.2, rfl⟩
    · have h0' : 0 < len := by simpa using h0
      obtain ⟨u, hu⟩ : ∃ u, (cell (Classical.choose (hone 0 h0')))[0]? = some u := ⟨_, List.getElem?_eq_getElem (by rw [hS]; exact h0S)⟩
      have h1 := World.block_lt_of_cell? _ _ ((Classical.choose_spec (hone 0 h0')).2 0 _ hu)
      rwa [addr_block] at h1
    · have hi' : i < len := by simpa using hi
      simp only [List.getElem_map, List.getElem_finRange] at hu
      exact (Classical.choose_spec (hone i hi')).2 j u hu
theorem th_of_trod {fuel : Nat} {e : TypeId} {f0 f1 f2 : Field} {cs : List Value} {x : DataW H × List MemPlace} (he : P.underlying e = some (.struct #[f0, f1, f2])) (hlen : cs.length = 3)
    (o0 : f0.offset = 0 ∧ P.cellsOf f0.type = 1 ∧ P.underlying f0.type = some (.int .i64)) (o1 : f1.offset = 1 ∧ P.cellsOf f1.type = 1 ∧ P.underlying f1.type = some .string) (o2 : f2.offset = 2 ∧ P.cellsOf f2.type = 1 ∧ P.underlying f2.type = some .string)
    (h : DataW.trod enc P W B (fun _ => true) true fuel e cs = some x) : ∃ y : Th, ThW (x.1.weights P e) y ∧ cs = thC y := by
  cases fuel with
  | zero => simp [DataW.trod] at h
  | succ fuel =>
  obtain ⟨ys, n', _, hD, _, _, hfl⟩ := DataW.trod_struct he h
  have hD' := congrArg Prod.fst hD
  simp only at hD'
  match cs, hlen with
  | [u0, u1, u2], _ =>
    have g0 := hfl 0 f0 rfl
    have g1 := hfl 1 f1 rfl
    have g2 := hfl 2 f2 rfl
    rw [o0.1, o0.2.1] at g0
    rw [o1.1, o1.2.1] at g1
    rw [o2.1, o2.2.1] at g2
    have some_of : ∀ {k : Nat} {α : Type} {l : List α}, k < l.length → ∃ y, l[k]? = some y := fun h => ⟨_, List.getElem?_eq_getElem h⟩
    have hys : ys.length = 3 := by assumption
    obtain ⟨y0, e0⟩ := some_of (k := 0) (l := ys) (by omega)
    obtain ⟨y1, e1⟩ := some_of (k := 1) (l := ys) (by omega)
    obtain ⟨y2, e2⟩ := some_of (k := 2) (l := ys) (by omega)
    obtain ⟨z0, hz0, _, w0⟩ := DataW.trod_int o0.2.2 (g0.trans e0)
    obtain ⟨s1, hs1, hx1, _⟩ := DataW.trod_string o1.2.2 (g1.trans e1)
    obtain ⟨s2, hs2, hx2, _⟩ := DataW.trod_string o2.2.2 (g2.trans e2)
    simp at hz0 hs1 hs2
    subst hz0 hs1 hs2
    refine ⟨⟨z0, s1, s2⟩, ⟨bounds_i64 w0, ⟨s1.data.toList.length, ?_, Nat.le_of_eq (Array.length_toList (xs := s1.data)).symm⟩, ⟨s2.data.toList.length, ?_, Nat.le_of_eq (Array.length_toList (xs := s2.data)).symm⟩⟩, rfl⟩
    · rw [hD']
      simp only [DataW.weights, he]
      refine DataW.weights_mem_each (j := 1) (t := f1.type) (d := y1.1) rfl (by rw [List.getElem?_map, e1]; rfl) _ ?_
      rw [hx1]
      simp [DataW.weights]
    · rw [hD']
      simp only [DataW.weights, he]
      refine DataW.weights_mem_each (j := 2) (t := f2.type) (d := y2.1) rfl (by rw [List.getElem?_map, e2]; rfl) _ ?_
      rw [hx2]
      simp [DataW.weights]
theorem want_of_trod {fuel : Nat} {e : TypeId} {f0 f1 g0 g1 g2 : Field} {cs : List Value} {x : DataW H × List MemPlace} (he : P.underlying e = some (.struct #[f0, f1])) (hlen : cs.length = 4)
    (o0 : f0.offset = 0 ∧ P.cellsOf f0.type = 3 ∧ P.underlying f0.type = some (.struct #[g0, g1, g2])) (o1 : f1.offset = 3 ∧ P.cellsOf f1.type = 1 ∧ P.underlying f1.type = some (.int .i64))
    (q0 : g0.offset = 0 ∧ P.cellsOf g0.type = 1 ∧ P.underlying g0.type = some (.int .i64)) (q1 : g1.offset = 1 ∧ P.cellsOf g1.type = 1 ∧ P.underlying g1.type = some .string) (q2 : g2.offset = 2 ∧ P.cellsOf g2.type = 1 ∧ P.underlying g2.type = some .string)
    (h : DataW.trod enc P W B (fun _ => true) true fuel e cs = some x) : ∃ (t : Th) (m : Int), ThW (x.1.weights P e) t ∧ NumI m ∧ cs = [.int .i64 t.k, .string t.t, .string t.y, .int .i64 m] := by
  obtain ⟨ys, n', _, hD, _, _, hfl⟩ := DataW.trod_struct he h
  have hD' := congrArg Prod.fst hD
  simp only at hD'
  match cs, hlen with
  | [u0, u1, u2, u3], _ =>
    have k0 := hfl 0 f0 rfl
    have k1 := hfl 1 f1 rfl
    rw [o0.1, o0.2.1] at k0
    rw [o1.1, o1.2.1] at k1
    have some_of : ∀ {k : Nat} {α : Type} {l : List α}, k < l.length → ∃ y, l[k]? = some y := fun h => ⟨_, List.getElem?_eq_getElem h⟩
    have hys : ys.length = 2 := by assumption
    obtain ⟨y0, e0⟩ := some_of (k := 0) (l := ys) (by omega)
    obtain ⟨y1, e1⟩ := some_of (k := 1) (l := ys) (by omega)
    obtain ⟨t, ht, htc⟩ := th_of_trod o0.2.2 (by rfl) q0 q1 q2 (k0.trans e0)
    obtain ⟨z, hz, _, wz⟩ := DataW.trod_int o1.2.2 (k1.trans e1)
    simp [thC] at htc hz
    obtain ⟨rfl, rfl, rfl⟩ := htc
    subst hz
    refine ⟨t, z, ht.mono (fun q hq => ?_), bounds_i64 wz, rfl⟩
    rw [hD']
    simp only [DataW.weights, he]
    exact DataW.weights_mem_each (j := 0) (t := f0.type) (d := y0.1) rfl (by rw [List.getElem?_map, e0]; rfl) _ hq
theorem want_of_wide {t : TypeId} {f0 f1 g0 g1 g2 : Field} {v : Value} {d : DataW H} {p : List MemPlace} {W' : World} {r : Reach} {b0 : Nat} (ht : P.underlying t = some (.struct #[f0, f1])) (hc : P.cellsOf t = 4)
    (o0 : f0.offset = 0 ∧ P.cellsOf f0.type = 3 ∧ P.underlying f0.type = some (.struct #[g0, g1, g2])) (o1 : f1.offset = 3 ∧ P.cellsOf f1.type = 1 ∧ P.underlying f1.type = some (.int .i64))
    (q0 : g0.offset = 0 ∧ P.cellsOf g0.type = 1 ∧ P.underlying g0.type = some (.int .i64)) (q1 : g1.offset = 1 ∧ P.cellsOf g1.type = 1 ∧ P.underlying g1.type = some .string) (q2 : g2.offset = 2 ∧ P.cellsOf g2.type = 1 ∧ P.underlying g2.type = some .string)
    (hval : Value.okWide P W' r b0 t v) (h : DataW.Trod enc P W B (fun _ => true) true t v d p) (hsz : ∀ q ∈ d.weights P t, q ≤ reachBytes) : ∃ (x : Th) (m : Int), x.In ∧ NumI m ∧ v = wantV x m := by
  obtain ⟨cs, rfl, hs⟩ := okWide_struct ht hval
  obtain ⟨fuel, hf⟩ := h
  obtain ⟨x, m, hx, hm, e⟩ := want_of_trod ht (by show cs.toList.length = 4; rw [Array.length_toList, hs, hc]) o0 o1 q0 q1 q2 hf
  refine ⟨x, m, hx.room hsz, hm, ?_⟩
  have e' : cs.toList = [.int .i64 x.k, .string x.t, .string x.y, .int .i64 m] := e
  rw [show cs = [Value.int .i64 x.k, .string x.t, .string x.y, .int .i64 m].toArray by rw [← e']]
theorem call11_of_trod {fuel : Nat} {e : TypeId} {f0 f1 f2 h0 h1 g0 g1 g2 : Field} {cs : List Value} {x : DataW H × List MemPlace} (he : P.underlying e = some (.struct #[f0, f1, f2])) (hlen : cs.length = 6)
    (o0 : f0.offset = 0 ∧ P.cellsOf f0.type = 1 ∧ P.underlying f0.type = some (.int .i64)) (o1 : f1.offset = 1 ∧ P.cellsOf f1.type = 1 ∧ P.underlying f1.type = some (.int .i64))
    (o2 : f2.offset = 2 ∧ P.cellsOf f2.type = 4 ∧ P.underlying f2.type = some (.struct #[h0, h1]))
    (p0 : h0.offset = 0 ∧ P.cellsOf h0.type = 3 ∧ P.underlying h0.type = some (.struct #[g0, g1, g2])) (p1 : h1.offset = 3 ∧ P.cellsOf h1.type = 1 ∧ P.underlying h1.type = some (.int .i64))
    (q0 : g0.offset = 0 ∧ P.cellsOf g0.type = 1 ∧ P.underlying g0.type = some (.int .i64)) (q1 : g1.offset = 1 ∧ P.cellsOf g1.type = 1 ∧ P.underlying g1.type = some .string) (q2 : g2.offset = 2 ∧ P.cellsOf g2.type = 1 ∧ P.underlying g2.type = some .string)
    (h : DataW.trod enc P W B (fun _ => true) true fuel e cs = some x) : ∃ y : Cl, ClW y (x.1.weights P e) ∧ cs = clC y := by
  obtain ⟨ys, n', _, hD, _, _, hfl⟩ := DataW.trod_struct he h
  have hD' := congrArg Prod.fst hD
  simp only at hD'
  match cs, hlen with
  | [u0, u1, u2, u3, u4, u5], _ =>
    have k0 := hfl 0 f0 rfl
    have k1 := hfl 1 f1 rfl
    have k2 := hfl 2 f2 rfl
    rw [o0.1, o0.2.1] at k0
    rw [o1.1, o1.2.1] at k1
    rw [o2.1, o2.2.1] at k2
    have some_of : ∀ {k : Nat} {α : Type} {l : List α}, k < l.length → ∃ y, l[k]? = some y := fun h => ⟨_, List.getElem?_eq_getElem h⟩
    have hys : ys.length = 3 := by assumption
    obtain ⟨y0, e0⟩ := some_of (k := 0) (l := ys) (by omega)
    obtain ⟨y1, e1⟩ := some_of (k := 1) (l := ys) (by omega)
    obtain ⟨y2, e2⟩ := some_of (k := 2) (l := ys) (by omega)
    obtain ⟨z0, hz0, _, w0⟩ := DataW.trod_int o0.2.2 (k0.trans e0)
    obtain ⟨z1, hz1, _, w1⟩ := DataW.trod_int o1.2.2 (k1.trans e1)
    obtain ⟨t, m, ht, hm, hc⟩ := want_of_trod o2.2.2 (by rfl) p0 p1 q0 q1 q2 (k2.trans e2)
    simp at hz0 hz1 hc
    obtain ⟨rfl, rfl, rfl, rfl⟩ := hc
    subst hz0 hz1
    refine ⟨⟨z0, z1, t, m⟩, ⟨bounds_i64 w0, bounds_i64 w1, ht.mono (fun q hq => ?_), hm⟩, rfl⟩
    rw [hD']
    simp only [DataW.weights, he]
    exact DataW.weights_mem_each (j := 2) (t := f2.type) (d := y2.1) rfl (by rw [List.getElem?_map, e2]; rfl) _ hq
end
end Go.Proofs.YthbbheegkhlniaaGreat
