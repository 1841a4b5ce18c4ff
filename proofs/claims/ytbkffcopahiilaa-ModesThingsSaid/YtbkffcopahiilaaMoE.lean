/-
  Layer 10's arguments opened: things.
-/
import Derived.Test.YtbkffcopahiilaaMoV
import Derived.ProofKit
import Derived.OpenShut
import Derived.ChangeOld
import Derived.Deep.Slices
import Derived.SizedLaws
namespace Go.Proofs.Ytbkffcopahiilaa
open Go.ChangeShapes Go.WideShapes Go.ChangeAt Go.RowKit

theorem own : ownKnob Try.prog.godebug = none := by kernel_rfl
theorem laidOut : laidOutB Try.prog = true := by kernel_rfl
section
variable {P : Program} {H : Type} {enc : TypeId × Value → H} {W : World} {B : Nat}
theorem th_of_trod {fuel : Nat} {e : TypeId} {f0 f1 f2 : Field} {cs : List Value} {x : DataW H × List MemPlace} (he : P.underlying e = some (.struct #[f0, f1, f2])) (hlen : cs.length = 3)
    (o0 : f0.offset = 0 ∧ P.cellsOf f0.type = 1 ∧ P.underlying f0.type = some (.int .i64)) (o1 : f1.offset = 1 ∧ P.cellsOf f1.type = 1 ∧ P.underlying f1.type = some .string) (o2 : f2.offset = 2 ∧ P.cellsOf f2.type = 1 ∧ P.underlying f2.type = some .string)
    (h : DataW.trod enc P W B (fun _ => true) true fuel e cs = some x) : ∃ y : Th, (NumI y.k ∧ (∃ q ∈ x.1.weights P e, y.t.size ≤ q) ∧ ∃ q ∈ x.1.weights P e, y.y.size ≤ q) ∧ cs = thC y := by
  cases fuel with
  | zero => simp [DataW.trod] at h
  | succ fuel =>
  obtain ⟨ys, n', _, hD, _, _, hfl⟩ := DataW.trod_struct he h
  have hD' := congrArg Prod.fst hD
  simp only at hD'
  match cs, hlen with
  | [u0, u1, u2], _ =>
    have g0 := hfl 0 f0 rfl
    have g1 := hfl 1 f1 rfl
    have g2 := hfl 2 f2 rfl
    rw [o0.1, o0.2.1] at g0
    rw [o1.1, o1.2.1] at g1
    rw [o2.1, o2.2.1] at g2
    have some_of : ∀ {k : Nat} {α : Type} {l : List α}, k < l.length → ∃ y, l[k]? = some y := fun h => ⟨_, List.getElem?_eq_getElem h⟩
    have hys : ys.length = 3 := by assumption
    obtain ⟨y0, e0⟩ := some_of (k := 0) (l := ys) (by omega)
    obtain ⟨y1, e1⟩ := some_of (k := 1) (l := ys) (by omega)
    obtain ⟨y2, e2⟩ := some_of (k := 2) (l := ys) (by omega)
    obtain ⟨z0, hz0, _, w0⟩ := DataW.trod_int o0.2.2 (g0.trans e0)
    obtain ⟨s1, hs1, hx1, _⟩ := DataW.trod_string o1.2.2 (g1.trans e1)
    obtain ⟨s2, hs2, hx2, _⟩ := DataW.trod_string o2.2.2 (g2.trans e2)
    simp at hz0 hs1 hs2
    subst hz0 hs1 hs2
    refine ⟨⟨z0, s1, s2⟩, ⟨bounds_i64 w0, ⟨s1.data.toList.length, ?_, Nat.le_of_eq (Array.length_toList (xs := s1.data)).symm⟩, ⟨s2.data.toList.length, ?_, Nat.le_of_eq (Array.length_toList (xs := s2.data)).symm⟩⟩, rfl⟩
    · rw [hD']
      simp only [DataW.weights, he]
      refine DataW.weights_mem_each (j := 1) (t := f1.type) (d := y1.1) rfl (by rw [List.getElem?_map, e1]; rfl) _ ?_
      rw [hx1]
      simp [DataW.weights]
    · rw [hD']
      simp only [DataW.weights, he]
      refine DataW.weights_mem_each (j := 2) (t := f2.type) (d := y2.1) rfl (by rw [List.getElem?_map, e2]; rfl) _ ?_
      rw [hx2]
      simp [DataW.weights]
theorem th_of_wide {t : TypeId} {f0 f1 f2 : Field} {v : Value} {d : DataW H} {p : List MemPlace} {W' : World} {r : Reach} {b0 : Nat} (ht : P.underlying t = some (.struct #[f0, f1, f2])) (hc : P.cellsOf t = 3)
    (o0 : f0.offset = 0 ∧ P.cellsOf f0.type = 1 ∧ P.underlying f0.type = some (.int .i64)) (o1 : f1.offset = 1 ∧ P.cellsOf f1.type = 1 ∧ P.underlying f1.type = some .string) (o2 : f2.offset = 2 ∧ P.cellsOf f2.type = 1 ∧ P.underlying f2.type = some .string)
    (hval : Value.okWide P W' r b0 t v) (h : DataW.Trod enc P W B (fun _ => true) true t v d p) (hsz : ∀ q ∈ d.weights P t, q ≤ reachBytes) : ∃ y : Th, y.In ∧ v = thV y := by
  obtain ⟨cs, rfl, hs⟩ := okWide_struct ht hval
  obtain ⟨fuel, hf⟩ := h
  obtain ⟨y, hy, e⟩ := th_of_trod ht (by show cs.toList.length = 3; rw [Array.length_toList, hs, hc]) o0 o1 o2 hf
  obtain ⟨hk, ⟨q1, hq1, l1⟩, ⟨q2, hq2, l2⟩⟩ := hy
  have r1 := hsz q1 hq1
  have r2 := hsz q2 hq2
  unfold reachBytes at r1 r2
  refine ⟨y, ⟨hk, by unfold roomLen; omega, by unfold roomLen; omega⟩, ?_⟩
  have e' : cs.toList = thC y := e
  rw [show cs = (thC y).toArray by rw [← e']]
  rfl
end
end Go.Proofs.Ytbkffcopahiilaa
