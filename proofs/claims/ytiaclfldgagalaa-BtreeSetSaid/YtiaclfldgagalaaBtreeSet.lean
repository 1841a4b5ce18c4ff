/-
  BtreeSet: for every list of entries and every list of numbers the statement's function answers true and changes nothing that it was handed: two trees into which the entries were inserted in opposite orders, and out of which the same ones were deleted, have just what was inserted and not deleted since, in order. No condition on the input.
-/
import Derived.Test.YtiaclfldgagalaaM18
import Derived.Test.YtiaclfldgagalaaESetL
namespace Go.Proofs.Ytiaclfldgagalaa
open Go.RowKit Go.Lib

theorem btreeSet_walk (A : Option Addr) (c : Nat) (es : List En) (A2 : Option Addr) (c2 : Nat) (cs : List Int) (w : World) (hc : RowG En.vs 3 w w.heap.size A es) (hin : ∀ x ∈ es, x.In) (hbig : ∀ x ∈ es, x.s.size ≤ 140737488355328) (_ : es.length ≤ c) (_ : c ≤ maxLen) (hcs : RowG intC 1 w w.heap.size A2 cs) (_ : ∀ x ∈ cs, InC x) (_ : cs.length ≤ c2) (_ : c2 ≤ maxLen) :
    Calls Try.prog 5 #[.slice A es.length c, .slice A2 cs.length c2] w (YesB w) :=
  bset_walk (impl (K := 140737488355328) (by decide)) (by decide) A c es A2 c2 cs w hc hin hbig hcs

section
open Go.ChangeShapes Go.WideShapes Go.ChangeAt
open Go.ChangeMaps (open_string shut_string)
set_option linter.unusedVariables false
set_option maxRecDepth 100000 in
theorem btreeSet_lifted (os : Os) (started : os.Started) (H : Type) (enc : TypeId × Value → H) :
    ReturnsInHanded {} Try.checked os 5 .any (Rows.btreeSetSpec.pre6 enc Try.prog Try.f5 Rows.btreeSetRow.domain false) (Rows.btreeSetSpec.post enc Try.prog Try.f5 false true false false) := by
  refine returnsInHanded_of_change_sized (C := Try.checked) own started (by kernel_rfl) Try.func5
    (ChangeSpec.witness6 (enc := enc) (C := Try.checked) false ⟨#[], #[.slice none 0 0, .slice none 0 0], []⟩ 8 (by kernel_rfl) (by kernel_rfl) (by kernel_rfl) (by kernel_rfl)) ?_
  intro W base args ds gs before hval0 hW hcnd hsz _
  have hval : ∀ (j : Nat) t v, Try.f5.params[j]? = some t → args[j]? = some v → Value.okWide Try.prog W .any base t v := hval0
  have hW' := hW
  obtain ⟨p, q, hA0, hV, rfl, hfz, hnd⟩ := hW
  have hA : DataW.TrodAll enc Try.prog W 0 (fun _ => true) true Try.f5.params.toList args.toList ds p := hA0
  rw [Try.params5] at hA hval
  obtain ⟨v0, vs0, d0, ds0, p0, q0, hargs, rfl, rfl, h0, r0⟩ := trodAll_cons hA
  obtain ⟨v1, vs1, d1, ds1, p1, q1, rfl, rfl, rfl, h1, r1⟩ := trodAll_cons r0
  obtain ⟨rfl, rfl, rfl⟩ := trodAll_nil r1
  obtain rfl : args = #[v0, v1] := by cases args; simp_all
  obtain ⟨rfl, rfl⟩ := trodVars_none hV
  have k0 := h0
  have lt0 : ∀ x ∈ p0, x.block < W.heap.size := by obtain ⟨m, hm⟩ := k0; exact DataW.trod_lt m _ _ _ hm
  have k1 := h1
  have lt1 : ∀ x ∈ p1, x.block < W.heap.size := by obtain ⟨m, hm⟩ := k1; exact DataW.trod_lt m _ _ _ hm
  obtain ⟨a0, len0, cap0, rfl⟩ := okWide_slice Try.underlying28 (hval 0 28 v0 rfl rfl)
  obtain ⟨z0, rfl, l0, m0, o0, r0x⟩ := rows_of_trodW En.vs En.In (fun y => y.s.size) 3 (fun _ => rfl) (by decide) Try.underlying28 (by kernel_rfl) (fun _ _ _ hcl hh => enw_of_trod Try.underlying35 hcl ⟨rfl, by kernel_rfl, Try.underlying9⟩ ⟨rfl, by kernel_rfl, Try.underlying33⟩ ⟨rfl, by kernel_rfl, Try.underlying3⟩ ⟨rfl, by kernel_rfl, Try.underlying3⟩ hh) h0
  have b0x : ∀ x ∈ z0, x.s.size ≤ 140737488355328 := fun x hx => by
    obtain ⟨_, q, hq, hle⟩ := o0 x hx
    have h8 := List.all_eq_true.1 hsz _ (DataW.weights_mem_each (j := 0) (t := 28) rfl rfl q hq)
    have h7 : q ≤ reachBytes := by simpa using h8
    unfold reachBytes at h7
    omega
  obtain ⟨a1, len1, cap1, rfl⟩ := okWide_slice Try.underlying48 (hval 1 48 v1 rfl rfl)
  obtain ⟨z1, rfl, l1, m1, o1, r1x⟩ := rows_of_trod intC InC 1 (fun _ => rfl) (by decide) Try.underlying48 (by kernel_rfl) (fun _ _ _ hcl hh => int_of_trod Try.underlying3 hcl hh) h1
  clear hA0 hval0
  refine (btreeSet_walk a0 cap0 z0 a1 cap1 z1 W r0x (fun x hx => (o0 x hx).1) b0x l0 m0 r1x o1 l1 m1).mono fun e W' ⟨he, bel⟩ => ?_
  subst he
  exact ⟨_, rfl, _, _, _, [], _, [], hW', trodAll_mk1 (shut_bool Try.underlying4 _), (trodAll_cons_mk (Below.trod laidOut (by kernel_rfl) (of_decide_eq_true (by kernel_rfl)) k0 bel lt0) (trodAll_cons_mk (Below.trod laidOut (by kernel_rfl) (of_decide_eq_true (by kernel_rfl)) k1 bel lt1) trodAll_mk0)), rfl, bel.frame _, fun h => by cases h⟩

theorem btreeSet_over : Rows.btreeSetRow.holds Try.pinned (OpenSpec.ofChange Rows.btreeSetSpec) :=
  OpenClaim.holds_of_wide 5 Try.f5 rfl rfl rfl rfl rfl rfl rfl ⟨rfl, rfl, rfl, rfl, rfl⟩ rfl rfl rfl rfl rfl (by kernel_rfl) Try.func5 (by kernel_rfl)
    (of_decide_eq_true (by kernel_rfl)) (by unfold Func.isWrapper; first | (rw [if_pos (by decide +kernel)]; kernel_rfl) | (rw [if_neg (by decide +kernel)]; exact ⟨rfl, rfl⟩))
    (fun os started H enc _ => btreeSet_lifted os started H enc)

theorem btreeSet_holds : Rows.BtreeSetSaid := btreeSet_over
end
#print axioms btreeSet_holds
end Go.Proofs.Ytiaclfldgagalaa
