/-
  BtreeTwice: for every list of entries the statement's function answers true and changes nothing that it was handed: the least key that two entries have is told, and none where there is none. No condition on the input.
-/
import Derived.Test.YtiaclfldgagalaaM18
import Derived.Test.YtiaclfldgagalaaM20
namespace Go.Proofs.Ytiaclfldgagalaa
open Go.RowKit Go.Lib

theorem btreeTwice_walk (A : Option Addr) (c : Nat) (es : List En) (w : World) (hc : RowG En.vs 3 w w.heap.size A es) (hin : ∀ x ∈ es, x.In) (hl : es.length ≤ c) (hm : c ≤ maxLen) :
    Calls Try.prog 7 #[.slice A es.length c] w (YesB w) := btwice_walk (impl (by decide)) A c es w hc hin hl hm

section
open Go.ChangeShapes Go.WideShapes Go.ChangeAt
open Go.ChangeMaps (open_string shut_string)
set_option linter.unusedVariables false
set_option maxRecDepth 100000 in
theorem btreeTwice_lifted (os : Os) (started : os.Started) (H : Type) (enc : TypeId × Value → H) :
    ReturnsInHanded {} Try.checked os 7 .any (Rows.btreeTwiceSpec.pre6 enc Try.prog Try.f7 Rows.btreeTwiceRow.domain false) (Rows.btreeTwiceSpec.post enc Try.prog Try.f7 false true false false) := by
  refine returnsInHanded_of_change (C := Try.checked) own started (by kernel_rfl) Try.func7
    (ChangeSpec.witness6 (enc := enc) (C := Try.checked) false ⟨#[], #[.slice none 0 0], []⟩ 8 (by kernel_rfl) (by kernel_rfl) (by kernel_rfl) (by kernel_rfl)) ?_
  intro W base args ds gs before hval0 hW hcnd _
  have hval : ∀ (j : Nat) t v, Try.f7.params[j]? = some t → args[j]? = some v → Value.okWide Try.prog W .any base t v := hval0
  have hW' := hW
  obtain ⟨p, q, hA0, hV, rfl, hfz, hnd⟩ := hW
  have hA : DataW.TrodAll enc Try.prog W 0 (fun _ => true) true Try.f7.params.toList args.toList ds p := hA0
  rw [Try.params7] at hA hval
  obtain ⟨v0, vs0, d0, ds0, p0, q0, hargs, rfl, rfl, h0, r0⟩ := trodAll_cons hA
  obtain ⟨rfl, rfl, rfl⟩ := trodAll_nil r0
  obtain rfl : args = #[v0] := by cases args; simp_all
  obtain ⟨rfl, rfl⟩ := trodVars_none hV
  have k0 := h0
  have lt0 : ∀ x ∈ p0, x.block < W.heap.size := by obtain ⟨m, hm⟩ := k0; exact DataW.trod_lt m _ _ _ hm
  obtain ⟨a0, len0, cap0, rfl⟩ := okWide_slice Try.underlying28 (hval 0 28 v0 rfl rfl)
  obtain ⟨z0, rfl, l0, m0, o0, r0x⟩ := rows_of_trod En.vs En.In 3 (fun _ => rfl) (by decide) Try.underlying28 (by kernel_rfl) (fun _ _ _ hcl hh => en_of_trod Try.underlying35 hcl ⟨rfl, by kernel_rfl, Try.underlying9⟩ ⟨rfl, by kernel_rfl, Try.underlying33⟩ ⟨rfl, by kernel_rfl, Try.underlying3⟩ ⟨rfl, by kernel_rfl, Try.underlying3⟩ hh) h0
  clear hA0 hval0
  refine (btreeTwice_walk a0 cap0 z0 W r0x o0 l0 m0).mono fun e W' ⟨he, bel⟩ => ?_
  subst he
  exact ⟨_, rfl, _, _, _, [], _, [], hW', trodAll_mk1 (shut_bool Try.underlying4 _), (trodAll_cons_mk (Below.trod laidOut (by kernel_rfl) (of_decide_eq_true (by kernel_rfl)) k0 bel lt0) trodAll_mk0), rfl, bel.frame _, fun h => by cases h⟩

theorem btreeTwice_over : Rows.btreeTwiceRow.holds Try.pinned (OpenSpec.ofChange Rows.btreeTwiceSpec) :=
  OpenClaim.holds_of_wide 7 Try.f7 rfl rfl rfl rfl rfl rfl rfl ⟨rfl, rfl, rfl, rfl, rfl⟩ rfl rfl rfl rfl rfl (by kernel_rfl) Try.func7 (by kernel_rfl)
    (of_decide_eq_true (by kernel_rfl)) (by unfold Func.isWrapper; first | (rw [if_pos (by decide +kernel)]; kernel_rfl) | (rw [if_neg (by decide +kernel)]; exact ⟨rfl, rfl⟩))
    (fun os started H enc _ => btreeTwice_lifted os started H enc)

theorem btreeTwice_holds : Rows.BtreeTwiceSaid := btreeTwice_over
end
#print axioms btreeTwice_holds
end Go.Proofs.Ytiaclfldgagalaa
