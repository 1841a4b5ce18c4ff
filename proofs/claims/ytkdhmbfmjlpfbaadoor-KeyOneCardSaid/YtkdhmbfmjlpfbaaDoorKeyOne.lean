/-
  KeyOne returns true for all texts: what is decoded is encoded to the same bytes; of bytes that aren't decoded no value is handed back.
  No condition but the reach of the statement's form; the listed variables are tied by the card.
-/
import Derived.Test.YtkdhmbfmjlpfbaaDoorKLift
import Derived.Test.YtkdhmbfmjlpfbaaDoorKDec
import Derived.Test.YtkdhmbfmjlpfbaaDoorTie
import Derived.Test.YtkdhmbfmjlpfbaaDoorCards
import Derived.Lay
import Derived.MakeChecks
import Derived.JoinedOf
import Derived.Stop.Joined
import Derived.HandedShaped
namespace Go.Proofs.YtkdhmbfmjlpfbaaDoor
open Go.RowKit Go.Lib

set_option maxRecDepth 100000 in
set_option maxHeartbeats 6400000 in
theorem keyOne_walk (s : ByteArray) (w : World) (_hs : s.size ≤ maxLen) (hMs : Ms w) : Calls Tryd.prog 6 #[.string s] w (YesB w) := by
  have HM := Lib.hid hMs
  clear hMs
  go_enter Tryd.func6, Tryd.ntmps6
  go_wp2_with fail
  refine (alive_any w HM.out).mono ?_
  rintro e w1 ⟨rfl, h1⟩
  have HA := Lib.hid h1
  clear h1
  have HM1 := Lib.hid (HM.out.below HA.out (Nat.le_refl _))
  by_cases hl : 1000 < s.size
  · have hli : (1000 : Int) < (s.size : Int) := by omega
    go_wp2
    go_ret
    exact ⟨rfl, HA.out⟩
  have hli : ¬ (1000 : Int) < (s.size : Int) := by omega
  go_wp2_with fail
  refine (decode_any s w1 (by omega) HM1.out).mono ?_
  rintro e w2 ⟨hb2, ⟨vs, A, c, rfl, hg, hk, hown⟩ | ⟨rfl, _⟩⟩
  · have HA2 := Lib.hid (HA.out.trans (hb2.mono HA.out.size))
    have HO := Lib.hid (And.intro (RowIn.of_own hown) (HM1.out.below hb2 (Nat.le_refl _)))
    have HG := Lib.hid (And.intro hg hk)
    have h8 := (right_all hg.1).1
    clear hb2 hown hg hk
    go_wp2_with fail
    refine (encode_any A c vs w2 HO.out.1 (by unfold maxLen; omega) HG.out.1.2 HO.out.2).mono ?_
    rintro e w3 ⟨hb3, rfl⟩
    have HA3 := Lib.hid (HA2.out.trans (hb3.mono HA2.out.size))
    clear hb3
    have hks : keyS vs = s := by
      unfold keyS
      rw [if_pos HG.out.1.1]
      exact bytes_inj (by rw [bytes_mkStr _ (keyVs_bytes _), HG.out.2])
    rw [hks, HG.out.1.1]
    have hse : (s.toList == s.toList) = true := by simp
    clear hks
    go_wp2
    go_ret
    exact ⟨rfl, HA3.out⟩
  · have HA2 := Lib.hid (HA.out.trans (hb2.mono HA.out.size))
    clear hb2
    go_wp2
    go_ret
    exact ⟨rfl, HA2.out⟩

section
open Go.ChangeShapes Go.WideShapes Go.ChangeAt
open Go.ChangeMaps (open_string shut_string)
set_option linter.unusedVariables false
set_option maxRecDepth 100000 in
theorem keyOne_lifted (os : Os) (started : os.Started) (H : Type) (enc : TypeId × Value → H) :
    ReturnsInHanded {} Tryd.checked os 6 .any (fun w args => (Rows.keyOneSpec.pre enc Tryd.prog Tryd.f6 Rows.keyOneRow.domain false w args ∧ laidMetH Tryd.prog Rows.keyOneRow.laid w) ∧ sizedMet enc Tryd.prog Tryd.f6 (OpenSpec.ofChange Rows.keyOneSpec) false w args)
      (Rows.keyOneSpec.post enc Tryd.prog Tryd.f6 false true false false) := by
  refine wrap_shaped (X := fun w _ => laidMetH Tryd.prog Rows.keyOneRow.laid w) started (by kernel_rfl) Tryd.func6 (fun _ _ _ hh h => h.of_heap hh)
    (ChangeSpec.witness_shaped (enc := enc) (C := Tryd.checked) (os := os) (X := fun w _ => laidMetH Tryd.prog Rows.keyOneRow.laid w) false (World.laidAll Tryd.prog os Rows.keyOneRow.laid) #[.string ByteArray.empty] 8 (World.laidAll_os _ _ _)
      (World.shaped_of_ZipB (by kernel_rfl) (by kernel_rfl)) (by kernel_rfl) (by kernel_rfl) (by kernel_rfl)
      (by rw [MakeChecks.laidMetH_plain _ _ _ (by kernel_rfl)]; exact laidMet_laidAll _ (by kernel_rfl) (by kernel_rfl))) ?_
  intro W base args ds gs before hSh hL hval0 hW
  have hval : ∀ (j : Nat) t v, Tryd.f6.params[j]? = some t → args[j]? = some v → Value.okWide Tryd.prog W .any base t v := hval0
  have hW' := hW
  obtain ⟨p, q, hA0, hV, rfl, hfz, hnd⟩ := hW
  have hA : DataW.TrodAll enc Tryd.prog W 0 (fun _ => true) true Tryd.f6.params.toList args.toList ds p := hA0
  rw [Tryd.params6] at hA hval
  obtain ⟨v0, vs0, d0, ds0, p0, q0, hargs, rfl, rfl, h0, r0⟩ := trodAll_cons hA
  obtain ⟨rfl, rfl, rfl⟩ := trodAll_nil r0
  obtain rfl : args = #[v0] := by cases args; simp_all
  obtain ⟨rfl, rfl⟩ := trodVars_none hV
  have k0 := h0
  have lt0 : ∀ x ∈ p0, x.block < W.heap.size := by obtain ⟨m, hm⟩ := k0; exact DataW.trod_lt m _ _ _ hm
  obtain ⟨a0, rfl, rfl, rfl, w0⟩ := open_string Tryd.underlying9 (hval 0 9 v0 rfl rfl) h0
  clear hA0 hval0
  refine (keyOne_walk a0 W w0 (ms_of_shaped hSh)).mono fun e W' ⟨he, bel⟩ => ?_
  subst he
  exact ⟨_, rfl, _, _, _, [], _, [], hW', trodAll_mk1 (shut_bool Tryd.underlying4 _), (trodAll_cons_mk (Below.trod laidOut (by kernel_rfl) (of_decide_eq_true (by kernel_rfl)) k0 bel lt0) trodAll_mk0), rfl, bel.frame _, fun h => by cases h⟩

theorem keyOne_over : Rows.keyOneRow.holds Tryd.pinned (OpenSpec.ofChange Rows.keyOneSpec) :=
  OpenClaim.holds_of_wide 6 Tryd.f6 rfl rfl rfl rfl rfl rfl rfl ⟨rfl, rfl, rfl, rfl, rfl⟩ rfl rfl rfl rfl rfl (by kernel_rfl) Tryd.func6 (by kernel_rfl)
    (of_decide_eq_true (by kernel_rfl)) (by unfold Func.isWrapper; first | (rw [if_pos (by decide +kernel)]; kernel_rfl) | (rw [if_neg (by decide +kernel)]; exact ⟨rfl, rfl⟩))
    (fun os started H enc _ => keyOne_lifted os started H enc)

theorem keyOne_card : Rows.KeyOneCardSaid :=
  Claim7.holds_tied_plain_at .later [] [.data, .pinned] true _ false
    keyOne_over (fun _ h => by cases h) (by kernel_rfl) (fun _ h => by cases h) keyOne_row_tie rfl ⟨rfl, rfl⟩ (by kernel_rfl) rfl
    (fun f fn hf hfn => by
      obtain rfl : f = 6 := Option.some.inj ((show Tryd.prog.funcNamed Rows.keyOneRow.func = some 6 by kernel_rfl).symm.trans hf) |>.symm
      obtain rfl : fn = Tryd.f6 := (Option.some.inj (Tryd.func6.symm.trans hfn)).symm
      have hall : (Tryd.f6.params.toList.all fun t => !Tryd.prog.wantsStandIn t) = true := by kernel_rfl
      exact ⟨by kernel_rfl, fun j t ht => by
        have h1 := List.all_eq_true.1 hall t (List.mem_of_getElem? (by simpa using ht))
        show Tryd.prog.wantsStandIn t = false
        simpa using h1⟩)
    (by kernel_rfl)
end
#print axioms keyOne_card
end Go.Proofs.YtkdhmbfmjlpfbaaDoor
