/-
  KeyOrder returns true for all rows: of two right rows one is below the other just if its key is; the rows that are handed in are left as they were.
  No condition but the reach of the statement's form; the listed variables are tied by the card.
-/
import Derived.Test.YtkdhmbfmjlpfbaaDoorKLift
import Derived.Test.YtkdhmbfmjlpfbaaDoorTie
import Derived.Test.YtkdhmbfmjlpfbaaDoorCards
import Derived.Lay
import Derived.MakeChecks
import Derived.JoinedOf
import Derived.Stop.Joined
import Derived.HandedShaped
namespace Go.Proofs.YtkdhmbfmjlpfbaaDoor
open Go.RowKit Go.Lib

theorem keyS_len (vs : List Va) : (keyS vs).size ≤ 1000 := by
  unfold keyS
  split
  · rename_i h
    have h2 := keyVs_len (right_all h).2
    have h3 := (right_all h).1
    rw [← bytes_len, bytes_mkStr _ (keyVs_bytes vs)]
    omega
  · show 0 ≤ 1000; omega
theorem keyS_cmp {a b : List Va} (ha : rightR a = true) (hb : rightR b = true) (na : ∀ x ∈ a, x.In) (nb : ∀ x ∈ b, x.In) : cmpS (keyS a) (keyS b) = ordR a b := by
  unfold keyS
  rw [if_pos ha, if_pos hb]
  exact keys_str a b (fun x hx => ⟨(right_all ha).2 x hx, (na x hx).2.1⟩) (fun x hx => ⟨(right_all hb).2 x hx, (nb x hx).2.1⟩)

set_option maxRecDepth 100000 in
set_option maxHeartbeats 6400000 in
theorem keyOrder_walk (A : Option Addr) (c : Nat) (xs : List Va) (A' : Option Addr) (c' : Nat) (ys : List Va) (w : World)
    (hr : RowIn w w.heap.size A xs) (hi : ∀ x ∈ xs, x.In) (hl : xs.length ≤ c) (hm : c ≤ maxLen) (hr' : RowIn w w.heap.size A' ys) (hi' : ∀ x ∈ ys, x.In) (hl' : ys.length ≤ c') (hm' : c' ≤ maxLen) (hMs : Ms w) :
    Calls Tryd.prog 4 #[.slice A xs.length c, .slice A' ys.length c'] w (YesB w) := by
  have HX := Lib.hid (And.intro hr hr')
  have HI := Lib.hid (And.intro hi hi')
  have HL := Lib.hid (And.intro (Nat.le_trans hl hm) (Nat.le_trans hl' hm'))
  have HM := Lib.hid hMs
  clear hr hr' hl hl' hm hm' hi hi' hMs
  go_enter Tryd.func4, Tryd.ntmps4
  go_wp2_with fail
  refine (alive_any w HM.out).mono ?_
  rintro e w1 ⟨rfl, h1⟩
  have HA := Lib.hid h1
  clear h1
  have HW := Lib.hid (And.intro ((HX.out.1.below HA.out (Nat.le_refl _)).more HA.out.size) (And.intro ((HX.out.2.below HA.out (Nat.le_refl _)).more HA.out.size) (HM.out.below HA.out (Nat.le_refl _))))
  go_wp2_with fail
  refine (long_any A c xs w1 _ HW.out.1 HL.out.1).mono ?_
  rintro e w2 ⟨rfl, rfl | ⟨rfl, hn⟩⟩
  · go_wp2_with fail
    go_wp2
    go_ret
    exact ⟨rfl, HA.out⟩
  go_wp2_with fail
  refine (long_any A' c' ys _ _ HW.out.2.1 HL.out.2).mono ?_
  rintro e w2 ⟨rfl, rfl | ⟨rfl, hn'⟩⟩
  · go_wp2_with fail
    go_wp2
    go_ret
    exact ⟨rfl, HA.out⟩
  have HN := Lib.hid (And.intro hn hn')
  clear hn hn'
  go_wp2_with fail
  refine (encode_any A c xs w1 HW.out.1 HL.out.1 (fun x hx => (HI.out.1 x hx).2.1) HW.out.2.2).mono ?_
  rintro e w3 ⟨hb3, rfl⟩
  have HA3 := Lib.hid (HA.out.trans (hb3.mono HA.out.size))
  have HW3 := Lib.hid (And.intro ((HW.out.1.below hb3 (Nat.le_refl _)).more hb3.size) (And.intro ((HW.out.2.1.below hb3 (Nat.le_refl _)).more hb3.size) (HW.out.2.2.below hb3 (Nat.le_refl _))))
  clear hb3
  go_wp2_with fail
  refine (encode_any A' c' ys w3 HW3.out.2.1 HL.out.2 (fun x hx => (HI.out.2 x hx).2.1) HW3.out.2.2).mono ?_
  rintro e w4 ⟨hb4, rfl⟩
  have HA4 := Lib.hid (HA3.out.trans (hb4.mono HA3.out.size))
  have HW4 := Lib.hid (And.intro ((HW3.out.1.below hb4 (Nat.le_refl _)).more hb4.size) ((HW3.out.2.1.below hb4 (Nat.le_refl _)).more hb4.size))
  clear hb4
  have HC := Lib.hid (fun h h' => keyS_cmp (a := xs) (b := ys) h h' HI.out.1 HI.out.2)
  have hs1 := keyS_len xs
  have hs2 := keyS_len ys
  obtain ⟨s, hs⟩ : ∃ s, s = keyS xs := ⟨_, rfl⟩
  obtain ⟨t, ht⟩ : ∃ t, t = keyS ys := ⟨_, rfl⟩
  rw [← hs, ← ht] at HC
  rw [← hs] at hs1 ⊢
  rw [← ht] at hs2 ⊢
  have HS := Lib.hid (And.intro hs1 hs2)
  clear hs ht hs1 hs2
  obtain ⟨p, hp⟩ : ∃ p, p = rightR xs := ⟨_, rfl⟩
  obtain ⟨q, hq⟩ : ∃ q, q = rightR ys := ⟨_, rfl⟩
  rw [← hp, ← hq] at HC
  rw [← hp, ← hq]
  clear hp hq
  cases p with
  | false =>
    go_wp2
    go_ret
    exact ⟨rfl, HA4.out⟩
  | true =>
    cases q with
    | false =>
      go_wp2
      go_ret
      exact ⟨rfl, HA4.out⟩
    | true =>
      have HC2 := Lib.hid (HC.out rfl rfl)
      clear HC
      go_wp2_with fail
      refine (refOrderRows_any A A' c c' xs ys _ HW4.out.1 HW4.out.2 (by have := HN.out.1.1; omega) (by have := HN.out.2.1; omega) (fun x hx => by have := HN.out.1.2 x hx; omega) (fun x hx => by have := HN.out.2.2 x hx; omega)).mono ?_
      rintro e w5 ⟨rfl, hb5⟩
      have HA5 := Lib.hid (HA4.out.trans (hb5.mono HA4.out.size))
      clear hb5
      rw [← HC2.out]
      go_wp2_with fail
      refine (refTexts_any s t _ (by have := HS.out.1; omega) (by have := HS.out.2; omega)).mono ?_
      rintro e w6 ⟨rfl, d, rfl⟩
      obtain ⟨z, hz⟩ : ∃ z, z = cmpS s t := ⟨_, rfl⟩
      rw [← hz]
      have hzz : (z == z) = true := by simp
      clear hz
      go_wp2
      go_ret
      exact ⟨rfl, ⟨HA5.out.os, HA5.out.tape, HA5.out.output, HA5.out.size, HA5.out.block⟩⟩

section
open Go.ChangeShapes Go.WideShapes Go.ChangeAt
open Go.ChangeMaps (open_string shut_string)
set_option linter.unusedVariables false
set_option maxRecDepth 100000 in
theorem keyOrder_lifted (os : Os) (started : os.Started) (H : Type) (enc : TypeId × Value → H) :
    ReturnsInHanded {} Tryd.checked os 4 .any (fun w args => (Rows.keyOrderSpec.pre enc Tryd.prog Tryd.f4 Rows.keyOrderRow.domain false w args ∧ laidMetH Tryd.prog Rows.keyOrderRow.laid w) ∧ sizedMet enc Tryd.prog Tryd.f4 (OpenSpec.ofChange Rows.keyOrderSpec) false w args)
      (Rows.keyOrderSpec.post enc Tryd.prog Tryd.f4 false true false false) := by
  refine wrap_shaped (X := fun w _ => laidMetH Tryd.prog Rows.keyOrderRow.laid w) started (by kernel_rfl) Tryd.func4 (fun _ _ _ hh h => h.of_heap hh)
    (ChangeSpec.witness_shaped (enc := enc) (C := Tryd.checked) (os := os) (X := fun w _ => laidMetH Tryd.prog Rows.keyOrderRow.laid w) false (World.laidAll Tryd.prog os Rows.keyOrderRow.laid) #[.slice none 0 0, .slice none 0 0] 8 (World.laidAll_os _ _ _)
      (World.shaped_of_ZipB (by kernel_rfl) (by kernel_rfl)) (by kernel_rfl) (by kernel_rfl) (by kernel_rfl)
      (by rw [MakeChecks.laidMetH_plain _ _ _ (by kernel_rfl)]; exact laidMet_laidAll _ (by kernel_rfl) (by kernel_rfl))) ?_
  intro W base args ds gs before hSh hL hval0 hW
  have hval : ∀ (j : Nat) t v, Tryd.f4.params[j]? = some t → args[j]? = some v → Value.okWide Tryd.prog W .any base t v := hval0
  have hW' := hW
  obtain ⟨p, q, hA0, hV, rfl, hfz, hnd⟩ := hW
  have hA : DataW.TrodAll enc Tryd.prog W 0 (fun _ => true) true Tryd.f4.params.toList args.toList ds p := hA0
  rw [Tryd.params4] at hA hval
  obtain ⟨v0, vs0, d0, ds0, p0, q0, hargs, rfl, rfl, h0, r0⟩ := trodAll_cons hA
  obtain ⟨v1, vs1, d1, ds1, p1, q1, rfl, rfl, rfl, h1, r1⟩ := trodAll_cons r0
  obtain ⟨rfl, rfl, rfl⟩ := trodAll_nil r1
  obtain rfl : args = #[v0, v1] := by cases args; simp_all
  obtain ⟨rfl, rfl⟩ := trodVars_none hV
  have k0 := h0
  have lt0 : ∀ x ∈ p0, x.block < W.heap.size := by obtain ⟨m, hm⟩ := k0; exact DataW.trod_lt m _ _ _ hm
  have k1 := h1
  have lt1 : ∀ x ∈ p1, x.block < W.heap.size := by obtain ⟨m, hm⟩ := k1; exact DataW.trod_lt m _ _ _ hm
  obtain ⟨a0, len0, cap0, rfl⟩ := okWide_slice Tryd.underlying23 (hval 0 23 v0 rfl rfl)
  obtain ⟨z0, rfl, l0, m0, i0x, r0x⟩ := rd_of_rows Tryd.underlying23 Tryd.underlying43 (by kernel_rfl) ⟨rfl, by kernel_rfl, Tryd.underlying3⟩ ⟨rfl, by kernel_rfl, Tryd.underlying3⟩ ⟨rfl, by kernel_rfl, Tryd.underlying9⟩ h0
  obtain ⟨a1, len1, cap1, rfl⟩ := okWide_slice Tryd.underlying23 (hval 1 23 v1 rfl rfl)
  obtain ⟨z1, rfl, l1, m1, i1x, r1x⟩ := rd_of_rows Tryd.underlying23 Tryd.underlying43 (by kernel_rfl) ⟨rfl, by kernel_rfl, Tryd.underlying3⟩ ⟨rfl, by kernel_rfl, Tryd.underlying3⟩ ⟨rfl, by kernel_rfl, Tryd.underlying9⟩ h1
  clear hA0 hval0
  refine (keyOrder_walk a0 cap0 z0 a1 cap1 z1 W r0x i0x l0 m0 r1x i1x l1 m1 (ms_of_shaped hSh)).mono fun e W' ⟨he, bel⟩ => ?_
  subst he
  exact ⟨_, rfl, _, _, _, [], _, [], hW', trodAll_mk1 (shut_bool Tryd.underlying4 _), (trodAll_cons_mk (Below.trod laidOut (by kernel_rfl) (of_decide_eq_true (by kernel_rfl)) k0 bel lt0) (trodAll_cons_mk (Below.trod laidOut (by kernel_rfl) (of_decide_eq_true (by kernel_rfl)) k1 bel lt1) trodAll_mk0)), rfl, bel.frame _, fun h => by cases h⟩

theorem keyOrder_over : Rows.keyOrderRow.holds Tryd.pinned (OpenSpec.ofChange Rows.keyOrderSpec) :=
  OpenClaim.holds_of_wide 4 Tryd.f4 rfl rfl rfl rfl rfl rfl rfl ⟨rfl, rfl, rfl, rfl, rfl⟩ rfl rfl rfl rfl rfl (by kernel_rfl) Tryd.func4 (by kernel_rfl)
    (of_decide_eq_true (by kernel_rfl)) (by unfold Func.isWrapper; first | (rw [if_pos (by decide +kernel)]; kernel_rfl) | (rw [if_neg (by decide +kernel)]; exact ⟨rfl, rfl⟩))
    (fun os started H enc _ => keyOrder_lifted os started H enc)

theorem keyOrder_card : Rows.KeyOrderCardSaid :=
  Claim7.holds_tied_plain_at .later [] [.data, .pinned] true _ false
    keyOrder_over (fun _ h => by cases h) (by kernel_rfl) (fun _ h => by cases h) keyOrder_row_tie rfl ⟨rfl, rfl⟩ (by kernel_rfl) rfl
    (fun f fn hf hfn => by
      obtain rfl : f = 4 := Option.some.inj ((show Tryd.prog.funcNamed Rows.keyOrderRow.func = some 4 by kernel_rfl).symm.trans hf) |>.symm
      obtain rfl : fn = Tryd.f4 := (Option.some.inj (Tryd.func4.symm.trans hfn)).symm
      have hall : (Tryd.f4.params.toList.all fun t => !Tryd.prog.wantsStandIn t) = true := by kernel_rfl
      exact ⟨by kernel_rfl, fun j t ht => by
        have h1 := List.all_eq_true.1 hall t (List.mem_of_getElem? (by simpa using ht))
        show Tryd.prog.wantsStandIn t = false
        simpa using h1⟩)
    (by kernel_rfl)
end
#print axioms keyOrder_card
end Go.Proofs.YtkdhmbfmjlpfbaaDoor
