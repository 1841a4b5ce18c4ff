/-
  KeyJoins returns true for all rows: the key of two rows' values together is their keys, one behind the other; the rows that are handed in are left as they were.
  No condition but the reach of the statement's form; the listed variables are tied by the card.
-/
import Derived.Test.YtkdhmbfmjlpfbaaDoorKLift
import Derived.Test.YtkdhmbfmjlpfbaaDoorTie
import Derived.Test.YtkdhmbfmjlpfbaaDoorCards
import Derived.Lay
import Derived.MakeChecks
import Derived.JoinedOf
import Derived.Stop.Joined
import Derived.HandedShaped
namespace Go.Proofs.YtkdhmbfmjlpfbaaDoor
open Go.RowKit Go.Lib

theorem keyS_len (vs : List Va) : (keyS vs).size ≤ 1000 := by
  unfold keyS
  split
  · rename_i h
    have h2 := keyVs_len (right_all h).2
    have h3 := (right_all h).1
    rw [← bytes_len, bytes_mkStr _ (keyVs_bytes vs)]
    omega
  · show 0 ≤ 1000; omega
theorem right_app (a b : List Va) (h : ¬ (rightR a = true ∧ rightR b = true)) : rightR (a ++ b) = false := by
  cases hr : rightR (a ++ b) with
  | false => rfl
  | true =>
    exfalso
    obtain ⟨h1, h2⟩ := right_all hr
    rw [List.length_append] at h1
    exact h ⟨right_mk (by omega) fun x hx => h2 x (by simp [hx]), right_mk (by omega) fun x hx => h2 x (by simp [hx])⟩
theorem right_long (a b : List Va) (ha : rightR a = true) (hb : rightR b = true) (h : rightR (a ++ b) = false) : 8 < a.length + b.length := by
  rcases Nat.lt_or_ge 8 (a.length + b.length) with h1 | h1
  · exact h1
  · have := right_mk (vs := a ++ b) (by rw [List.length_append]; omega) fun x hx => (List.mem_append.1 hx).elim ((right_all ha).2 x) ((right_all hb).2 x)
    rw [this] at h; cases h
theorem key_app (a b : List Va) (ha : rightR a = true) (hb : rightR b = true) (h : rightR (a ++ b) = true) : keyS (a ++ b) = keyS a ++ keyS b := by
  unfold keyS
  rw [if_pos ha, if_pos hb, if_pos h]
  apply bytes_inj
  rw [bytes_cat, bytes_mkStr _ (keyVs_bytes _), bytes_mkStr _ (keyVs_bytes _), bytes_mkStr _ (keyVs_bytes _), keyVs_append]

set_option maxRecDepth 100000 in
set_option maxHeartbeats 6400000 in
theorem keyJoins_walk (A : Option Addr) (c : Nat) (xs : List Va) (A' : Option Addr) (c' : Nat) (ys : List Va) (w : World)
    (hr : RowIn w w.heap.size A xs) (hi : ∀ x ∈ xs, x.In) (hl : xs.length ≤ c) (hm : c ≤ maxLen) (hr' : RowIn w w.heap.size A' ys) (hi' : ∀ x ∈ ys, x.In) (hl' : ys.length ≤ c') (hm' : c' ≤ maxLen) (hMs : Ms w) :
    Calls Tryd.prog 8 #[.slice A xs.length c, .slice A' ys.length c'] w (YesB w) := by
  have HX := Lib.hid (And.intro hr hr')
  have HI := Lib.hid (And.intro hi hi')
  have HL := Lib.hid (And.intro (Nat.le_trans hl hm) (Nat.le_trans hl' hm'))
  have HM := Lib.hid hMs
  clear hr hr' hl hl' hm hm' hi hi' hMs
  go_enter Tryd.func8, Tryd.ntmps8
  go_wp2_with fail
  refine (alive_any w HM.out).mono ?_
  rintro e w1 ⟨rfl, h1⟩
  have HA := Lib.hid h1
  clear h1
  have HW := Lib.hid (And.intro ((HX.out.1.below HA.out (Nat.le_refl _)).more HA.out.size) (And.intro ((HX.out.2.below HA.out (Nat.le_refl _)).more HA.out.size) (HM.out.below HA.out (Nat.le_refl _))))
  go_wp2_with fail
  refine (long_any A c xs w1 _ HW.out.1 HL.out.1).mono ?_
  rintro e w2 ⟨rfl, rfl | ⟨rfl, hn⟩⟩
  · go_wp2_with fail
    go_wp2
    go_ret
    exact ⟨rfl, HA.out⟩
  go_wp2_with fail
  refine (long_any A' c' ys _ _ HW.out.2.1 HL.out.2).mono ?_
  rintro e w2 ⟨rfl, rfl | ⟨rfl, hn'⟩⟩
  · go_wp2_with fail
    go_wp2
    go_ret
    exact ⟨rfl, HA.out⟩
  have HN := Lib.hid (And.intro hn hn')
  clear hn hn'
  go_wp2_with fail
  refine (encode_any A c xs w1 HW.out.1 HL.out.1 (fun x hx => (HI.out.1 x hx).2.1) HW.out.2.2).mono ?_
  rintro e w3 ⟨hb3, rfl⟩
  have HA3 := Lib.hid (HA.out.trans (hb3.mono HA.out.size))
  have HW3 := Lib.hid (And.intro ((HW.out.1.below hb3 (Nat.le_refl _)).more hb3.size) (And.intro ((HW.out.2.1.below hb3 (Nat.le_refl _)).more hb3.size) (HW.out.2.2.below hb3 (Nat.le_refl _))))
  clear hb3
  go_wp2_with fail
  refine (encode_any A' c' ys w3 HW3.out.2.1 HL.out.2 (fun x hx => (HI.out.2 x hx).2.1) HW3.out.2.2).mono ?_
  rintro e w4 ⟨hb4, rfl⟩
  have HA4 := Lib.hid (HA3.out.trans (hb4.mono HA3.out.size))
  have HW4 := Lib.hid (And.intro ((HW3.out.1.below hb4 (Nat.le_refl _)).more hb4.size) (And.intro ((HW3.out.2.1.below hb4 (Nat.le_refl _)).more hb4.size) (HW3.out.2.2.below hb4 (Nat.le_refl _))))
  clear hb4
  obtain ⟨zs, hzs⟩ : ∃ zs, zs = xs ++ ys := ⟨_, rfl⟩
  have HZL := Lib.hid (show zs.length = xs.length + ys.length by rw [hzs, List.length_append])
  have HZS := Lib.hid hzs
  clear hzs
  go_wp2_with fail
  refine (copyRow_any A c xs w4 HW4.out.1 (by have := HN.out.1.1; omega)).mono ?_
  rintro e w5 ⟨v5, rfl, hown5, hb5⟩
  obtain ⟨A5, c5, rfl, _, _⟩ := own3_shape hown5
  have HA5 := Lib.hid (HA4.out.trans (hb5.mono HA4.out.size))
  have HO5 := Lib.hid (And.intro hown5 (And.intro hb5 (((HW4.out.2.1).below hb5 (Nat.le_refl _)).more hb5.size)))
  have HM5 := Lib.hid (HW4.out.2.2.below hb5 (Nat.le_refl _))
  clear hown5 hb5
  go_wp2_with (at_builtin; refine wpList_append_row rfl (.tmp 31) (.tmp 32) rfl w4.heap.size _ xs rfl HO5.out.1 w5.heap.size A' c' ys rfl HO5.out.2.2 ?c3 ?c4 ?c5 ?_)
  case c3 => have h1 := HN.out.1.1; have h2 := HN.out.2.1; unfold maxLen; omega
  case c4 => have h1 := HN.out.1.1; have h2 := HN.out.2.1; omega
  case c5 => exact HO5.out.2.1.size
  intro v6 w6 hown6 hgrow
  rw [← HZL.out, ← HZS.out] at hown6
  obtain ⟨A6, c6, rfl, _, _⟩ := own3_shape hown6
  have hb56 := below_own3 HO5.out.1 hgrow HO5.out.2.1.size
  have HA6 := Lib.hid (HA5.out.trans ((show Below w.heap.size w5 w6 from hb56.mono HA4.out.size)))
  have HO6 := Lib.hid (And.intro (RowIn.of_own hown6) ((HW4.out.2.2.below (HO5.out.2.1.trans hb56) (Nat.le_refl _))))
  clear hown6 hgrow hb56
  go_wp2_with fail
  refine (encode_any A6 c6 zs w6 HO6.out.1 (by have h1 := HN.out.1.1; have h2 := HN.out.2.1; rw [HZL.out]; unfold maxLen; omega) (fun x hx => (List.mem_append.1 (by rw [← HZS.out]; exact hx)).elim (fun h => (HI.out.1 x h).2.1) (fun h => (HI.out.2 x h).2.1)) HO6.out.2).mono ?_
  rintro e w7 ⟨hb7, rfl⟩
  have HA7 := Lib.hid (HA6.out.trans (hb7.mono HA6.out.size))
  clear hb7
  have HJ := Lib.hid (And.intro (right_app xs ys) (And.intro (right_long xs ys) (key_app xs ys)))
  rw [← HZS.out] at HJ
  have hs1 := keyS_len xs
  have hs2 := keyS_len ys
  obtain ⟨s, hs⟩ : ∃ s, s = keyS xs := ⟨_, rfl⟩
  obtain ⟨t, ht⟩ : ∃ t, t = keyS ys := ⟨_, rfl⟩
  obtain ⟨z, hz⟩ : ∃ z, z = keyS zs := ⟨_, rfl⟩
  obtain ⟨p, hp⟩ : ∃ p, p = rightR xs := ⟨_, rfl⟩
  obtain ⟨q, hq⟩ : ∃ q, q = rightR ys := ⟨_, rfl⟩
  obtain ⟨r, hr⟩ : ∃ r, r = rightR zs := ⟨_, rfl⟩
  rw [← hs, ← ht, ← hz, ← hp, ← hq, ← hr] at HJ
  rw [← hs] at hs1
  rw [← ht] at hs2
  rw [← hs, ← ht, ← hz, ← hp, ← hq, ← hr]
  have hcat : ¬ (9223372036854775807 < s.size + t.size) := by omega
  clear hs ht hz hp hq hr hs1 hs2
  have hn0 := HN.out.1.1
  have hn1 := HN.out.2.1
  have hwr : IntKind.i64.wrap ((xs.length : Int) + (ys.length : Int)) = (xs.length : Int) + (ys.length : Int) := IntWalk.i64_in _ (by omega)
  clear hn0 hn1
  cases p with
  | false =>
    obtain rfl : r = false := HJ.out.1 (by simp)
    go_wp2
    go_ret
    exact ⟨rfl, HA7.out⟩
  | true =>
    cases q with
    | false =>
      obtain rfl : r = false := HJ.out.1 (by simp)
      go_wp2
      go_ret
      exact ⟨rfl, HA7.out⟩
    | true =>
      cases r with
      | false =>
        have hgt := HJ.out.2.1 rfl rfl rfl
        have hgti : (8 : Int) < (xs.length : Int) + (ys.length : Int) := by omega
        go_wp2
        go_ret
        exact ⟨rfl, HA7.out⟩
      | true =>
        obtain rfl := HJ.out.2.2 rfl rfl rfl
        have heq : ((s ++ t).toList == (s ++ t).toList) = true := by simp
        go_wp2
        go_ret
        exact ⟨rfl, HA7.out⟩

section
open Go.ChangeShapes Go.WideShapes Go.ChangeAt
open Go.ChangeMaps (open_string shut_string)
set_option linter.unusedVariables false
set_option maxRecDepth 100000 in
theorem keyJoins_lifted (os : Os) (started : os.Started) (H : Type) (enc : TypeId × Value → H) :
    ReturnsInHanded {} Tryd.checked os 8 .any (fun w args => (Rows.keyJoinsSpec.pre enc Tryd.prog Tryd.f8 Rows.keyJoinsRow.domain false w args ∧ laidMetH Tryd.prog Rows.keyJoinsRow.laid w) ∧ sizedMet enc Tryd.prog Tryd.f8 (OpenSpec.ofChange Rows.keyJoinsSpec) false w args)
      (Rows.keyJoinsSpec.post enc Tryd.prog Tryd.f8 false true false false) := by
  refine wrap_shaped (X := fun w _ => laidMetH Tryd.prog Rows.keyJoinsRow.laid w) started (by kernel_rfl) Tryd.func8 (fun _ _ _ hh h => h.of_heap hh)
    (ChangeSpec.witness_shaped (enc := enc) (C := Tryd.checked) (os := os) (X := fun w _ => laidMetH Tryd.prog Rows.keyJoinsRow.laid w) false (World.laidAll Tryd.prog os Rows.keyJoinsRow.laid) #[.slice none 0 0, .slice none 0 0] 8 (World.laidAll_os _ _ _)
      (World.shaped_of_ZipB (by kernel_rfl) (by kernel_rfl)) (by kernel_rfl) (by kernel_rfl) (by kernel_rfl)
      (by rw [MakeChecks.laidMetH_plain _ _ _ (by kernel_rfl)]; exact laidMet_laidAll _ (by kernel_rfl) (by kernel_rfl))) ?_
  intro W base args ds gs before hSh hL hval0 hW
  have hval : ∀ (j : Nat) t v, Tryd.f8.params[j]? = some t → args[j]? = some v → Value.okWide Tryd.prog W .any base t v := hval0
  have hW' := hW
  obtain ⟨p, q, hA0, hV, rfl, hfz, hnd⟩ := hW
  have hA : DataW.TrodAll enc Tryd.prog W 0 (fun _ => true) true Tryd.f8.params.toList args.toList ds p := hA0
  rw [Tryd.params8] at hA hval
  obtain ⟨v0, vs0, d0, ds0, p0, q0, hargs, rfl, rfl, h0, r0⟩ := trodAll_cons hA
  obtain ⟨v1, vs1, d1, ds1, p1, q1, rfl, rfl, rfl, h1, r1⟩ := trodAll_cons r0
  obtain ⟨rfl, rfl, rfl⟩ := trodAll_nil r1
  obtain rfl : args = #[v0, v1] := by cases args; simp_all
  obtain ⟨rfl, rfl⟩ := trodVars_none hV
  have k0 := h0
  have lt0 : ∀ x ∈ p0, x.block < W.heap.size := by obtain ⟨m, hm⟩ := k0; exact DataW.trod_lt m _ _ _ hm
  have k1 := h1
  have lt1 : ∀ x ∈ p1, x.block < W.heap.size := by obtain ⟨m, hm⟩ := k1; exact DataW.trod_lt m _ _ _ hm
  obtain ⟨a0, len0, cap0, rfl⟩ := okWide_slice Tryd.underlying23 (hval 0 23 v0 rfl rfl)
  obtain ⟨z0, rfl, l0, m0, i0x, r0x⟩ := rd_of_rows Tryd.underlying23 Tryd.underlying43 (by kernel_rfl) ⟨rfl, by kernel_rfl, Tryd.underlying3⟩ ⟨rfl, by kernel_rfl, Tryd.underlying3⟩ ⟨rfl, by kernel_rfl, Tryd.underlying9⟩ h0
  obtain ⟨a1, len1, cap1, rfl⟩ := okWide_slice Tryd.underlying23 (hval 1 23 v1 rfl rfl)
  obtain ⟨z1, rfl, l1, m1, i1x, r1x⟩ := rd_of_rows Tryd.underlying23 Tryd.underlying43 (by kernel_rfl) ⟨rfl, by kernel_rfl, Tryd.underlying3⟩ ⟨rfl, by kernel_rfl, Tryd.underlying3⟩ ⟨rfl, by kernel_rfl, Tryd.underlying9⟩ h1
  clear hA0 hval0
  refine (keyJoins_walk a0 cap0 z0 a1 cap1 z1 W r0x i0x l0 m0 r1x i1x l1 m1 (ms_of_shaped hSh)).mono fun e W' ⟨he, bel⟩ => ?_
  subst he
  exact ⟨_, rfl, _, _, _, [], _, [], hW', trodAll_mk1 (shut_bool Tryd.underlying4 _), (trodAll_cons_mk (Below.trod laidOut (by kernel_rfl) (of_decide_eq_true (by kernel_rfl)) k0 bel lt0) (trodAll_cons_mk (Below.trod laidOut (by kernel_rfl) (of_decide_eq_true (by kernel_rfl)) k1 bel lt1) trodAll_mk0)), rfl, bel.frame _, fun h => by cases h⟩

theorem keyJoins_over : Rows.keyJoinsRow.holds Tryd.pinned (OpenSpec.ofChange Rows.keyJoinsSpec) :=
  OpenClaim.holds_of_wide 8 Tryd.f8 rfl rfl rfl rfl rfl rfl rfl ⟨rfl, rfl, rfl, rfl, rfl⟩ rfl rfl rfl rfl rfl (by kernel_rfl) Tryd.func8 (by kernel_rfl)
    (of_decide_eq_true (by kernel_rfl)) (by unfold Func.isWrapper; first | (rw [if_pos (by decide +kernel)]; kernel_rfl) | (rw [if_neg (by decide +kernel)]; exact ⟨rfl, rfl⟩))
    (fun os started H enc _ => keyJoins_lifted os started H enc)

theorem keyJoins_card : Rows.KeyJoinsCardSaid :=
  Claim7.holds_tied_plain_at .later [] [.data, .pinned] true _ false
    keyJoins_over (fun _ h => by cases h) (by kernel_rfl) (fun _ h => by cases h) keyJoins_row_tie rfl ⟨rfl, rfl⟩ (by kernel_rfl) rfl
    (fun f fn hf hfn => by
      obtain rfl : f = 8 := Option.some.inj ((show Tryd.prog.funcNamed Rows.keyJoinsRow.func = some 8 by kernel_rfl).symm.trans hf) |>.symm
      obtain rfl : fn = Tryd.f8 := (Option.some.inj (Tryd.func8.symm.trans hfn)).symm
      have hall : (Tryd.f8.params.toList.all fun t => !Tryd.prog.wantsStandIn t) = true := by kernel_rfl
      exact ⟨by kernel_rfl, fun j t ht => by
        have h1 := List.all_eq_true.1 hall t (List.mem_of_getElem? (by simpa using ht))
        show Tryd.prog.wantsStandIn t = false
        simpa using h1⟩)
    (by kernel_rfl)
end
#print axioms keyJoins_card
end Go.Proofs.YtkdhmbfmjlpfbaaDoor
