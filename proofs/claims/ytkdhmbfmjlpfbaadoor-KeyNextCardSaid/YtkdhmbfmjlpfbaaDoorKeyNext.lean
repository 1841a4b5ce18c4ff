/-
  KeyNext returns true for all rows: all keys of rows that begin with a row are between its key and what is next; the rows that are handed in are left as they were.
  No condition but the reach of the statement's form; the listed variables are tied by the card.
-/
import Derived.Test.YtkdhmbfmjlpfbaaDoorKLift
import Derived.Test.YtkdhmbfmjlpfbaaDoorTie
import Derived.Test.YtkdhmbfmjlpfbaaDoorCards
import Derived.Lay
import Derived.MakeChecks
import Derived.JoinedOf
import Derived.Stop.Joined
import Derived.HandedShaped
namespace Go.Proofs.YtkdhmbfmjlpfbaaDoor
open Go.RowKit Go.Lib

theorem keyS_len (vs : List Va) : (keyS vs).size ≤ 1000 := by
  unfold keyS
  split
  · rename_i h
    have h2 := keyVs_len (right_all h).2
    have h3 := (right_all h).1
    rw [← bytes_len, bytes_mkStr _ (keyVs_bytes vs)]
    omega
  · show 0 ≤ 1000; omega
theorem cat_len (s : ByteArray) : (s ++ (⟨#[255]⟩ : ByteArray)).size = s.size + 1 := by rw [ByteArray.size_append]; rfl
theorem key_next (a b : List Va) (ha : rightR a = true) (h : rightR (a ++ b) = true) : cmpS (keyS a) (keyS (a ++ b)) ≤ 0 ∧ cmpS (keyS (a ++ b)) (keyS a ++ ⟨#[255]⟩) < 0 := by
  have hb : ∀ x ∈ b, rightVa x = true := fun x hx => (right_all h).2 x (by simp [hx])
  unfold keyS
  rw [if_pos ha, if_pos h, ← lexI_cmpS, ← lexI_cmpS, bytes_cat, bytes_mkStr _ (keyVs_bytes _), bytes_mkStr _ (keyVs_bytes _), keyVs_append]
  exact ⟨lex_front _ _, lex_next _ b hb⟩

set_option maxRecDepth 100000 in
set_option maxHeartbeats 6400000 in
theorem keyNext_walk (A : Option Addr) (c : Nat) (xs : List Va) (A' : Option Addr) (c' : Nat) (ys : List Va) (w : World)
    (hr : RowIn w w.heap.size A xs) (hi : ∀ x ∈ xs, x.In) (hl : xs.length ≤ c) (hm : c ≤ maxLen) (hr' : RowIn w w.heap.size A' ys) (hi' : ∀ x ∈ ys, x.In) (hl' : ys.length ≤ c') (hm' : c' ≤ maxLen) (hMs : Ms w) :
    Calls Tryd.prog 7 #[.slice A xs.length c, .slice A' ys.length c'] w (YesB w) := by
  have HX := Lib.hid (And.intro hr hr')
  have HI := Lib.hid (And.intro hi hi')
  have HL := Lib.hid (And.intro (Nat.le_trans hl hm) (Nat.le_trans hl' hm'))
  have HM := Lib.hid hMs
  clear hr hr' hl hl' hm hm' hi hi' hMs
  go_enter Tryd.func7, Tryd.ntmps7
  go_wp2_with fail
  refine (alive_any w HM.out).mono ?_
  rintro e w1 ⟨rfl, h1⟩
  have HA := Lib.hid h1
  clear h1
  have HW := Lib.hid (And.intro ((HX.out.1.below HA.out (Nat.le_refl _)).more HA.out.size) (And.intro ((HX.out.2.below HA.out (Nat.le_refl _)).more HA.out.size) (HM.out.below HA.out (Nat.le_refl _))))
  go_wp2_with fail
  refine (long_any A c xs w1 _ HW.out.1 HL.out.1).mono ?_
  rintro e w2 ⟨rfl, rfl | ⟨rfl, hn⟩⟩
  · go_wp2_with fail
    go_wp2
    go_ret
    exact ⟨rfl, HA.out⟩
  go_wp2_with fail
  refine (long_any A' c' ys _ _ HW.out.2.1 HL.out.2).mono ?_
  rintro e w2 ⟨rfl, rfl | ⟨rfl, hn'⟩⟩
  · go_wp2_with fail
    go_wp2
    go_ret
    exact ⟨rfl, HA.out⟩
  have HN := Lib.hid (And.intro hn hn')
  clear hn hn'
  go_wp2_with fail
  refine (encode_any A c xs w1 HW.out.1 HL.out.1 (fun x hx => (HI.out.1 x hx).2.1) HW.out.2.2).mono ?_
  rintro e w3 ⟨hb3, rfl⟩
  have HA3 := Lib.hid (HA.out.trans (hb3.mono HA.out.size))
  have HW3 := Lib.hid (And.intro ((HW.out.1.below hb3 (Nat.le_refl _)).more hb3.size) (And.intro ((HW.out.2.1.below hb3 (Nat.le_refl _)).more hb3.size) (HW.out.2.2.below hb3 (Nat.le_refl _))))
  clear hb3
  obtain ⟨zs, hzs⟩ : ∃ zs, zs = xs ++ ys := ⟨_, rfl⟩
  have HZL := Lib.hid (show zs.length = xs.length + ys.length by rw [hzs, List.length_append])
  have HZS := Lib.hid hzs
  clear hzs
  go_wp2_with fail
  refine (copyRow_any A c xs w3 HW3.out.1 (by have := HN.out.1.1; omega)).mono ?_
  rintro e w5 ⟨v5, rfl, hown5, hb5⟩
  obtain ⟨A5, c5, rfl, _, _⟩ := own3_shape hown5
  have HA5 := Lib.hid (HA3.out.trans (hb5.mono HA3.out.size))
  have HO5 := Lib.hid (And.intro hown5 (And.intro hb5 (((HW3.out.2.1).below hb5 (Nat.le_refl _)).more hb5.size)))
  have HM5 := Lib.hid (HW3.out.2.2.below hb5 (Nat.le_refl _))
  clear hown5 hb5
  go_wp2_with (at_builtin; refine wpList_append_row rfl (.tmp 25) (.tmp 26) rfl w3.heap.size _ xs rfl HO5.out.1 w5.heap.size A' c' ys rfl HO5.out.2.2 ?c3 ?c4 ?c5 ?_)
  case c3 => have h1 := HN.out.1.1; have h2 := HN.out.2.1; unfold maxLen; omega
  case c4 => have h1 := HN.out.1.1; have h2 := HN.out.2.1; omega
  case c5 => exact HO5.out.2.1.size
  intro v6 w6 hown6 hgrow
  rw [← HZL.out, ← HZS.out] at hown6
  obtain ⟨A6, c6, rfl, _, _⟩ := own3_shape hown6
  have hb56 := below_own3 HO5.out.1 hgrow HO5.out.2.1.size
  have HA6 := Lib.hid (HA5.out.trans ((show Below w.heap.size w5 w6 from hb56.mono HA3.out.size)))
  have HO6 := Lib.hid (And.intro (RowIn.of_own hown6) ((HW3.out.2.2.below (HO5.out.2.1.trans hb56) (Nat.le_refl _))))
  clear hown6 hgrow hb56
  go_wp2_with fail
  refine (encode_any A6 c6 zs w6 HO6.out.1 (by have h1 := HN.out.1.1; have h2 := HN.out.2.1; rw [HZL.out]; unfold maxLen; omega) (fun x hx => (List.mem_append.1 (by rw [← HZS.out]; exact hx)).elim (fun h => (HI.out.1 x h).2.1) (fun h => (HI.out.2 x h).2.1)) HO6.out.2).mono ?_
  rintro e w7 ⟨hb7, rfl⟩
  have HA7 := Lib.hid (HA6.out.trans (hb7.mono HA6.out.size))
  clear hb7
  have HJ := Lib.hid (key_next xs ys)
  rw [← HZS.out] at HJ
  have hs1 := keyS_len xs
  have hs2 := keyS_len zs
  obtain ⟨s, hs⟩ : ∃ s, s = keyS xs := ⟨_, rfl⟩
  obtain ⟨z, hz⟩ : ∃ z, z = keyS zs := ⟨_, rfl⟩
  obtain ⟨p, hp⟩ : ∃ p, p = rightR xs := ⟨_, rfl⟩
  obtain ⟨r, hr⟩ : ∃ r, r = rightR zs := ⟨_, rfl⟩
  rw [← hs, ← hz, ← hp, ← hr] at HJ
  rw [← hs] at hs1
  rw [← hz] at hs2
  rw [← hs, ← hz, ← hp, ← hr]
  have HS := Lib.hid (And.intro hs1 hs2)
  clear hs hz hp hr hs1 hs2
  cases p with
  | false =>
    go_wp2
    go_ret
    exact ⟨rfl, HA7.out⟩
  | true =>
    cases r with
    | false =>
      go_wp2
      go_ret
      exact ⟨rfl, HA7.out⟩
    | true =>
      have hj := HJ.out rfl rfl
      clear HJ
      go_wp2_with fail
      refine (next_any s _ (by have := HS.out.1; omega)).mono ?_
      rintro e w8 ⟨rfl, rfl⟩
      have hyl := cat_len s
      obtain ⟨y, hy⟩ : ∃ y, y = s ++ (⟨#[255]⟩ : ByteArray) := ⟨_, rfl⟩
      rw [← hy] at hj hyl ⊢
      have HY := Lib.hid (show y.size ≤ 2000 by rw [hyl]; have := HS.out.1; omega)
      clear hy hyl
      obtain ⟨a, ha⟩ : ∃ a, a = cmpS s z := ⟨_, rfl⟩
      obtain ⟨b, hb⟩ : ∃ b, b = cmpS z y := ⟨_, rfl⟩
      rw [← ha, ← hb] at hj
      have HAB := Lib.hid (And.intro ha hb)
      obtain ⟨ha0, hb0⟩ := hj
      clear ha hb
      go_wp2_with fail
      refine (refTexts_any s z _ (by have := HS.out.1; omega) (by have := HS.out.2; omega)).mono ?_
      rw [← HAB.out.1]
      rintro e w9 ⟨rfl, d, rfl⟩
      go_wp2_with fail
      refine (refTexts_any z y _ (by have := HS.out.2; omega) (by have := HY.out; omega)).mono ?_
      rw [← HAB.out.2]
      rintro e w10 ⟨rfl, d', rfl⟩
      go_wp2
      go_ret
      exact ⟨rfl, ⟨HA7.out.os, HA7.out.tape, HA7.out.output, HA7.out.size, HA7.out.block⟩⟩

section
open Go.ChangeShapes Go.WideShapes Go.ChangeAt
open Go.ChangeMaps (open_string shut_string)
set_option linter.unusedVariables false
set_option maxRecDepth 100000 in
theorem keyNext_lifted (os : Os) (started : os.Started) (H : Type) (enc : TypeId × Value → H) :
    ReturnsInHanded {} Tryd.checked os 7 .any (fun w args => (Rows.keyNextSpec.pre enc Tryd.prog Tryd.f7 Rows.keyNextRow.domain false w args ∧ laidMetH Tryd.prog Rows.keyNextRow.laid w) ∧ sizedMet enc Tryd.prog Tryd.f7 (OpenSpec.ofChange Rows.keyNextSpec) false w args)
      (Rows.keyNextSpec.post enc Tryd.prog Tryd.f7 false true false false) := by
  refine wrap_shaped (X := fun w _ => laidMetH Tryd.prog Rows.keyNextRow.laid w) started (by kernel_rfl) Tryd.func7 (fun _ _ _ hh h => h.of_heap hh)
    (ChangeSpec.witness_shaped (enc := enc) (C := Tryd.checked) (os := os) (X := fun w _ => laidMetH Tryd.prog Rows.keyNextRow.laid w) false (World.laidAll Tryd.prog os Rows.keyNextRow.laid) #[.slice none 0 0, .slice none 0 0] 8 (World.laidAll_os _ _ _)
      (World.shaped_of_ZipB (by kernel_rfl) (by kernel_rfl)) (by kernel_rfl) (by kernel_rfl) (by kernel_rfl)
      (by rw [MakeChecks.laidMetH_plain _ _ _ (by kernel_rfl)]; exact laidMet_laidAll _ (by kernel_rfl) (by kernel_rfl))) ?_
  intro W base args ds gs before hSh hL hval0 hW
  have hval : ∀ (j : Nat) t v, Tryd.f7.params[j]? = some t → args[j]? = some v → Value.okWide Tryd.prog W .any base t v := hval0
  have hW' := hW
  obtain ⟨p, q, hA0, hV, rfl, hfz, hnd⟩ := hW
  have hA : DataW.TrodAll enc Tryd.prog W 0 (fun _ => true) true Tryd.f7.params.toList args.toList ds p := hA0
  rw [Tryd.params7] at hA hval
  obtain ⟨v0, vs0, d0, ds0, p0, q0, hargs, rfl, rfl, h0, r0⟩ := trodAll_cons hA
  obtain ⟨v1, vs1, d1, ds1, p1, q1, rfl, rfl, rfl, h1, r1⟩ := trodAll_cons r0
  obtain ⟨rfl, rfl, rfl⟩ := trodAll_nil r1
  obtain rfl : args = #[v0, v1] := by cases args; simp_all
  obtain ⟨rfl, rfl⟩ := trodVars_none hV
  have k0 := h0
  have lt0 : ∀ x ∈ p0, x.block < W.heap.size := by obtain ⟨m, hm⟩ := k0; exact DataW.trod_lt m _ _ _ hm
  have k1 := h1
  have lt1 : ∀ x ∈ p1, x.block < W.heap.size := by obtain ⟨m, hm⟩ := k1; exact DataW.trod_lt m _ _ _ hm
  obtain ⟨a0, len0, cap0, rfl⟩ := okWide_slice Tryd.underlying23 (hval 0 23 v0 rfl rfl)
  obtain ⟨z0, rfl, l0, m0, i0x, r0x⟩ := rd_of_rows Tryd.underlying23 Tryd.underlying43 (by kernel_rfl) ⟨rfl, by kernel_rfl, Tryd.underlying3⟩ ⟨rfl, by kernel_rfl, Tryd.underlying3⟩ ⟨rfl, by kernel_rfl, Tryd.underlying9⟩ h0
  obtain ⟨a1, len1, cap1, rfl⟩ := okWide_slice Tryd.underlying23 (hval 1 23 v1 rfl rfl)
  obtain ⟨z1, rfl, l1, m1, i1x, r1x⟩ := rd_of_rows Tryd.underlying23 Tryd.underlying43 (by kernel_rfl) ⟨rfl, by kernel_rfl, Tryd.underlying3⟩ ⟨rfl, by kernel_rfl, Tryd.underlying3⟩ ⟨rfl, by kernel_rfl, Tryd.underlying9⟩ h1
  clear hA0 hval0
  refine (keyNext_walk a0 cap0 z0 a1 cap1 z1 W r0x i0x l0 m0 r1x i1x l1 m1 (ms_of_shaped hSh)).mono fun e W' ⟨he, bel⟩ => ?_
  subst he
  exact ⟨_, rfl, _, _, _, [], _, [], hW', trodAll_mk1 (shut_bool Tryd.underlying4 _), (trodAll_cons_mk (Below.trod laidOut (by kernel_rfl) (of_decide_eq_true (by kernel_rfl)) k0 bel lt0) (trodAll_cons_mk (Below.trod laidOut (by kernel_rfl) (of_decide_eq_true (by kernel_rfl)) k1 bel lt1) trodAll_mk0)), rfl, bel.frame _, fun h => by cases h⟩

theorem keyNext_over : Rows.keyNextRow.holds Tryd.pinned (OpenSpec.ofChange Rows.keyNextSpec) :=
  OpenClaim.holds_of_wide 7 Tryd.f7 rfl rfl rfl rfl rfl rfl rfl ⟨rfl, rfl, rfl, rfl, rfl⟩ rfl rfl rfl rfl rfl (by kernel_rfl) Tryd.func7 (by kernel_rfl)
    (of_decide_eq_true (by kernel_rfl)) (by unfold Func.isWrapper; first | (rw [if_pos (by decide +kernel)]; kernel_rfl) | (rw [if_neg (by decide +kernel)]; exact ⟨rfl, rfl⟩))
    (fun os started H enc _ => keyNext_lifted os started H enc)

theorem keyNext_card : Rows.KeyNextCardSaid :=
  Claim7.holds_tied_plain_at .later [] [.data, .pinned] true _ false
    keyNext_over (fun _ h => by cases h) (by kernel_rfl) (fun _ h => by cases h) keyNext_row_tie rfl ⟨rfl, rfl⟩ (by kernel_rfl) rfl
    (fun f fn hf hfn => by
      obtain rfl : f = 7 := Option.some.inj ((show Tryd.prog.funcNamed Rows.keyNextRow.func = some 7 by kernel_rfl).symm.trans hf) |>.symm
      obtain rfl : fn = Tryd.f7 := (Option.some.inj (Tryd.func7.symm.trans hfn)).symm
      have hall : (Tryd.f7.params.toList.all fun t => !Tryd.prog.wantsStandIn t) = true := by kernel_rfl
      exact ⟨by kernel_rfl, fun j t ht => by
        have h1 := List.all_eq_true.1 hall t (List.mem_of_getElem? (by simpa using ht))
        show Tryd.prog.wantsStandIn t = false
        simpa using h1⟩)
    (by kernel_rfl)
end
#print axioms keyNext_card
end Go.Proofs.YtkdhmbfmjlpfbaaDoor
