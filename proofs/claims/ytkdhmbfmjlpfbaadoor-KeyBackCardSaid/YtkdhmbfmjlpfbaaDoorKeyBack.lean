/-
  KeyBack returns true for all rows and numbers: a right row's key is decoded to it; without its end it is no key of that row; a row that isn't right has none; the row that is handed in is left as it was.
  No condition but the reach of the statement's form; the listed variables are tied by the card.
-/
import Derived.Test.YtkdhmbfmjlpfbaaDoorKLift
import Derived.Test.YtkdhmbfmjlpfbaaDoorKDec
import Derived.Test.YtkdhmbfmjlpfbaaDoorKRR
import Derived.Test.YtkdhmbfmjlpfbaaDoorTie
import Derived.Test.YtkdhmbfmjlpfbaaDoorCards
import Derived.Lay
import Derived.MakeChecks
import Derived.JoinedOf
import Derived.Stop.Joined
import Derived.HandedShaped
namespace Go.Proofs.YtkdhmbfmjlpfbaaDoor
open Go.RowKit Go.Lib

theorem keyS_len (vs : List Va) : (keyS vs).size ≤ 1000 := by
  unfold keyS
  split
  · rename_i h
    have h2 := keyVs_len (right_all h).2
    have h3 := (right_all h).1
    rw [← bytes_len, bytes_mkStr _ (keyVs_bytes vs)]
    omega
  · show 0 ≤ 1000; omega

set_option maxRecDepth 100000 in
set_option maxHeartbeats 6400000 in
theorem keyBack_walk (A : Option Addr) (c : Nat) (xs : List Va) (k : Int) (w : World)
    (hr : RowIn w w.heap.size A xs) (hi : ∀ x ∈ xs, x.In) (hl : xs.length ≤ c) (hm : c ≤ maxLen) (hk : -9223372036854775808 ≤ k ∧ k ≤ 9223372036854775807) (hMs : Ms w) :
    Calls Tryd.prog 5 #[.slice A xs.length c, .int .i64 k] w (YesB w) := by
  have HX := Lib.hid hr
  have HI := Lib.hid hi
  have HL := Lib.hid (Nat.le_trans hl hm)
  have HM := Lib.hid hMs
  have HK := Lib.hid hk
  clear hr hl hm hi hMs hk
  go_enter Tryd.func5, Tryd.ntmps5
  go_wp2_with fail
  refine (alive_any w HM.out).mono ?_
  rintro e w1 ⟨rfl, h1⟩
  have HA := Lib.hid h1
  clear h1
  have HW := Lib.hid (And.intro ((HX.out.below HA.out (Nat.le_refl _)).more HA.out.size) (HM.out.below HA.out (Nat.le_refl _)))
  go_wp2_with fail
  refine (long_any A c xs w1 _ HW.out.1 HL.out).mono ?_
  rintro e w2 ⟨rfl, rfl | ⟨rfl, hn⟩⟩
  · go_wp2_with fail
    go_wp2
    go_ret
    exact ⟨rfl, HA.out⟩
  have HN := Lib.hid hn
  clear hn
  go_wp2_with fail
  refine (encode_any A c xs w1 HW.out.1 HL.out (fun x hx => (HI.out x hx).2.1) HW.out.2).mono ?_
  rintro e w3 ⟨hb3, rfl⟩
  have HA3 := Lib.hid (HA.out.trans (hb3.mono HA.out.size))
  have HW3 := Lib.hid (And.intro ((HW.out.1.below hb3 (Nat.le_refl _)).more hb3.size) (HW.out.2.below hb3 (Nat.le_refl _)))
  clear hb3
  cases hp : rightR xs with
  | false =>
    have hks : keyS xs = ⟨#[]⟩ := by unfold keyS; rw [hp]; rfl
    rw [hks]
    have HP := Lib.hid hp
    clear hp hks
    go_wp2_with fail
    refine (refRightRow_any A c xs w3 HW3.out.1 HL.out).mono ?_
    rw [HP.out]
    rintro e w4 ⟨rfl, hb4⟩
    have HA4 := Lib.hid (HA3.out.trans (hb4.mono HA3.out.size))
    clear hb4
    go_wp2
    go_ret
    exact ⟨rfl, HA4.out⟩
  | true =>
    have hg : Good8 xs := ⟨hp, fun x hx => (HI.out x hx).2.1⟩
    have hks : bytes (keyS xs) = keyVs xs := by unfold keyS; rw [if_pos hp, bytes_mkStr _ (keyVs_bytes _)]
    have hsl := keyS_len xs
    obtain ⟨s, hs⟩ : ∃ s, s = keyS xs := ⟨_, rfl⟩
    rw [← hs] at hks hsl ⊢
    have HG := Lib.hid (And.intro hg hks)
    clear hs hp hg hks
    go_wp2_with fail
    refine (decode_any s w3 (by omega) HW3.out.2).mono ?_
    rintro e w4 ⟨hb4, ⟨vs, A4, c4, rfl, hg4, hk4, hown4⟩ | ⟨rfl, hno⟩⟩
    case inr => exact absurd HG.out.2.symm (hno xs HG.out.1)
    have hvs : vs = xs := key_inj (fun x hx => ⟨(right_all hg4.1).2 x hx, hg4.2 x hx⟩) (fun x hx => ⟨(right_all HG.out.1.1).2 x hx, HG.out.1.2 x hx⟩) (hk4.trans HG.out.2)
    subst hvs
    have HA4 := Lib.hid (HA3.out.trans (hb4.mono HA3.out.size))
    have HW4 := Lib.hid (And.intro ((HW3.out.1.below hb4 (Nat.le_refl _)).more hb4.size) (And.intro (HW3.out.2.below hb4 (Nat.le_refl _)) (RowIn.of_own hown4)))
    clear hb4 hg4 hk4 hown4
    go_wp2_with fail
    refine (sameRow_any A4 A c4 c vs vs w4 _ _ HW4.out.2.2 HW4.out.1 HL.out).mono ?_
    rw [decide_eq_true rfl]
    rintro e w5 ⟨rfl, d, rfl⟩
    have HA5 := Lib.hid (show Below w.heap.size w (w4.drewN d) from ⟨HA4.out.os, HA4.out.tape, HA4.out.output, HA4.out.size, HA4.out.block⟩)
    by_cases hk0 : k < 0
    · go_wp2
      go_ret
      exact ⟨rfl, HA5.out⟩
    by_cases hk1 : (s.size : Int) ≤ k
    · go_wp2
      go_ret
      exact ⟨rfl, HA5.out⟩
    obtain ⟨n, rfl⟩ : ∃ n : Nat, k = (n : Int) := ⟨k.toNat, by omega⟩
    have hn0 : (0 : Int) ≤ (n : Int) := Int.natCast_nonneg _
    have hn1 : n < s.size := by omega
    have hn2 : (n : Int) ≤ (s.size : Int) := by omega
    have hex : bytes (s.extract 0 n) = (bytes s).take n := by rw [bytes_extract]; rfl
    have hel : (s.extract 0 n).size ≤ 1000000 := by rw [← bytes_len, hex, List.length_take]; omega
    have hne : bytes (s.extract 0 n) ≠ keyVs vs := by
      rw [hex, ← HG.out.2]
      intro e
      have := congrArg List.length e
      rw [List.length_take, bytes_len] at this
      omega
    obtain ⟨t, ht⟩ : ∃ t, t = s.extract 0 n := ⟨_, rfl⟩
    have HT := Lib.hid (And.intro hel hne)
    rw [← ht] at HT
    have hsl2 : ∀ w : World, (Instr.slice 9 (.string s) none (some (.int .i64 (n : Int))) none).run Tryd.prog w = .ok (.string (s.extract 0 n)) w := fun w => by
      rw [run_slice_string_to_if _ _ _ _ _ Tryd.underlying9, if_pos (by omega)]; rfl
    have HS := Lib.hid ht
    clear hex hel hne ht
    go_wp2_with fail
    rw [← HS.out]
    refine (decode_any t _ HT.out.1 (HW4.out.2.1.below (show Below w4.heap.size w4 (w4.drewN d) from ⟨rfl, rfl, rfl, Nat.le_refl _, fun _ _ => rfl⟩) (Nat.le_refl _))).mono ?_
    rintro e w6 ⟨hb6, ⟨us, A6, c6, rfl, hg6, hk6, hown6⟩ | ⟨rfl, hno⟩⟩
    · have hus : us ≠ vs := by rintro rfl; exact HT.out.2 hk6.symm
      have HA6 := Lib.hid (HA5.out.trans (hb6.mono HA5.out.size))
      have HW6 := Lib.hid (And.intro ((HW4.out.1.drewN d).below hb6 (Nat.le_refl _)) (RowIn.of_own hown6))
      have hul := (right_all hg6.1).1
      have HU := Lib.hid hus
      clear hb6 hg6 hk6 hown6 hus
      go_wp2_with fail
      refine (sameRow_any A6 A c6 c us vs w6 _ _ HW6.out.2 HW6.out.1 (by unfold maxLen; omega)).mono ?_
      rw [decide_eq_false HU.out]
      rintro e w7 ⟨rfl, d', rfl⟩
      go_wp2
      go_ret
      exact ⟨rfl, ⟨HA6.out.os, HA6.out.tape, HA6.out.output, HA6.out.size, HA6.out.block⟩⟩
    · have HA6 := Lib.hid (HA5.out.trans (hb6.mono HA5.out.size))
      clear hb6 hno
      go_wp2
      go_ret
      exact ⟨rfl, HA6.out⟩

section
open Go.ChangeShapes Go.WideShapes Go.ChangeAt
open Go.ChangeMaps (open_string shut_string)
set_option linter.unusedVariables false
set_option maxRecDepth 100000 in
theorem keyBack_lifted (os : Os) (started : os.Started) (H : Type) (enc : TypeId × Value → H) :
    ReturnsInHanded {} Tryd.checked os 5 .any (fun w args => (Rows.keyBackSpec.pre enc Tryd.prog Tryd.f5 Rows.keyBackRow.domain false w args ∧ laidMetH Tryd.prog Rows.keyBackRow.laid w) ∧ sizedMet enc Tryd.prog Tryd.f5 (OpenSpec.ofChange Rows.keyBackSpec) false w args)
      (Rows.keyBackSpec.post enc Tryd.prog Tryd.f5 false true false false) := by
  refine wrap_shaped (X := fun w _ => laidMetH Tryd.prog Rows.keyBackRow.laid w) started (by kernel_rfl) Tryd.func5 (fun _ _ _ hh h => h.of_heap hh)
    (ChangeSpec.witness_shaped (enc := enc) (C := Tryd.checked) (os := os) (X := fun w _ => laidMetH Tryd.prog Rows.keyBackRow.laid w) false (World.laidAll Tryd.prog os Rows.keyBackRow.laid) #[.slice none 0 0, .int .i64 0] 8 (World.laidAll_os _ _ _)
      (World.shaped_of_ZipB (by kernel_rfl) (by kernel_rfl)) (by kernel_rfl) (by kernel_rfl) (by kernel_rfl)
      (by rw [MakeChecks.laidMetH_plain _ _ _ (by kernel_rfl)]; exact laidMet_laidAll _ (by kernel_rfl) (by kernel_rfl))) ?_
  intro W base args ds gs before hSh hL hval0 hW
  have hval : ∀ (j : Nat) t v, Tryd.f5.params[j]? = some t → args[j]? = some v → Value.okWide Tryd.prog W .any base t v := hval0
  have hW' := hW
  obtain ⟨p, q, hA0, hV, rfl, hfz, hnd⟩ := hW
  have hA : DataW.TrodAll enc Tryd.prog W 0 (fun _ => true) true Tryd.f5.params.toList args.toList ds p := hA0
  rw [Tryd.params5] at hA hval
  obtain ⟨v0, vs0, d0, ds0, p0, q0, hargs, rfl, rfl, h0, r0⟩ := trodAll_cons hA
  obtain ⟨v1, vs1, d1, ds1, p1, q1, rfl, rfl, rfl, h1, r1⟩ := trodAll_cons r0
  obtain ⟨rfl, rfl, rfl⟩ := trodAll_nil r1
  obtain rfl : args = #[v0, v1] := by cases args; simp_all
  obtain ⟨rfl, rfl⟩ := trodVars_none hV
  have k0 := h0
  have lt0 : ∀ x ∈ p0, x.block < W.heap.size := by obtain ⟨m, hm⟩ := k0; exact DataW.trod_lt m _ _ _ hm
  have k1 := h1
  have lt1 : ∀ x ∈ p1, x.block < W.heap.size := by obtain ⟨m, hm⟩ := k1; exact DataW.trod_lt m _ _ _ hm
  obtain ⟨a0, len0, cap0, rfl⟩ := okWide_slice Tryd.underlying23 (hval 0 23 v0 rfl rfl)
  obtain ⟨z0, rfl, l0, m0, i0x, r0x⟩ := rd_of_rows Tryd.underlying23 Tryd.underlying43 (by kernel_rfl) ⟨rfl, by kernel_rfl, Tryd.underlying3⟩ ⟨rfl, by kernel_rfl, Tryd.underlying3⟩ ⟨rfl, by kernel_rfl, Tryd.underlying9⟩ h0
  obtain ⟨a1, rfl, rfl, rfl, w1⟩ := open_int Tryd.underlying3 (hval 1 3 v1 rfl rfl) h1
  clear hA0 hval0
  refine (keyBack_walk a0 cap0 z0 a1 W r0x i0x l0 m0 (bounds_i64 w1) (ms_of_shaped hSh)).mono fun e W' ⟨he, bel⟩ => ?_
  subst he
  exact ⟨_, rfl, _, _, _, [], _, [], hW', trodAll_mk1 (shut_bool Tryd.underlying4 _), (trodAll_cons_mk (Below.trod laidOut (by kernel_rfl) (of_decide_eq_true (by kernel_rfl)) k0 bel lt0) (trodAll_cons_mk (Below.trod laidOut (by kernel_rfl) (of_decide_eq_true (by kernel_rfl)) k1 bel lt1) trodAll_mk0)), rfl, bel.frame _, fun h => by cases h⟩

theorem keyBack_over : Rows.keyBackRow.holds Tryd.pinned (OpenSpec.ofChange Rows.keyBackSpec) :=
  OpenClaim.holds_of_wide 5 Tryd.f5 rfl rfl rfl rfl rfl rfl rfl ⟨rfl, rfl, rfl, rfl, rfl⟩ rfl rfl rfl rfl rfl (by kernel_rfl) Tryd.func5 (by kernel_rfl)
    (of_decide_eq_true (by kernel_rfl)) (by unfold Func.isWrapper; first | (rw [if_pos (by decide +kernel)]; kernel_rfl) | (rw [if_neg (by decide +kernel)]; exact ⟨rfl, rfl⟩))
    (fun os started H enc _ => keyBack_lifted os started H enc)

theorem keyBack_card : Rows.KeyBackCardSaid :=
  Claim7.holds_tied_plain_at .later [] [.data, .pinned] true _ false
    keyBack_over (fun _ h => by cases h) (by kernel_rfl) (fun _ h => by cases h) keyBack_row_tie rfl ⟨rfl, rfl⟩ (by kernel_rfl) rfl
    (fun f fn hf hfn => by
      obtain rfl : f = 5 := Option.some.inj ((show Tryd.prog.funcNamed Rows.keyBackRow.func = some 5 by kernel_rfl).symm.trans hf) |>.symm
      obtain rfl : fn = Tryd.f5 := (Option.some.inj (Tryd.func5.symm.trans hfn)).symm
      have hall : (Tryd.f5.params.toList.all fun t => !Tryd.prog.wantsStandIn t) = true := by kernel_rfl
      exact ⟨by kernel_rfl, fun j t ht => by
        have h1 := List.all_eq_true.1 hall t (List.mem_of_getElem? (by simpa using ht))
        show Tryd.prog.wantsStandIn t = false
        simpa using h1⟩)
    (by kernel_rfl)
end
#print axioms keyBack_card
end Go.Proofs.YtkdhmbfmjlpfbaaDoor
