/-
  KeyAnswers returns true for all rows, texts and numbers: Encode, Decode, Pick and Next answer what the document says; what is handed in is left as it was.
  No condition but the reach of the statement's form; the listed variables are tied by the card.
-/
import Derived.Test.YtkdhmbfmjlpfbaaDoorKLiftI
import Derived.Test.YtkdhmbfmjlpfbaaDoorTie
import Derived.Test.YtkdhmbfmjlpfbaaDoorCards
import Derived.Lay
import Derived.MakeChecks
import Derived.JoinedOf
import Derived.Stop.Joined
import Derived.HandedShaped
namespace Go.Proofs.YtkdhmbfmjlpfbaaDoor
open Go.RowKit Go.Lib

set_option maxRecDepth 100000 in
set_option maxHeartbeats 12800000 in
theorem keyAnswers_walk (A : Option Addr) (c : Nat) (xs : List Va) (s : ByteArray) (A' : Option Addr) (c' : Nat) (l : List Int) (w : World)
    (hr : RowIn w w.heap.size A xs) (hi : ∀ x ∈ xs, x.In) (hl : xs.length ≤ c) (hm : c ≤ maxLen) (_hs : s.size ≤ maxLen) (hr' : Rd w w.heap.size A' l.length (l.map (Value.int .i64))) (_hl' : l.length ≤ c') (_hm' : c' ≤ maxLen) (hMs : Ms w) :
    Calls Tryd.prog 3 #[.slice A xs.length c, .string s, .slice A' l.length c'] w (YesB w) := by
  have H0 := Lib.hid (show KA w w A' A' l [(A, xs)] from ⟨fun p hp => by rw [List.mem_singleton.1 hp]; exact hr, hr', hr', hMs, Below.refl _ _⟩)
  have HI := Lib.hid (fun x hx => (hi x hx).2.1)
  have HL := Lib.hid (Nat.le_trans hl hm)
  clear hr hi hl hm hr' hMs _hl' _hm'
  go_enter Tryd.func3, Tryd.ntmps3
  go_wp2_with fail
  refine (alive_any w H0.out.ms).mono ?_
  rintro e w1 ⟨rfl, h1⟩
  have H1 := Lib.hid (H0.out.step h1)
  clear h1
  go_wp2_with fail
  refine (long_any A c xs w1 _ (H1.out.rows (A, xs) (by simp)) HL.out).mono ?_
  rintro e w2 ⟨rfl, rfl | ⟨rfl, hn⟩⟩
  · go_wp2_with fail
    go_wp2
    go_ret
    exact ⟨rfl, H1.out.bel⟩
  have HN := Lib.hid hn.1
  clear hn
  by_cases h3 : 1000 < s.size
  · have h3i : (1000 : Int) < (s.size : Int) := by omega
    go_wp2_with fail
    go_wp2
    go_ret
    exact ⟨rfl, H1.out.bel⟩
  have h3i : ¬ (1000 : Int) < (s.size : Int) := by omega
  by_cases h4 : 100 < l.length
  · have h4i : (100 : Int) < (l.length : Int) := by omega
    go_wp2_with fail
    go_wp2
    go_ret
    exact ⟨rfl, H1.out.bel⟩
  have h4i : ¬ (100 : Int) < (l.length : Int) := by omega
  go_wp2_with fail
  refine (copyRow_any A c xs w1 (H1.out.rows (A, xs) (by simp)) (by have := HN.out; omega)).mono ?_
  rintro e w3 ⟨v3, rfl, hown3, hb3⟩
  obtain ⟨A1, c1, rfl, _, _⟩ := own3_shape hown3
  have H3 := Lib.hid ((H1.out.step hb3).add (RowIn.of_own hown3))
  clear hown3 hb3
  go_wp2_with fail
  refine (copyInts_any A' c' l w3 H3.out.at_ (by omega)).mono ?_
  rintro e w4 ⟨v4, rfl, hown4, hb4⟩
  obtain ⟨A2, c2, rfl, _, _⟩ := own_shape hown4
  have H4 := Lib.hid (show KA w w4 A' A2 l [(A1, xs), (A, xs)] from ⟨(H3.out.step hb4).rows, (H3.out.step hb4).at_, Rd.of_own hown4, (H3.out.step hb4).ms, (H3.out.step hb4).bel⟩)
  clear hown4 hb4
  go_wp2_with fail
  refine (encode_any A1 c1 xs w4 (H4.out.rows (A1, xs) (by simp)) HL.out HI.out H4.out.ms).mono ?_
  rintro e w5 ⟨hb5, rfl⟩
  have H5 := Lib.hid (H4.out.step hb5)
  clear hb5
  go_wp2_with fail
  refine (refEncode_any A c xs w5 (H5.out.rows (A, xs) (by simp)) HL.out HI.out).mono ?_
  rintro e w6 ⟨hb6, rfl⟩
  have H6 := Lib.hid (H5.out.step hb6)
  clear hb6
  obtain ⟨ks, hks⟩ : ∃ ks, ks = keyS xs := ⟨_, rfl⟩
  obtain ⟨p, hp⟩ : ∃ p, p = rightR xs := ⟨_, rfl⟩
  rw [← hks, ← hp]
  have hpp : (p == p) = true := by simp
  have hkk : (ks.toList == ks.toList) = true := by simp
  clear hks hp
  go_wp2_with fail
  refine (decode_any s w6 (by omega) H6.out.ms).mono ?_
  intro e w7 hd7
  obtain ⟨dv, A7, c7, db, rfl, hdi, hdr, hb7⟩ := hd7.flat
  have H7 := Lib.hid ((H6.out.step hb7).add hdr)
  have HD := Lib.hid hdi
  clear hd7 hdi hdr hb7
  go_wp2_with fail
  refine (refDecode_any s w7 (by omega)).mono ?_
  intro e w8 hd8
  obtain ⟨dv', A8, c8, db', rfl, hdi, hdr, hb8⟩ := hd8.flat
  obtain ⟨rfl, rfl⟩ := HD.out.one hdi
  have H8 := Lib.hid ((H7.out.step hb8).add hdr)
  have hdl := hdi.len
  have hdb : (db' == db') = true := by simp
  clear hd8 hdi hdr hb8 HD
  go_wp2_with fail
  refine (pick_any A1 A2 c1 c2 xs l w8 (H8.out.rows (A1, xs) (by simp)) (by have := HN.out; omega) H8.out.pl (by omega)).mono ?_
  intro e w9 hp9
  obtain ⟨ps, A9, c9, pb, rfl, hpi, hpr, hb9⟩ := hp9.flat
  have H9 := Lib.hid ((H8.out.step hb9).add hpr)
  have HP := Lib.hid hpi
  clear hp9 hpi hpr hb9
  go_wp2_with fail
  refine (refPick_any A A' c c' xs l w9 (H9.out.rows (A, xs) (by simp)) (by have := HN.out; omega) H9.out.at_ (by omega)).mono ?_
  intro e w10 hp10
  obtain ⟨ps', A10, c10, pb', rfl, hpi, hpr, hb10⟩ := hp10.flat
  obtain ⟨rfl, rfl⟩ := HP.out.one hpi
  have H10 := Lib.hid ((H9.out.step hb10).add hpr)
  have hpl := hpi.len
  have hpb : (pb' == pb') = true := by simp
  clear hp10 hpi hpr hb10 HP
  go_wp2_with fail
  refine (sameRow_any A7 A8 c7 c8 dv' dv' w10 _ _ (H10.out.rows (A7, dv') (by simp)) (H10.out.rows (A8, dv') (by simp)) (by unfold maxLen; omega)).mono ?_
  rw [decide_eq_true rfl]
  rintro e w11 ⟨rfl, d, hw11⟩
  have H11 := Lib.hid (show KA w w11 A' A2 l _ by rw [hw11]; exact H10.out.draws d)
  clear hw11
  go_wp2_with fail
  refine (sameRow_any A9 A10 c9 c10 ps' ps' w11 _ _ (H11.out.rows (A9, ps') (by simp)) (H11.out.rows (A10, ps') (by simp)) (by unfold maxLen; omega)).mono ?_
  rw [decide_eq_true rfl]
  rintro e w12 ⟨rfl, d, hw12⟩
  have H12 := Lib.hid (show KA w w12 A' A2 l _ by rw [hw12]; exact H11.out.draws d)
  clear hw12
  go_wp2_with fail
  refine (next_any s w12 (by omega)).mono ?_
  rintro e w13 ⟨rfl, hw13⟩
  obtain rfl : w12 = w13 := hw13.symm
  have hcat : ¬ (9223372036854775807 < s.size + 1) := by omega
  have hnn : ((s ++ (⟨#[255]⟩ : ByteArray)).toList == (s ++ (⟨#[255]⟩ : ByteArray)).toList) = true := by simp
  go_wp2_with fail
  refine (sameRow_any A1 A c1 c xs xs w12 _ _ (H12.out.rows (A1, xs) (by simp)) (H12.out.rows (A, xs) (by simp)) HL.out).mono ?_
  rw [decide_eq_true rfl]
  rintro e w14 ⟨rfl, d, hw14⟩
  have H14 := Lib.hid (show KA w w14 A' A2 l _ by rw [hw14]; exact H12.out.draws d)
  clear hw14
  go_wp2_with fail
  refine (sameInts_yes A2 A' c2 c' l w14 _ _ H14.out.pl H14.out.at_ (by omega)).mono ?_
  rintro e w15 ⟨rfl, d, hw15⟩
  have H15 := Lib.hid (show KA w w15 A' A2 l _ by rw [hw15]; exact H14.out.draws d)
  clear hw15
  go_wp2
  go_ret
  exact ⟨rfl, H15.out.bel⟩

section
open Go.ChangeShapes Go.WideShapes Go.ChangeAt
open Go.ChangeMaps (open_string shut_string)
set_option linter.unusedVariables false
set_option maxRecDepth 100000 in
theorem keyAnswers_lifted (os : Os) (started : os.Started) (H : Type) (enc : TypeId × Value → H) :
    ReturnsInHanded {} Tryd.checked os 3 .any (fun w args => (Rows.keyAnswersSpec.pre enc Tryd.prog Tryd.f3 Rows.keyAnswersRow.domain false w args ∧ laidMetH Tryd.prog Rows.keyAnswersRow.laid w) ∧ sizedMet enc Tryd.prog Tryd.f3 (OpenSpec.ofChange Rows.keyAnswersSpec) false w args)
      (Rows.keyAnswersSpec.post enc Tryd.prog Tryd.f3 false true false false) := by
  refine wrap_shaped (X := fun w _ => laidMetH Tryd.prog Rows.keyAnswersRow.laid w) started (by kernel_rfl) Tryd.func3 (fun _ _ _ hh h => h.of_heap hh)
    (ChangeSpec.witness_shaped (enc := enc) (C := Tryd.checked) (os := os) (X := fun w _ => laidMetH Tryd.prog Rows.keyAnswersRow.laid w) false (World.laidAll Tryd.prog os Rows.keyAnswersRow.laid) #[.slice none 0 0, .string ByteArray.empty, .slice none 0 0] 8 (World.laidAll_os _ _ _)
      (World.shaped_of_ZipB (by kernel_rfl) (by kernel_rfl)) (by kernel_rfl) (by kernel_rfl) (by kernel_rfl)
      (by rw [MakeChecks.laidMetH_plain _ _ _ (by kernel_rfl)]; exact laidMet_laidAll _ (by kernel_rfl) (by kernel_rfl))) ?_
  intro W base args ds gs before hSh hL hval0 hW
  have hval : ∀ (j : Nat) t v, Tryd.f3.params[j]? = some t → args[j]? = some v → Value.okWide Tryd.prog W .any base t v := hval0
  have hW' := hW
  obtain ⟨p, q, hA0, hV, rfl, hfz, hnd⟩ := hW
  have hA : DataW.TrodAll enc Tryd.prog W 0 (fun _ => true) true Tryd.f3.params.toList args.toList ds p := hA0
  rw [Tryd.params3] at hA hval
  obtain ⟨v0, vs0, d0, ds0, p0, q0, hargs, rfl, rfl, h0, r0⟩ := trodAll_cons hA
  obtain ⟨v1, vs1, d1, ds1, p1, q1, rfl, rfl, rfl, h1, r1⟩ := trodAll_cons r0
  obtain ⟨v2, vs2, d2, ds2, p2, q2, rfl, rfl, rfl, h2, r2⟩ := trodAll_cons r1
  obtain ⟨rfl, rfl, rfl⟩ := trodAll_nil r2
  obtain rfl : args = #[v0, v1, v2] := by cases args; simp_all
  obtain ⟨rfl, rfl⟩ := trodVars_none hV
  have k0 := h0
  have lt0 : ∀ x ∈ p0, x.block < W.heap.size := by obtain ⟨m, hm⟩ := k0; exact DataW.trod_lt m _ _ _ hm
  have k1 := h1
  have lt1 : ∀ x ∈ p1, x.block < W.heap.size := by obtain ⟨m, hm⟩ := k1; exact DataW.trod_lt m _ _ _ hm
  have k2 := h2
  have lt2 : ∀ x ∈ p2, x.block < W.heap.size := by obtain ⟨m, hm⟩ := k2; exact DataW.trod_lt m _ _ _ hm
  obtain ⟨a0, len0, cap0, rfl⟩ := okWide_slice Tryd.underlying23 (hval 0 23 v0 rfl rfl)
  obtain ⟨z0, rfl, l0, m0, i0x, r0x⟩ := rd_of_rows Tryd.underlying23 Tryd.underlying43 (by kernel_rfl) ⟨rfl, by kernel_rfl, Tryd.underlying3⟩ ⟨rfl, by kernel_rfl, Tryd.underlying3⟩ ⟨rfl, by kernel_rfl, Tryd.underlying9⟩ h0
  obtain ⟨a1, rfl, rfl, rfl, w1⟩ := open_string Tryd.underlying9 (hval 1 9 v1 rfl rfl) h1
  obtain ⟨a2, len2, cap2, rfl⟩ := okWide_slice Tryd.underlying24 (hval 2 24 v2 rfl rfl)
  obtain ⟨z2, r2x, w2, rfl, l2, m2⟩ := rd_of_ints Tryd.underlying24 Tryd.underlying3 (by kernel_rfl) h2
  clear hA0 hval0
  refine (keyAnswers_walk a0 cap0 z0 a1 a2 cap2 z2 W r0x i0x l0 m0 w1 r2x l2 m2 (ms_of_shaped hSh)).mono fun e W' ⟨he, bel⟩ => ?_
  subst he
  exact ⟨_, rfl, _, _, _, [], _, [], hW', trodAll_mk1 (shut_bool Tryd.underlying4 _), (trodAll_cons_mk (Below.trod laidOut (by kernel_rfl) (of_decide_eq_true (by kernel_rfl)) k0 bel lt0) (trodAll_cons_mk (Below.trod laidOut (by kernel_rfl) (of_decide_eq_true (by kernel_rfl)) k1 bel lt1) (trodAll_cons_mk (Below.trod laidOut (by kernel_rfl) (of_decide_eq_true (by kernel_rfl)) k2 bel lt2) trodAll_mk0))), rfl, bel.frame _, fun h => by cases h⟩

theorem keyAnswers_over : Rows.keyAnswersRow.holds Tryd.pinned (OpenSpec.ofChange Rows.keyAnswersSpec) :=
  OpenClaim.holds_of_wide 3 Tryd.f3 rfl rfl rfl rfl rfl rfl rfl ⟨rfl, rfl, rfl, rfl, rfl⟩ rfl rfl rfl rfl rfl (by kernel_rfl) Tryd.func3 (by kernel_rfl)
    (of_decide_eq_true (by kernel_rfl)) (by unfold Func.isWrapper; first | (rw [if_pos (by decide +kernel)]; kernel_rfl) | (rw [if_neg (by decide +kernel)]; exact ⟨rfl, rfl⟩))
    (fun os started H enc _ => keyAnswers_lifted os started H enc)

theorem keyAnswers_card : Rows.KeyAnswersCardSaid :=
  Claim7.holds_tied_plain_at .later [] [.data, .pinned] true _ false
    keyAnswers_over (fun _ h => by cases h) (by kernel_rfl) (fun _ h => by cases h) keyAnswers_row_tie rfl ⟨rfl, rfl⟩ (by kernel_rfl) rfl
    (fun f fn hf hfn => by
      obtain rfl : f = 3 := Option.some.inj ((show Tryd.prog.funcNamed Rows.keyAnswersRow.func = some 3 by kernel_rfl).symm.trans hf) |>.symm
      obtain rfl : fn = Tryd.f3 := (Option.some.inj (Tryd.func3.symm.trans hfn)).symm
      have hall : (Tryd.f3.params.toList.all fun t => !Tryd.prog.wantsStandIn t) = true := by kernel_rfl
      exact ⟨by kernel_rfl, fun j t ht => by
        have h1 := List.all_eq_true.1 hall t (List.mem_of_getElem? (by simpa using ht))
        show Tryd.prog.wantsStandIn t = false
        simpa using h1⟩)
    (by kernel_rfl)
end
#print axioms keyAnswers_card
end Go.Proofs.YtkdhmbfmjlpfbaaDoor
